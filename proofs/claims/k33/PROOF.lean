import PyProof.Rows.All
import Wide.All
import OpenK.AllK
import Wide.FinOn
import Lean
import PyProof.EqAt
import PyProof.EqKinds
import PyProof.TupleCall
import PyProof.CollectIter
import PyProof.JoinWalk
import PyProof.StrOps
import PyProof.ListOps
import PyProof.StrLawsJoin
import KE.KRevIter
import PyProof.StrLawsFirst
import PyProof.Rows.StrNews2
import PyProof.StrLawsTight
import PyProof.StrLawsChain
import KE.KIntText
import KE.IntTextLaws
import PyProof.ListStr
import KE.KDictLaws
import KE.KDictList
import PyProof.Rows.SetFrom
import PyProof.FitsReplace
import KE.KEqDict
import PyProof.Rows.SumAny
import PyProof.Rows.CallKwBuiltin
import PyProof.EnumMake
import PyProof.TupleIter
import PyProof.Rows.TupIter
import PyProof.FactsAll.range_2
import PyProof.AutoSeq1
import PyProof.Rows.Range3
import PyProof.ZipIter
import PySem.Challenge.RW_quiltlaw_k33_grown_trees_numbered
namespace PySem.W.Fast
def tw13026394084832707616:=Nat
def tw6455675191414646816:=Nat
def tw16875277597120373824:=Nat
def tw6574556314347462816:=Nat
def tw17686042562747329696:=Nat
def tw5102481388371493088:=Nat
def tw1002829971708813632:=Nat
def tw15191559142759861600:=Nat
def tw13490761883336439168:=Nat
def tw4079844397448640896:=Nat
def tw16151609095319356832:=Nat
def tw9069808643430430240:=Nat
def tw11768747906633335520:=Nat
def tw13121012256005627648:=Nat
def tw11108598263303062336:=Nat
def tw5735954773929232224:=Nat
def tw9724302354736469856:=Nat
def tw16070273181051244416:=Nat
def tw6358961550559349696:=Nat
def tw61355271862636577:=Nat
def tw9904885012267887649:=Nat
def tw10553181568772203649:=Nat
def tw5590362370575142209:=Nat
def tw568910939097326913:=Nat
def tw9298122243688825345:=Nat
def tw16157974247755452929:=Nat
def tw6990318209635822113:=Nat
def tw4220820444237575713:=Nat
def tw11513921429305534081:=Nat
def tw9439433039546680033:=Nat
def tw17162580925825767169:=Nat
def tw3383161097227210529:=Nat
def tw9729092078236141441:=Nat
def tw17235447132181746690:=Nat
def tw13192744270157839394:=Nat
def tw8879062366939265090:=Nat
def tw1651025358872956994:=Nat
def tw6453692660289655874:=Nat
def tw2175482381546999970:=Nat
def tw7981569250090039522:=Nat
def tw833342970306731298:=Nat
def tw3657161795833737666:=Nat
def tw5477491784024995266:=Nat
def tw261127788029764034:=Nat
def tw12141087825402124802:=Nat
def tw15941565554417876482:=Nat
def tw3448829303817208386:=Nat
def tw16800105736814993986:=Nat
def tw15972174800495338082:=Nat
def tw7204612830530853506:=Nat
def tw13909541215990262434:=Nat
def tw2934324995334710978:=Nat
def tw6899594773916425954:=Nat
def tw2735489815280501474:=Nat
def tw5034296040088828706:=Nat
def tw9502935761401710402:=Nat
def tw314107409618811778:=Nat
def tw10230762240030983042:=Nat
def tw14738753342929321890:=Nat
def tw11175839077281632226:=Nat
def tw1362482105962623075:=Nat
def tw8450808704603928739:=Nat
def tw16785788729676883139:=Nat
def tw12898783793884328131:=Nat
def tw15047378027162726627:=Nat
def tw1589492335420660003:=Nat
def tw15781152569410096515:=Nat
def tw5095313543450591651:=Nat
def tw11200257244186711459:=Nat
def tw5953332192806431235:=Nat
def tw17631348511654230531:=Nat
def tw1772063071844199971:=Nat
def tw6354415030543250051:=Nat
def tw10826669443672831651:=Nat
def tw12632888279943614179:=Nat
def tw11658478553910543107:=Nat
def tw6764887600387643139:=Nat
def tw16388082066075227939:=Nat
def tw8873072500245114755:=Nat
def tw1198478907216300963:=Nat
def tw11589067529093310371:=Nat
def tw1083471013338355748:=Nat
def tw16531758720672713060:=Nat
def tw11523322371766097412:=Nat
def tw8598902285520216580:=Nat
def tw11728074443751698948:=Nat
def tw17401859159645726244:=Nat
def tw3483780433034564132:=Nat
def tw13766472076468085284:=Nat
def tw7918931668704095876:=Nat
def tw6581620274491345572:=Nat
def tw17326704024093680292:=Nat
def tw6026082264722814724:=Nat
def tw17732092467840867076:=Nat
def tw11293976470346922852:=Nat
def tw6643214906136965028:=Nat
def tw18258730143868129220:=Nat
def tw5849062945980449797:=Nat
def tw11401696858095432709:=Nat
def tw9731526302453529637:=Nat
def tw4271246317102304325:=Nat
def tw9782099442435181733:=Nat
def tw15606939567414749477:=Nat
def tw2662379635701021989:=Nat
def tw11249657829068137797:=Nat
def tw3091786957451060805:=Nat
def tw15653469394080739941:=Nat
def tw13248994781646976741:=Nat
def tw16533581565644876549:=Nat
def tw13804439885508835109:=Nat
def tw1498297643163582277:=Nat
def tw17618466325739429733:=Nat
def tw7999167977316599685:=Nat
def tw16798056999296425925:=Nat
def tw10917301821084216518:=Nat
def tw11492387351817360614:=Nat
def tw15300014869078852838:=Nat
def tw2061782202271942918:=Nat
def tw450737280358560070:=Nat
def tw17367806483969586534:=Nat
def tw3464965505387561318:=Nat
def tw3882498472661576070:=Nat
def tw17194333671032463750:=Nat
def tw11457025478476154310:=Nat
def tw15503196061652473286:=Nat
def tw8246837932264805926:=Nat
def tw8564444662400757286:=Nat
def tw9351454908291022406:=Nat
def tw9996276448909159046:=Nat
def tw1045514571040083654:=Nat
def tw8471920032461708998:=Nat
def tw2621186495030924038:=Nat
def tw12932674172477259558:=Nat
def tw12004218037316543430:=Nat
def tw2992319143965525990:=Nat
def tw6801259608671398886:=Nat
def tw10909850924502330342:=Nat
def tw1664179915218683911:=Nat
def tw13884713898362988583:=Nat
def tw661247452109051975:=Nat
def tw9951954670760920167:=Nat
def tw1811618297374586023:=Nat
def tw17433864876948212967:=Nat
def tw14597956281296271687:=Nat
def tw6584149488551173479:=Nat
def tw4340678498441429383:=Nat
def tw12317212482746461639:=Nat
def tw4560374690984904135:=Nat
def tw8268863728372804071:=Nat
def tw15444649764223741415:=Nat
def tw6491153434966622823:=Nat
def tw15666815353284362855:=Nat
def tw6972278319650004583:=Nat
def tw15708084604378019463:=Nat
def tw15501117687289927367:=Nat
def tw10472805932951592775:=Nat
def tw14290537099625832295:=Nat
def tw11351476971774450567:=Nat
def tw6732579912119046055:=Nat
def tw194785758570950664:=Nat
def tw8403875039012695048:=Nat
def tw2329714107202026568:=Nat
def tw4080096244160097480:=Nat
def tw16237725877172665544:=Nat
def tw6206427194046588168:=Nat
def tw8293006298059719944:=Nat
def tw13127135280265306408:=Nat
def tw4711117618888318280:=Nat
def tw13186587349355376968:=Nat
def tw13155705009566397768:=Nat
def tw3666643734618362248:=Nat
def tw14713259191586922952:=Nat
def tw907488747527974376:=Nat
def tw5194825153839392328:=Nat
def tw12803518697870163592:=Nat
def tw3442616757524874920:=Nat
def tw16575642526930029224:=Nat
def tw3663060076422516424:=Nat
def tw18168542493255541512:=Nat
def tw18034758950984707848:=Nat
def tw903829552130147144:=Nat
def tw16354808592688455560:=Nat
def tw16330606160700304296:=Nat
def tw9783878802626319369:=Nat
def tw9029018136347784425:=Nat
def tw12861637942324660489:=Nat
def tw11304209810687964425:=Nat
def tw8414331845347009801:=Nat
def tw3660831532822402345:=Nat
def tw2594969959943010665:=Nat
def tw732137752014696873:=Nat
def tw16255097372460172745:=Nat
def tw1259644281857403337:=Nat
def tw13543960760483450345:=Nat
def tw10037990379235786217:=Nat
def tw6686233160319133225:=Nat
def tw17008077853038755465:=Nat
def tw1278793715173310121:=Nat
def tw6915258066041138857:=Nat
def tw6758301153351212745:=Nat
def tw17557891122702335721:=Nat
def tw12401739329089413865:=Nat
def tw7071292378704975625:=Nat
def tw1986374515716621097:=Nat
def tw18426226516215077801:=Nat
def tw5596364630139383721:=Nat
def tw4667934547593741225:=Nat
def tw8178308032323565578:=Nat
def tw1556573259594186762:=Nat
def tw941913769552994314:=Nat
def tw2648004760960554090:=Nat
def tw16474437299282296170:=Nat
def tw3365897918899934762:=Nat
def tw8295577434994382410:=Nat
def tw15967924939702114954:=Nat
def tw13291357421494422154:=Nat
def tw9289042410053035658:=Nat
def tw14493214260403543722:=Nat
def tw15581137623264873162:=Nat
def tw5806916276737438410:=Nat
def tw6256564392552607466:=Nat
def tw17170532845921376010:=Nat
def tw5921414560519938858:=Nat
def tw1092239091374759754:=Nat
def tw15466455932087337866:=Nat
def tw6013486425951879082:=Nat
def tw1561318813164353514:=Nat
def tw8432518671590122539:=Nat
def tw11094953807278972011:=Nat
def tw1378579711540788331:=Nat
def tw10941809060669440139:=Nat
def tw4359330133780749451:=Nat
def tw9375157976782498987:=Nat
def tw18357890351892355307:=Nat
def tw7920780483713724683:=Nat
def tw13777450313655486731:=Nat
def tw13264598911199814955:=Nat
def tw18401244927757562155:=Nat
def tw18115682894610212299:=Nat
def tw216752649556531691:=Nat
def tw11752853590859938283:=Nat
def tw3732681783910305291:=Nat
def tw8872991640501425707:=Nat
def tw6667565621711612523:=Nat
def tw10921733782377217643:=Nat
def tw9439277361342864011:=Nat
def tw6601200350817397387:=Nat
def tw11725709949119649483:=Nat
def tw3736036390251672395:=Nat
def tw14260691025531979595:=Nat
def tw2657075173775890251:=Nat
def tw11429269429352789835:=Nat
def tw8499855534200361899:=Nat
def tw12914314860057477035:=Nat
def tw7045860608013683659:=Nat
def tw11352406857897506763:=Nat
def tw13586359953391700012:=Nat
def tw15976807402545794092:=Nat
def tw14871516663671678060:=Nat
def tw9135079697660840076:=Nat
def tw3667482306307820684:=Nat
def tw14658406104333696140:=Nat
def tw5132504930982458540:=Nat
def tw13614964920971831564:=Nat
def tw6904892058137707788:=Nat
def tw7445662892664916300:=Nat
def tw7004651450622058988:=Nat
def tw16072606276036343308:=Nat
def tw4578817426401795660:=Nat
def tw4482172240922590828:=Nat
def tw14439162714493816428:=Nat
def tw14650320025257764524:=Nat
def tw5663937850532136652:=Nat
def tw15682383868810990284:=Nat
def tw13331488353359808204:=Nat
def tw4011498820332806924:=Nat
def tw247558839551224588:=Nat
def tw15368081836245244812:=Nat
def tw17548055630059464620:=Nat
def tw15180233287317403596:=Nat
def tw3299710646812341228:=Nat
def tw17056022203789835277:=Nat
def tw14424141080822117453:=Nat
def tw317551737971915885:=Nat
def tw6614772076903672973:=Nat
def tw5984979805851034765:=Nat
def tw4424964305377008813:=Nat
def tw14280522154172466413:=Nat
def tw7628448827703359725:=Nat
def tw3226986209637549325:=Nat
def tw8643940382437355821:=Nat
def tw8376314208564132141:=Nat
def tw6258814969806730573:=Nat
def tw2408247665692964237:=Nat
def tw6206385462589199789:=Nat
def tw5598237253683979693:=Nat
def tw3835385195972473261:=Nat
def tw8014522949608279789:=Nat
def tw13267603695418465069:=Nat
def tw9765545398934981485:=Nat
def tw12927642803109980013:=Nat
def tw11311207009478009741:=Nat
def tw10767449218531956653:=Nat
def tw14062331633815967693:=Nat
def tw1085664043781589006:=Nat
def tw13773449475509585006:=Nat
def tw5109388325366634702:=Nat
def tw12111161449943544014:=Nat
def tw13095172329288681774:=Nat
def tw9063932656281828686:=Nat
def tw12624073230327933262:=Nat
def tw900558896888927598:=Nat
def tw10519637482210754990:=Nat
def tw2376940966346556878:=Nat
def tw6953286445441080814:=Nat
def tw17171458191217871374:=Nat
def tw17231517752414859854:=Nat
def tw7374410626611577486:=Nat
def tw6239596931064302254:=Nat
def tw14403729940196656846:=Nat
def tw5551129374533852974:=Nat
def tw2664935549533769550:=Nat
def tw10159388903491874670:=Nat
def tw3971056295321034606:=Nat
def tw17175613981765729166:=Nat
def tw2709029302029247406:=Nat
def tw1937949518632832974:=Nat
def tw3309557784995831790:=Nat
def tw17374737082429334607:=Nat
def tw16625556675637203087:=Nat
def tw7942902546762470639:=Nat
def tw13500175415849350383:=Nat
def tw1596494150327331151:=Nat
def tw8977997667218326959:=Nat
def tw1173548404646544911:=Nat
def tw7367721577745796783:=Nat
def tw14782131360001367759:=Nat
def tw15923523198457492175:=Nat
def tw1702723969888892655:=Nat
def tw2958872647176873743:=Nat
def tw5264621290877241135:=Nat
def tw1292250005289526063:=Nat
def tw14913808807175993199:=Nat
def tw589056870656310191:=Nat
def tw18209220526541250543:=Nat
def tw4730679472044027984:=Nat
def tw13255986285548811408:=Nat
def tw3965081908496010416:=Nat
def tw9269733641210105008:=Nat
def tw1997469867274396848:=Nat
def tw9760656603032914160:=Nat
def tw6153271999063699824:=Nat
def tw5387578149712149872:=Nat
def tw17111000488398934384:=Nat
def tw3911689410741571984:=Nat
def tw1890260682126761456:=Nat
def tw17659813933596734000:=Nat
def tw7574790538018411088:=Nat
def tw8455360449661766288:=Nat
def tw2169348931617171088:=Nat
def tw10809813160727486128:=Nat
def tw15313188201415495344:=Nat
def tw7267636246687886064:=Nat
def tw15237547312480280400:=Nat
def tw992097870740133744:=Nat
def tw9584040280537736144:=Nat
def tw11032958111847743537:=Nat
def tw16190895260061647985:=Nat
def tw15642693273649078385:=Nat
def tw8082196210737461361:=Nat
def tw2524131011677611153:=Nat
def tw9488866439623803057:=Nat
def tw5984659868368579761:=Nat
def tw16161734634209788081:=Nat
def tw17311022051395912913:=Nat
def tw4817694343533047025:=Nat
def tw7432042261435758833:=Nat
def tw8780062017711559953:=Nat
def tw11823386277588612497:=Nat
def tw3677241345532255633:=Nat
def tw865146295744590289:=Nat
def tw3589724730070641137:=Nat
def tw6091008624433133041:=Nat
def tw14782740013169501745:=Nat
def tw4212207870590286513:=Nat
def tw11011753305690227505:=Nat
def tw3654399394493021009:=Nat
def tw11686394755448246129:=Nat
def tw16045904631315044241:=Nat
def tw16917627005915507633:=Nat
def tw13611607802573678513:=Nat
def tw9241750326042553265:=Nat
def tw10859913296235178961:=Nat
def tw6904785550972085201:=Nat
def tw11047774942930006993:=Nat
def tw1985100360289943505:=Nat
def tw17962286452512687089:=Nat
def tw7277685361064582129:=Nat
def tw2560007542515328050:=Nat
def tw12338399489789566130:=Nat
def tw12058019279878086834:=Nat
def tw5896212209520921810:=Nat
def tw6940015584056451378:=Nat
def tw2129986336997964082:=Nat
def tw607454665850171730:=Nat
def tw1933975083830946418:=Nat
def tw11125812553481851570:=Nat
def tw16691394535695859474:=Nat
def tw7390173081350436658:=Nat
def tw1845389270272573234:=Nat
def tw523827908095859570:=Nat
def tw17067553007909476242:=Nat
def tw17240993996983706707:=Nat
def tw13075523773901233235:=Nat
def tw18248225777168109715:=Nat
def tw17494019587289778355:=Nat
def tw4824964485588894899:=Nat
def tw14872776454155304339:=Nat
def tw9908612151450337715:=Nat
def tw7798358152385556979:=Nat
def tw1479869836888516083:=Nat
def tw422836058337694355:=Nat
def tw6792098770524009139:=Nat
def tw17851855700959781587:=Nat
def tw3025655099242284787:=Nat
def tw4121479356580020019:=Nat
def tw13301762403075500851:=Nat
def tw3597606274815808339:=Nat
def tw10957518561783770963:=Nat
def tw18086419659418478612:=Nat
def tw33099262378479700:=Nat
def tw6209150538826537044:=Nat
def tw11281527292786950292:=Nat
def tw10342878870216850580:=Nat
def tw10610415883050214612:=Nat
def tw13603861181653758228:=Nat
def tw3953844315811161396:=Nat
def tw14603943709019094420:=Nat
def tw10737677484996297172:=Nat
def tw977408924081769940:=Nat
def tw8815077190382700020:=Nat
def tw9775371649396036084:=Nat
def tw9855482662881903156:=Nat
def tw16552136267610025556:=Nat
def tw3467417055614645876:=Nat
def tw16062641280820983412:=Nat
def tw17906035486285454004:=Nat
def tw2572951601835411156:=Nat
def tw15934444260753101556:=Nat
def tw3891057129528523540:=Nat
def tw4178070824830199636:=Nat
def tw9627427796985031540:=Nat
def tw7811289347340426100:=Nat
def tw9612694543078175700:=Nat
def tw9889973868162291700:=Nat
def tw17757396514123225173:=Nat
def tw30863698112574549:=Nat
def tw8556832776060491893:=Nat
def tw3456057438395210901:=Nat
def tw16210703251240877237:=Nat
def tw8644532798386291957:=Nat
def tw8091357544509368565:=Nat
def tw10605572906214614293:=Nat
def tw5038980766020185429:=Nat
def tw10651259762703799669:=Nat
def tw9176892465999236629:=Nat
def tw9575950568761937461:=Nat
def tw3313530008263310933:=Nat
def tw16447822954138443445:=Nat
def tw3141387243865114293:=Nat
def tw473243262564470453:=Nat
def tw4405387555766257365:=Nat
def tw18130447776559473461:=Nat
def tw670020300400163669:=Nat
def tw313100458952045429:=Nat
def tw9012869249756437397:=Nat
def tw4761206160213561237:=Nat
def tw12731759970663451605:=Nat
def tw111223136742782965:=Nat
def tw8214244824387697653:=Nat
def tw7598579653523157078:=Nat
def tw4740851321971650646:=Nat
def tw11270808429898562646:=Nat
def tw4229954738288077942:=Nat
def tw14728328842428268758:=Nat
def tw17138577192215202006:=Nat
def tw14367748267102958806:=Nat
def tw14569503004110588150:=Nat
def tw10831153341084802294:=Nat
def tw167970606060478710:=Nat
def tw2645573531249691894:=Nat
def tw9264765546805560630:=Nat
def tw16686852353361669430:=Nat
def tw9734264085605430614:=Nat
def tw1517136646217730518:=Nat
def tw14602662174927573462:=Nat
def tw12446357451527880150:=Nat
def tw4115026105672971766:=Nat
def tw18072748831448768022:=Nat
def tw7140976667024257558:=Nat
def tw12858309783023749686:=Nat
def tw12351133434050931254:=Nat
def tw16317380689604721238:=Nat
def tw3189902532335989398:=Nat
def tw3698003740147159734:=Nat
def tw6907545098809464502:=Nat
def tw16849653175267713782:=Nat
def tw4571729782005410646:=Nat
def tw10091340028541284182:=Nat
def tw9486877488762958774:=Nat
def tw12196545497420248022:=Nat
def tw16328736618401894358:=Nat
def tw4805863299360806902:=Nat
def tw7523423052201763863:=Nat
def tw3163824174510065687:=Nat
def tw12133476394866947159:=Nat
def tw1815148722320979095:=Nat
def tw491613252860990647:=Nat
def tw8536555248954257655:=Nat
def tw13220158040307898743:=Nat
def tw12197700845493986743:=Nat
def tw9256502779664629175:=Nat
def tw3975987188341765591:=Nat
def tw7787761289008263703:=Nat
def tw10437093083886261847:=Nat
def tw18037029403237987927:=Nat
def tw1401005172212204151:=Nat
def tw12805127910600295063:=Nat
def tw7645739403890318999:=Nat
def tw17535668033871736503:=Nat
def tw10076203707199740663:=Nat
def tw11282551494831943479:=Nat
def tw17456049100420977559:=Nat
def tw17941579568257681303:=Nat
def tw12001368894088728503:=Nat
def tw16175495516138230711:=Nat
def tw6906201341263467447:=Nat
def tw15549704827567600567:=Nat
def tw475599239460562903:=Nat
def tw2231633609503015960:=Nat
def tw13294367979769868344:=Nat
def tw1897841863185091672:=Nat
def tw9754720905281348792:=Nat
def tw9474038576655897880:=Nat
def tw6978173699560420696:=Nat
def tw5344875128718032248:=Nat
def tw13804875763705834968:=Nat
def tw238467855041294808:=Nat
def tw13706958101016484312:=Nat
def tw13788740049044245112:=Nat
def tw14633534981427831416:=Nat
def tw17599444550136410840:=Nat
def tw15502983752856842968:=Nat
def tw9283222835011650328:=Nat
def tw14114896024727459640:=Nat
def tw8731633847165953944:=Nat
def tw9868902589513589656:=Nat
def tw5222773527789610904:=Nat
def tw3302104742546218936:=Nat
def tw7002055807708062648:=Nat
def tw16354796784025204696:=Nat
def tw9172163856706357337:=Nat
def tw206884996029869145:=Nat
def tw8286710716687993977:=Nat
def tw16441004623417625721:=Nat
def tw10140152578422873241:=Nat
def tw13927251040859153561:=Nat
def tw1239135097130970265:=Nat
def tw1325567416753797305:=Nat
def tw4717642237311083705:=Nat
def tw8948609452573136185:=Nat
def tw4846041962362977593:=Nat
def tw8261069715592601913:=Nat
def tw555571081633079641:=Nat
def tw17146692213382874489:=Nat
def tw11363911932842228313:=Nat
def tw11042468532043365977:=Nat
def tw8862646339685612121:=Nat
def tw16495252784117458585:=Nat
def tw1673645028819446457:=Nat
def tw4513371113160503033:=Nat
def tw14027692270905374521:=Nat
def tw307130990171234105:=Nat
def tw17238619219153394617:=Nat
def tw17438683807079841721:=Nat
def tw9341940596596742105:=Nat
def tw11492958306256775194:=Nat
def tw18134764541703828570:=Nat
def tw9612325038602698842:=Nat
def tw16165704651927053466:=Nat
def tw2268406202428656826:=Nat
def tw17648652640725520570:=Nat
def tw731268078278171866:=Nat
def tw413148092553992442:=Nat
def tw11789509108880526650:=Nat
def tw8249614448210647386:=Nat
def tw16521452229879258458:=Nat
def tw14799721520499714394:=Nat
def tw5315876048375050650:=Nat
def tw10610236854747115994:=Nat
def tw17972434107429548506:=Nat
def tw17642322631335583258:=Nat
def tw12277582726198512250:=Nat
def tw11965312492165141178:=Nat
def tw10388446114665435866:=Nat
def tw13924678458065867578:=Nat
def tw14294192808501899162:=Nat
def tw6603994713359302683:=Nat
def tw518115185889332347:=Nat
def tw10442156122956769499:=Nat
def tw15253631344313765115:=Nat
def tw17297609640879958267:=Nat
def tw7069315447782276347:=Nat
def tw132373190565433627:=Nat
def tw18241149420365947387:=Nat
def tw9057916487861227003:=Nat
def tw3991402750130115067:=Nat
def tw3478758731725584923:=Nat
def tw1324060347329236539:=Nat
def tw6939907085037522491:=Nat
def tw2097516678028849723:=Nat
def tw9504757018865500763:=Nat
def tw14392887436547822267:=Nat
def tw17334299381835125627:=Nat
def tw6544233049920859003:=Nat
def tw14592260336145706907:=Nat
def tw290705197121649563:=Nat
def tw17951691814598901659:=Nat
def tw8762331892722714555:=Nat
def tw11639769273270677467:=Nat
def tw15525875893841816539:=Nat
def tw2570450592104155131:=Nat
def tw15201615870799417404:=Nat
def tw930926947599229020:=Nat
def tw4453419528966614236:=Nat
def tw4144759822248188156:=Nat
def tw5714768150929654076:=Nat
def tw18257090363240493372:=Nat
def tw13563219068061833564:=Nat
def tw3618556911855633820:=Nat
def tw12770307393835341212:=Nat
def tw8813927496464385468:=Nat
def tw8243304649764361724:=Nat
def tw10603667677093513756:=Nat
def tw17492254310444497500:=Nat
def tw13866024325735207548:=Nat
def tw12243494707493064476:=Nat
def tw15068710292732090204:=Nat
def tw6812496724040774556:=Nat
def tw16528263602652129180:=Nat
def tw3956642555767553980:=Nat
def tw4511162114000198652:=Nat
def tw5236304288212620317:=Nat
def tw14780343888059092029:=Nat
def tw8952863328565379133:=Nat
def tw2228897161481837629:=Nat
def tw258035515860040797:=Nat
def tw1924958799007828061:=Nat
def tw5630069102828122269:=Nat
def tw14028844928953801949:=Nat
def tw1924734914007049469:=Nat
def tw12100856099485565213:=Nat
def tw3135210684872663357:=Nat
def tw16740505461546946909:=Nat
def tw1841795960750612829:=Nat
def tw5498569621572339069:=Nat
def tw2599089483531473341:=Nat
def tw476614249484707357:=Nat
def tw4237091332444479037:=Nat
def tw16086998617819577917:=Nat
def tw1991350294792512093:=Nat
def tw15575849013267137149:=Nat
def tw6153380225057048285:=Nat
def tw9752337855567391549:=Nat
def tw8542091419406963581:=Nat
def tw17431011416722193373:=Nat
def tw1716363292706308158:=Nat
def tw8740750286597857374:=Nat
def tw4605980902658285790:=Nat
def tw10530682857644492062:=Nat
def tw4268496918339791166:=Nat
def tw13209569675721804158:=Nat
def tw8096815092167946622:=Nat
def tw17642334703208830:=Nat
def tw3638328366352204190:=Nat
def tw721763101646805406:=Nat
def tw17129132056111660510:=Nat
def tw12863907238932466174:=Nat
def tw6625289083980386878:=Nat
def tw15736021067419103838:=Nat
def tw14300781461072441950:=Nat
def tw1805776794100790942:=Nat
def tw8517174976926414494:=Nat
def tw16054891202781772478:=Nat
def tw5867964653246201566:=Nat
def tw5339597732080217822:=Nat
def tw5549793327333097310:=Nat
def tw10437092959675432798:=Nat
def tw9809467927725724542:=Nat
def tw17264858144935991294:=Nat
def tw8157881555189082110:=Nat
def tw2886259942297721983:=Nat
def tw4151495916418519199:=Nat
def tw5931841086092627199:=Nat
def tw10925089072074245375:=Nat
def tw684705985390849343:=Nat
def tw16150460486612310559:=Nat
def tw15797203445629809215:=Nat
def tw1827306793324459615:=Nat
def tw11001392613438117503:=Nat
def tw14041454283677195903:=Nat
def tw291505985043401407:=Nat
def tw11514179933780429567:=Nat
def tw4872880442359899903:=Nat
def tw16976651317830503263:=Nat
def tw3679406099629309823:=Nat
def tw1936892922495128479:=Nat
def tw1146855001130687391:=Nat
def tw14600716165796196255:=Nat
def tw2252320248274823135:=Nat
def tw9073201763280870367:=Nat
def tw4495953097344465919:=Nat
def tw6469744714363839973:=Nat
end PySem.W.Fast
theorem zzR(h:1=1:=by rfl):1=1:=h
theorem zzD(h:1=1:=by decide):1=1:=h
theorem zzK(h:1=1:=by decide +kernel):1=1:=h
set_option linter.all false
set_option Elab.async false
set_option maxRecDepth 100000
noncomputable abbrev KL:=PySem.Value->PySem.Shared->Prop
noncomputable abbrev KM:=PySem.W.Frag
noncomputable abbrev KN:=List (PySem.Addr×PySem.Obj)
noncomputable abbrev KO:=List Nat
noncomputable abbrev KP:=PySem.Shared
noncomputable abbrev KQ:=List PySem.Value
noncomputable abbrev KR:=List PySem.Addr
noncomputable abbrev KS:=PySem.Str->Option PySem.Value
noncomputable abbrev KU:=PySem.FuncData
noncomputable abbrev KW:=PySem.Program
noncomputable abbrev KY:=List PySem.Str
noncomputable abbrev KZ:=PySem.Around
noncomputable abbrev K0:=PySem.World
noncomputable abbrev K1:=Option PySem.Addr
noncomputable abbrev K2:=List PySem.Expr
local macro_rules|`(term|⋯)=>`(by omega)
local macro_rules|`(term|nofun)=>`(by decide)
abbrev JR:=@List.getElem?_eq_getElem
abbrev JS:=@List.getElem?_eq_some_iff
abbrev JT:=@PySem.Heap.get?_push_of_some
abbrev JU:=@List.length_map
abbrev JV:=@List.mem_singleton
abbrev JW:=@List.getElem?_map
abbrev JX:=@List.mem_of_getElem?
abbrev JY:=@PySem.Heap.get?_update_other
abbrev JZ:=@PySem.Heap.get?_push_size
abbrev J0:=@List.size_toArray
abbrev J1:=@List.getElem_mem
abbrev J2:=@Int.toNat_natCast
abbrev J3:=@PySem.Heap.get?_update_self
abbrev J4:=@List.length_cons
abbrev J5:=@List.map_append
abbrev J6:=@List.mem_append
abbrev J7:=@List.map_map
abbrev J8:=@List.mem_cons
abbrev J9:=@List.mem_cons_of_mem
abbrev J_:=@List.length_reverse
abbrev J':=@Nat.lt_of_lt_of_le
abbrev Ka:=@Nat.ne_of_lt
abbrev Kb:=@List.getElem?_append_right
abbrev Kc:=@List.getElem?_append_left
abbrev Kd:=@List.length_append
abbrev Ke:=@Nat.le_refl
abbrev Kf:=@Nat.zero_le
abbrev Kg:=@Bool.false_ne_true
abbrev Kh:=@PySem.Heap.lt_size
abbrev Ki:=@Option.map_eq_some_iff
abbrev Kj:=@List.getElem_map
abbrev Kk:=@List.getElem?_cons_succ
abbrev Kl:=@List.map_cons
abbrev Km:=@Nat.le_trans
abbrev Kn:=@Nat.lt_irrefl
abbrev Ko:=@Nat.lt_succ_self
abbrev Kq:=@List.append_nil
abbrev Kr:=@List.append_assoc
abbrev Ks:=@List.getElem?_set_self
abbrev Kt:=@List.take_length
abbrev Ku:=@List.length_take
abbrev Kv:=@List.length_drop
abbrev Kw:=@Nat.lt_of_le_of_lt
abbrev Kx:=@List.length_eq_zero_iff
abbrev Ky:=@List.mem_map
abbrev Kz:=@List.all_eq_true
abbrev KA:=@Nat.add_le_add_left
abbrev KB:=@List.getElem_toArray
abbrev KC:=@List.nil_append
abbrev KD:=@Int.emod_nonneg
abbrev KF:=@Int.emod_lt_of_pos
abbrev KG:=@Int.toNat_of_nonneg
abbrev KH:=@Nat.min_eq_left
abbrev KI:=@List.take_zero
abbrev KJ:=@List.drop_zero
namespace L2
open PySem PySem.Spec PyProof.Rows
noncomputable abbrev cS:=Sum Int Str
noncomputable def r9:cS->Value->Bool
 | .inl k,v=>Value.isInt k v
 | .inr x,v=>Value.isStrOf x v
noncomputable def GY(w:K0):cS->Int
 | .inl k=>hashInt k
 | .inr x=>hashStr w x
theorem cr:∀{k:cS} {v:Value},r9 k v=true->(∃i t,k=Sum.inl i/\v=Value.int i t)\/(∃x t,k=Sum.inr x/\v=Value.str x t)
 | .inl i,v,h=>by
  obtain⟨t,e⟩:=Value.isInt_shape (k:=i) (v:=v) h;exact .inl ⟨i,t,rfl,e⟩
 | .inr x,v,h=>by
  obtain⟨t,e⟩:=Value.isStrOf_shape (x:=x) (v:=v) h;exact .inr ⟨x,t,rfl,e⟩
theorem AF(i:Int)(t:Tok):r9 (.inl i) (.int i t)=true:=by simp[r9,Value.isInt]
theorem zq(x:Str)(t:Tok):r9 (.inr x) (.str x t)=true:=by simp[r9,Value.isStrOf]
theorem E8(a b:Int):decide ((Sum.inl a:cS)=Sum.inl b)=(a==b):=by
 by_cases e:a=b
 ·subst e;simp
 ·have h:¬ (Sum.inl a:cS)=Sum.inl b:=λq=>e (Sum.inl.inj q)
  rw[decide_eq_false h];exact(beq_eq_false_iff_ne.mpr e).symm
theorem Fw(a b:Str):decide ((Sum.inr a:cS)=Sum.inr b)=decide (a=b):=by
 by_cases e:a=b
 ·subst e;simp
 ·have h:¬ (Sum.inr a:cS)=Sum.inr b:=λq=>e (Sum.inr.inj q)
  rw[decide_eq_false h,decide_eq_false e]
theorem EJ(a:Int)(b:Str):decide ((Sum.inl a:cS)=Sum.inr b)=false:=decide_eq_false (λq=>nomatch q)
theorem Fa(a:Str)(b:Int):decide ((Sum.inr a:cS)=Sum.inl b)=false:=decide_eq_false (λq=>nomatch q)
noncomputable def cG(prog:KW)(w:K0):PySem.KeyKind prog w cS where
 is:=r9
 hash:=GY w
 inj:=λv a b ha hb=>by
  rcases cr ha with⟨i,t,rfl,rfl⟩ | ⟨x,t,rfl,rfl⟩
  ·rcases cr hb with⟨j,u,rfl,e⟩ | ⟨y,u,rfl,e⟩
   ·injection e with e1 _;rw[e1]
   ·exact nomatch e
  ·rcases cr hb with⟨j,u,rfl,e⟩ | ⟨y,u,rfl,e⟩
   ·exact nomatch e
   ·injection e with e1 _;rw[e1]
 byValue:=λk v h=>by
  rcases cr h with⟨i,t,rfl,rfl⟩ | ⟨x,t,rfl,rfl⟩<;>rfl
 pyHash:=λhv h=>by
  rcases cr hv with⟨i,t,rfl,rfl⟩ | ⟨x,t,rfl,rfl⟩
  ·exact wpAny_pyHash_int h
  ·exact wpAny_pyHash_str h
 eqBool:=λhu hv h=>by
  rcases cr hu with⟨i,t,rfl,rfl⟩ | ⟨x,t,rfl,rfl⟩
  ·rcases cr hv with⟨j,u,rfl,rfl⟩ | ⟨y,u,rfl,rfl⟩
   ·rw[E8]at h;exact wpAny_eqBool_int h
   ·rw[EJ]at h;exact SeqAt.EqAt.int_str i t y u _ _ _ _ h
  ·rcases cr hv with⟨j,u,rfl,rfl⟩ | ⟨y,u,rfl,rfl⟩
   ·rw[Fa]at h;exact SeqAt.EqAt.str_int x t j u _ _ _ _ h
   ·rw[Fw]at h;exact wpAny_eqBool_str h
 «strs»:=λk x t v h=>by
  rcases cr h with⟨i,u,rfl,e⟩ | ⟨y,u,rfl,e⟩
  ·exact nomatch e
  ·injection e with e1 _
   subst e1;cases v<;>rfl
theorem vq(prog:KW)(w:K0)(i:Int)(t:Tok):(cG prog w).is (.inl i) (.int i t)=true:=AF i t
theorem vb(prog:KW)(w:K0)(x:Str)(t:Tok):(cG prog w).is (.inr x) (.str x t)=true:=zq x t
inductive V where
 |non | bl (b:Bool) | int (i:Int) | str (x:Str) | byt (b:Array UInt8) | flt (b:UInt64) | ref (a:Addr) | ty (n:String)
 deriving DecidableEq
noncomputable def bo:V->Value->Prop
 | .non,u=>u=Value.none
 | .bl b,u=>u=Value.bool b
 | .int i,u=>∃t,u=Value.int i t
 | .str x,u=>∃t,u=Value.str x t
 | .byt b,u=>∃t,u=Value.bytes b t
 | .flt b,u=>∃t,u=Value.float b t
 | .ref a,u=>u=Value.ref a
 | .ty n,u=>u=Value.type n
noncomputable abbrev bj:List V->List Value->Prop:=Paired bo
theorem bj.length{xs:List V}{us:KQ}(r:bj xs us):xs.length=us.length:=Paired.length r
theorem bj.get:∀{xs:List V} {us:KQ} {i:Nat} {x:V},bj xs us->xs[i]?=some x->∃u,us[i]?=some u/\bo x u
 |_,_,_,_,.nil,e=>by simp at e
 |_,_,0,_,.cons r _,e=>by simp at e;subst e;exact⟨_,rfl,r⟩
 |_,_,i+1,x,.cons _ t,e=>by
  obtain⟨u,h1,h2⟩:=bj.get (i:=i) (x:=x) t (by simpa using e);exact⟨u,by simpa using h1,h2⟩
theorem bj.append:∀{xs ys:List V} {us ws:KQ},bj xs us->bj ys ws->bj (xs++ys) (us++ws)
 |_,_,_,_,.nil,s=>s
 |_,_,_,_,.cons r t,s=>.cons r (bj.append t s)
theorem bj.take:∀{xs:List V} {us:KQ} (n:Nat),bj xs us->bj (xs.take n) (us.take n)
 |_,_,0,_=>.nil
 |_,_,_+1,.nil=>.nil
 |_,_,n+1,.cons r t=>.cons r (bj.take n t)
theorem bj.drop:∀{xs:List V} {us:KQ} (n:Nat),bj xs us->bj (xs.drop n) (us.drop n)
 |_,_,0,r=>r
 |_,_,_+1,.nil=>.nil
 |_,_,n+1,.cons _ t=>bj.drop n t
noncomputable def jO:Option V->Option Value->Prop
 |some v,some u=>bo v u
 |none,none=>True
 |_,_=>False
noncomputable def KV{κ:Type}:List (κ×V)->List (κ×Value)->Prop:=Paired fun(p:κ×V) (q:κ×Value)=>p.1=q.1/\bo p.2 q.2
noncomputable def kV:cS->V
 | .inl i=>.int i
 | .inr x=>.str x
inductive HO where
  |lst (xs:List V)
  |tup (xs:List V)
  |dK (kvs:List (cS×V)) | dT (kvs:List (List cS×V))
  |set(S:Int->Bool) (n:Nat)
  |ins (C dx:Addr) (fs:List (Str×V))
  |own (x:Addr)
  |xd (fs:List (Str×V))
  |met (f x:Addr)
  |rng (lo hi:Int)
  |frz (o:Obj) (u:HO)
  |tbl (ps:Array Value)
  |ext (φ:Heap->Prop)
noncomputable abbrev Hp:=Addr->Option HO
noncomputable def aA(H:Hp)(a:Addr)(o:HO):Hp:=λb=>if b=a then some o else H b
theorem ac{H:Hp}{a:Addr}{o:HO}:aA H a o a=some o:=by unfold aA;rw[if_pos rfl]
theorem am{H:Hp}{a b:Addr}{o:HO}(h:b≠a):aA H a o b=H b:=by unfold aA;rw[if_neg h]
theorem l_{H:Hp}{a:Addr}{o u:HO}:aA (aA H a o) a u=aA H a u:=by
 funext b;unfold aA;split<;>rfl
theorem F5{H:Hp}{a b:Addr}{o u:HO}(h:H a=some o)(h':H b=some u)(d:o≠u):a≠b:=by
 intro e;subst e;rw[h]at h';exact d (Option.some.inj h')
theorem aD{H:Hp}{a b:Addr}{o:HO}(h:H a=some o)(h':H b=none):a≠b:=by
 intro e;subst e;rw[h]at h';cases h'
section
variable (P:KW)(w:K0)
noncomputable def bU(H:Hp)(h:Heap)(a:Addr):HO->Prop
 | .lst xs=>xs.length<=sizeLine/\∃(its:KQ) (n:Nat),bj xs its/\h.get? a=some {cls:=.type "list",data:=.seq its.toArray n}
 | .tup xs=>xs.length<=sizeLine/\∃its:List Value,bj xs its/\IsTup h a its.toArray
 | .dK kvs=>kvs.length<=sizeLine/\(a==sysModules)=false/\∃vs,KV kvs vs/\h.DictOf (cG P w) a vs
 | .dT kvs=>kvs.length<=sizeLine/\(a==sysModules)=false/\∃xs:List (List cS×Addr×Value),
   Paired (fun(p:List cS×V) (q:List cS×Addr×Value)=>p.1=q.1/\H q.2.1=some (.tup (p.1.map kV))/\bo p.2 q.2.2) kvs xs /\
   ∃o es ep,h.get? a=some o/\o.ExactDict/\o.data=.dict es ep/\es.toList=xs.map (entryOfKey (tupleKind (cG P w)))/\(xs.map (·.1)).Nodup
 | .set S n=>h.SetOf (intKind P w) a S n
 | .ins C dx fs=>H dx=some (.own a)/\fs.length<=1000/\dx≠a/\h.get? a=some (PySem.W.instObj C dx) /\
   ∃mA,h.Ns1 dx mA/\(∀f,jO (fs.lookup f) (mA f))/\PySem.Within mA (fs.map (·.1))
 | .own _=>∃o,h.get? a=some o
 | .xd fs=>∃mA,h.Ns1 a mA/\∀f,jO (fs.lookup f) (mA f)
 | .rng lo hi=>∃t u v,h.get? a=some {cls:=.type "range",data:=.fields #[.int lo t,.int hi u,.int 1 v]}
 | .frz o u=>h.get? a=some o/\bU H h a u
 | .tbl ps=>h.get? a=some {cls:=.none,data:=.fields ps}
 | .met f x=>h.get? a=some (PySem.W.methodObj (.ref f) (.ref x))
 | .ext φ=>φ h/\(∃o,h.get? a=some o)/\∀h1 h2:Heap,φ h1->(∀o,h1.get? a=some o->h2.get? a=some o)->φ h2
noncomputable def j5(H:Hp)(h:Heap):Prop:=∀a o,H a=some o->bU P w H h a o
end
section
variable {P:KW}{w:K0}{H H':Hp}{h h':Heap}{a:Addr}{o:HO}
theorem bU.lt(x:bU P w H h a o):a<h.objs.size:=by
 cases o with
 |lst xs=>obtain⟨_,_,_,_,e⟩:=x;exact Kh e
 |tup xs=>obtain⟨_,_,_,p⟩:=x;exact p.lt
 |dK kvs=>obtain⟨_,_,_,_,o,_,_,e,_⟩:=x;exact Kh e
 |dT kvs=>obtain⟨_,_,_,_,o,_,_,e,_⟩:=x;exact Kh e
 |set S n=>obtain⟨o,_,_,_,e,_⟩:=x;exact Kh e
 |ins C dx fs=>obtain⟨_,_,_,e,_⟩:=x;exact Kh e
 |own y=>obtain⟨_,e⟩:=x;exact Kh e
 |xd fs=>obtain⟨_,⟨_,_,_,e,_⟩,_⟩:=x;exact Kh e
 |rng lo hi=>obtain⟨_,_,_,e⟩:=x;exact Kh e
 |frz ob u=>obtain⟨e,_⟩:=x;exact Kh e
 |tbl ps=>exact Kh (show h.get? a=some _ from x)
 |met f y=>exact Kh (show h.get? a=some _ from x)
 |ext φ=>obtain⟨_,⟨_,e⟩,_⟩:=x;exact Kh e
theorem Paired.mapP{α β:Type}{F G:α->β->Prop}:∀{l₁:List α} {l₂:List β},Paired F l₁ l₂->(∀a b,F a b->G a b)->Paired G l₁ l₂
 |_,_,.nil,_=>.nil
 |_,_,.cons r t,f=>.cons (f _ _ r) (Paired.mapP t f)
theorem bU.stay(x:bU P w H h a o)(k:∀b u,(b=a\/H b=some (.own a))->h.get? b=some u->h'.get? b=some u)
  (ho:∀b,H b=some (.own a)->H' b=some (.own a)) (ht:∀b xs,H b=some (.tup xs)->H' b=some (.tup xs)):bU P w H' h' a o:=by
 induction o with
 |lst xs=>obtain⟨z,its,n,r,e⟩:=x;exact⟨z,its,n,r,k _ _ (.inl rfl) e⟩
 |tup xs=>obtain⟨z,its,r,ob,e,c⟩:=x;exact⟨z,its,r,ob,k _ _ (.inl rfl) e,c⟩
 |dK kvs=>obtain⟨z,y,vs,r,ob,es,ep,e,c⟩:=x;exact⟨z,y,vs,r,ob,es,ep,k _ _ (.inl rfl) e,c⟩
 |dT kvs=>
  obtain⟨z,y,xs,r,ob,es,ep,e,c⟩:=x;exact⟨z,y,xs,Paired.mapP r λp q z=>⟨z.1,ht _ _ z.2.1,z.2.2⟩,ob,es,ep,k _ _ (.inl rfl) e,c⟩
 |set S n=>obtain⟨ob,es,ep,t,e,c⟩:=x;exact⟨ob,es,ep,t,k _ _ (.inl rfl) e,c⟩
 |ins C dx fs=>
  obtain⟨d,z,ne,e,mA,⟨od,es,ep,e2,c⟩,r⟩:=x;exact⟨ho _ d,z,ne,k _ _ (.inl rfl) e,mA,⟨od,es,ep,k _ _ (.inr d) e2,c⟩,r⟩
 |own y=>obtain⟨ob,e⟩:=x;exact⟨ob,k _ _ (.inl rfl) e⟩
 |xd fs=>obtain⟨mA,⟨od,es,ep,e,c⟩,r⟩:=x;exact⟨mA,⟨od,es,ep,k _ _ (.inl rfl) e,c⟩,r⟩
 |rng lo hi=>obtain⟨t,u,v,e⟩:=x;exact⟨t,u,v,k _ _ (.inl rfl) e⟩
 |frz ob u ih=>obtain⟨e,q⟩:=x;exact⟨k _ _ (.inl rfl) e,ih q⟩
 |tbl ps=>
  have e:h.get? a=some {cls:=.none,data:=.fields ps}:=x;show h'.get? a=some {cls:=.none,data:=.fields ps};exact k a _ (.inl rfl) e
 |met f y=>
  have e:h.get? a=some (PySem.W.methodObj (.ref f) (.ref y)):=x;show h'.get? a=some (PySem.W.methodObj (.ref f) (.ref y));exact k a _ (.inl rfl) e
 |ext φ=>obtain⟨p,⟨o,e⟩,st⟩:=x;exact⟨st _ _ p λo q=>k _ _ (.inl rfl) q,⟨o,k _ _ (.inl rfl) e⟩,st⟩
theorem j5.lt(x:j5 P w H h)(e:H a=some o):a<h.objs.size:=(x a o e).lt
theorem j5.fresh(x:j5 P w H h)(e:h.objs.size<=a):H a=none:=by
 cases q:H a with
 |none=>rfl
 |some u=>exact absurd (J' (x.lt q) e) (Kn _)
theorem j5.kept(x:j5 P w H h)(k:∀b u,h.get? b=some u->h'.get? b=some u):j5 P w H h':=λa o e=>
 (x a o e).stay (λb u _ q=>k b u q) (λ_ q=>q) λ_ _ q=>q
theorem j5.laid(x:j5 P w H h)(k:∀b u,h.get? b=some u->h'.get? b=some u)(hp:h.objs.size<=a)(new:bU P w (aA H a o) h' a o):j5 P w (aA H a o) h':=λb u e=>by
 have hn:=x.fresh hp
 by_cases hb:b=a
 ·subst hb;rw[ac]at e;cases e;exact new
 ·rw[am hb]at e
  exact(x b u e).stay (λc v _ q=>k c v q) (λc q=>by rw[am (aD q hn)];exact q) λc xs q=>by rw[am (aD q hn)];exact q
end
noncomputable def Rd(H:Hp)(a:Addr)(u:HO):Prop:=H a=some u\/∃o,H a=some (.frz o u)
theorem Rd.ok{P:KW}{w:K0}{H:Hp}{h:Heap}{a:Addr}{u:HO}(r:Rd H a u)(x:j5 P w H h):bU P w H h a u:=by
 rcases r with r | ⟨o,r⟩
 ·exact x a u r
 ·obtain⟨_,q⟩:=x a _ r
  exact q
noncomputable def Gc:Option HO->Prop
 |some (.lst _)=>True
 |some (.dK _)=>True
 |some (.dT _)=>True
 |some (.set _ _)=>True
 |some (.ins _ _ _)=>True
 |some (.ext _)=>True
 |_=>False
section
variable {P:KW}{w:K0}{H:Hp}{h h':Heap}{x e:Addr}{o':HO}
theorem j5.write(ok:j5 P w H h)(mu:Gc (H x))(he:e=x\/H e=some (.own x))(k:∀b u,b≠e->h.get? b=some u->h'.get? b=some u)(heo:∃u,h'.get? e=some u)
  (new:bU P w (aA H x o') h' x o'):j5 P w (aA H x o') h':=λb u q=>by
 have nown:∀c y,H c=some (.own y)->c≠x:=λc y r z=>by subst z;rw[r]at mu;exact mu
 have ntup:∀c xs,H c=some (.tup xs)->c≠x:=λc xs r z=>by subst z;rw[r]at mu;exact mu
 by_cases hb:b=x
 ·subst hb;rw[ac]at q;cases q;exact new
 ·rw[am hb]at q
  by_cases hbe:b=e
  ·have q':H b=some (.own x):=by
    rcases he with z | z
    ·exact absurd (hbe.trans z) hb
    ·rw[hbe];exact z
   rw[q]at q';cases q'
   obtain⟨v,hv⟩:=heo;exact⟨v,by rw[hbe];exact hv⟩
  ·refine(ok b u q).stay (λc v hc r=>k c v ?_ r) (λc r=>by rw[am (nown c b r)];exact r) λc xs r=>by rw[am (ntup c xs r)];exact r
   rcases hc with rfl | hc
   ·exact hbe
   ·rintro rfl
    rcases he with z | z
    ·exact nown c b hc z
    ·rw[hc]at z;cases z;exact hb rfl
end
structure Un(fs ex:KR)(H H':Hp)(h h':Heap):Prop where
 keep:∀b o,h.get? b=some o->H b=none->b∉fs->b∉ex->h'.get? b=some o
 slot:∀b o,h.get? b=some o->H b=none->b∈fs->b∉ex->∃sl,h'.get? b=some {o with slots:=sl}
 free:∀b o,h.get? b=some o->H b=none->b∉ex->H' b=none
 there:∀b o,h.get? b=some o->b∉ex->∃o',h'.get? b=some o'
 tups:∀b xs,H b=some (.tup xs)->H' b=some (.tup xs)
 frzs:∀b o u,H b=some (.frz o u)->H' b=some (.frz o u)
 tbls:∀b ps,H b=some (.tbl ps)->∃more,H' b=some (.tbl (ps++more))
section
variable {fs fs' ex ex':KR}{H H1 H2:Hp}{h h1 h2 h':Heap}{a x e:Addr}{o:HO}
theorem Un.any(u:Un fs ex H H1 h h1){b:Addr}{ob:Obj}(q:h.get? b=some ob)(n:H b=none)(hx:b∉ex):∃sl,h1.get? b=some {ob with slots:=sl}:=by
 by_cases hb:b∈fs
 ·exact u.slot b ob q n hb hx
 ·exact⟨ob.slots,u.keep b ob q n hb hx⟩
theorem Un.kept(k:∀b u,h.get? b=some u->h'.get? b=some u):Un fs ex H H h h':=
 ⟨λb ob q _ _ _=>k b ob q,λb ob q _ _ _=>⟨ob.slots,k b ob q⟩,λ_ _ _ n _=>n,λb ob q _=>⟨ob,k b ob q⟩,λ_ _ q=>q,λ_ _ _ q=>q,λ_ ps q=>⟨#[],by rw[q];simp⟩⟩
theorem Un.refl:Un fs ex H H h h:=Un.kept λ_ _ q=>q
theorem Un.laid(k:∀b u,h.get? b=some u->h'.get? b=some u)(hp:h.objs.size<=a)(hn:H a=none):Un fs ex H (aA H a o) h h' where
 keep:=λb u q _ _ _=>k b u q
 slot:=λb u q _ _ _=>⟨u.slots,k b u q⟩
 free:=λb u q n _=>by rw[am (Ka (J' (Kh q) hp))];exact n
 there:=λb u q _=>⟨u,k b u q⟩
 tups:=λb xs q=>by rw[am (aD q hn)];exact q
 frzs:=λb u xs q=>by rw[am (aD q hn)];exact q
 tbls:=λb ps q=>⟨#[],by rw[am (aD q hn),q];simp⟩
theorem Un.write(mu:Gc (H x))(he:e=x\/H e=some (.own x))(k:∀b u,b≠e->h.get? b=some u->h'.get? b=some u)(heo:∃u,h'.get? e=some u):Un fs ex H (aA H x o) h h':=by
 have hx:∀b,H b=none->b≠x:=λb n z=>by subst z;rw[n]at mu;exact mu
 have hb:∀b,H b=none->b≠e:=λb n z=>by
  subst z;rcases he with r | r
  ·exact hx b n r
  ·rw[n]at r;cases r
 have hm:∀b u,H b=some u->¬ Gc (some u)->b≠x:=λb u q nm z=>by subst z;rw[q]at mu;exact nm mu
 refine⟨λb u q n _ _=>k b u (hb b n) q,λb u q n _ _=>⟨u.slots,k b u (hb b n) q⟩,λb u q n _=>by rw[am (hx b n)];exact n,λb u q _=>?_,
  λb xs q=>by rw[am (hm b _ q λz=>z)];exact q,λb u xs q=>by rw[am (hm b _ q λz=>z)];exact q,λb ps q=>⟨#[],by rw[am (hm b _ q λz=>z),q];simp⟩⟩
 by_cases hbe:b=e
 ·subst hbe;exact heo
 ·exact⟨u,k b u hbe q⟩
end
noncomputable def Gp(h:Heap)(H:Hp):List Addr:=(List.range h.objs.size).filter λa=>(H a).isSome
noncomputable def tq(h:Heap)(H:Hp):Heap:=PySem.W.hideAll h (Gp h H)
theorem AV(h:Heap)(H:Hp):(tq h H).objs.size=h.objs.size:=PySem.W.hideAll_size _ _
theorem B5{h:Heap}{H:Hp}{b:Addr}{o:Obj}(e:h.get? b=some o)(n:H b=none):(tq h H).get? b=some o:=
 PySem.W.hideAll_get _ e λhm=>by
  have q:(H b).isSome=true:=(List.mem_filter.mp hm).2;rw[n]at q;simp at q
theorem D4{h:Heap}{H:Hp}{b:Addr}{o:Obj}(e:(tq h H).get? b=some o):h.get? b=some o/\H b=none:=by
 have e':h.get? b=some o:=PySem.W.of_hideAll (Gp h H) e;refine⟨e',?_⟩;cases q:H b with
 |none=>rfl
 |some x=>
  have hm:b∈Gp h H:=List.mem_filter.mpr ⟨List.mem_range.mpr (Kh e'),by simp[q]⟩;have z:(tq h H).get? b=none:=PySem.W.hideAll_none (Gp h H) hm;rw[z]at e;cases e
noncomputable def DN(g h:Heap)(L:Addr):List (Addr×Obj):=(List.range h.objs.size).filterMap λa=>if a=L\/(g.get? a).isSome=true then none else(h.get? a).map λo=>(a,o)
noncomputable def cn(g h:Heap)(L d:Addr):List (Addr×Obj):=(DN g h L).filter λp=>decide (p.1≠d)
structure Mod(K:KM)(mg:KS)(base:Heap):Prop where
 kin:K.In base
 glob:base.Ns mainGlobals mg
 blt:∃mb,base.Ns builtinsNs mb/\∀x:Str,x≠"__name__"->mb x=bootBuiltins x
 nolimit:base.NoLimit
structure Cx where
 prog:Program
 w:World
 K:PySem.W.Frag
 mg:Str->Option Value
 base:Heap
 A:Around
 N:List Str
 s₀:Shared
 H₀:Hp
 env:Env
 outer:List Env
 stack:List Env
 ex:List Addr
 fn:Str->Bool
 calm:Bool
 pn:List (Addr×Obj)
 xe:Value->Shared->Prop
noncomputable def nE(l:List Env):List Addr:=l.filterMap (·.frame)
noncomputable abbrev Cx.fs(X:Cx):List Addr:=nE X.outer
noncomputable def Gn(sc:Scope)(x:Str):Prop:=sc.names.lookup x=some .local\/sc.names.lookup x=some .cell\/sc.names.lookup x=some .free
noncomputable def Loc(sc:Scope)(x:Str):Prop:=sc.names.lookup x=some .local\/sc.names.lookup x=some .cell
noncomputable def GM(env:Env)(h:Heap)(m:KS)(x:Str)(u:Value):Prop:=
 (env.kindOf x=some .local/\m x=some u)\/((env.kindOf x=some .cell\/env.kindOf x=some .free)/\∃c,env.cells.lookup x=some c/\h.IsCell c (some u))
structure Cx.Ok(X:Cx):Prop where
 mod:Mod X.K X.mg X.base
 kind:X.env.scope.kind=.function
 glob:X.env.globals=mainGlobals
 blt:X.env.builtins=builtinsNs
 above:X.s₀.heap.objs.size<=X.env.locals
 inj:∀x y c,X.env.cells.lookup x=some c->X.env.cells.lookup y=some c->x=y
 has:∀x,(X.env.kindOf x=some .cell\/X.env.kindOf x=some .free)->∃c,X.env.cells.lookup x=some c
 cab:∀x c,X.fn x=true->X.env.cells.lookup x=some c->X.s₀.heap.objs.size<=c
 hd:X.calm=true->X.A.handled=none
 frames:X.A.frames=some X.stack
 stk:X.stack=X.outer\/(X.stack=X.env::X.outer/\X.env.frame=some X.env.locals)
 exf:∀b∈X.ex,b≠X.env.locals/\∀x c,X.env.cells.lookup x=some c->c≠b
 bs:∀b o,X.base.get? b=some o->X.s₀.heap.get? b=some o/\X.H₀ b=none
 bsz:X.base.objs.size<=X.s₀.heap.objs.size
 noex:∀b o,X.base.get? b=some o->b∉X.ex
 exfs:∀b∈X.ex,b∉X.fs
 funs:X.s₀.heap.FunFrames X.base X.outer
 frf:∀b∈X.fs,X.H₀ b=none
structure Inv(X:Cx)(pins:KN)(σ:List (Option V))(H:Hp)(s:KP):Prop where
 ok:X.Ok
 os:s.os=X.s₀.os
 bare:AllBare s.gens
 base:Un X.fs X.ex X.H₀ H X.s₀.heap s.heap
 loc:∃m,s.heap.Ns X.env.locals m/\∀(i:Nat) (x:Str) (v:V),X.N[i]?=some x->σ[i]?=some (some v)->Gn X.env.scope x->∃u,bo v u/\GM X.env s.heap m x u
 cell:∀x c,X.env.cells.lookup x=some c->∃v,s.heap.IsCell c v
 free:H X.env.locals=none
 freeC:∀x c,X.env.cells.lookup x=some c->H c=none
 pin:∀p∈X.pn++pins,s.heap.get? p.1=some p.2/\H p.1=none/\p.1≠X.env.locals/\p.1∉X.fs/\∀v,p.2.data≠.cell v
 hok:j5 X.prog X.w H s.heap
 len:σ.length=X.N.length
section
variable {X:Cx}{pins:KN}{σ:List (Option V)}{H H':Hp}{s:KP}{h':Heap}
theorem Cx.Ok.nofr(ok:X.Ok){b:Addr}{o:Obj}(e:X.base.get? b=some o):b∉X.fs:=λhb=>by
 have:=(ok.funs.mem hb).1;rw[e]at this;cases this
theorem Inv.bs(I:Inv X pins σ H s):∀b o,X.base.get? b=some o->s.heap.get? b=some o/\H b=none:=λb o e=>
 ⟨I.base.keep b o (I.ok.bs b o e).1 (I.ok.bs b o e).2 (I.ok.nofr e) (I.ok.noex b o e),I.base.free b o (I.ok.bs b o e).1 (I.ok.bs b o e).2 (I.ok.noex b o e)⟩
theorem Inv.bk(I:Inv X pins σ H s):∀b o,X.base.get? b=some o->s.heap.get? b=some o:=λb o e=>(I.bs b o e).1
theorem Inv.mod(I:Inv X pins σ H s):Mod X.K X.mg X.base:=I.ok.mod
theorem Inv.kIn(I:Inv X pins σ H s):X.K.In s.heap:=I.ok.mod.kin.keeps I.bk
theorem Inv.lt(I:Inv X pins σ H s):X.env.locals<s.heap.objs.size:=let ⟨_,hn,_⟩:=I.loc;hn.lt
theorem Inv.sz(I:Inv X pins σ H s):X.s₀.heap.objs.size<=s.heap.objs.size:=Km I.ok.above (Nat.le_of_lt I.lt)
theorem Inv.nofs(I:Inv X pins σ H s){a:Addr}(h:s.heap.objs.size<=a):a∉X.fs:=λhb=>by
 obtain⟨_,o,ho,_⟩:=I.ok.funs.mem hb;exact absurd (J' (Kh ho) (Km I.sz h)) (Kn _)
theorem Inv.cne(I:Inv X pins σ H s):∀x c,X.env.cells.lookup x=some c->c≠X.env.locals:=λx c e z=>by
 obtain⟨v,o,ho,hd⟩:=I.cell x c e;obtain⟨m,⟨o',es,ep,ho',hd',_⟩,_⟩:=I.loc;rw[z,ho']at ho;cases ho;rw[hd']at hd;cases hd
theorem Inv.funs(I:Inv X pins σ H s):s.heap.FunFrames X.base X.outer:=by
 have all:∀(l:List Env),(∀b∈nE l,b∈X.fs)->X.s₀.heap.FunFrames X.base l->s.heap.FunFrames X.base l:=by
  intro l
  induction l with
  |nil=>intro _ _;trivial
  |cons env r ih=>
   intro hs hl;obtain⟨hk,⟨L,o,hf,hn,ho,hd⟩,hr⟩:=hl;have hL:L∈X.fs:=hs L (by unfold nE;rw[List.filterMap_cons,hf];exact List.mem_cons_self);obtain⟨sl,e⟩:=I.base.slot L o ho (I.ok.frf L hL) hL λz=>I.ok.exfs L z hL;exact⟨hk,⟨L,_,hf,hn,e,hd⟩,ih (λb hb=>hs b (by unfold nE;rw[List.filterMap_cons,hf];exact J9 _ hb)) hr⟩
 exact all X.outer (λ_ hb=>hb) I.ok.funs
theorem Inv.stack(I:Inv X pins σ H s):s.heap.FunFrames X.base X.stack:=by
 rcases I.ok.stk with e | ⟨e,hf⟩
 ·rw[e];exact I.funs
 ·rw[e]
  obtain⟨m,hn,_⟩:=I.loc;refine .cons (by rw[I.ok.kind];decide) hf hn ?_ I.funs;exact Heap.get?_none_of_le (Km I.ok.bsz I.ok.above)
theorem Inv.stkSub(I:Inv X pins σ H s):∀b∈nE X.stack,b∈X.env.locals::X.fs:=λb hb=>by
 rcases I.ok.stk with e | ⟨e,hf⟩
 ·rw[e]at hb;exact J9 _ hb
 ·rw[e]at hb
  unfold nE at hb;rw[List.filterMap_cons,hf]at hb;exact hb
theorem Inv.stkFree(I:Inv X pins σ H s):∀b∈nE X.stack,H b=none:=λb hb=>by
 rcases J8.mp (I.stkSub b hb) with e | hb
 ·rw[e];exact I.free
 ·obtain⟨_,o,ho,_⟩:=I.ok.funs.mem hb
  exact I.base.free b o ho (I.ok.frf b hb) λz=>I.ok.exfs b z hb
theorem Inv.step{g':Array GenState}{t':Nat}{d':Drawn}{ch:KR}(I:Inv X pins σ H s)
  (hch:∀b∈ch,(b∈X.ex\/X.s₀.heap.objs.size<=b)/\b≠X.env.locals/\(∀x c,X.env.cells.lookup x=some c->c≠b)/\∀p∈X.pn++pins,p.1≠b)
  (keep:∀b o,b≠X.env.locals->b∉X.fs->b∉ch->s.heap.get? b=some o->H b=none->h'.get? b=some o)
  (slot:∀b o,b≠X.env.locals->b∈X.fs->b∉ch->s.heap.get? b=some o->H b=none->∃sl,h'.get? b=some {o with slots:=sl}) (free:∀b o,b∉ch->s.heap.get? b=some o->H b=none->H' b=none)
  (there:∀b o,b∉ch->s.heap.get? b=some o->∃o',h'.get? b=some o')
  (tups:∀b xs,H b=some (.tup xs)->H' b=some (.tup xs)) (frzs:∀b o u,H b=some (.frz o u)->H' b=some (.frz o u)) (tbls:∀b ps,H b=some (.tbl ps)->∃more,H' b=some (.tbl (ps++more)))
  (ns:∀m,s.heap.Ns X.env.locals m->h'.Ns X.env.locals m) (hok:j5 X.prog X.w H' h') (hg:AllBare g') :
  Inv X pins σ H' {s with heap:=h',gens:=g',drawn:=d',toks:=t' }:=by
 have neL:∀b o,X.s₀.heap.get? b=some o->b≠X.env.locals:=λb o e=>Ka (J' (Kh e) I.ok.above);have neC:∀b o,X.s₀.heap.get? b=some o->b∉X.ex->b∉ch:=λb o e hx hb=>by
  rcases(hch b hb).1 with z | z
  ·exact hx z
  ·exact absurd (J' (Kh e) z) (Kn _)
 have cellK:∀x c,X.env.cells.lookup x=some c->∀v,s.heap.IsCell c v->h'.IsCell c v:=λx c e v ⟨o,ho,hd⟩=>by
  have nch:c∉ch:=λz=>(hch c z).2.2.1 x c e rfl
  by_cases hc:c∈X.fs
  ·obtain⟨sl,q⟩:=slot c o (I.cne x c e) hc nch ho (I.freeC x c e)
   exact⟨_,q,hd⟩
  ·exact⟨o,keep c o (I.cne x c e) hc nch ho (I.freeC x c e),hd⟩
 refine⟨I.ok,I.os,hg,⟨λb o e n hb hx=>?_,λb o e n hb hx=>?_,λb o e n hx=>?_,λb o e hx=>?_,λb xs e=>tups b xs (I.base.tups b xs e),λb o xs e=>frzs b o xs (I.base.frzs b o xs e),λb ps e=>?_⟩,?_,λx c e=>?_,?_,λx c e=>?_,λp hp=>?_,hok,I.len⟩
 ·exact keep b o (neL b o e) hb (neC b o e hx) (I.base.keep b o e n hb hx) (I.base.free b o e n hx)
 ·obtain⟨sl,e1⟩:=I.base.slot b o e n hb hx
  obtain⟨sl',e2⟩:=slot b _ (neL b o e) hb (neC b o e hx) e1 (I.base.free b o e n hx);exact⟨sl',e2⟩
 ·obtain⟨o',e1⟩:=I.base.there b o e hx
  exact free b o' (neC b o e hx) e1 (I.base.free b o e n hx)
 ·obtain⟨o',e1⟩:=I.base.there b o e hx
  exact there b o' (neC b o e hx) e1
 ·obtain⟨m1,e1⟩:=I.base.tbls b ps e
  obtain⟨m2,e2⟩:=tbls b _ e1;exact⟨m1++m2,by rw[e2,Array.append_assoc]⟩
 ·obtain⟨m,hn,hl⟩:=I.loc
  refine⟨m,ns m hn,λi x v e1 e2 e3=>?_⟩;obtain⟨u,r,l⟩:=hl i x v e1 e2 e3;refine⟨u,r,?_⟩;rcases l with l | ⟨k,c,e,z⟩
  ·exact .inl l
  ·exact .inr ⟨k,c,e,cellK x c e _ z⟩
 ·obtain⟨v,z⟩:=I.cell x c e
  exact⟨v,cellK x c e v z⟩
 ·obtain⟨m,⟨o,_,_,ho,_⟩,_⟩:=I.loc
  exact free _ o (λz=>(hch _ z).2.1 rfl) ho I.free
 ·obtain⟨v,o,ho,hd⟩:=I.cell x c e
  exact free c o (λz=>(hch c z).2.2.1 x c e rfl) ho (I.freeC x c e)
 ·obtain⟨e,n,ne,nf,d⟩:=I.pin p hp
  have nch:p.1∉ch:=λz=>(hch p.1 z).2.2.2 p hp rfl;exact⟨keep p.1 p.2 ne nf nch e n,free p.1 p.2 nch e n,ne,nf,d⟩
theorem Inv.un{t':Nat}(I:Inv X pins σ H s)(u:Un X.fs [] H H' s.heap h')(hok:j5 X.prog X.w H' h'):Inv X pins σ H' {s with heap:=h',toks:=t' }:=by
 obtain⟨m,⟨o,es,ep,ho,r⟩,_⟩:=id I.loc;obtain⟨sl,hL⟩:=u.any ho I.free (by simp);exact I.step (g':=s.gens) (d':=s.drawn) (ch:=[]) (λ_ z=>nomatch z) (λb o _ hb _ e n=>u.keep b o e n hb (by simp)) (λb o _ hb _ e n=>u.slot b o e n hb (by simp)) (λb o _ e n=>u.free b o e n (by simp)) (λb o _ e=>u.there b o e (by simp)) u.tups u.frzs u.tbls (λm' hm=>by
  obtain⟨o',es',ep',ho',r'⟩:=hm;rw[ho]at ho';cases ho'
  exact⟨_,es',ep',hL,r'⟩) hok I.bare
theorem Inv.call{g':Array GenState}{t':Nat}{d':Drawn}{ch:KR}(I:Inv X pins σ H s)(u:Un (nE X.stack) ch H H' s.heap h')(hok:j5 X.prog X.w H' h')(hg:AllBare g')
  (hch:∀b∈ch,(b∈X.ex\/X.s₀.heap.objs.size<=b)/\b≠X.env.locals/\(∀x c,X.env.cells.lookup x=some c->c≠b)/\∀p∈X.pn++pins,p.1≠b) :
  Inv X pins σ H' {s with heap:=h',gens:=g',drawn:=d',toks:=t' }:=by
 obtain⟨m,⟨o,es,ep,ho,r⟩,_⟩:=id I.loc;obtain⟨sl,hL⟩:=u.any ho I.free λz=>(hch _ z).2.1 rfl;exact I.step (ch:=ch) hch (λb o hL hb hc e n=>u.keep b o e n (λz=>(J8.mp (I.stkSub b z)).elim hL hb) hc) (λb o _ _ hc e n=>u.any e n hc) (λb o hc e n=>u.free b o e n hc) (λb o hc e=>u.there b o e hc) u.tups u.frzs u.tbls (λm' hm=>by
  obtain⟨o',es',ep',ho',r'⟩:=hm;rw[ho]at ho';cases ho'
  exact⟨_,es',ep',hL,r'⟩) hok hg
theorem Inv.turned{t':Nat}{it:Addr}(I:Inv X pins σ H s)(k:∀b o,b≠it->s.heap.get? b=some o->h'.get? b=some o)(hn:H it=none)(hL:it≠X.env.locals)
  (h1:it∈X.ex\/X.s₀.heap.objs.size<=it) (h2:∀x c,X.env.cells.lookup x=some c->c≠it) (h3:∀p∈X.pn++pins,p.1≠it):Inv X pins σ H {s with heap:=h',toks:=t' }:=by
 have nit:∀b u,H b=some u->b≠it:=λb u e z=>by rw[z,hn]at e;cases e
 refine I.step (g':=s.gens) (d':=s.drawn) (ch:=[it]) (λb hb=>?_) (λb o _ _ hc e _=>k b o (λz=>hc (by simp[z])) e) (λb o _ _ hc e _=>⟨o.slots,k b o (λz=>hc (by simp[z])) e⟩) (λ_ _ _ _ n=>n)
  (λb o hc e=>⟨o,k b o (λz=>hc (by simp[z])) e⟩) (λ_ _ e=>e) (λ_ _ _ e=>e) (λb ps e=>⟨#[],by rw[e];simp⟩) (λm hm=>?_) (λb u e=>?_) I.bare
 ·have e:b=it:=by simpa using hb
  subst e;exact⟨h1,hL,h2,h3⟩
 ·obtain⟨o,es,ep,ho,r⟩:=hm
  exact⟨o,es,ep,k _ o (Ne.symm hL) ho,r⟩
 ·refine(I.hok b u e).stay (λc v hc q=>k c v ?_ q) (λ_ q=>q) λ_ _ q=>q
  rcases hc with z | z
  ·rw[z];exact nit b u e
  ·exact nit c _ z
theorem Inv.tok(I:Inv X pins σ H s)(t:Nat):Inv X pins σ H {s with toks:=t}:=I.un (h':=s.heap) (t':=t) Un.refl I.hok
theorem Inv.kept{t':Nat}(I:Inv X pins σ H s)(k:∀b u,s.heap.get? b=some u->h'.get? b=some u):Inv X pins σ H {s with heap:=h',toks:=t' }:=I.un (Un.kept k) (I.hok.kept k)
theorem Inv.laid{a:Addr}{o:HO}{t':Nat}(I:Inv X pins σ H s)(k:∀b u,s.heap.get? b=some u->h'.get? b=some u)(hp:s.heap.objs.size<=a)(new:bU X.prog X.w (aA H a o) h' a o) :
  Inv X pins σ (aA H a o) {s with heap:=h',toks:=t' }:=I.un (Un.laid k hp (I.hok.fresh hp)) (I.hok.laid k hp new)
theorem Inv.write{x e:Addr}{o:HO}{t':Nat}(I:Inv X pins σ H s)(mu:Gc (H x))(he:e=x\/H e=some (.own x))(k:∀b u,b≠e->s.heap.get? b=some u->h'.get? b=some u)(heo:∃u,h'.get? e=some u)
  (new:bU X.prog X.w (aA H x o) h' x o):Inv X pins σ (aA H x o) {s with heap:=h',toks:=t' }:=I.un (Un.write mu he k heo) (I.hok.write mu he k heo new)
theorem Inv.pins_of{pins':KN}(I:Inv X pins σ H s)(h:∀p∈pins',s.heap.get? p.1=some p.2/\H p.1=none/\p.1≠X.env.locals/\p.1∉X.fs/\∀v,p.2.data≠.cell v):Inv X pins' σ H s:=
 ⟨I.ok,I.os,I.bare,I.base,I.loc,I.cell,I.free,I.freeC,λp hp=>(J6.mp hp).elim (λz=>I.pin p (List.mem_append_left _ z)) (h p),I.hok,I.len⟩
theorem vD{N:KY}(hN:N.Nodup){i j:Nat}{x:Str}(a:N[i]?=some x)(b:N[j]?=some x):i=j:=by
 obtain⟨h1,e1⟩:=JS.mp a;obtain⟨h2,e2⟩:=JS.mp b;exact(List.getElem_inj hN).mp (e1.trans e2.symm)
theorem sv{M:Model}{A:KZ}{E:KL}{i:Nat}{x:Str}{v:V}{u:Value}{Q:Unit->Shared->Prop}(I:Inv X pins σ H s)(hN:X.N.Nodup)(hi:X.N[i]?=some x)(hx:Loc X.env.scope x)(r:bo v u)
  (h:∀s',Inv X pins (σ.set i (some v)) H s'->(∃a,Heap.SameBut a s.heap s'.heap/\(a=X.env.locals\/X.env.cells.lookup x=some a))->Q () s') (hf:X.fn x=true\/X.env.scope.names.lookup x=some .local:=by first | exact .inl rfl | exact .inr rfl | assumption):wpAny M A (storeName X.env x u) Q E s:=by
 obtain⟨m,hn,hl⟩:=id I.loc;have hcls:(X.env.scope.kind==.class||(X.env.scope.kind==.module&&X.env.locals != X.env.globals))=false:=by rw[I.ok.kind];rfl
 have hiσ:i<σ.length:=by rw[I.len];exact(JS.mp hi).1
 have cne:=I.cne;have tracked:∀{a:Addr} {h':Heap},(∃o,s.heap.get? a=some o/\H a=none)->Heap.SameBut a s.heap h'->j5 X.prog X.w H h':=fun{a h'} ha hs b ob e=>by
  obtain⟨_,_,hfree⟩:=ha;refine(I.hok b ob e).stay (λc w' hc q=>(hs.2 c ?_).trans q) (λ_ q=>q) λ_ _ q=>q;rintro rfl;rcases hc with rfl | hc
  ·rw[hfree]at e;cases e
  ·rw[hfree]at hc;cases hc
 rcases hx with hk | hk
 ·refine wpAny_storeName_local hk hn (λh' hn' hs=>?_) hcls
  obtain⟨oL,_,_,hoL,_⟩:=id hn;refine h _ ⟨I.ok,I.os,I.bare,⟨λb o e n hb hx=>?_,λb o e n hb hx=>?_,I.base.free,λb o e hx=>?_,I.base.tups,I.base.frzs,I.base.tbls⟩,⟨_,hn',λj y v' e1 e2 e3=>?_⟩,λy c e=>?_,I.free,I.freeC,λp hp=>?_,tracked ⟨oL,hoL,I.free⟩ hs,by simpa using I.len⟩ ⟨_,hs,.inl rfl⟩
  ·exact(hs.2 b (Ka (J' (Kh e) I.ok.above))).trans (I.base.keep b o e n hb hx)
  ·obtain⟨sl,e1⟩:=I.base.slot b o e n hb hx
   exact⟨sl,(hs.2 b (Ka (J' (Kh e) I.ok.above))).trans e1⟩
  ·obtain⟨o',e1⟩:=I.base.there b o e hx
   exact⟨o',(hs.2 b (Ka (J' (Kh e) I.ok.above))).trans e1⟩
  ·by_cases hj:j=i
   ·subst hj
    rw[hi]at e1;cases e1
    rw[Ks hiσ]at e2;cases e2;exact⟨u,r,.inl ⟨hk,by simp⟩⟩
   ·rw[List.getElem?_set_ne (Ne.symm hj)]at e2
    obtain⟨u',r',q⟩:=hl j y v' e1 e2 e3;refine⟨u',r',?_⟩;rcases q with⟨k,e⟩ | ⟨k,c,e,z⟩
    ·refine .inl ⟨k,?_⟩
     have:y≠x:=λe=>hj (vD hN e1 (e▸hi));simp[this,e]
    ·exact .inr ⟨k,c,e,z.sameBut hs (cne y c e)⟩
  ·obtain⟨w',z⟩:=I.cell y c e
   exact⟨w',z.sameBut hs (cne y c e)⟩
  ·obtain⟨e,n,ne,nf,d⟩:=I.pin p hp
   exact⟨(hs.2 p.1 ne).trans e,n,ne,nf,d⟩
 ·have hfn:X.fn x=true:=by
   rcases hf with z | z
   ·exact z
   ·rw[z]at hk;cases hk
  obtain⟨c,hc⟩:=I.ok.has x (.inl hk);obtain⟨w',z⟩:=I.cell x c hc;refine wpAny_storeName_cell I.ok.kind hk hc z (λh' hc' hs=>?_);obtain⟨oc,hoc,hocd⟩:=id z;refine h {s with heap:=h' } ⟨I.ok,I.os,I.bare,⟨λb o e n hb hx=>?_,λb o e n hb hx=>?_,I.base.free,λb o e hx=>?_,I.base.tups,I.base.frzs,I.base.tbls⟩,⟨m,hn.sameBut hs (Ne.symm (cne x c hc)),λj y v' e1 e2 e3=>?_⟩,λy c' e=>?_,I.free,I.freeC,λp hp=>?_,tracked ⟨oc,hoc,I.freeC x c hc⟩ hs,by simpa using I.len⟩ ⟨c,hs,.inr hc⟩
  ·exact(hs.2 b (Ka (J' (Kh e) (I.ok.cab x c hfn hc)))).trans (I.base.keep b o e n hb hx)
  ·obtain⟨sl,e1⟩:=I.base.slot b o e n hb hx
   exact⟨sl,(hs.2 b (Ka (J' (Kh e) (I.ok.cab x c hfn hc)))).trans e1⟩
  ·obtain⟨o',e1⟩:=I.base.there b o e hx
   exact⟨o',(hs.2 b (Ka (J' (Kh e) (I.ok.cab x c hfn hc)))).trans e1⟩
  ·by_cases hj:j=i
   ·subst hj
    rw[hi]at e1;cases e1
    rw[Ks hiσ]at e2;cases e2;exact⟨u,r,.inr ⟨.inl hk,c,hc,hc'⟩⟩
   ·rw[List.getElem?_set_ne (Ne.symm hj)]at e2
    obtain⟨u',r',q⟩:=hl j y v' e1 e2 e3;refine⟨u',r',?_⟩;rcases q with q | ⟨k,c',e,z'⟩
    ·exact .inl q
    ·refine .inr ⟨k,c',e,z'.sameBut hs ?_⟩
     rintro rfl;exact hj (vD hN e1 (I.ok.inj _ _ _ e hc▸hi))
  ·by_cases hcc:c'=c
   ·subst hcc;exact⟨_,hc'⟩
   ·obtain⟨w2,z2⟩:=I.cell y c' e
    exact⟨w2,z2.sameBut hs hcc⟩
  ·obtain⟨e,n,ne,nf,d⟩:=I.pin p hp
   refine⟨(hs.2 p.1 ?_).trans e,n,ne,nf,d⟩;intro q;rw[q,hoc]at e;have q':oc=p.2:=Option.some.inj e;exact d w' (by rw[<- q'];exact hocd)
theorem va{M:Model}{A:KZ}{E:KL}{i:Nat}{x:Str}{v:V}{u:Value}{Q:Unit->Shared->Prop}(I:Inv X pins σ H s)(hN:X.N.Nodup)(hi:X.N[i]?=some x)(hx:Loc X.env.scope x)(r:bo v u)
  (h:∀s',Inv X pins (σ.set i (some v)) H s'->Q () s') (hf:X.fn x=true\/X.env.scope.names.lookup x=some .local:=by first | exact .inl rfl | exact .inr rfl | assumption):wpAny M A (storeName X.env x u) Q E s:=
 sv I hN hi hx r (λs' I' _=>h s' I') hf
theorem Inv.call'{s':KP}{ch:KR}(I:Inv X pins σ H s)(ho:s'.os=s.os)(u:Un (nE X.stack) ch H H' s.heap s'.heap)(hok:j5 X.prog X.w H' s'.heap)(hg:AllBare s'.gens)
  (hch:∀b∈ch,(b∈X.ex\/X.s₀.heap.objs.size<=b)/\b≠X.env.locals/\(∀x c,X.env.cells.lookup x=some c->c≠b)/\∀p∈X.pn++pins,p.1≠b):Inv X pins σ H' s':=by
 obtain⟨h',g',d',t',o'⟩:=s';have e:o'=s.os:=ho;subst e;exact I.call (g':=g') (t':=t') (d':=d') u hok hg hch
end
noncomputable abbrev XK:=Value->Option Addr->Hp->Prop
noncomputable abbrev St:=List (Option V)
noncomputable abbrev VK:=V->Hp->Prop
noncomputable abbrev TE:=St->Hp->VK->Prop
noncomputable abbrev TT:=St->Hp->(Bool->Hp->Prop)->Prop
noncomputable abbrev TA:=St->Hp->(List V->Hp->Prop)->Prop
structure iP where
 nx:St->Hp->Prop
 rt:VK
 bk:St->Hp->Prop:=λ_ _=>False
 ct:St->Hp->Prop:=λ_ _=>False
noncomputable abbrev TS:=iP->St->Hp->Prop
noncomputable def EP(X:Cx)(pins:KN)(σ:St)(Q:VK)(u:Value)(s':KP):Prop:=∃v H',Inv X pins σ H' s'/\bo v u/\Q v H'
noncomputable def TP(X:Cx)(pins:KN)(σ:St)(Q:Bool->Hp->Prop)(b:Bool)(s':KP):Prop:=∃H',Inv X pins σ H' s'/\Q b H'
noncomputable def AP(X:Cx)(pins:KN)(σ:St)(Q:List V->Hp->Prop)(us:KQ)(s':KP):Prop:=∃vs H',Inv X pins σ H' s'/\bj vs us/\Q vs H'
noncomputable def SP(X:Cx)(pins:KN)(D:iP)(f:Flow)(s':KP):Prop:=
 match f with
 | .next=>∃σ' H',Inv X pins σ' H' s'/\D.nx σ' H'
 | .brk=>∃σ' H',Inv X pins σ' H' s'/\D.bk σ' H'
 | .cont=>∃σ' H',Inv X pins σ' H' s'/\D.ct σ' H'
 | .ret u=>∃v σ' H',Inv X pins σ' H' s'/\bo v u/\D.rt v H'
noncomputable def PE(X:Cx)(e:Expr)(t:TE):Prop:=
 ∀(pins:KN) (s:KP) (σ:St) (H:Hp) (Q:VK),Inv X pins σ H s->t σ H Q->wpAny (model X.prog X.w) X.A (eval e X.env) (EP X pins σ Q) X.xe s
noncomputable def PT(X:Cx)(e:Expr)(t:TT):Prop:=
 ∀(pins:KN) (s:KP) (σ:St) (H:Hp) (Q:Bool->Hp->Prop),Inv X pins σ H s->t σ H Q->wpAny (model X.prog X.w) X.A (isTrue e X.env (eval e X.env)) (TP X pins σ Q) X.xe s
noncomputable def PW(X:Cx)(e:Expr)(t:TT):Prop:=
 ∀(whole:Sem Value) (pins:KN) (s:KP) (σ:St) (H:Hp) (Q:Bool->Hp->Prop),Inv X pins σ H s->t σ H Q->wpAny (model X.prog X.w) X.A (isTrue e X.env whole) (TP X pins σ Q) X.xe s
theorem PW.pt{X:Cx}{e:Expr}{t:TT}(h:PW X e t):PT X e t:=h _
noncomputable def PA(X:Cx)(es:K2)(t:TA):Prop:=
 ∀(pos:Pos) (pins:KN) (s:KP) (σ:St) (H:Hp) (Q:List V->Hp->Prop),Inv X pins σ H s->t σ H Q->wpAny (model X.prog X.w) X.A (spliced (backTo pos (starEach es X.env))) (AP X pins σ Q) X.xe s
noncomputable def PS(X:Cx)(st:Stmt)(t:TS):Prop:=
 ∀(pins:KN) (s:KP) (σ:St) (H:Hp) (D:iP),Inv X pins σ H s->t D σ H->wpAny (model X.prog X.w) X.A (exec st X.env) (SP X pins D) X.xe s
noncomputable def vU(X:Cx)(st:List Stmt)(t:TS):Prop:=
 ∀(pins:KN) (s:KP) (σ:St) (H:Hp) (D:iP),Inv X pins σ H s->t D σ H->wpAny (model X.prog X.w) X.A (execs st X.env) (SP X pins D) X.xe s
theorem bX{α:Type}{t:Sem α}{Q Q':α->Shared->Prop}{M:Model}{A:KZ}{E:KL}{s:KP}(h:wpAny M A t Q E s)(hQ:∀a s,Q a s->Q' a s):wpAny M A t Q' E s:=wpAny_mono h hQ λ_ _ x=>x
section
variable {X:Cx}
theorem JO{a b:Expr}{ta tb:TE}(ha:PE X a ta)(hb:PE X b tb){pins:KN}{s:KP}{σ:St}{H:Hp}{R:V->V->Hp->Prop}(I:Inv X pins σ H s)(h:ta σ H λx H1=>tb σ H1 λy H2=>R x y H2)
  {α:Type} {Q:α->Shared->Prop} {f:Value->Value->Sem α}
  (hf:∀v u s2 x y H2,Inv X pins σ H2 s2->bo x v->bo y u->R x y H2->wpAny (model X.prog X.w) X.A (f v u) Q X.xe s2) :
  wpAny (model X.prog X.w) X.A (eval a X.env) (λv s₁=>wpAny (model X.prog X.w) X.A (eval b X.env) (λu s₂=>wpAny (model X.prog X.w) X.A (f v u) Q X.xe s₂) X.xe s₁) X.xe s:=by
 refine bX (ha pins s σ H _ I h) λv s1 ⟨x,H1,I1,r1,q1⟩=>?_;refine bX (hb pins s1 σ H1 _ I1 q1) λu s2 ⟨y,H2,I2,r2,q2⟩=>?_;exact hf v u s2 x y H2 I2 r1 r2 q2
noncomputable def zJ(i:Nat):TE:=λσ H Q=>∃v,σ[i]?=some (some v)/\Q v H
noncomputable def tC(v:V):TE:=λ_ H Q=>Q v H
theorem E_{i:Nat}{x:Str}{pos:Pos}(hN:X.N[i]?=some x)(hv:Gn X.env.scope x)(hd:autoParam ((x==("__debug__":Str))=false) zzD._auto_1)(hcd:autoParam ((x==("__classdict__":Str))=false) zzD._auto_1):PE X (.Name x pos) (zJ i):=by
 intro pins s σ H Q I h;obtain⟨v,e,h⟩:=h;obtain⟨m,hn,hl⟩:=I.loc;obtain⟨u,r,l⟩:=hl i x v hN e hv;have fin:EP X pins σ Q u s:=⟨v,H,I,r,h⟩;rcases l with⟨hk,hm⟩ | ⟨hk,c,hc,hcell⟩
 ·exact wpAny_Name (wpAny_loadName_local I.ok.kind hk hn hm fin) hd
 ·rcases hk with hk | hk
  ·exact wpAny_Name (wpAny_loadName_cell I.ok.kind hk hc hcell fin) hd
  ·exact wpAny_Name (wpAny_loadName_free I.ok.kind hk hc hcell fin hcd) hd
theorem aj{i j pos}:PE X (.Constant (.int i) j pos) (tC (.int i)):=λ_ _ _ H _ I h=>wpAny_Constant_int ⟨.int i,H,I.tok _,⟨_,rfl⟩,h⟩
theorem CI{b j pos}:PE X (.Constant (.bool b) j pos) (tC (.bl b)):=λ_ _ _ H _ I h=>Constant_bool ⟨.bl b,H,I,rfl,h⟩
theorem uv{j pos}:PE X (.Constant .none j pos) (tC .non):=λ_ _ _ H _ I h=>Constant_none ⟨.non,H,I,rfl,h⟩
theorem jX{x j pos}:PE X (.Constant (.str x) j pos) (tC (.str x)):=λ_ _ _ H _ I h=>Calls.Constant_str ⟨.str x,H,I.tok _,⟨_,rfl⟩,h⟩
noncomputable def Gl(X:Cx)(x:Str):Prop:=X.env.kindOf x=some .globalImplicit
theorem ke{E:KL}{pins:KN}{s:KP}{σ:St}{H:Hp}{x:Str}{u:Value}{pos:Pos}{Q:KL}(I:Inv X pins σ H s)(hg:Gl X x)(hm:X.mg x=some u)(h:Q u s)
  (hd:autoParam ((x==("__debug__":Str))=false) zzD._auto_1):wpAny (model X.prog X.w) X.A (eval (.Name x pos) X.env) Q E s:=
 Calls.Name_function_global I.ok.kind hg (Calls.loadGlobal_global (by rw[I.ok.glob];exact I.mod.glob.keeps I.bk) hm h) hd
theorem eV{E:KL}{pins:KN}{s:KP}{σ:St}{H:Hp}{x:Str}{u:Value}{pos:Pos}{Q:KL}(I:Inv X pins σ H s)(hg:Gl X x)(hm:X.mg x=none)(hv:bootBuiltins x=some u)(h:Q u s)
  (hn:autoParam (x≠"__name__") zzD._auto_1) (hd:autoParam ((x==("__debug__":Str))=false) zzD._auto_1):wpAny (model X.prog X.w) X.A (eval (.Name x pos) X.env) Q E s:=by
 obtain⟨mb,h1,h2⟩:=I.mod.blt;exact Calls.Name_function_global I.ok.kind hg (Calls.loadGlobal_builtin (by rw[I.ok.glob];exact I.mod.glob.keeps I.bk) hm (by rw[I.ok.blt];exact h1.keeps I.bk) ((h2 x hn).trans hv) h) hd
theorem eJ{x:Str}{v:V}{u:Value}{pos:Pos}(hg:Gl X x)(hm:X.mg x=some u)(r:bo v u)(hd:autoParam ((x==("__debug__":Str))=false) zzD._auto_1):PE X (.Name x pos) (tC v):=
 λ_ _ _ H _ I h=>ke I hg hm ⟨v,H,I,r,h⟩ hd
theorem uc{x:Str}{v:V}{u:Value}{pos:Pos}(hg:Gl X x)(hm:X.mg x=none)(hv:bootBuiltins x=some u)(r:bo v u)(hn:autoParam (x≠"__name__") zzD._auto_1)(hd:autoParam ((x==("__debug__":Str))=false) zzD._auto_1):PE X (.Name x pos) (tC v):=
 λ_ _ _ H _ I h=>eV I hg hm hv ⟨v,H,I,r,h⟩ hn hd
variable {a b:Expr}{ta tb:TE}{pos:Pos}
noncomputable def PC(X:Cx)(op:CmpOp)(a b:Expr)(t:TE):Prop:=
 ∀(pins:KN) (s:KP) (σ:St) (H:Hp) (Q:VK),Inv X pins σ H s->t σ H Q ->
  wpAny (model X.prog X.w) X.A (eval a X.env) (λv s₁=>wpAny (model X.prog X.w) X.A (eval b X.env) (λu s₂=>wpAny (model X.prog X.w) X.A (compareOp op v u) (EP X pins σ Q) X.xe s₂) X.xe s₁) X.xe s
theorem Dg(b:Expr){op:CmpOp}(h:op≠.In)(h2:op≠.NotIn):behindInMarks op b=false:=by
 have e1:(op==CmpOp.In)=false:=by cases op<;>first | rfl | exact absurd rfl h
 have e2:(op==CmpOp.NotIn)=false:=by cases op<;>first | rfl | exact absurd rfl h2
 cases b<;>simp[behindInMarks,e1,e2]
noncomputable def tB(t:TE):TT:=λσ H Q=>t σ H λx H1=>∃c,x=.bl c/\Q c H1
theorem CC{op:CmpOp}{t:TE}(h:PC X op a b t)(h1:behindInMarks op b=false:=by first | exact Dg _ nofun nofun | rfl):PT X (.Compare a [op] [b] pos) (tB t):=by
 intro pins s σ H Q I hw;refine wpAny_isTrue_Compare1 (bX (h pins s σ H _ I hw) λv s1 h1=>bX h1 λu s2 h2=>bX h2 λc s3 ⟨x,H1,I1,r1,q1⟩=>?_) h1;obtain⟨d,rfl,q⟩:=q1;cases r1;exact wpAny_truthy_bool ⟨H1,I1,q⟩
variable {tA tB':TT}{cn:K2}
noncomputable def Fm(t u:TT):TT:=λσ H Q=>t σ H λc H1=>if c=true then u σ H1 Q else Q false H1
noncomputable def GC(t u:TT):TT:=λσ H Q=>t σ H λc H1=>if c=true then Q true H1 else u σ H1 Q
noncomputable def Fl(t:TT):TT:=λσ H Q=>t σ H λc H1=>Q (!c) H1
theorem oX(ha:PT X a tA):PW X (.BoolOp .And [a] pos) tA:=by
 intro wh pins s σ H Q I h;refine isTrue_and (bX (ha pins s σ H Q I h) λc s1 e=>?_);cases c with
 |true=>exact isTrue_and_nil e
 |false=>exact e
theorem gZ(ha:PT X a tA):PW X (.BoolOp .Or [a] pos) tA:=by
 intro wh pins s σ H Q I h;refine isTrue_or (bX (ha pins s σ H Q I h) λc s1 e=>?_);cases c with
 |false=>exact isTrue_or_nil e
 |true=>exact e
theorem mL(ha:PT X a tA)(hb:PW X (.BoolOp .And (b::cn) pos) tB'):PW X (.BoolOp .And (a::b::cn) pos) (Fm tA tB'):=by
 intro wh pins s σ H Q I h;refine isTrue_and (bX (ha pins s σ H _ I h) λc s1 ⟨H1,I1,q1⟩=>?_);cases c with
 |true=>exact hb wh pins s1 σ H1 Q I1 q1
 |false=>exact⟨H1,I1,q1⟩
theorem i6(ha:PT X a tA)(hb:PW X (.BoolOp .Or (b::cn) pos) tB'):PW X (.BoolOp .Or (a::b::cn) pos) (GC tA tB'):=by
 intro wh pins s σ H Q I h;refine isTrue_or (bX (ha pins s σ H _ I h) λc s1 ⟨H1,I1,q1⟩=>?_);cases c with
 |true=>exact⟨H1,I1,q1⟩
 |false=>exact hb wh pins s1 σ H1 Q I1 q1
theorem gH(ha:PT X a tA):PT X (.UnaryOp .Not a pos) (Fl tA):=by
 intro pins s σ H Q I h;exact isTrue_not (ha pins s σ H (λc H1=>Q (!c) H1) I h)
noncomputable def Cr(ta tb:TE):TE:=λσ H Q=>ta σ H λx H1=>∃c,x=.bl c/\if c=true then tb σ H1 Q else Q (.bl false) H1
noncomputable def CQ(ta:TE):TE:=λσ H Q=>ta σ H λx H1=>∃c,x=.bl c/\Q (.bl (!c)) H1
theorem wW{op}{t:TE}(h:PE X a t):PE X (.BoolOp op [a] pos) t:=λpins s σ H Q I hw=>BoolOp_one (h pins s σ H Q I hw)
theorem uf(ha:PE X a ta)(hb:PE X (.BoolOp .And (b::cn) pos) tb):PE X (.BoolOp .And (a::b::cn) pos) (Cr ta tb):=by
 intro pins s σ H Q I h;refine BoolOp_and (bX (ha pins s σ H _ I h) λv s1 ⟨x,H1,I1,r1,q1⟩=>?_);obtain⟨c,rfl,q1⟩:=q1;cases r1;refine wpAny_truthy_bool ?_;cases c with
 |true=>exact hb pins s1 σ H1 Q I1 q1
 |false=>exact⟨.bl false,H1,I1,rfl,q1⟩
theorem EM(ha:PE X a ta):PE X (.UnaryOp .Not a pos) (CQ ta):=by
 intro pins s σ H Q I h;refine UnaryOp_ (bX (ha pins s σ H _ I h) λv s1 ⟨x,H1,I1,r1,q1⟩=>?_);obtain⟨c,rfl,q1⟩:=q1;cases r1;exact not_of (wpAny_truthy_bool ⟨.bl (!c),H1,I1,rfl,q1⟩)
noncomputable def GV(t:TT)(ta tb:TE):TE:=λσ H Q=>t σ H λc H1=>if c=true then ta σ H1 Q else tb σ H1 Q
theorem vE{c:Expr}(hc:PT X c tA)(ha:PE X a ta)(hb:PE X b tb):PE X (.IfExp c a b pos) (GV tA ta tb):=by
 intro pins s σ H Q I h;refine wpAny_IfExp (bX (hc pins s σ H _ I h) λd s1 ⟨H1,I1,q1⟩=>?_);cases d with
 |true=>exact ha pins s1 σ H1 Q I1 q1
 |false=>exact hb pins s1 σ H1 Q I1 q1
end
noncomputable def aU(K:KM)(H:Hp)(a:Addr)(xs:List V):Prop:=
 Rd H a (.lst xs) \/
  ∃(o:Obj) (its:Array Value) (n:Nat),K.lookup a=some o/\o.cls=.type "list"/\o.dict=none/\o.data=.seq its n/\its.size<=sizeLine/\bj xs its.toList
noncomputable def ba(K:KM)(H:Hp)(a:Addr)(xs:List V):Prop:=
 Rd H a (.tup xs) \/
  ∃(o:Obj) (its:Array Value) (n:Nat),K.lookup a=some o/\o.cls=.type "tuple"/\o.data=.seq its n/\its.size<=sizeLine/\bj xs its.toList
noncomputable def GN:Value->Option V
 | .none=>some .non
 | .bool b=>some (.bl b)
 | .int i _=>some (.int i)
 | .str x _=>some (.str x)
 | .bytes b _=>some (.byt b)
 | .float b _=>some (.flt b)
 | .ref a=>some (.ref a)
 | .type n=>some (.ty n)
 |_=>none
theorem bo.abs{x:V}{u:Value}(r:bo x u):GN u=some x:=by
 cases x with
 |non=>cases r;rfl
 |bl _=>cases r;rfl
 |int _=>obtain⟨t,rfl⟩:=r;rfl
 |str _=>obtain⟨t,rfl⟩:=r;rfl
 |byt _=>obtain⟨t,rfl⟩:=r;rfl
 |flt _=>obtain⟨t,rfl⟩:=r;rfl
 |ref _=>cases r;rfl
 |ty _=>cases r;rfl
theorem bo.inj{x y:V}{u:Value}(r:bo x u)(q:bo y u):x=y:=Option.some.inj (r.abs.symm.trans q.abs)
theorem bj.inj:∀{xs ys:List V} {us:KQ},bj xs us->bj ys us->xs=ys
 |_,_,_,.nil,.nil=>rfl
 |_,_,_,.cons r t,.cons r' t'=>by rw[r.inj r',bj.inj t t']
section
variable {X:Cx}{pins:KN}{σ:St}{H:Hp}{s:KP}{a:Addr}{xs ys:List V}
theorem aU.of{K:KM}(h:H a=some (.lst xs)):aU K H a xs:=.inl (.inl h)
theorem ba.of{K:KM}(h:H a=some (.tup xs)):ba K H a xs:=.inl (.inl h)
theorem Inv.list(I:Inv X pins σ H s)(h:aU X.K H a xs):∃its:List Value,bj xs its/\PlainL s.heap a its.toArray/\xs.length<=sizeLine:=by
 rcases h with h | ⟨o,its,n,hk,hc,hd,hs,hz,r⟩
 ·obtain⟨z,its,n,r,e⟩:=h.ok I.hok
  exact⟨its,r,⟨_,n,e,rfl,rfl,rfl⟩,z⟩
 ·refine⟨its.toList,r,⟨o,n,I.kIn a o hk,hc,hd,by simpa using hs⟩,?_⟩
  have e:=r.length;simp only[Array.length_toList]at e;omega
theorem Inv.tuple(I:Inv X pins σ H s)(h:ba X.K H a xs):∃its:List Value,bj xs its/\IsTup s.heap a its.toArray/\xs.length<=sizeLine:=by
 rcases h with h | ⟨o,its,n,hk,hc,hs,hz,r⟩
 ·obtain⟨z,its,r,p⟩:=h.ok I.hok
  exact⟨its,r,p,z⟩
 ·refine⟨its.toList,r,⟨o,I.kIn a o hk,hc,n,by simpa using hs⟩,?_⟩
  have e:=r.length;simp only[Array.length_toList]at e;omega
theorem Inv.list_inj(I:Inv X pins σ H s)(h:aU X.K H a xs)(h':aU X.K H a ys):xs=ys:=by
 obtain⟨its,r,⟨o,n,e,_,_,d⟩,_⟩:=I.list h;obtain⟨its',r',⟨o',n',e',_,_,d'⟩,_⟩:=I.list h';rw[e]at e';cases e'
 rw[d]at d'
 injection d' with d1 _
 have:its=its':=by simpa using congrArg Array.toList d1
 subst this;exact r.inj r'
theorem Inv.tuple_inj(I:Inv X pins σ H s)(h:ba X.K H a xs)(h':ba X.K H a ys):xs=ys:=by
 obtain⟨its,r,⟨o,e,_,n,d⟩,_⟩:=I.tuple h;obtain⟨its',r',⟨o',e',_,n',d'⟩,_⟩:=I.tuple h';rw[e]at e';cases e'
 rw[d]at d'
 injection d' with d1 _
 have:its=its':=by simpa using congrArg Array.toList d1
 subst this;exact r.inj r'
end
noncomputable abbrev Cx.wish(X:Cx)(E:KL):Cx:={X with xe:=E}
noncomputable abbrev Cx.nox(X:Cx):Cx:=X.wish λ_ _=>False
theorem Cx.Ok.wish{X:Cx}(ok:X.Ok)(E:KL):(X.wish E).Ok:=
 ⟨ok.mod,ok.kind,ok.glob,ok.blt,ok.above,ok.inj,ok.has,ok.cab,ok.hd,ok.frames,ok.stk,ok.exf,ok.bs,ok.bsz,ok.noex,ok.exfs,ok.funs,ok.frf⟩
theorem Cx.Ok.unwish{X:Cx}{E:KL}(ok:(X.wish E).Ok):X.Ok:=
 ⟨ok.mod,ok.kind,ok.glob,ok.blt,ok.above,ok.inj,ok.has,ok.cab,ok.hd,ok.frames,ok.stk,ok.exf,ok.bs,ok.bsz,ok.noex,ok.exfs,ok.funs,ok.frf⟩
section
variable {X:Cx}{pins:KN}{σ:St}{H:Hp}{s:KP}{E:KL}
theorem Inv.wish(I:Inv X pins σ H s)(E:KL):Inv (X.wish E) pins σ H s:=⟨I.ok.wish E,I.os,I.bare,I.base,I.loc,I.cell,I.free,I.freeC,I.pin,I.hok,I.len⟩
theorem Inv.unwish(I:Inv (X.wish E) pins σ H s):Inv X pins σ H s:=⟨I.ok.unwish,I.os,I.bare,I.base,I.loc,I.cell,I.free,I.freeC,I.pin,I.hok,I.len⟩
theorem SP.unwish{D:iP}{f:Flow}{s':KP}(h:SP (X.wish E) pins D f s'):SP X pins D f s':=by
 cases f with
 |next=>obtain⟨σ',H',I,q⟩:=h;exact⟨σ',H',I.unwish,q⟩
 |brk=>obtain⟨σ',H',I,q⟩:=h;exact⟨σ',H',I.unwish,q⟩
 |cont=>obtain⟨σ',H',I,q⟩:=h;exact⟨σ',H',I.unwish,q⟩
 |ret u=>obtain⟨v,σ',H',I,r,q⟩:=h;exact⟨v,σ',H',I.unwish,r,q⟩
theorem vU.nox{st:List Stmt}{t:TS}(h:vU X.nox st t):vU X st t:=λpins s σ H D I hw=>
 wpAny_mono (h pins s σ H D (I.wish _) hw) (λ_ _ q=>q.unwish) λ_ _ z=>False.elim z
end
section
variable {X:Cx}{st:Stmt}{cn:List Stmt}{t u:TS}{e:Expr}{te:TE}{pos:Pos}
noncomputable def CL:TS:=λD σ H=>D.nx σ H
noncomputable def xF(t u:TS):TS:=λD σ H=>t {D with nx:=u D} σ H
theorem aO:vU X [] CL:=λ_ _ σ H _ I h=>wpAny_execs_nil ⟨σ,H,I,h⟩
theorem af(h1:PS X st t)(h2:vU X cn u):vU X (st::cn) (xF t u):=by
 intro pins s σ H D I h;refine wpAny_execs_cons (bX (h1 pins s σ H {D with nx:=u D} I h) λf s1 q=>?_);cases f with
 |next=>
  obtain⟨σ',H',I',q⟩:=q;exact h2 pins s1 σ' H' D I' q
 |ret v=>exact q
 |brk=>exact q
 |cont=>exact q
theorem ai(h1:PS X st t):vU X [st] t:=by
 intro pins s σ H D I h;refine wpAny_execs_cons (bX (h1 pins s σ H D I h) λf s1 q=>?_);cases f with
 |next=>exact wpAny_execs_nil q
 |ret v=>exact q
 |brk=>exact q
 |cont=>exact q
noncomputable def xJ:TS:=λD σ H=>D.bk σ H
theorem BB:PS X (.Break pos) xJ:=λ_ _ σ H _ I h=>wpAny_Break ⟨σ,H,I,h⟩
theorem Inv.quiet{pins:KN}{σ:St}{H:Hp}{s:KP}(I:Inv X pins σ H s):interactive X.env=false:=by simp[interactive,I.ok.kind]
noncomputable def Cy(te:TE):TS:=λD σ H=>te σ H λ_ H1=>D.nx σ H1
theorem bv(he:PE X e te)(hs:autoParam (swapsWith e none pos.line X.env=pure false) zzR._auto_1):PS X (.Expr e pos) (Cy te):=by
 intro pins s σ H D I h;exact wpAny_Expr_any (bX (he pins s σ H _ I h) λv s1 ⟨x,H1,I1,r1,q1⟩=>⟨σ,H1,I1,q1⟩) I.quiet hs
noncomputable def EA(te:TE):TS:=λD σ H=>te σ H D.rt
theorem aI(he:PE X e te):PS X (.Return (some e) pos) (EA te):=by
 intro pins s σ H D I h;exact wpAny_Return_some (bX (he pins s σ H _ I h) λv s1 ⟨x,H1,I1,r1,q1⟩=>⟨x,σ,H1,I1,r1,q1⟩)
noncomputable def Cu:TS:=λD _ H=>D.rt .non H
theorem tW:PS X (.Return none pos) Cu:=λ_ _ σ H _ I h=>wpAny_Return_none ⟨.non,σ,H,I,rfl,h⟩
noncomputable def CY(c:TT)(t u:TS):TS:=λD σ H=>c σ H λb H1=>if b=true then t D σ H1 else u D σ H1
theorem bF{c:Expr}{a b:List Stmt}{tc:TT}(hc:PT X c tc)(ha:vU X a t)(hb:vU X b u):PS X (.If c a b pos) (CY tc t u):=by
 intro pins s σ H D I h;refine wpAny_If (bX (hc pins s σ H _ I h) λd s1 ⟨H1,I1,q1⟩=>?_);cases d with
 |true=>exact ha pins s1 σ H1 D I1 q1
 |false=>exact hb pins s1 σ H1 D I1 q1
end
noncomputable abbrev TG:=V->St->Hp->(St->Hp->Prop)->Prop
noncomputable abbrev Er:=List V->St->Hp->(St->Hp->Prop)->Prop
noncomputable def PG(X:Cx)(target:Expr)(t:TG):Prop:=
 ∀(pins:KN) (s:KP) (σ:St) (H:Hp) (v:V) (u:Value) (Q:St->Hp->Prop),Inv X pins σ H s->bo v u->t v σ H Q ->
  wpAny (model X.prog X.w) X.A (assign target X.env u) (λ_ s'=>∃σ' H',Inv X pins σ' H' s'/\Q σ' H') X.xe s
noncomputable def FQ(X:Cx)(ts:K2)(t:Er):Prop:=
 ∀(pins:KN) (s:KP) (σ:St) (H:Hp) (vs:List V) (us:KQ) (Q:St->Hp->Prop),Inv X pins σ H s->bj vs us->t vs σ H Q ->
  wpAny (model X.prog X.w) X.A (assignInOrder ((assignEach ts X.env).map (·.2)) us) (λ_ s'=>∃σ' H',Inv X pins σ' H' s'/\Q σ' H') X.xe s
section
variable {X:Cx}{pos:Pos}
noncomputable def k9(i:Nat):TG:=λv σ H Q=>Q (σ.set i (some v)) H
theorem aw{i:Nat}{x:Str}(hN:X.N.Nodup)(hi:X.N[i]?=some x)(hx:Loc X.env.scope x)(hf:X.fn x=true\/X.env.scope.names.lookup x=some .local:=by first | exact .inl rfl | exact .inr rfl | assumption):PG X (.Name x pos) (k9 i):=by
 intro pins s σ H v u Q I r h;exact wpAny_assign_Name (va I hN hi hx r (λs' I'=>⟨_,H,I',h⟩) hf)
noncomputable def D5:Er:=λvs σ H Q=>vs=[]/\Q σ H
noncomputable def yw(t:TG)(u:Er):Er:=λvs σ H Q=>∃v r,vs=v::r/\t v σ H λσ' H'=>u r σ' H' Q
theorem cq:FQ X [] D5:=by
 intro pins s σ H vs us Q I r h;obtain⟨e,h⟩:=h;subst e;cases r;exact assignInOrder_nil ⟨σ,H,I,h⟩
theorem aG{e:Expr}{es:K2}{t:TG}{u:Er}(h1:PG X e t)(h2:FQ X es u)
  (hs:autoParam ((assignEach (e::es) X.env).map (·.2)=assign e X.env::(assignEach es X.env).map (·.2)) zzR._auto_1):FQ X (e::es) (yw t u):=by
 intro pins s σ H vs us Q I r h;obtain⟨v,vr,e1,h⟩:=h;subst e1;cases r with
 |cons r rr=>
  rw[hs];refine assignInOrder_cons (bX (h1 pins s σ H _ _ _ I r h) λ_ s1 ⟨σ1,H1,I1,q1⟩=>?_);exact h2 pins s1 σ1 H1 _ _ Q I1 rr q1
noncomputable def Bt(K:KM)(n:Nat)(t:Er):TG:=λv σ H Q=>∃a xs,v=.ref a/\ba K H a xs/\xs.length=n/\t xs σ H Q
theorem dE{es:K2}{k:Nat}{t:Er}{n:Nat}(hc:X.calm=true)(h:FQ X es t)
  (hn:autoParam ((assignEach es X.env).length=n) zzR._auto_1) (hst:autoParam ((assignEach es X.env).findIdx? (·.1)=none) zzR._auto_1):PG X (.Tuple es k pos) (Bt X.K n t):=by
 intro pins s σ H v u Q I r hw;obtain⟨a,xs,e1,hq,hl,hw⟩:=hw;subst e1;cases r;obtain⟨its,rv,ht,hz⟩:=I.tuple hq;refine assign_Tuple_tuple (I.ok.hd hc) ht (by simp[hn,<- hl,rv.length]) hst λh' hx=>?_;have I1:Inv X pins σ H {s with heap:=h' }:=I.kept (t':=s.toks) λb o e=>hx b o (Ka (Kh e)) e;exact h pins _ σ H xs _ Q I1 (by simpa using rv) hw
noncomputable def xX(te:TE)(g:TG):TS:=λD σ H=>te σ H λx H1=>g x σ H1 D.nx
theorem tP{tg e:Expr}{te:TE}{g:TG}(he:PE X e te)(hg:PG X tg g)(hs:autoParam (swapsWithSole [tg] e pos.line X.env=pure false) zzR._auto_1)(hw:autoParam (swappedStores [tg] e X.env=pure none) zzR._auto_1)
  (h1:autoParam ((assignEach [tg] X.env).map (·.2)=[assign tg X.env]) zzR._auto_1):PS X (.Assign [tg] e pos) (xX te g):=by
 intro pins s σ H D I h;refine wpAny_Assign_stores (bX (he pins s σ H _ I h) λv s1 ⟨x,H1,I1,r1,q1⟩=>?_) hs hw;rw[h1];exact bX (hg pins s1 σ H1 x v _ I1 r1 q1) λ_ s2 q=>q
theorem aF{i:Nat}{x:Str}{e:Expr}{te:TE}{pos':Pos}(hN:X.N.Nodup)(hi:X.N[i]?=some x)(hx:Loc X.env.scope x)(he:PE X e te)(hs:autoParam (swapsWith e (some (.Name x pos')) pos.line X.env=pure false) zzR._auto_1)(hf:X.fn x=true\/X.env.scope.names.lookup x=some .local:=by first | exact .inl rfl | exact .inr rfl | assumption) :
  PS X (.Assign [.Name x pos'] e pos) (xX te (k9 i)):=by
 intro pins s σ H D I h;refine wpAny_Assign_Name (bX (he pins s σ H _ I h) λv s1 ⟨y,H1,I1,r1,q1⟩=>?_) hs;exact va I1 hN hi hx r1 (λs2 I2=>⟨_,H1,I2,q1⟩) hf
end
section
variable {X:Cx}{pos:Pos}
end
structure It where
 go:Nat->Hp->Prop
 yld:Nat->Hp->V->Hp->Prop
 stop:Nat->Hp->Prop
noncomputable def oE(X:Cx)(pins:KN)(H:Hp)(b:Addr):Prop:=
 H b=none/\b≠X.env.locals/\b∉X.fs/\(b∈X.ex\/X.s₀.heap.objs.size<=b)/\(∀x c,X.env.cells.lookup x=some c->c≠b)/\∀p∈X.pn++pins,p.1≠b
theorem Inv.fpOk{X:Cx}{pins:KN}{σ:St}{H H':Hp}{s:KP}{b:Addr}(I:Inv X pins σ H s)(hb:s.heap.objs.size<=b)(hn:H' b=none):oE X pins H' b:=by
 refine⟨hn,Nat.ne_of_gt (J' I.lt hb),I.nofs hb,.inr (Km I.sz hb),λx c e z=>?_,λp hp z=>?_⟩
 ·obtain⟨v,q⟩:=I.cell x c e
  exact absurd (J' q.lt (by rw[z];exact hb)) (Kn _)
 ·exact absurd (J' (Kh (I.pin p hp).1) (by rw[z];exact hb)) (Kn _)
structure qy(P:KW)(w:K0)(K:KM)(tg:Expr)(J:It)(fp:KR)(it:Addr)(tn:Nat->Heap->Prop):Prop where
 mem:it∈fp
 obj:∀i h,tn i h->∀b∈fp,∃o,h.get? b=some o/\∀v,o.data≠.cell v
 keep:∀i h h',tn i h->(∀b∈fp,∀o,h.get? b=some o->h'.get? b=some o)->tn i h'
 item:∀(X:Cx),X.prog=P->X.w=w->X.K=K->X.calm=true->∀(i:Nat) (pins:KN) (s:KP) (σ:St) (H:Hp) (E:KL),Inv X pins σ H s->(∀b∈fp,oE X pins H b)->tn i s.heap->J.go i H ->
  wpAny (model P w) X.A (pyNext (.ref it)) (λr s1=>∃u,r=some u /\
   wpAny (model P w) X.A (letOwnedTupleGo tg (.ref it) u) (λ_ s2=>∃x H',Inv X pins σ H' s2/\bo x u/\J.yld i H x H'/\tn (i+1) s2.heap/\∀b∈fp,H' b=none) E s1) E s
 done:∀(X:Cx),X.prog=P->X.w=w->X.K=K->X.calm=true->∀(i:Nat) (pins:KN) (s:KP) (σ:St) (H:Hp) (E:KL),Inv X pins σ H s->(∀b∈fp,oE X pins H b)->tn i s.heap->J.stop i H ->
  wpAny (model P w) X.A (pyNext (.ref it)) (λr s1=>r=none/\Inv X pins σ H s1) E s
 self:∀(A:KZ) (i:Nat) (s:KP) (Q:KL) (E:KL),tn i s.heap->Q (.ref it) s->wpAny (model P w) A (pyIter (.ref it)) Q E s
noncomputable abbrev TI:=St->Hp->(It->Hp->Prop)->Prop
noncomputable def G7(X:Cx)(pins:KN)(σ:St)(tg:Expr)(R:It->Hp->Prop)(itv:Value)(s2:KP):Prop:=
 ∃(it:Addr) (fp:KR) (tn:Nat->Heap->Prop) (J:It) (H':Hp),itv=.ref it/\Inv X pins σ H' s2/\qy X.prog X.w X.K tg J fp it tn/\tn 0 s2.heap/\(∀b∈fp,oE X pins H' b)/\R J H'
noncomputable def PI(X:Cx)(tg iter:Expr)(wi:TI):Prop:=
 ∀(pins:KN) (s:KP) (σ:St) (H:Hp) (R:It->Hp->Prop),Inv X pins σ H s->wi σ H R ->
  wpAny (model X.prog X.w) X.A (eval iter X.env) (λv s1=>wpAny (model X.prog X.w) X.A (pyIter v) (G7 X pins σ tg R) X.xe s1) X.xe s
theorem vM{M:Model}{A:KZ}{E:KL}{s:KP}{tg:Expr}{it:Addr}{u:Value}{o:Obj}{n:String}{vs:Array Value}{Q:Unit->Shared->Prop}(ho:s.heap.get? it=some o)(hc:o.cls=.type n)(hd:o.data=.fields vs)
  (hn:["enumerate","zip","dict_itemiterator","dict_reverseitemiterator","odict_iterator","itertools.zip_longest","itertools.pairwise"].contains n=false) (hQ:Q () s):wpAny M A (letOwnedTupleGo tg (.ref it) u) Q E s:=by
 unfold letOwnedTupleGo;cases tg<;>first
  |exact wpAny_pure hQ
  | (cases u<;>first
    |exact wpAny_pure hQ
    | (refine wpAny_bind (wpAny_load ho ?_)
       rw[hc,hd];show wpAny M A (if(["enumerate","zip","dict_itemiterator","dict_reverseitemiterator","odict_iterator","itertools.zip_longest","itertools.pairwise"].contains n&&vs[0]?==some (rawInt _))=true then _ else _) Q E s;rw[if_neg (by intro h;rw[hn,Bool.false_and]at h;cases h)];exact wpAny_pure hQ))
noncomputable def Dk(K:KM)(a:Addr):It:=
 ⟨λi H=>∃xs x,aU K H a xs/\xs[i]?=some x,λi H x H'=>H'=H/\∀xs,aU K H a xs->xs[i]?=some x,λi H=>∃xs,aU K H a xs/\xs.length<=i⟩
noncomputable def El(K:KM)(a:Addr):It:=
 ⟨λi H=>∃xs x,ba K H a xs/\xs[i]?=some x,λi H x H'=>H'=H/\∀xs,ba K H a xs->xs[i]?=some x,λi H=>∃xs,ba K H a xs/\xs.length<=i⟩
noncomputable def AZ(lo:Int)(n:Nat):It:=⟨λi _=>i<n,λi H x H'=>H'=H/\x=.int (lo+i),λi _=>n<=i⟩
theorem AT{P:KW}{w:K0}{K:KM}{tg:Expr}(a it:Addr):qy P w K tg (Dk K a) [it] it (λi h=>h.IsListIter it a i) where
 mem:=by simp
 obj:=λi h st b hb=>by
  have e:b=it:=by simpa using hb
  subst e;obtain⟨o,e,c,d⟩:=st;exact⟨o,e,λv z=>by rw[d]at z;cases z⟩
 keep:=λi h h' st k=>st.at λo e=>k it (by simp) o e
 item:=by
  intro X hP hw hK hc i pins s σ H E I hf st hg;subst hP hw hK;obtain⟨xs,x,hq,hx⟩:=hg;obtain⟨its,rv,p,hz⟩:=I.list hq;obtain⟨u,hu,ru⟩:=rv.get hx;obtain⟨f0,f1,f2,f3,f4,f5⟩:=hf it (by simp);refine wpAny_pyNext_list_item st p.isList (x:=u) (by simpa using hu) λh' st' sb=>?_;have I1:Inv X pins σ H {s with heap:=h' }:=I.turned (t':=s.toks) (λb o hb e=>(sb.2 b hb).trans e) f0 f1 f3 f4 f5;obtain⟨o,e,c,d⟩:=id st';exact⟨u,rfl,vM (s:={s with heap:=h' }) e c d nofun ⟨x,H,I1,ru,⟨rfl,λys hy=>by rw[I.list_inj hy hq];exact hx⟩,st',λb hb=>(hf b hb).1⟩⟩
 done:=by
  intro X hP hw hK hc i pins s σ H E I hf st hg;subst hP hw hK;obtain⟨xs,hq,hx⟩:=hg;obtain⟨its,rv,p,hz⟩:=I.list hq;obtain⟨f0,f1,f2,f3,f4,f5⟩:=hf it (by simp);have hl:=rv.length;exact wpAny_pyNext_list_end (I.ok.hd hc) st p.isList (by simp;omega) λh' eb=>⟨rfl,I.turned (t':=s.toks) (λb o hb e=>eb b o hb e) f0 f1 f3 f4 f5⟩
 self:=λ_ _ _ _ _ st h=>wpAny_pyIter_listiter st h
theorem xC{P:KW}{w:K0}{K:KM}{tg:Expr}(a it:Addr):qy P w K tg (El K a) [it] it (λi h=>h.IsTupleIter it a i) where
 mem:=by simp
 obj:=λi h st b hb=>by
  have e:b=it:=by simpa using hb
  subst e;obtain⟨o,e,c,d⟩:=st;exact⟨o,e,λv z=>by rw[d]at z;cases z⟩
 keep:=λi h h' st k=>st.at λo e=>k it (by simp) o e
 item:=by
  intro X hP hw hK hc i pins s σ H E I hf st hg;subst hP hw hK;obtain⟨xs,x,hq,hx⟩:=hg;obtain⟨its,rv,p,hz⟩:=I.tuple hq;obtain⟨u,hu,ru⟩:=rv.get hx;obtain⟨f0,f1,f2,f3,f4,f5⟩:=hf it (by simp);refine wpAny_pyNext_tuple_item st (show s.heap.IsTuple a its.toArray from p) (x:=u) (by simpa using hu) λh' st' sb=>?_;have I1:Inv X pins σ H {s with heap:=h' }:=I.turned (t':=s.toks) (λb o hb e=>(sb.2 b hb).trans e) f0 f1 f3 f4 f5;obtain⟨o,e,c,d⟩:=id st';exact⟨u,rfl,vM (s:={s with heap:=h' }) e c d nofun ⟨x,H,I1,ru,⟨rfl,λys hy=>by rw[I.tuple_inj hy hq];exact hx⟩,st',λb hb=>(hf b hb).1⟩⟩
 done:=by
  intro X hP hw hK hc i pins s σ H E I hf st hg;subst hP hw hK;obtain⟨xs,hq,hx⟩:=hg;obtain⟨its,rv,p,hz⟩:=I.tuple hq;obtain⟨f0,f1,f2,f3,f4,f5⟩:=hf it (by simp);have hl:=rv.length;exact wpAny_pyNext_tuple_end (I.ok.hd hc) st (show s.heap.IsTuple a its.toArray from p) (by simp;omega) λh' eb=>⟨rfl,I.turned (t':=s.toks) (λb o hb e=>eb b o hb e) f0 f1 f3 f4 f5⟩
 self:=λ_ _ _ _ _ st h=>wpAny_pyIter_tupleiter st h
theorem wP{P:KW}{w:K0}{K:KM}{tg:Expr}(it:Addr)(lo:Int)(n:Nat):qy P w K tg (AZ lo n) [it] it (λi h=>IsRangeIter h it (lo+(i:Nat)*1) ((n:Int)-(i:Nat)) 1) where
 mem:=by simp
 obj:=λi h st b hb=>by
  have e:b=it:=by simpa using hb
  subst e;exact⟨_,st,λv z=>by
   have z':Data.fields _=Data.cell v:=z;cases z'⟩
 keep:=λi h h' st k=>k it (by simp) _ st
 item:=by
  intro X hP hw hK hc i pins s σ H E I hf st hg;subst hP hw hK;obtain⟨f0,f1,f2,f3,f4,f5⟩:=hf it (by simp);have W:=Walks.range (prog:=X.prog) (w:=X.w) (I.ok.hd hc) it lo 1 n;refine W.item i s _ _ hg st λv h' tk hv st' kk=>?_;obtain⟨t,rfl⟩:=hv;have I1:Inv X pins σ H {s with heap:=h',toks:=tk}:=I.turned (λb o hb e=>kk b o (by simpa using hb) e) f0 f1 f3 f4 f5;refine⟨_,rfl,vM (s:={s with heap:=h',toks:=tk}) (n:="range_iterator") st' rfl rfl nofun ⟨.int (lo+i),H,I1,⟨t,?_⟩,⟨rfl,rfl⟩,st',λb hb=>(hf b hb).1⟩⟩;rw[Int.mul_one]
 done:=by
  intro X hP hw hK hc i pins s σ H E I hf st hg;subst hP hw hK;obtain⟨f0,f1,f2,f3,f4,f5⟩:=hf it (by simp);exact wpAny_pyNext_range_end (I.ok.hd hc) st (by have:n<=i:=hg;omega) λh' eb=>⟨rfl,I.turned (t':=s.toks) (λb o hb e=>eb b o hb e) f0 f1 f3 f4 f5⟩
 self:=λ_ _ _ _ _ st h=>wpAny_pyIter_rangeiter st h
section
variable {X:Cx}{tg:Expr}
noncomputable def Bh(K:KM)(tl:TE):TI:=λσ H R=>tl σ H λx H1=>∃a,x=.ref a/\(∃xs,aU K H1 a xs)/\R (Dk K a) H1
noncomputable def Ff(K:KM)(tl:TE):TI:=λσ H R=>tl σ H λx H1=>∃a,x=.ref a/\(∃xs,ba K H1 a xs)/\R (El K a) H1
theorem cD{l:Expr}{tl:TE}(hl:PE X l tl):PI X tg l (Bh X.K tl):=by
 intro pins s σ H R I h;refine bX (hl pins s σ H _ I h) λv s1 ⟨x,H1,I1,r1,q1⟩=>?_;obtain⟨a,e,⟨xs,hq⟩,q⟩:=q1;subst e;cases r1;obtain⟨its,rv,p,hz⟩:=I1.list hq;refine wpAny_pyIter_list p.isList ?_;refine⟨s1.heap.objs.size,[s1.heap.objs.size],_,_,H1,rfl,I1.kept (t':=s1.toks) λb o e=>JT _ e,AT a _,⟨_,JZ _ rfl,rfl,rfl⟩,λb hb=>?_,q⟩;have e:b=s1.heap.objs.size:=by simpa using hb
 subst e;exact I1.fpOk (Ke _) (I1.hok.fresh (Ke _))
theorem sM{l:Expr}{tl:TE}(hl:PE X l tl):PI X tg l (Ff X.K tl):=by
 intro pins s σ H R I h;refine bX (hl pins s σ H _ I h) λv s1 ⟨x,H1,I1,r1,q1⟩=>?_;obtain⟨a,e,⟨xs,hq⟩,q⟩:=q1;subst e;cases r1;obtain⟨its,rv,p,hz⟩:=I1.tuple hq;refine wpAny_pyIter_tuple (show s1.heap.IsTuple a its.toArray from p) ?_;refine⟨s1.heap.objs.size,[s1.heap.objs.size],_,_,H1,rfl,I1.kept (t':=s1.toks) λb o e=>JT _ e,xC a _,⟨_,JZ _ rfl,rfl,rfl⟩,λb hb=>?_,q⟩;have e:b=s1.heap.objs.size:=by simpa using hb
 subst e;exact I1.fpOk (Ke _) (I1.hok.fresh (Ke _))
theorem vi{pins:KN}{σ:St}{H:Hp}{s:KP}{R:It->Hp->Prop}{E:KL}{lo hi:Int}{t u v:Tok}{tk:Nat}(I:Inv X pins σ H s)(h1:-(2 ^ 62)<=lo)(h2:lo<2 ^ 62)(h3:-(2 ^ 62)<=hi)(h4:hi<2 ^ 62)
  (q:R (AZ lo (hi-lo).toNat) H):wpAny (model X.prog X.w) X.A (pyIter (.ref s.heap.objs.size)) (G7 X pins σ tg R) E {s with heap:=s.heap.push {cls:=.type "range",data:=.fields #[.int lo t,.int hi u,.int 1 v]},toks:=tk}:=by
 refine wpAny_pyIter_range (IsRange.new ..) (small_one h1 h2 h3 h4) ?_;have I1:Inv X pins σ H {s with heap:=s.heap.push {cls:=.type "range",data:=.fields #[.int lo t,.int hi u,.int 1 v]},toks:=tk}:=I.kept λb o e=>JT _ e;refine⟨(s.heap.push {cls:=.type "range",data:=.fields #[.int lo t,.int hi u,.int 1 v]}).objs.size,[(s.heap.push {cls:=.type "range",data:=.fields #[.int lo t,.int hi u,.int 1 v]}).objs.size],_,_,H,rfl,
  I1.kept (t':=tk) λb o e=>JT _ e,wP _ lo (hi-lo).toNat,?_,λb hb=>?_,q⟩
 ·have e1:lo+((0:Nat):Int)*1=lo:=by simp
  have e2:(((hi-lo).toNat:Nat):Int)-((0:Nat):Int)=Builtin.Range.rangeSize lo hi 1:=by rw[rangeSize_one];split<;>omega
  show IsRangeIter _ _ (lo+((0:Nat):Int)*1) ((((hi-lo).toNat:Nat):Int)-((0:Nat):Int)) 1;rw[e1,e2];exact JZ _ rfl
 ·have e:b=(s.heap.push {cls:=.type "range",data:=.fields #[.int lo t,.int hi u,.int 1 v]}).objs.size:=by simpa using hb
  subst e;exact I1.fpOk (Ke _) (I1.hok.fresh (Ke _))
noncomputable def BJ(ta:TA):TI:=λσ H R=>ta σ H λvs H1=>∃j:Int,vs=[.int j]/\-(2 ^ 62)<=j/\j<2 ^ 62/\R (AZ 0 j.toNat) H1
noncomputable def Bw(ta:TA):TI:=λσ H R=>ta σ H λvs H1=>∃i j:Int,vs=[.int i,.int j]/\(-(2 ^ 62)<=i/\i<2 ^ 62/\-(2 ^ 62)<=j/\j<2 ^ 62)/\R (AZ i (j-i).toNat) H1
theorem eS{a:Expr}{ta:TA}{p pos:Pos}(hg:Gl X "range")(hm:X.mg "range"=none)(ha:PA X [a] ta)(hs:autoParam (starEach [a] X.env=[(false,eval a X.env)]) zzR._auto_1):PI X tg (.Call (.Name "range" p) [a] [] pos) (BJ ta):=by
 intro pins s σ H R I h;refine Call_ (eV I hg hm boot_range (PyProof.Rows.callWith_type1 (bX (ha pos pins s σ H _ I h) λus s1 ⟨vs,H1,I1,r1,q1⟩=>?_) hs rfl));obtain⟨j,e,q1,q2,q⟩:=q1;subst e;cases r1 with
 |cons r rr=>
  cases rr;obtain⟨t,rfl⟩:=r;exact call_range_1 (vi I1 ⋯ ⋯ q1 q2 (by simpa using q))
theorem io{a b:Expr}{ta:TA}{p pos:Pos}(hg:Gl X "range")(hm:X.mg "range"=none)(ha:PA X [a,b] ta)(hs:autoParam (starEach [a,b] X.env=[(false,eval a X.env),(false,eval b X.env)]) zzR._auto_1)(hs2:autoParam (starEach [b] X.env=[(false,eval b X.env)]) zzR._auto_1) :
  PI X tg (.Call (.Name "range" p) [a,b] [] pos) (Bw ta):=by
 intro pins s σ H R I h;refine Call_ (eV I hg hm boot_range (PyProof.Rows.callWith_type1 (bX (ha pos pins s σ H _ I h) λus s1 ⟨vs,H1,I1,r1,q1⟩=>?_) (by rw[hs,hs2]) (by rw[hs2];rfl)));obtain⟨i,j,e,⟨q1,q2,q3,q4⟩,q⟩:=q1;subst e;cases r1 with
 |cons r rr=>
  cases rr with
  |cons r' rr=>
   cases rr;obtain⟨t,rfl⟩:=r;obtain⟨t',rfl⟩:=r';exact call_range_2 (vi I1 q1 q2 q3 q4 q)
noncomputable def GE(wi:TI)(g:TG)(tb:TS):TS:=λD σ H=>wi σ H λJ H1=>∃W:Nat->Nat->St->Hp->Prop,(∃m,W 0 m σ H1)/\∀i m σ H,W i m σ H ->
 (J.stop i H/\D.nx σ H)\/(J.go i H/\∃N:St->Hp->Prop,(∀σ' H',N σ' H'->∃m',m'<m/\W (i+1) m' σ' H')/\∀x H',J.yld i H x H'->g x σ H' λσ2 H2=>tb {D with nx:=N,ct:=N,bk:=D.nx} σ2 H2)
noncomputable def pM(fp:KR)(h:Heap):List (Addr×Obj):=fp.filterMap λb=>(h.get? b).map λo=>(b,o)
theorem iy{fp:KR}{h:Heap}{b:Addr}{o:Obj}(hb:b∈fp)(e:h.get? b=some o):(b,o)∈pM fp h:=List.mem_filterMap.mpr ⟨b,hb,by rw[e];rfl⟩
theorem yZ{fp:KR}{h:Heap}{p:Addr×Obj}(hp:p∈pM fp h):p.1∈fp/\h.get? p.1=some p.2:=by
 obtain⟨b,hb,e⟩:=List.mem_filterMap.mp hp;cases q:h.get? b with
 |none=>rw[q]at e;cases e
 |some o=>
  rw[q]at e;have e':(b,o)=p:=Option.some.inj e;subst e';exact⟨hb,q⟩
theorem Inv.pinned{pins:KN}{σ:St}{H:Hp}{s:KP}{fp:KR}(I:Inv X pins σ H s)(hf:∀b∈fp,oE X pins H b)(ho:∀b∈fp,∃o,s.heap.get? b=some o/\∀v,o.data≠.cell v):Inv X (pins++pM fp s.heap) σ H s:=
 I.pins_of λp hp=>(J6.mp hp).elim (λz=>I.pin p (List.mem_append_right _ z)) λz=>by
  obtain⟨hb,e⟩:=yZ z;obtain⟨f0,f1,f2,_⟩:=hf p.1 hb;obtain⟨o,e',d⟩:=ho p.1 hb;rw[e]at e';cases e'
  exact⟨e,f0,f1,f2,d⟩
theorem Inv.unpinned{pins pl:KN}{σ:St}{H:Hp}{s:KP}(I:Inv X (pins++pl) σ H s):Inv X pins σ H s:=I.pins_of λp hp=>I.pin p (List.mem_append_right _ (List.mem_append_left _ hp))
theorem Fx{iter:Expr}{body:List Stmt}{wi:TI}{g:TG}{tb:TS}{pos:Pos}(hp:PassesOwn (model X.prog X.w) X.A X.env X.xe)(hc:X.calm=true)(hi:PI X tg iter wi)(hg:PG X tg g)(hb:vU X body tb)
  (hs:∀x,foldedSetIterable iter X.env x=pure x:=by intro _;rfl):PS X (.For tg iter body [] pos) (GE wi g tb):=by
 intro pins s σ H D I h;refine wpAny_For (bX (hi pins s σ H _ I h) λv s1 h1=>bX h1 λitv s2 h2=>?_) hs;obtain⟨it,fp,tn,J,H2,e,I2,T,st2,f2,W,⟨m0,w0⟩,turn⟩:=h2;subst e
 -- what stays true of the iterator's objects through the loop
 have stat:∀{H':Hp},(∀b∈fp,H' b=none)->∀b∈fp,oE X pins H' b:=λhn b hb=>⟨hn b hb,(f2 b hb).2⟩;refine codeAny_forLoop_any (λn s'=>∃i σ' H',Inv X pins σ' H' s'/\tn i s'.heap/\(∀b∈fp,H' b=none)/\W i n σ' H') ?_ m0 ⟨0,σ,H2,I2,st2,λb hb=>(f2 b hb).1,w0⟩;rintro n s3 ⟨i,σ3,H3,I3,st3,fr3,w3⟩;rcases turn i n σ3 H3 w3 with⟨stop,qn⟩ | ⟨go,N,hN,step⟩
 ·refine wpAny_passesOwn hp (bX (T.done X rfl rfl rfl hc i pins s3 σ3 H3 X.xe I3 (stat fr3) st3 stop) λr s4 ⟨hr,I4⟩=>?_)
  subst hr;exact wpAny_execs_nil ⟨σ3,H3,I4,qn⟩
 ·refine wpAny_passesOwn hp (bX (T.item X rfl rfl rfl hc i pins s3 σ3 H3 X.xe I3 (stat fr3) st3 go) λr s4 ⟨u,hr,h4⟩=>?_)
  subst hr;refine wpAny_passesOwn hp (bX h4 λ_ s5 ⟨x,H5,I5,r5,y5,st5,fr5⟩=>?_);have I5':=I5.pinned (stat fr5) (T.obj _ _ st5);refine wpAny_passesOwn hp (bX (hg _ s5 σ3 H5 x u _ I5' r5 (step x H5 y5)) λ_ s6 ⟨σ6,H6,I6,q6⟩=>?_);refine wpAny_passesOwn hp (bX (hb _ s6 σ6 H6 _ I6 q6) λf s7 q7=>?_);have again:∀{σ7:St} {H7:Hp},Inv X (pins++pM fp s5.heap) σ7 H7 s7->N σ7 H7->∃m,m<n/\∃i σ' H',Inv X pins σ' H' s7/\tn i s7.heap/\(∀b∈fp,H' b=none)/\W i m σ' H':=fun{σ7 H7} I7 n7=>by
   obtain⟨m',hm,w7⟩:=hN σ7 H7 n7;refine⟨m',hm,i+1,σ7,H7,I7.unpinned,T.keep _ _ _ st5 λb hb o e=>(I7.pin (b,o) (List.mem_append_right _ (List.mem_append_right _ (iy hb e)))).1,λb hb=>?_,w7⟩;obtain⟨o,e,d⟩:=T.obj _ _ st5 b hb;exact(I7.pin (b,o) (List.mem_append_right _ (List.mem_append_right _ (iy hb e)))).2.1
  cases f with
  |next=>obtain⟨σ7,H7,I7,n7⟩:=q7;exact again I7 n7
  |cont=>obtain⟨σ7,H7,I7,n7⟩:=q7;exact again I7 n7
  |brk=>obtain⟨σ7,H7,I7,q7⟩:=q7;exact⟨σ7,H7,I7.unpinned,q7⟩
  |ret v=>obtain⟨x7,σ7,H7,I7,r7,q7⟩:=q7;exact⟨x7,σ7,H7,I7.unpinned,r7,q7⟩
end
theorem CM{K:KM}{a:Addr}{xs:List V}{g:TG}{tb:TS}{D:iP}{σ:St}{H:Hp}(Pv:Nat->St->Hp->Prop)(h0:Pv 0 σ H)(hl:∀i σ H,i<=xs.length->Pv i σ H->aU K H a xs)
  (hs:∀i x σ H,xs[i]?=some x->Pv i σ H->g x σ H λσ2 H2=>tb {D with nx:=Pv (i+1),ct:=Pv (i+1),bk:=D.nx} σ2 H2) (hd:∀σ H,Pv xs.length σ H->D.nx σ H) :
  ∃W:Nat->Nat->St->Hp->Prop,(∃m,W 0 m σ H)/\∀i m σ H,W i m σ H ->
   ((Dk K a).stop i H/\D.nx σ H)\/((Dk K a).go i H/\∃N:St->Hp->Prop,(∀σ' H',N σ' H'->∃m',m'<m/\W (i+1) m' σ' H')/\∀x H',(Dk K a).yld i H x H'->g x σ H' λσ2 H2=>tb {D with nx:=N,ct:=N,bk:=D.nx} σ2 H2):=by
 refine⟨λi m σ H=>m=xs.length-i/\i<=xs.length/\Pv i σ H,⟨xs.length,by simp,Kf _,h0⟩,?_⟩;rintro i m σ H ⟨rfl,hi,p⟩;have q:=hl i σ H hi p
 by_cases hlt:i<xs.length
 ·refine .inr ⟨⟨xs,xs[i],q,by simp[hlt]⟩,Pv (i+1),λσ' H' p'=>⟨xs.length-(i+1),⋯,rfl,hlt,p'⟩,λx H' y=>?_⟩
  obtain⟨e,y⟩:=y;subst e;exact hs i x σ _ (y xs q) p
 ·have e:i=xs.length:=by omega
  subst e;exact .inl ⟨⟨xs,q,Ke _⟩,hd σ H p⟩
theorem DD{K:KM}{a:Addr}{xs:List V}{g:TG}{tb:TS}{D:iP}{σ:St}{H:Hp}(Pv:Nat->St->Hp->Prop)(h0:Pv 0 σ H)(hl:∀i σ H,i<=xs.length->Pv i σ H->ba K H a xs)
  (hs:∀i x σ H,xs[i]?=some x->Pv i σ H->g x σ H λσ2 H2=>tb {D with nx:=Pv (i+1),ct:=Pv (i+1),bk:=D.nx} σ2 H2) (hd:∀σ H,Pv xs.length σ H->D.nx σ H) :
  ∃W:Nat->Nat->St->Hp->Prop,(∃m,W 0 m σ H)/\∀i m σ H,W i m σ H ->
   ((El K a).stop i H/\D.nx σ H)\/((El K a).go i H/\∃N:St->Hp->Prop,(∀σ' H',N σ' H'->∃m',m'<m/\W (i+1) m' σ' H')/\∀x H',(El K a).yld i H x H'->g x σ H' λσ2 H2=>tb {D with nx:=N,ct:=N,bk:=D.nx} σ2 H2):=by
 refine⟨λi m σ H=>m=xs.length-i/\i<=xs.length/\Pv i σ H,⟨xs.length,by simp,Kf _,h0⟩,?_⟩;rintro i m σ H ⟨rfl,hi,p⟩;have q:=hl i σ H hi p
 by_cases hlt:i<xs.length
 ·refine .inr ⟨⟨xs,xs[i],q,by simp[hlt]⟩,Pv (i+1),λσ' H' p'=>⟨xs.length-(i+1),⋯,rfl,hlt,p'⟩,λx H' y=>?_⟩
  obtain⟨e,y⟩:=y;subst e;exact hs i x σ _ (y xs q) p
 ·have e:i=xs.length:=by omega
  subst e;exact .inl ⟨⟨xs,q,Ke _⟩,hd σ H p⟩
theorem Au{lo:Int}{n:Nat}{g:TG}{tb:TS}{D:iP}{σ:St}{H:Hp}(Pv:Nat->St->Hp->Prop)(h0:Pv 0 σ H)
  (hs:∀i σ H,i<n->Pv i σ H->g (.int (lo+i)) σ H λσ2 H2=>tb {D with nx:=Pv (i+1),ct:=Pv (i+1),bk:=D.nx} σ2 H2) (hd:∀σ H,Pv n σ H->D.nx σ H) :
  ∃W:Nat->Nat->St->Hp->Prop,(∃m,W 0 m σ H)/\∀i m σ H,W i m σ H ->
   ((AZ lo n).stop i H/\D.nx σ H)\/((AZ lo n).go i H/\∃N:St->Hp->Prop,(∀σ' H',N σ' H'->∃m',m'<m/\W (i+1) m' σ' H')/\∀x H',(AZ lo n).yld i H x H'->g x σ H' λσ2 H2=>tb {D with nx:=N,ct:=N,bk:=D.nx} σ2 H2):=by
 refine⟨λi m σ H=>m=n-i/\i<=n/\Pv i σ H,⟨n,by simp,Kf _,h0⟩,?_⟩;rintro i m σ H ⟨rfl,hi,p⟩
 by_cases hlt:i<n
 ·refine .inr ⟨hlt,Pv (i+1),λσ' H' p'=>⟨n-(i+1),⋯,rfl,hlt,p'⟩,λx H' y=>?_⟩
  obtain⟨e,y⟩:=y;subst e y;exact hs i σ _ hlt p
 ·have e:i=n:=by omega
  subst e;exact .inl ⟨Ke _,hd σ H p⟩
noncomputable abbrev R2:=V->V->Hp->VK->Prop
noncomputable def bf(X:Cx)(f:Value->Value->Sem Value)(r:R2):Prop:=
 ∀(pins:KN) (s:KP) (σ:St) (H:Hp) (x y:V) (v u:Value) (Q:VK),Inv X pins σ H s->bo x v->bo y u->r x y H Q ->
  wpAny (model X.prog X.w) X.A (f v u) (EP X pins σ Q) X.xe s
noncomputable def GI(X:Cx)(f:Value->Sem Value)(r:V->Hp->VK->Prop):Prop:=
 ∀(pins:KN) (s:KP) (σ:St) (H:Hp) (x:V) (v:Value) (Q:VK),Inv X pins σ H s->bo x v->r x H Q ->
  wpAny (model X.prog X.w) X.A (f v) (EP X pins σ Q) X.xe s
noncomputable def im(X:Cx)(f:Value)(r:List V->Hp->VK->Prop):Prop:=
 ∀(pins:KN) (s:KP) (σ:St) (H:Hp) (xs:List V) (us:KQ) (Q:VK),Inv X pins σ H s->bj xs us->r xs H Q ->
  wpAny (model X.prog X.w) X.A (call f us) (EP X pins σ Q) X.xe s
noncomputable def Fj(r:R2)(ta tb:TE):TE:=λσ H Q=>ta σ H λx H1=>tb σ H1 λy H2=>r x y H2 Q
noncomputable def GZ(r:V->Hp->VK->Prop)(ta:TE):TE:=λσ H Q=>ta σ H λx H1=>r x H1 Q
noncomputable def rI(C:Int->Int->Prop)(g:Int->Int->V):R2:=λx y H Q=>∃i j,x=.int i/\y=.int j/\C i j/\Q (g i j) H
noncomputable def Ab(g:Int->Int->V):R2:=λx y H Q=>∃i j,x=.int i/\y=.int j/\Q (g i j) H
noncomputable def rU(g:Int->V):V->Hp->VK->Prop:=λx H Q=>∃i,x=.int i/\Q (g i) H
section
variable {X:Cx}{a b c:Expr}{ta tb tc:TE}{pos:Pos}
theorem EY(ha:PE X a ta)(hb:PE X b tb){pins:KN}{s:KP}{σ:St}{H:Hp}{R:V->V->Hp->Prop}(I:Inv X pins σ H s)
  (h:ta σ H λx H1=>tb σ H1 λy H2=>R x y H2) {Q:KL} {f:Value->Value->Sem Value}
  (hf:∀v u s2 x y H2,Inv X pins σ H2 s2->bo x v->bo y u->R x y H2->wpAny (model X.prog X.w) X.A (f v u) Q X.xe s2) :
  wpAny (model X.prog X.w) X.A (eval a X.env) (λv s₁=>wpAny (model X.prog X.w) X.A (eval b X.env) (λu s₂=>wpAny (model X.prog X.w) X.A (f v u) Q X.xe s₂) X.xe s₁) X.xe s:=by
 refine bX (ha pins s σ H _ I h) λv s1 ⟨x,H1,I1,r1,q1⟩=>?_;refine bX (hb pins s1 σ H1 _ I1 q1) λu s2 ⟨y,H2,I2,r2,q2⟩=>?_;exact hf v u s2 x y H2 I2 r1 r2 q2
theorem ay{op:Operator}{r:R2}(ho:bf X (binaryOp op) r)(ha:PE X a ta)(hb:PE X b tb):PE X (.BinOp a op b pos) (Fj r ta tb):=by
 intro pins s σ H Q I h;exact wpAny_BinOp (EY ha hb I h λv u s2 x y H2 I2 rx ry q=>ho pins s2 σ H2 x y v u Q I2 rx ry q)
theorem FO{op:UnaryOp}{r:V->Hp->VK->Prop}(ho:GI X (unaryOp op) r)(ha:PE X a ta):PE X (.UnaryOp op a pos) (GZ r ta):=by
 intro pins s σ H Q I h;exact UnaryOp_ (bX (ha pins s σ H _ I h) λv s1 ⟨x,H1,I1,r1,q1⟩=>ho pins s1 σ H1 x v Q I1 r1 q1)
theorem Gh{f:Value->Value->Sem Value}{C:Int->Int->Prop}{g:Int->Int->Int}
  (rule:∀(i j:Int) (t u:Tok) (s:KP) (Q:KL) (E:KL),C i j->Q (.int (g i j) s.toks) {s with toks:=s.toks+1}->wpAny (model X.prog X.w) X.A (f (.int i t) (.int j u)) Q E s) :
  bf X f (rI C λi j=>.int (g i j)):=by
 intro pins s σ H x y v u Q I rx ry h;obtain⟨i,j,rfl,rfl,hc,q⟩:=h;obtain⟨t,rfl⟩:=rx;obtain⟨t',rfl⟩:=ry;exact rule i j t t' s _ _ hc ⟨.int (g i j),H,I.tok _,⟨_,rfl⟩,q⟩
theorem FN{f:Value->Value->Sem Value}{g:Int->Int->Int}
  (rule:∀(i j:Int) (t u:Tok) (s:KP) (Q:KL) (E:KL),Q (.int (g i j) s.toks) {s with toks:=s.toks+1}->wpAny (model X.prog X.w) X.A (f (.int i t) (.int j u)) Q E s) :
  bf X f (Ab λi j=>.int (g i j)):=by
 intro pins s σ H x y v u Q I rx ry h;obtain⟨i,j,rfl,rfl,q⟩:=h;obtain⟨t,rfl⟩:=rx;obtain⟨t',rfl⟩:=ry;exact rule i j t t' s _ _ ⟨.int (g i j),H,I.tok _,⟨_,rfl⟩,q⟩
theorem DR{f:Value->Value->Sem Value}{g:Int->Int->Bool}
  (rule:∀(i j:Int) (t u:Tok) (s:KP) (Q:KL) (E:KL),Q (.bool (g i j)) s->wpAny (model X.prog X.w) X.A (f (.int i t) (.int j u)) Q E s) :
  bf X f (Ab λi j=>.bl (g i j)):=by
 intro pins s σ H x y v u Q I rx ry h;obtain⟨i,j,rfl,rfl,q⟩:=h;obtain⟨t,rfl⟩:=rx;obtain⟨t',rfl⟩:=ry;exact rule i j t t' s _ _ ⟨.bl (g i j),H,I,rfl,q⟩
noncomputable def C4(i j:Int):Prop:=(-(2 ^ 64)<i/\i<2 ^ 64)\/(-(2 ^ 64)<j/\j<2 ^ 64)
theorem C4.ok{i j:Int}(h:C4 i j):IntMulOk i j:=by
 rcases h with⟨h1,h2⟩ | ⟨h1,h2⟩
 ·exact .of_left (intBits_le_64 h1 h2)
 ·exact .of_right (intBits_le_64 h1 h2)
theorem bL:bf X (binaryOp .Add) (Ab λi j=>.int (i+j)):=FN λ_ _ _ _ _ _ _ q=>add_int q
theorem d_:bf X (binaryOp .Sub) (Ab λi j=>.int (i-j)):=FN λ_ _ _ _ _ _ _ q=>sub_int q
theorem eX:bf X (binaryOp .Mult) (rI C4 λi j=>.int (i*j)):=Gh λ_ _ _ _ _ _ _ hc q=>mul_int q hc.ok
theorem bH:bf X (binaryOp .Mod) (rI (λ_ j=>0<j) λi j=>.int (i%j)):=Gh λi j _ _ _ _ _ hc q=>by
 have h1:(0:Int)<j:=hc;exact mod_int' ⋯ (by rw[Int.fmod_eq_emod_of_nonneg i ⋯];exact q)
theorem IC{f:Value->Sem Value}{g:Int->Int}
  (rule:∀(i:Int) (t:Tok) (s:KP) (Q:KL) (E:KL),Q (.int (g i) s.toks) {s with toks:=s.toks+1}->wpAny (model X.prog X.w) X.A (f (.int i t)) Q E s) :
  GI X f (rU λi=>.int (g i)):=by
 intro pins s σ H x v Q I rx h;obtain⟨i,rfl,q⟩:=h;obtain⟨t,rfl⟩:=rx;exact rule i t s _ _ ⟨.int (g i),H,I.tok _,⟨_,rfl⟩,q⟩
theorem FA:GI X (unaryOp .USub) (rU λi=>.int (-i)):=IC λ_ _ _ _ _ q=>neg_int q
end
noncomputable def Ef:V->V->Bool
 | .non,.non=>true | .non,.int _=>true | .int _,.non=>true | .non,.bl _=>true | .bl _,.non=>true | .non,.str _=>true | .str _,.non=>true
 | .int _,.int _=>true | .bl _,.bl _=>true | .str _,.str _=>true | .byt _,.byt _=>true
 | .int _,.str _=>true | .str _,.int _=>true | .bl _,.str _=>true | .str _,.bl _=>true
 |_,_=>false
noncomputable def GJ:R2:=λx y H Q=>Ef x y=true/\Q (.bl (decide (x=y))) H
noncomputable def GK:R2:=λx y H Q=>Ef x y=true/\Q (.bl (!decide (x=y))) H
theorem yp{i j:Int}:decide (V.int i=V.int j)=(i==j):=by
 rw[Bool.eq_iff_iff];simp
theorem Bj{i j:Bool}:decide (V.bl i=V.bl j)=(i==j):=by
 rw[Bool.eq_iff_iff];simp
theorem yD{i j:Str}:decide (V.str i=V.str j)=(i==j):=by
 rw[Bool.eq_iff_iff];simp
theorem yv{i j:Array UInt8}:decide (V.byt i=V.byt j)=(i.toList==j.toList):=by
 rw[Bool.eq_iff_iff];cases i;cases j;simp
section
variable {X:Cx}{a b c:Expr}{ta tb tc:TE}{pos:Pos}
theorem bp{pins:KN}{σ:St}{H:Hp}{s:KP}{Q:VK}{k k':Bool}(I:Inv X pins σ H s)(q:Q (.bl k) H)(e:k=k'):EP X pins σ Q (.bool k') s:=by
 subst e;exact⟨.bl k,H,I,rfl,q⟩
theorem ij:bf X (compareOp .Eq) GJ:=by
 intro pins s σ H x y v u Q I rx ry h;obtain⟨hs,q⟩:=h;cases x with
 |non=>
  cases rx;cases y with
  |non=>cases ry;exact PySem.EqNone.eq_none_none (bp I q (by simp))
  |bl j=>cases ry;exact PySem.EqNone.eq_none_bool (bp I q (by simp))
  |int j=>obtain⟨t',rfl⟩:=ry;exact PySem.EqNone.eq_none_int (bp I q (by simp))
  |str j=>obtain⟨t',rfl⟩:=ry;exact PySem.EqNone.eq_none_str (bp I q (by simp))
  |_=>exact absurd (show false=true from hs) Kg
 |bl i=>
  cases rx;cases y with
  |non=>cases ry;exact PySem.EqNone.eq_bool_none (bp I q (by simp))
  |bl j=>cases ry;exact eq_bool (bp I q Bj)
  |str j=>obtain⟨t',rfl⟩:=ry;exact PySem.EqMixed.eq_bool_str (bp I q (by simp))
  |_=>exact absurd (show false=true from hs) Kg
 |int i=>
  obtain⟨t,rfl⟩:=rx;cases y with
  |non=>cases ry;exact PySem.EqNone.eq_int_none (bp I q (by simp))
  |int j=>obtain⟨t',rfl⟩:=ry;exact eq_int (bp I q yp)
  |str j=>obtain⟨t',rfl⟩:=ry;exact PySem.EqMixed.eq_int_str (bp I q (by simp))
  |_=>exact absurd (show false=true from hs) Kg
 |str i=>
  obtain⟨t,rfl⟩:=rx;cases y with
  |non=>cases ry;exact PySem.EqNone.eq_str_none (bp I q (by simp))
  |bl j=>cases ry;exact PySem.EqMixed.eq_str_bool (bp I q (by simp))
  |int j=>obtain⟨t',rfl⟩:=ry;exact PySem.EqMixed.eq_str_int (bp I q (by simp))
  |str j=>obtain⟨t',rfl⟩:=ry;exact eq_str (bp I q yD)
  |_=>exact absurd (show false=true from hs) Kg
 |byt i=>
  obtain⟨t,rfl⟩:=rx;cases y with
  |byt j=>obtain⟨t',rfl⟩:=ry;exact PySem.W.eq_bytes (bp I q yv)
  |_=>exact absurd (show false=true from hs) Kg
 |_=>cases y<;>exact absurd (show false=true from hs) Kg
theorem pT:bf X (compareOp .NotEq) GK:=by
 intro pins s σ H x y v u Q I rx ry h;obtain⟨hs,q⟩:=h;cases x with
 |non=>
  cases rx;cases y with
  |non=>cases ry;exact PySem.EqNone.ne_none_none (bp I q (by simp))
  |bl j=>cases ry;exact PySem.EqNone.ne_none_bool (bp I q (by simp))
  |int j=>obtain⟨t',rfl⟩:=ry;exact PySem.EqNone.ne_none_int (bp I q (by simp))
  |str j=>obtain⟨t',rfl⟩:=ry;exact PySem.EqNone.ne_none_str (bp I q (by simp))
  |_=>exact absurd (show false=true from hs) Kg
 |bl i=>
  cases rx;cases y with
  |non=>cases ry;exact PySem.EqNone.ne_bool_none (bp I q (by simp))
  |bl j=>cases ry;exact ne_bool (bp I q (congrArg not Bj))
  |str j=>obtain⟨t',rfl⟩:=ry;exact PySem.EqMixed.ne_bool_str (bp I q (by simp))
  |_=>exact absurd (show false=true from hs) Kg
 |int i=>
  obtain⟨t,rfl⟩:=rx;cases y with
  |non=>cases ry;exact PySem.EqNone.ne_int_none (bp I q (by simp))
  |int j=>obtain⟨t',rfl⟩:=ry;exact ne_int (bp I q (congrArg not yp))
  |str j=>obtain⟨t',rfl⟩:=ry;exact PySem.EqMixed.ne_int_str (bp I q (by simp))
  |_=>exact absurd (show false=true from hs) Kg
 |str i=>
  obtain⟨t,rfl⟩:=rx;cases y with
  |non=>cases ry;exact PySem.EqNone.ne_str_none (bp I q (by simp))
  |bl j=>cases ry;exact PySem.EqMixed.ne_str_bool (bp I q (by simp))
  |int j=>obtain⟨t',rfl⟩:=ry;exact PySem.EqMixed.ne_str_int (bp I q (by simp))
  |str j=>obtain⟨t',rfl⟩:=ry;exact ne_str (bp I q (congrArg not yD))
  |_=>exact absurd (show false=true from hs) Kg
 |byt i=>
  obtain⟨t,rfl⟩:=rx;cases y with
  |byt j=>obtain⟨t',rfl⟩:=ry;exact PySem.W.ne_bytes (bp I q (congrArg not yv))
  |_=>exact absurd (show false=true from hs) Kg
 |_=>cases y<;>exact absurd (show false=true from hs) Kg
theorem pX:bf X (compareOp .Lt) (Ab λi j=>.bl (decide (i<j))):=DR λ_ _ _ _ _ _ _ q=>lt_int q
theorem lW:bf X (compareOp .LtE) (Ab λi j=>.bl (decide (i<=j))):=DR λ_ _ _ _ _ _ _ q=>le_int q
theorem k8:bf X (compareOp .Gt) (Ab λi j=>.bl (decide (j<i))):=DR λ_ _ _ _ _ _ _ q=>gt_int q
theorem En:bf X (compareOp .GtE) (Ab λi j=>.bl (decide (j<=i))):=DR λ_ _ _ _ _ _ _ q=>ge_int q
theorem AN:bf X (compareOp .In) (λx y H Q=>∃i j,x=.str i/\y=.str j/\Q (.bl (!(Builtin.Str.occurrences j i 0 j.length 1).isEmpty)) H):=by
 intro pins s σ H x y v u Q I rx ry h;obtain⟨i,j,rfl,rfl,q⟩:=h;obtain⟨t,rfl⟩:=rx;obtain⟨t',rfl⟩:=ry;exact in_str (bp I q rfl)
theorem yE:bf X (compareOp .IsNot) (λx y H Q=>y=.non/\Q (.bl (!decide (x=.non))) H):=by
 intro pins s σ H x y v u Q I rx ry h;obtain⟨rfl,q⟩:=h;cases ry;refine isnot_none_gen (bp I q ?_);cases x<;>first
  | (cases rx;rfl)
  | (obtain⟨t,rfl⟩:=rx;rfl)
theorem uT:bf X (compareOp .NotIn) (λx y H Q=>∃i j,x=.str i/\y=.str j/\Q (.bl (!(!(Builtin.Str.occurrences j i 0 j.length 1).isEmpty))) H):=by
 intro pins s σ H x y v u Q I rx ry h;obtain⟨i,j,rfl,rfl,q⟩:=h;obtain⟨t,rfl⟩:=rx;obtain⟨t',rfl⟩:=ry;exact notIn_str (bp I q rfl)
theorem aS(b:Expr){op:CmpOp}(h:autoParam (op≠.In) zzD._auto_1)(h2:autoParam (op≠.NotIn) zzD._auto_1):behindInMarks op b=false:=by
 have e1:(op==CmpOp.In)=false:=by cases op<;>first | rfl | exact absurd rfl h
 have e2:(op==CmpOp.NotIn)=false:=by cases op<;>first | rfl | exact absurd rfl h2
 cases b<;>simp[behindInMarks,e1,e2]
theorem lZ{op:CmpOp}{r:R2}(ho:bf X (compareOp op) r)(ha:PE X a ta)(hb:PE X b tb)(hm:behindInMarks op b=false):PE X (.Compare a [op] [b] pos) (Fj r ta tb):=by
 intro pins s σ H Q I h;exact wpAny_Compare1 (EY ha hb I h λv u s2 x y H2 I2 rx ry q=>ho pins s2 σ H2 x y v u Q I2 rx ry q) hm
noncomputable def vC(t:TE):TT:=λσ H Q=>t σ H λx H'=>∃k,x=.bl k/\Q k H'
theorem aM{op:CmpOp}{r:R2}(ho:bf X (compareOp op) r)(ha:PE X a ta)(hb:PE X b tb)(hm:behindInMarks op b=false):PT X (.Compare a [op] [b] pos) (vC (Fj r ta tb)):=by
 intro pins s σ H Q I h;refine wpAny_isTrue_Compare1 (bX (ha pins s σ H _ I h) λv s1 ⟨x,H1,I1,r1,q1⟩=>bX (hb pins s1 σ H1 _ I1 q1) λu s2 ⟨y,H2,I2,r2,q2⟩=>
  bX (ho pins s2 σ H2 x y v u _ I2 r1 r2 q2) λc s3 ⟨z,H3,I3,r3,k,e,q3⟩=>?_) hm
 subst e;cases r3;exact wpAny_truthy_bool ⟨H3,I3,q3⟩
noncomputable def ue(r r':R2)(ta tb tc:TE):TE:=λσ H Q=>ta σ H λx H1=>tb σ H1 λy H2=>r x y H2 λz H3=>∃k,z=.bl k /\
 (if k=true then tc σ H3 λw' H4=>r' y w' H4 Q else Q (.bl false) H3)
theorem u5{op op':CmpOp}{r r':R2}(ho:bf X (compareOp op) r)(ho':bf X (compareOp op') r')(ha:PE X a ta)(hb:PE X b tb)(hc:PE X c tc)
  (hm:lastMarks [op,op'] [b,c]=false:=by with_unfolding_all rfl):PE X (.Compare a [op,op'] [b,c] pos) (ue r r' ta tb tc):=by
 intro pins s σ H Q I h;refine Compare_chain (bX (ha pins s σ H _ I h) λv s1 ⟨x,H1,I1,r1,q1⟩=>chain_link (bX (hb pins s1 σ H1 _ I1 q1) λu s2 ⟨y,H2,I2,r2,q2⟩=>
  bX (ho pins s2 σ H2 x y v u _ I2 r1 r2 q2) λd s3 ⟨z,H3,I3,r3,k,e,q3⟩=>?_)) hm
 subst e;cases r3;refine wpAny_truthy_bool ?_;cases k with
 |false=>exact ite_ff ⟨.bl false,H3,I3,rfl,q3⟩
 |true=>exact ite_tt (chain_last (bX (hc pins s3 σ H3 _ I3 q3) λw' s4 ⟨z',H4,I4,r4,q4⟩=>ho' pins s4 σ H4 y z' u w' Q I4 r2 r4 q4))
theorem vg{op op':CmpOp}{r r':R2}(ho:bf X (compareOp op) r)(ho':bf X (compareOp op') r')(ha:PE X a ta)(hb:PE X b tb)(hc:PE X c tc)
  (hm:lastMarks [op,op'] [b,c]=false:=by with_unfolding_all rfl):PT X (.Compare a [op,op'] [b,c] pos) (vC (ue r r' ta tb tc)):=by
 intro pins s σ H Q I h;refine isTrue_chain (bX (ha pins s σ H _ I h) λv s1 ⟨x,H1,I1,r1,q1⟩=>test_link (bX (hb pins s1 σ H1 _ I1 q1) λu s2 ⟨y,H2,I2,r2,q2⟩=>
  bX (ho pins s2 σ H2 x y v u _ I2 r1 r2 q2) λd s3 ⟨z,H3,I3,r3,k,e,q3⟩=>?_)) hm
 subst e;cases r3;refine wpAny_truthy_bool ?_;cases k with
 |false=>
  obtain⟨k',e',q'⟩:=q3;cases e';exact ite_ff ⟨H3,I3,q'⟩
 |true=>
  refine ite_tt (test_last (bX (hc pins s3 σ H3 _ I3 q3) λw' s4 ⟨z',H4,I4,r4,q4⟩=>bX (ho' pins s4 σ H4 y z' u w' _ I4 r2 r4 q4) λd' s5 ⟨z2,H5,I5,r5,k2,e2,q5⟩=>?_));subst e2;cases r5;exact wpAny_truthy_bool ⟨H5,I5,q5⟩
theorem qh:(sizeLine:Nat)<2 ^ 63:=by rw[sizeLine_eq];decide
theorem iz:bf X (binaryOp .Add) (λx y H Q=>∃i j,x=.str i/\y=.str j/\i.length+j.length<=sizeLine/\Q (.str (i++j)) H):=by
 intro pins s σ H x y v u Q I rx ry h;obtain⟨i,j,rfl,rfl,hz,q⟩:=h;obtain⟨t,rfl⟩:=rx;obtain⟨t',rfl⟩:=ry;exact add_str (λt' tk=>⟨.str (i++j),H,I.tok _,⟨_,rfl⟩,q⟩) hz
theorem wm{x:V}{us:KQ}(r:bj [x] us):∃u,us=[u]/\bo x u:=by
 cases r with
 |cons r1 r2=>cases r2;exact⟨_,rfl,r1⟩
theorem F'{x y:V}{us:KQ}(r:bj [x,y] us):∃u w',us=[u,w']/\bo x u/\bo y w':=by
 cases r with
 |cons r1 r2=>
  cases r2 with
  |cons r3 r4=>cases r4;exact⟨_,_,rfl,r1,r3⟩
end
structure yb(h:Heap)(x dx C:Addr)(mA:KS):Prop where
 obj:h.get? x=some (PySem.W.instObj C dx)
 ns:h.Ns1 dx mA
 ne:dx≠x
theorem yV{h:Heap}{dx:Addr}{mA:KS}(n:h.Ns1 dx mA):∃od,h.get? dx=some od/\∀name,PySem.W.lookIn name od=some (mA name):=by
 obtain⟨o,es,ep,ho,hd,hk,_,hm⟩:=n;refine⟨o,ho,λname=>?_⟩;have e:=hm name;unfold nsFind findBy at e;rw[<- Array.find?_toList]at e;unfold PySem.W.lookIn;rw[hd];dsimp only
 split
 ·rename_i y q
  rw[q]at e;exact congrArg some e
 ·rename_i q
  rw[q]at e;have a:es.toList.any (·.refKey)=false:=by
   rw[List.any_eq_false];intro y hy;obtain⟨z,t,hkey⟩:=hk y (Array.mem_toList_iff.mp hy);simp[DictEntry.refKey,hkey]
  have a':¬ es.toList.any (·.refKey)=true:=by rw[a];exact Kg
  rw[if_neg a'];exact congrArg some e
theorem yb.look{h:Heap}{x dx C:Addr}{mA:KS}(I:yb h x dx C mA):∃od,PySem.W.InstAt h x (PySem.W.instObj C dx) C (some od)/\∀name,PySem.W.lookIn name od=some (mA name):=
 let ⟨od,ho,hl⟩:=yV I.ns
 ⟨od,⟨I.obj,rfl,rfl,ho⟩,hl⟩
section
variable {prog:KW}{w:K0}{A:KZ}{E:KL}{s:KP}{K:KM}{x dx C f:Addr}{mA:KS}{name:Str}{v:Value}
theorem Ec{expr:Bool}{Q:KL}(X:K.In s.heap)(I:yb s.heap x dx C mA)(hg:PySem.W.plainGet K C name=true)(hh:PySem.W.hasDictIn K C=true)
  (ha:PySem.W.findIn K (.ref C) name=some none) (hv:mA name=some v) (hv':PySem.W.handedIn v=true) (h:Q v {s with toks:=s.toks+1}) :
  wpAny (model prog w) A (getAttr (.ref x) name expr) Q E s:=by
 obtain⟨od,J,hl⟩:=I.look;exact PySem.W.get_value X J (PySem.W.plainGet_of hg).1 (PySem.W.findObj_own hh ha rfl (by rw[hl,hv])) hv' h
theorem B8{pl:Sem Bool}{Q:Value×List Value->Shared->Prop}(X:K.In s.heap)(I:yb s.heap x dx C mA)(hg:PySem.W.plainGet K C name=true)
  (hf:PySem.W.findIn K (.ref C) name=some (some (.ref f))) (ht:PySem.W.isFn K (.ref f)=true) (hv:mA name=none) (h:Q (.ref f,[.ref x]) s) :
  wpAny (model prog w) A (getMethod (.ref x) name pl) Q E s:=by
 obtain⟨od,J,hl⟩:=I.look;exact PySem.W.method_fn X J (PySem.W.plainGet_of hg).1 (PySem.W.plainGet_of hg).2 hf (beq_iff_eq.mp ht) (by show(PySem.W.lookIn name od).map (·.isSome)=some false;rw[hl,hv];rfl) h
theorem DG{ns:KY}{Q:Unit->Shared->Prop}(X:K.In s.heap)(I:yb s.heap x dx C mA)
  (hs:PySem.W.findIn K (.ref C) "__setattr__"=some (some (.builtin "object.__setattr__"))) (hp:PySem.W.plainOver K C=true) (ht:PySem.W.takerIn K C name=some none) (hh:PySem.W.hasDictIn K C=true)
  (hw:PySem.Within mA ns) (hsz:ns.length<=sizeLine)
  (h:∀h',yb h' x dx C (λy=>if y=name then some v else mA y)->Heap.SameBut dx s.heap h'->Q () {s with heap:=h',toks:=s.toks+2}) :
  wpAny (model prog w) A (setAttr (.ref x) name v) Q E s:=by
 obtain⟨od,J,hl⟩:=I.look;refine PySem.W.set_plain X J hs (PySem.W.osa_open (s:={s with toks:=s.toks+1}) (r:=none) X J hp ht λb=>?_);obtain⟨cd,hc,hd'⟩:=PySem.W.any_some hh;have hx:s.heap.get? x=some ⟨.ref C,some dx,.plain,#[]⟩:=I.obj;refine wpAny_bind (wpAny_pure (wpAny_bind (wpAny_bind (wpAny_loadPart hx (wpAny_bind (PySem.W.Looks.here (s:={s with toks:=s.toks+1}) (PySem.W.looks_clsIn X hc) ?_))))));rw[hd'];refine wpAny_pure (a:=some dx) (wpAny_bind (wpAny_pure (wpAny_bind ?_)));refine wpAny_nsSet1 (s:={s with toks:=s.toks+1}) I.ns λh' hn2 hs2=>?_;obtain⟨oD,esD,epD,hoD,hdD,hcD⟩:=hn2.count (PySem.Within.cons name v hw);refine wpAny_bind (wpAny_lookBehind hoD (by rw[hdD];exact pastItsLine_dict (Km hcD (by rw[J4];omega))) ?_);exact wpAny_pure (h _ ⟨(hs2.2 _ (Ne.symm I.ne)).trans I.obj,hn2,I.ne⟩ hs2)
theorem Bu{R:Result->Shared->Prop}{vs:KQ}{kw:List (Str×Value)}(X:K.In s.heap)(hm:PySem.W.makesIn K C=true)
  (hi:PySem.W.findIn K (.ref C) "__init__"=some (some (.ref f))) (hf:PySem.W.typeIn K (.ref f)=some (.type "function"))
  (h:codeAny (model prog w) (A.under (.builtin "type.__call__" ⟨.ref C::vs,kw⟩)) (.call (.ref f) ⟨.ref (s.heap.objs.size+1)::vs,kw⟩) (PySem.W.InitBack (s.heap.objs.size+1) R)
   {s with heap:=(s.heap.push PySem.W.emptyDict).push (PySem.W.instObj C s.heap.objs.size)}) :
  codeAny (model prog w) A (.call (.ref C) ⟨vs,kw⟩) R s:=by
 obtain⟨hh,g,d,t,os⟩:=s;exact PySem.W.make_core (PySem.W.makes_of X hm) (PySem.W.looks_findIn X hi) (λself=>PySem.W.bind_fn X self hf) (.inl rfl) h
end
noncomputable def cI(f:Str)(v:V):List (Str×V)->List (Str×V)
 | []=>[(f,v)]
 | (g,x)::r=>if g=f then(g,v)::r else(g,x)::cI f v r
theorem nZ(f g:Str)(v:V):∀fs:List (Str×V),(cI f v fs).lookup g=if g=f then some v else fs.lookup g
 | []=>by
  show List.lookup g [(f,v)]=_
  by_cases h:g=f
  ·have hb:(g==f)=true:=beq_iff_eq.mpr h
   simp only[List.lookup,hb,if_pos h]
  ·have hb:(g==f)=false:=beq_eq_false_iff_ne.mpr h
   simp only[List.lookup,hb,if_neg h]
 | (k,x)::r=>by
  have ih:=nZ f g v r;rw[show cI f v ((k,x)::r)=(if k=f then(k,v)::r else(k,x)::cI f v r) from rfl]
  by_cases hk:k=f
  ·rw[if_pos hk]
   by_cases h:g=k
   ·have hb:(g==k)=true:=beq_iff_eq.mpr h
    simp only[List.lookup,hb,if_pos (h.trans hk)]
   ·have hb:(g==k)=false:=beq_eq_false_iff_ne.mpr h
    simp only[List.lookup,hb,if_neg (λe:g=f=>h (e.trans hk.symm))]
  ·rw[if_neg hk]
   by_cases h:g=k
   ·have hb:(g==k)=true:=beq_iff_eq.mpr h
    simp only[List.lookup,hb,if_neg (λe:g=f=>hk (h.symm.trans e))]
   ·have hb:(g==k)=false:=beq_eq_false_iff_ne.mpr h
    simp only[List.lookup,hb];exact ih
theorem mZ(f:Str)(v:V):∀fs:List (Str×V),f∈(cI f v fs).map (·.1)/\∀g,g∈fs.map (·.1)->g∈(cI f v fs).map (·.1)
 | []=>⟨by simp[cI],λg h=>by simp at h⟩
 | (k,x)::r=>by
  obtain⟨i1,i2⟩:=mZ f v r;rw[show cI f v ((k,x)::r)=(if k=f then(k,v)::r else(k,x)::cI f v r) from rfl]
  by_cases hk:k=f
  ·rw[if_pos hk]
   subst hk;exact⟨by simp,λg h=>by simpa using h⟩
  ·rw[if_neg hk]
   refine⟨?_,λg h=>?_⟩
   ·rw[Kl]
    exact J9 _ i1
   ·rw[Kl]at h ⊢
    rcases J8.mp h with e | e
    ·exact J8.mpr (.inl e)
    ·exact J9 _ (i2 g e)
theorem c8(f:Str)(v:V):∀fs:List (Str×V),(cI f v fs).length<=fs.length+1
 | []=>by simp[cI]
 | (k,x)::r=>by
  have ih:=c8 f v r;rw[show cI f v ((k,x)::r)=(if k=f then(k,v)::r else(k,x)::cI f v r) from rfl]
  by_cases hk:k=f
  ·rw[if_pos hk,J4,J4];omega
  ·rw[if_neg hk,J4,J4];omega
theorem jO.some_of{v:V}{o:Option Value}(r:jO (some v) o):∃u,o=some u/\bo v u:=by
 cases o with
 |none=>exact(show False from r).elim
 |some u=>exact⟨u,rfl,r⟩
theorem jO.none_of{o:Option Value}(r:jO none o):o=none:=by
 cases o with
 |none=>rfl
 |some u=>exact(show False from r).elim
theorem zb{v:V}{u:Value}(r:bo v u):PySem.W.handedIn u=true:=by
 cases v with
 |non=>cases(show u=Value.none from r);rfl
 |bl b=>cases(show u=Value.bool b from r);rfl
 |int i=>obtain⟨t,e⟩:=(show ∃t,u=Value.int i t from r);cases e;rfl
 |str x=>obtain⟨t,e⟩:=(show ∃t,u=Value.str x t from r);cases e;rfl
 |byt b=>obtain⟨t,e⟩:=(show ∃t,u=Value.bytes b t from r);cases e;rfl
 |flt b=>obtain⟨t,e⟩:=(show ∃t,u=Value.float b t from r);cases e;rfl
 |ref a=>cases(show u=Value.ref a from r);rfl
 |ty n=>cases(show u=Value.type n from r);rfl
section
variable {P:KW}{w:K0}{H H':Hp}{h h':Heap}{a C dx:Addr}{fs fs':List (Str×V)}
theorem oU(hok:j5 P w H h)(e:H a=some (.ins C dx fs)):∃mA,yb h a dx C mA/\(∀f,jO (fs.lookup f) (mA f))/\PySem.Within mA (fs.map (·.1))/\fs.length<=1000/\H dx=some (.own a):=by
 obtain⟨d,z,ne,ob,mA,n,r,q⟩:=(show bU P w H h a (.ins C dx fs) from hok a _ e);exact⟨mA,⟨ob,n,ne⟩,r,q,z,d⟩
end
structure lT(K:KM)(C:Addr):Prop where
 pg:PySem.W.plainGet K C Str.empty=true
 hd:PySem.W.hasDictIn K C=true
 po:PySem.W.plainOver K C=true
 sa:PySem.W.findIn K (.ref C) "__setattr__"=some (some (.builtin "object.__setattr__"))
theorem lT.get{K:KM}{C:Addr}(c:lT K C)(f:Str):PySem.W.plainGet K C f=true:=c.pg
noncomputable def au(K:KM)(C:Addr)(f:Str):Prop:=PySem.W.findIn K (.ref C) f=some none
theorem au.taker{K:KM}{C:Addr}{f:Str}(n:au K C f):PySem.W.takerIn K C f=some none:=by
 unfold PySem.W.takerIn;rw[show PySem.W.findIn K (.ref C) f=some none from n]
 rfl
structure JP(K:KM)(C:Addr)(f:Str)(v:V)(u:Value):Prop where
 at_:PySem.W.findIn K (.ref C) f=some (some u)
 rel:bo v u
 get:PySem.W.specialIn K u "__get__"=some none
 cp:PySem.W.copiedNames.contains f=false
structure cQ(K:KM)(C:Addr)(m:Str)(f:Addr):Prop where
 at_:PySem.W.findIn K (.ref C) m=some (some (.ref f))
 fn:PySem.W.isFn K (.ref f)=true
 kp:PySem.W.keepIn K (.ref f)=true
section
variable {X:Cx}{pins:KN}{σ:St}{H:Hp}{s:KP}{a C dx:Addr}{fs:List (Str×V)}{f:Str}{v:V}{A:KZ}{E:KL}
theorem xG{b:Bool}{Q:KL}(I:Inv X pins σ H s)(e:H a=some (.ins C dx fs))(c:lT X.K C)(n:au X.K C f)(l:fs.lookup f=some v)
  (h:∀u s',Inv X pins σ H s'->bo v u->Q u s'):wpAny (model X.prog X.w) A (getAttr (.ref a) f b) Q E s:=by
 obtain⟨mA,O,r,_,_,_⟩:=oU I.hok e;obtain⟨u,hu,ru⟩:=jO.some_of (v:=v) (o:=mA f) (by rw[<- l];exact r f);exact Ec I.kIn O (c.get f) c.hd n hu (zb ru) (h u _ (I.tok _) ru)
theorem gi{m:Str}{g:Addr}{pl:Sem Bool}{Q:Value×List Value->Shared->Prop}(I:Inv X pins σ H s)(e:H a=some (.ins C dx fs))(c:lT X.K C)(k:cQ X.K C m g)(l:fs.lookup m=none)
  (h:Q (.ref g,[.ref a]) s):wpAny (model X.prog X.w) A (getMethod (.ref a) m pl) Q E s:=by
 obtain⟨mA,O,r,_,_,_⟩:=oU I.hok e;have hn:mA m=none:=jO.none_of (by rw[<- l];exact r m);exact B8 I.kIn O (c.get m) k.at_ k.fn hn h
theorem xS{y:V}{u:Value}{Q:Unit->Shared->Prop}(I:Inv X pins σ H s)(e:H a=some (.ins C dx fs))(c:lT X.K C)(n:au X.K C f)(hl:fs.length<1000)(ry:bo y u)
  (h:∀s',Inv X pins σ (aA H a (.ins C dx (cI f y fs))) s'->Q () s'):wpAny (model X.prog X.w) A (setAttr (.ref a) f u) Q E s:=by
 obtain⟨mA,O,r,wi,_,ho⟩:=oU I.hok e;have hz:(fs.map (·.1)).length<=sizeLine:=by rw[JU,sizeLine_eq];omega
 refine DG I.kIn O c.sa c.po n.taker c.hd wi hz λh' O' sb=>h _ ?_;have hd:∃o,h'.get? dx=some o:=let ⟨o,_,_,e',_⟩:=O'.ns;⟨o,e'⟩
 refine I.write (x:=a) (e:=dx) (by rw[e];exact True.intro) (.inr ho) (λb q hb z=>(sb.2 b hb).trans z) hd ?_;refine⟨by rw[am O.ne];exact ho,?_,O.ne,O'.obj,_,O'.ns,λg=>?_,λg hg=>?_⟩
 ·have:=c8 f y fs;omega
 ·show jO ((cI f y fs).lookup g) (if g=f then some u else mA g)
  rw[nZ]
  by_cases q:g=f
  ·rw[if_pos q,if_pos q];exact ry
  ·rw[if_neg q,if_neg q];exact r g
 ·by_cases q:g=f
  ·rw[q];exact(mZ f y fs).1
  ·refine(mZ f y fs).2 g (wi g λz=>hg ?_)
   show(if g=f then some u else mA g)=none;rw[if_neg q];exact z
theorem Inv.made(I:Inv X pins σ H s):Inv X pins σ (aA (aA H s.heap.objs.size (.own (s.heap.objs.size+1))) (s.heap.objs.size+1) (.ins C s.heap.objs.size []))
  {s with heap:=(s.heap.push PySem.W.emptyDict).push (PySem.W.instObj C s.heap.objs.size)}:=by
 have e1:(s.heap.push PySem.W.emptyDict).get? s.heap.objs.size=some PySem.W.emptyDict:=JZ s.heap rfl;have e2:((s.heap.push PySem.W.emptyDict).push (PySem.W.instObj C s.heap.objs.size)).get? (s.heap.objs.size+1)=some (PySem.W.instObj C s.heap.objs.size):=by
  have:=JZ (s.heap.push PySem.W.emptyDict) (o:=PySem.W.instObj C s.heap.objs.size) rfl
  rwa [Heap.size_push]at this
 have e3:(s.heap.push PySem.W.emptyDict).Ns s.heap.objs.size (λ_=>none):=⟨PySem.W.emptyDict,#[],_,e1,rfl,(λe he=>absurd he (by simp)),λ_=>rfl⟩;have I1:=I.laid (a:=s.heap.objs.size) (o:=.own (s.heap.objs.size+1)) (h':=s.heap.push PySem.W.emptyDict) (t':=s.toks) (λb u q=>JT _ q) (Ke _) ⟨_,e1⟩;refine I1.laid (a:=s.heap.objs.size+1) (o:=.ins C s.heap.objs.size []) (t':=s.toks) (λb u q=>JT _ q) (Nat.le_of_eq (Heap.size_push _ _)) ?_;have ne:s.heap.objs.size≠s.heap.objs.size+1:=Ka (Ko _);refine⟨by rw[am ne,ac],Kf _,ne,e2,λ_=>none,(Heap.Ns1.of_empty e3).at λo q=>JT _ q,λ_=>True.intro,λy hy=>absurd rfl hy⟩
theorem D3{prog:KW}{w:K0}{env:Env}{e:Expr}{f:Str}{pos:Pos}{s:KP}{Q:KL}(hb:attributeBase e f env (eval e env)=eval e env)
  (h:wpAny (model prog w) A (eval e env) (λo s₁=>wpAny (model prog w) A (getAttr o f true) Q E s₁) E s):wpAny (model prog w) A (eval (.Attribute e f pos) env) Q E s:=
 Attribute_any_ h (by rw[arm_eval_Attribute,hb])
end
noncomputable def DK(K:KM)(ta:TE)(f:Str):TE:=λσ H Q=>ta σ H λx H1=>∃a C dx fs v,x=.ref a/\H1 a=some (.ins C dx fs)/\lT K C/\au K C f/\fs.lookup f=some v/\Q v H1
noncomputable def Fg(K:KM)(ta tv:TE)(f:Str):TS:=λD σ H=>tv σ H λy H1=>ta σ H1 λx H2=>∃a C dx fs,x=.ref a/\H2 a=some (.ins C dx fs)/\lT K C/\au K C f/\fs.length<1000 /\
 D.nx σ (aA H2 a (.ins C dx (cI f y fs)))
section
variable {X:Cx}{o e value:Expr}{f:Str}{pos pos' tpos:Pos}{ta tv:TE}
theorem bz(he:PE X e ta)(hb:attributeBase e f X.env (eval e X.env)=eval e X.env):PE X (.Attribute e f pos) (DK X.K ta f):=by
 intro pins s σ H Q I h;refine D3 hb (bX (he pins s σ H _ I h) λu s1 ⟨x,H1,I1,rx,a,C,dx,fs,v,ex,ea,c,n,l,q⟩=>?_);subst ex;obtain rfl:u=Value.ref a:=rx;exact xG I1 ea c n l λu' s2 I2 ru=>⟨v,H1,I2,ru,q⟩
theorem cY(ha:PE X o ta)(hv:PE X value tv)(hs:swapsWith value (some (.Attribute o f pos')) pos.line X.env=pure false):PS X (.Assign [.Attribute o f pos'] value pos) (Fg X.K ta tv f):=by
 intro pins s σ H D I h;refine plainObj_wpAny_Assign_Attribute (bX (hv pins s σ H _ I h) λu s1 ⟨y,H1,I1,ry,q⟩=>bX (ha pins s1 σ H1 _ I1 q) λov s2 ⟨x,H2,I2,rx,a,C,dx,fs,ex,ea,c,n,l,q2⟩=>?_) hs;subst ex;obtain rfl:ov=Value.ref a:=rx;exact xS I2 ea c n l ry λs3 I3=>⟨σ,_,I3,q2⟩
theorem Em{pl:Sem Bool}{m:Str}{apos:Pos}{args:K2}{pins:KN}{s:KP}{σ:St}{H:Hp}{Q:KL}{te:TE}(he:PE X e te)(I:Inv X pins σ H s)
  (h:te σ H λx H1=>∃a C dx fs g,x=.ref a/\H1 a=some (.ins C dx fs)/\lT X.K C/\cQ X.K C m g/\fs.lookup m=none /\
   ∀s1,Inv X pins σ H1 s1->wpAny (model X.prog X.w) X.A (callWith pos (.ref g) [.ref a] (backTo pos (starEach args X.env)) (backToKw pos (keywordEach [] X.env))) Q X.xe s1)
  (ht:eval (.Call (.Attribute e m apos) args [] pos) X.env=(do
   let ov <- eval e X.env
   standAt apos.atName
   let (f,first) <- holding [ov] (getMethod ov m pl)
   callWith pos f first (backTo pos (starEach args X.env)) (backToKw pos (keywordEach [] X.env)))) :
  wpAny (model X.prog X.w) X.A (eval (.Call (.Attribute e m apos) args [] pos) X.env) Q X.xe s:=by
 refine PySem.W.methodCall_KW (pl:=pl) (bX (he pins s σ H _ I h) λu s1 ⟨x,H1,I1,rx,a,C,dx,fs,g,ex,ea,c,k,l,q⟩=>?_) ht;subst ex;obtain rfl:u=Value.ref a:=rx;exact gi I1 ea c k l (q s1 I1)
end
section
variable {X:Cx}{pins:KN}{σ:St}{H:Hp}{s:KP}{A:KZ}{E:KL}{Q:KL}{c:Value}{b:Bool}
inductive jl(K:KM)(H:Hp):V->Value->Prop where
 |non:jl K H .non (.type "NoneType")
 |bl (x:Bool):jl K H (.bl x) (.type "bool")
 |int (i:Int):jl K H (.int i) (.type "int")
 |str (x:Str):jl K H (.str x) (.type "str")
 |flt (x:UInt64):jl K H (.flt x) (.type "float")
 |lst {a:Addr} {xs:List V} (e:H a=some (.lst xs)):jl K H (.ref a) (.type "list")
 |frz {a:Addr} {o:Obj} {xs:List V} (e:H a=some (.frz o (.lst xs))):jl K H (.ref a) (.type "list")
 |tup {a:Addr} {xs:List V} (e:H a=some (.tup xs)):jl K H (.ref a) (.type "tuple")
 |dK {a:Addr} {kvs:List (cS×V)} (e:H a=some (.dK kvs)):jl K H (.ref a) (.type "dict")
 |dT {a:Addr} {kvs:List (List cS×V)} (e:H a=some (.dT kvs)):jl K H (.ref a) (.type "dict")
 |ins {a C dx:Addr} {fs:List (Str×V)} (e:H a=some (.ins C dx fs)) (cl:lT K C) (ha:PySem.W.findIn K (.ref C) "__class__"=some (some (.builtin "object.__class__")))
   (hn:PySem.W.specialIn K (.builtin "object.__class__") "__get__"=some (some (.builtin "getset_descriptor.__get__"))) (htk:PySem.W.takesIn K (.builtin "object.__class__")=some true)
   (hm:PySem.W.mroIn K C (.type "object")=some true):jl K H (.ref a) (.ref C)
theorem zk{x:V}{u t:Value}(I:Inv X pins σ H s)(rx:bo x u)(ty:jl X.K H x t)(e:PySem.W.kitOne X.K t c=some b)(h:∀tk,Q (.bool b) {s with toks:=tk}) :
  wpAny (model X.prog X.w) A (call (.builtin "isinstance") [u,c]) Q E s:=by
 cases ty with
 |non=>cases(show u=Value.none from rx);exact PySem.W.kia_one PySem.W.kitx_none I.kIn True.intro e (λz=>nomatch z) h
 |bl y=>cases(show u=Value.bool y from rx);exact PySem.W.kia_one PySem.W.kitx_bool I.kIn True.intro e (λz=>nomatch z) h
 |int i=>obtain⟨t,q⟩:=(show ∃t,u=Value.int i t from rx);cases q;exact PySem.W.kia_one PySem.W.kitx_int I.kIn True.intro e (λz=>nomatch z) h
 |str y=>obtain⟨t,q⟩:=(show ∃t,u=Value.str y t from rx);cases q;exact PySem.W.kia_one PySem.W.kitx_str I.kIn True.intro e (λz=>nomatch z) h
 |flt y=>obtain⟨t,q⟩:=(show ∃t,u=Value.float y t from rx);cases q;exact PySem.W.kia_one PySem.W.kitx_float I.kIn True.intro e (λz=>nomatch z) h
 | @lst a xs ea=>
  cases(show u=Value.ref a from rx);obtain⟨_,_,n,_,h1⟩:=(show bU X.prog X.w H s.heap a (.lst xs) from I.hok a _ ea);exact PySem.W.kia_one PySem.W.kitx_list I.kIn ⟨_,h1,rfl⟩ e (λz=>nomatch z) h
 | @frz a ob xs ea=>
  cases(show u=Value.ref a from rx);obtain⟨_,_,_,n,_,h1⟩:=(show bU X.prog X.w H s.heap a (.frz ob (.lst xs)) from I.hok a _ ea);exact PySem.W.kia_one PySem.W.kitx_list I.kIn ⟨_,h1,rfl⟩ e (λz=>nomatch z) h
 | @tup a xs ea=>
  cases(show u=Value.ref a from rx);obtain⟨_,_,_,p⟩:=(show bU X.prog X.w H s.heap a (.tup xs) from I.hok a _ ea);obtain⟨o,h1,h2,_⟩:=p;exact PySem.W.kia_one PySem.W.kitx_tuple I.kIn ⟨o,h1,h2⟩ e (λz=>nomatch z) h
 | @dK a kvs ea=>
  cases(show u=Value.ref a from rx);obtain⟨_,_,vs,_,p⟩:=(show bU X.prog X.w H s.heap a (.dK kvs) from I.hok a _ ea);obtain⟨o,es,ep,h1,h2,_⟩:=p;exact PySem.W.kia_one PySem.W.kitx_dict I.kIn ⟨o,h1,h2.1⟩ e (λz=>nomatch z) h
 | @dT a kvs ea=>
  cases(show u=Value.ref a from rx);obtain⟨_,_,xs,_,o,es,ep,h1,h2,_⟩:=(show bU X.prog X.w H s.heap a (.dT kvs) from I.hok a _ ea);exact PySem.W.kia_one PySem.W.kitx_dict I.kIn ⟨o,h1,h2.1⟩ e (λz=>nomatch z) h
 | @ins a C dx fs ea cl ha hn htk hm=>
  cases(show u=Value.ref a from rx);obtain⟨mA,O,_⟩:=oU I.hok ea;obtain⟨od,J,_⟩:=O.look;exact PySem.W.kia_one (PySem.W.kitx_own (cl.get _) cl.hd ha hn htk hm) I.kIn J e (λz=>nomatch z) h
end
structure df(k:Nat)(A:KZ):Prop where
 hd:A.handled=none
 dp:A.depth+3*k+5<recursionLimit
 un:A.units+16*k+200<cLine
theorem df.mono{j k:Nat}{A:KZ}(r:df k A)(h:j<=k):df j A:=⟨r.hd,by have:=r.dp;omega,by have:=r.un;omega⟩
theorem df.deeper{k:Nat}{A:KZ}(r:df (k+1) A)(env:Env):df k (A.deeper env):=
 ⟨r.hd,by have:=r.dp;show A.depth+1+3*k+5<_;omega,by have:=r.un;show A.units+3+16*k+200<_;omega⟩
theorem xN{A:KZ}{C:Addr}{us:KQ}{kw:List (Str×Value)}:(A.under (.builtin "type.__call__" ⟨.ref C::us,kw⟩)).depth=A.depth+1:=by
 first | rfl | simp[Around.under,Code.weight,Code.isCreation,Code.isGuard,Code.isCaller,Code.frames,Code.isFrame,guardIds]
theorem w4{A:KZ}{C:Addr}{us:KQ}{kw:List (Str×Value)}:(A.under (.builtin "type.__call__" ⟨.ref C::us,kw⟩)).units=A.units+1:=by
 first | rfl | simp[Around.under,Code.cUnits,Code.frames,Code.isFrame]
theorem df.make{k:Nat}{A:KZ}(r:df (k+1) A)(C:Addr)(us:KQ)(kw:List (Str×Value)):df k (A.under (.builtin "type.__call__" ⟨.ref C::us,kw⟩)):=
 ⟨r.hd,by have:=r.dp;rw[xN];omega,by have:=r.un;rw[w4];omega⟩
theorem df.depth{k:Nat}{A:KZ}(r:df k A):A.depth<recursionLimit:=by have:=r.dp;omega
theorem df.units{k:Nat}{A:KZ}(r:df k A):A.units+64<cLine:=by have:=r.un;omega
noncomputable def rh:TA:=λ_ H Q=>Q [] H
noncomputable def ld(ta:TE)(tr:TA):TA:=λσ H Q=>ta σ H λx H1=>tr σ H1 λxs H2=>Q (x::xs) H2
section
variable {X:Cx}{e:Expr}{es:K2}{te:TE}{t:TA}{pos:Pos}
theorem ad:PA X [] rh:=λ_ _ _ _ H Q I h=>Calls.spliced_nil ⟨[],H,I,.nil,h⟩
theorem aa(ha:PE X e te)(hr:PA X es t)(hs:autoParam (starEach (e::es) X.env=(false,eval e X.env)::starEach es X.env) zzR._auto_1):PA X (e::es) (ld te t):=by
 intro pos pins s σ H Q I h;rw[hs];show wpAny _ _ (spliced ((false,eval e X.env)::backTo pos (starEach es X.env))) _ _ s;refine Calls.spliced_cons (bX (ha pins s σ H _ I h) λu s1 ⟨x,H1,I1,r1,q1⟩=>?_);exact bX (hr pos pins s1 σ H1 _ I1 q1) λus s2 ⟨xs,H2,I2,r2,q2⟩=>⟨x::xs,H2,I2,.cons r1 r2,q2⟩
noncomputable def Dr(t:TA):TE:=λσ H Q=>t σ H λxs H1=>xs.length<=sizeLine/\∀p,H1 p=none->Q (.ref p) (aA H1 p (.tup xs))
noncomputable def B0(t:TA):TE:=λσ H Q=>t σ H λxs H1=>xs.length<=sizeLine/\∀p,H1 p=none->Q (.ref p) (aA H1 p (.lst xs))
theorem aL{x1}(h:PA X es t):PE X (.Tuple es x1 pos) (Dr t):=by
 intro pins s σ H Q I hq;refine wpAny_Tuple_spliced (bX (h pos pins s σ H _ I hq) λus s1 ⟨xs,H1,I1,r,z,q⟩=>⟨by rw[<- r.length];exact z,?_⟩);have hf:H1 s1.heap.objs.size=none:=I1.hok.fresh (Ke _);refine⟨.ref s1.heap.objs.size,aA H1 s1.heap.objs.size (.tup xs),I1.laid (t':=s1.toks) (λb u e=>JT _ e) (Ke _) ?_,rfl,q _ hf⟩;exact⟨z,us,r,⟨_,JZ _ rfl,rfl,_,rfl⟩⟩
theorem bB(h:PA X es t):PE X (.List es pos) (B0 t):=by
 intro pins s σ H Q I hq;refine wpAny_List_spliced (bX (h pos pins s σ H _ I hq) λus s1 ⟨xs,H1,I1,r,z,q⟩=>⟨by rw[<- r.length];exact z,?_⟩);have hf:H1 s1.heap.objs.size=none:=I1.hok.fresh (Ke _);refine⟨.ref s1.heap.objs.size,aA H1 s1.heap.objs.size (.lst xs),I1.laid (t':=s1.toks) (λb u e=>JT _ e) (Ke _) ?_,rfl,q _ hf⟩;exact⟨z,us,0,r,JZ _ rfl⟩
end
noncomputable abbrev Sp:=List V->Hp->VK->XK->Prop
noncomputable abbrev k7:=List Env->Hp->Shared->XK->Value->Shared->Prop
structure wb(P:KW)(w:K0)(K:KM)(mg:KS)(base:Heap)(A:KZ)(outer:List Env)(s:KP)(H:Hp):Prop where
 frames:A.frames=some outer
 mod:Mod K mg base
 bs:∀b o,base.get? b=some o->s.heap.get? b=some o/\H b=none
 bsz:base.objs.size<=s.heap.objs.size
 funs:s.heap.FunFrames base outer
 frf:∀b∈nE outer,H b=none
 hok:j5 P w H s.heap
 bare:AllBare s.gens
noncomputable def CE(outer:List Env)(P:KW)(w:K0)(H:Hp)(s:KP)(Q:VK)(u:Value)(s':KP):Prop:=
 ∃v H',s'.os=s.os/\AllBare s'.gens/\Un (nE outer) [] H H' s.heap s'.heap/\j5 P w H' s'.heap/\bo v u/\Q v H'
noncomputable def CR(CX:k7)(outer:List Env)(P:KW)(w:K0)(H:Hp)(s:KP)(Q:VK)(E:XK)(r:Result)(s':KP):Prop:=
 match r with
 | .ok (.ret u)=>CE outer P w H s Q u s'
 | .ok _=>False
 | .error e=>CX outer H s E e s'
structure aQ(P:KW)(w:K0)(K:KM)(mg:KS)(base:Heap)(CX:k7)(k:Nat)(f:Addr)(fd:KU)(ps:KY)(sp:Sp):Prop where
 len:∀vs H Q E,sp vs H Q E->vs.length=ps.length
 run:∀(A:KZ) (outer:List Env) (s:KP) (H:Hp) (args:Args) (us:KQ) (vs:List V) (Q:VK) (E:XK),df k A->wb P w K mg base A outer s H->BindsTo s fd args (ps.zip us)->bj vs us->sp vs H Q E ->
  codeAny (model P w) A (.call (.ref f) args) (CR CX outer P w H s Q E) s
theorem aQ.mono{P:KW}{w:K0}{K:KM}{mg:KS}{base:Heap}{CX:k7}{j k:Nat}{f:Addr}{fd:KU}{ps:KY}{sp:Sp}(F:aQ P w K mg base CX j f fd ps sp)(h:j<=k) :
  aQ P w K mg base CX k f fd ps sp:=⟨F.len,λA outer s H args us vs Q E hr=>F.run A outer s H args us vs Q E (hr.mono h)⟩
theorem wb.make{P:KW}{w:K0}{K:KM}{mg:KS}{base:Heap}{A:KZ}{outer:List Env}{s:KP}{H:Hp}(e:wb P w K mg base A outer s H)(C:Addr)(us:KQ)(kw:List (Str×Value)) :
  wb P w K mg base (A.under (.builtin "type.__call__" ⟨.ref C::us,kw⟩)) outer s H:=⟨by first | exact e.frames | (simpa[Around.under,Code.envs,Code.isFrame,pushEnvs]using e.frames),e.mod,e.bs,e.bsz,e.funs,e.frf,e.hok,e.bare⟩
section
variable {X:Cx}{pins:KN}{σ:St}{H:Hp}{s s':KP}
theorem Inv.env0(I:Inv X pins σ H s):wb X.prog X.w X.K X.mg X.base X.A X.stack s H:=
 ⟨I.ok.frames,I.ok.mod,I.bs,Km I.ok.bsz I.sz,I.stack,I.stkFree,I.hok,I.bare⟩
theorem Inv.after{Q:VK}{u:Value}(I:Inv X pins σ H s)(h:CE X.stack X.prog X.w H s Q u s'):EP X pins σ Q u s':=by
 obtain⟨v,H',os,bare,un,hok,r,q⟩:=h;obtain⟨hh,g,d,t,os'⟩:=s';obtain rfl:os'=s.os:=os;exact⟨v,H',I.call (h':=hh) (g':=g) (d':=d) (t':=t) (ch:=[]) un hok bare (λb z=>absurd z (by simp)),r,q⟩
end
noncomputable def n6(sp:Sp)(dvs:List V)(E:XK)(t:TA):TE:=λσ H Q=>t σ H λvs H1=>sp (vs++dvs) H1 Q E
noncomputable def r8(C:Addr)(m:Str)(sp:Sp)(dvs:List V)(E:XK)(ta:TE)(t:TA):TE:=λσ H Q=>ta σ H λx H1=>∃a dx fs,x=.ref a/\H1 a=some (.ins C dx fs)/\fs.lookup m=none /\
 t σ H1 λvs H2=>sp (x::(vs++dvs)) H2 Q E
noncomputable def yG(C:Addr)(sp:Sp)(dvs:List V)(E:XK)(t:TA):TE:=λσ H Q=>t σ H λvs H1=>∀x dx,H1 x=none->H1 dx=none->dx≠x ->
 sp (.ref x::(vs++dvs)) (aA (aA H1 dx (.own x)) x (.ins C dx [])) (λv H2=>v=.non/\Q (.ref x) H2) E
noncomputable def b7(K:KM)(fd:KU)(ps:KY)(ds:KQ):Prop:=
 ∀(s:KP) (us:KQ),K.In s.heap->(us++ds).length=ps.length->BindsTo s fd ⟨us,[]⟩ (ps.zip (us++ds))
theorem b7.all{K:KM}{fd:KU}{ps:KY}(h:∀us:List Value,us.length=ps.length->bindArgs fd ⟨us,[]⟩=pure (ps.zip us)):b7 K fd ps []:=λs us _ hl=>by
 rw[Kq]at hl ⊢;exact .of_eq (h us hl)
noncomputable def cX(CX:k7)(X:Cx)(E:XK):Prop:=∀(pins:KN) (σ:St) (H:Hp) (s:KP) (e:Value) (s':KP),Inv X pins σ H s->CX X.stack H s E e s'->X.xe e s'
section
variable {X:Cx}{CX:k7}{k:Nat}{f C:Addr}{fd:KU}{ps:KY}{sp:Sp}{dvs:List V}{ds:KQ}{E:XK}{x m:Str}{p pos apos:Pos}{e o:Expr}{es:K2}{ta:TE}{t:TA}
theorem nJ{pins:KN}{σ:St}{H:Hp}{s:KP}{Q:VK}{us:KQ}{vs:List V}(F:aQ X.prog X.w X.K X.mg X.base CX k f fd ps sp)(hr:df k X.A)(hb:b7 X.K fd ps ds)(hd:bj dvs ds)(hx:cX CX X E)
  (I:Inv X pins σ H s) (r:bj vs us) (h:sp (vs++dvs) H Q E):wpAny (model X.prog X.w) X.A (call (.ref f) us) (EP X pins σ Q) X.xe s:=by
 have r2:bj (vs++dvs) (us++ds):=r.append hd;have hl:(us++ds).length=ps.length:=by rw[<- r2.length];exact F.len _ _ _ _ h
 refine wpAny_call (codeAny_mono (F.run X.A X.stack s H ⟨us,[]⟩ (us++ds) (vs++dvs) Q E hr I.env0 (hb s us I.kIn hl) r2 h) λr s' hq=>?_);cases r with
 |error e=>exact hx pins σ H s e s' I hq
 |ok fl=>
  cases fl with
  |ret u=>exact I.after hq
  |next=>exact False.elim hq
  |brk=>exact False.elim hq
  |cont=>exact False.elim hq
theorem D7(F:aQ X.prog X.w X.K X.mg X.base CX k f fd ps sp)(hr:df k X.A)(hg:Gl X x)(hm:X.mg x=some (.ref f))(hk:PySem.W.keepIn X.K (.ref f)=true)(hb:b7 X.K fd ps ds)(hd:bj dvs ds)(hx:cX CX X E)
  (ha:PA X (e::es) t) (hdb:autoParam ((x==("__debug__":Str))=false) zzD._auto_1) (he:autoParam (starEach (e::es) X.env=(false,eval e X.env)::starEach es X.env) zzR._auto_1) (hpl:autoParam ((backTo pos (starEach es X.env)).any (·.1)=false) zzR._auto_1) :
  PE X (.Call (.Name x p) (e::es) [] pos) (n6 sp dvs E t):=by
 intro pins s σ H Q I h;refine wpAny_Call_Name_kw (ke I hg hm ?_ hdb);refine PySem.W.callWith_K (h₀:=X.base) I.ok.mod.kin hk (bX (ha pos pins s σ H _ I h) λus s1 ⟨vs,H1,I1,r,q⟩=>⟨I1.kIn,?_⟩) he hpl;exact nJ F hr hb hd hx I1 r q
theorem DB{pl:Sem Bool}(he:PE X o ta)(c:lT X.K C)(hm:cQ X.K C m f)(F:aQ X.prog X.w X.K X.mg X.base CX k f fd ps sp)(hr:df k X.A)(hb:b7 X.K fd ps ds)(hd:bj dvs ds)(hx:cX CX X E)(ha:PA X (e::es) t)
  (hst:autoParam (starEach (e::es) X.env=(false,eval e X.env)::starEach es X.env) zzR._auto_1) (hpl:autoParam ((backTo pos (starEach es X.env)).any (·.1)=false) zzR._auto_1)
  (ht:autoParam (eval (.Call (.Attribute o m apos) (e::es) [] pos) X.env=(do
   let ov <- eval o X.env
   standAt apos.atName
   let (f,first) <- holding [ov] (getMethod ov m pl)
   callWith pos f first (backTo pos (starEach (e::es) X.env)) (backToKw pos (keywordEach [] X.env)))) zzR._auto_1) :
  PE X (.Call (.Attribute o m apos) (e::es) [] pos) (r8 C m sp dvs E ta t):=by
 intro pins s σ H Q I h;refine PySem.W.methodCall_KW (pl:=pl) (bX (he pins s σ H _ I h) λu s1 ⟨x,H1,I1,rx,a,dx,fs,ex,ea,l,q⟩=>?_) ht;subst ex;obtain rfl:u=Value.ref a:=rx;refine gi I1 ea c hm l ?_;refine PySem.W.callWith_K (first:=[.ref a]) (h₀:=X.base) I.ok.mod.kin hm.kp (bX (ha pos pins s1 σ H1 _ I1 q) λus s2 ⟨vs,H2,I2,r,q2⟩=>⟨I2.kIn,?_⟩) hst hpl;exact nJ (us:=.ref a::us) (vs:=.ref a::vs) F hr hb hd hx I2 (.cons rfl r) q2
theorem C8{pl:Sem Bool}(he:PE X o ta)(c:lT X.K C)(hm:cQ X.K C m f)(F:aQ X.prog X.w X.K X.mg X.base CX k f fd ps sp)(hr:df k X.A)(hb:b7 X.K fd ps ds)(hd:bj dvs ds)(hx:cX CX X E)
  (ht:autoParam (eval (.Call (.Attribute o m apos) [] [] pos) X.env=(do
   let ov <- eval o X.env
   standAt apos.atName
   let (f,first) <- holding [ov] (getMethod ov m pl)
   callWith pos f first (backTo pos (starEach [] X.env)) (backToKw pos (keywordEach [] X.env)))) zzR._auto_1) :
  PE X (.Call (.Attribute o m apos) [] [] pos) (r8 C m sp dvs E ta rh):=by
 intro pins s σ H Q I h;refine PySem.W.methodCall_KW (pl:=pl) (bX (he pins s σ H _ I h) λu s1 ⟨x,H1,I1,rx,a,dx,fs,ex,ea,l,q⟩=>?_) ht;subst ex;obtain rfl:u=Value.ref a:=rx;refine gi I1 ea c hm l ?_;exact PySem.W.callWith_K0 (first:=[.ref a]) I1.kIn hm.kp (nJ (us:=[.ref a]) (vs:=[.ref a]) F hr hb hd hx I1 (.cons rfl .nil) q)
structure Mk(K:KM)(C f:Addr):Prop where
 makes:PySem.W.makesIn K C=true
 init:PySem.W.findIn K (.ref C) "__init__"=some (some (.ref f))
 fn:PySem.W.isFn K (.ref f)=true
 kp:PySem.W.keepIn K (.ref C)=true
theorem BR{pins:KN}{σ:St}{H:Hp}{s:KP}{Q:VK}{us:KQ}{vs:List V}(M:Mk X.K C f)(F:aQ X.prog X.w X.K X.mg X.base CX k f fd ps sp)(hr:df (k+1) X.A)(hb:b7 X.K fd ps ds)(hd:bj dvs ds)
  (hx:cX CX X E) (I:Inv X pins σ H s) (r:bj vs us)
  (h:∀x dx,H x=none->H dx=none->dx≠x->sp (.ref x::(vs++dvs)) (aA (aA H dx (.own x)) x (.ins C dx [])) (λv H2=>v=.non/\Q (.ref x) H2) E) :
  wpAny (model X.prog X.w) X.A (call (.ref C) us) (EP X pins σ Q) X.xe s:=by
 have hq:=h (s.heap.objs.size+1) s.heap.objs.size (I.hok.fresh (Nat.le_succ _)) (I.hok.fresh (Ke _)) (Ka (Ko _));have I2:=Inv.made (C:=C) I;have r2:bj (V.ref (s.heap.objs.size+1)::(vs++dvs)) (Value.ref (s.heap.objs.size+1)::(us++ds)):=.cons rfl (r.append hd);have hl:(Value.ref (s.heap.objs.size+1)::us++ds).length=ps.length:=by
  have e:=r2.length;rw[F.len _ _ _ _ hq]at e;exact e.symm
 refine wpAny_call (Bu (f:=f) I.kIn M.makes M.init (beq_iff_eq.mp M.fn) (codeAny_mono (F.run _ X.stack _ _ ⟨Value.ref (s.heap.objs.size+1)::us,[]⟩ (Value.ref (s.heap.objs.size+1)::(us++ds)) _ _ E (hr.make C us [])
  (I2.env0.make C us []) (hb _ (Value.ref (s.heap.objs.size+1)::us) I2.kIn hl) r2 hq) λr s' hq'=>?_))
 cases r with
 |error e=>exact hx pins σ _ _ e s' I2 hq'
 |ok fl=>
  cases fl with
  |ret u=>
   obtain⟨v,H',I3,rv,ev,q3⟩:=I2.after hq';subst ev;exact⟨rv,⟨V.ref (s.heap.objs.size+1),H',I3,rfl,q3⟩⟩
  |next=>exact False.elim hq'
  |brk=>exact False.elim hq'
  |cont=>exact False.elim hq'
theorem Dw(M:Mk X.K C f)(F:aQ X.prog X.w X.K X.mg X.base CX k f fd ps sp)(hr:df (k+1) X.A)(hg:Gl X x)(hm:X.mg x=some (.ref C))(hb:b7 X.K fd ps ds)(hd:bj dvs ds)(hx:cX CX X E)
  (ha:PA X (e::es) t) (hdb:autoParam ((x==("__debug__":Str))=false) zzD._auto_1) (he:autoParam (starEach (e::es) X.env=(false,eval e X.env)::starEach es X.env) zzR._auto_1) (hpl:autoParam ((backTo pos (starEach es X.env)).any (·.1)=false) zzR._auto_1) :
  PE X (.Call (.Name x p) (e::es) [] pos) (yG C sp dvs E t):=by
 intro pins s σ H Q I h;refine wpAny_Call_Name_kw (ke I hg hm ?_ hdb);refine PySem.W.callWith_K (h₀:=X.base) I.ok.mod.kin M.kp (bX (ha pos pins s σ H _ I h) λus s1 ⟨vs,H1,I1,r,q⟩=>⟨I1.kIn,?_⟩) he hpl;exact BR M F hr hb hd hx I1 r q
end
section
variable {X:Cx}{CX:k7}{k:Nat}{f C:Addr}{fd:KU}{ps ks:KY}{sp:Sp}{E:XK}{x m:Str}{p pos apos kpos:Pos}{e o:Expr}{es:K2}{kws:List Keyword}{te ta:TE}{t tk:TA}{nm:Option Str}
structure Gz(K:KM)(fd:KU)(ps ks:KY)(g:List Value->List Value->List Value)(gV:List V->List V->List V):Prop where
 to:∀(s:KP) (us ws:KQ),K.In s.heap->(g us ws).length=ps.length->BindsTo s fd ⟨us,ks.zip ws⟩ (ps.zip (g us ws))
 rel:∀{vs:List V} {us:KQ} {zs:List V} {ws:KQ},bj vs us->bj zs ws->bj (gV vs zs) (g us ws)
variable {g:List Value->List Value->List Value}{gV:List V->List V->List V}
end
structure az(N P:KY)(sc:Scope):Prop where
 kind:sc.kind=.function
 co:sc.isCoroutine=false
 gen:sc.isGenerator=false
 nd:N.Nodup
 pre:N.take P.length=P
 par:∀x∈P,sc.names.lookup x=some .local\/sc.names.lookup x=some .cell
 nofree:∀y∈sc.names,y.2≠.free
theorem rX{kindOf:Str->Option NameKind}{x:Str}:∀{binds:List (Str×Value)} {m:KS},(∀v,(x,v)∉binds)->bindL kindOf binds m x=m x
 | [],_,_=>rfl
 | (n,v)::r,m,h=>by
  unfold bindL;rw[rX λw hw=>h w (J9 _ hw)]
  split
  ·have:x≠n:=by rintro rfl;exact h v List.mem_cons_self
   simp[this]
  ·rfl
theorem sw{kindOf:Str->Option NameKind}{x:Str}:∀{binds:List (Str×Value)} {m:KS},(∀v,(x,v)∉binds)->bindC kindOf binds m x=m x
 | [],_,_=>rfl
 | (n,v)::r,m,h=>by
  unfold bindC;rw[sw λw hw=>h w (J9 _ hw)]
  split
  ·rfl
  ·have:x≠n:=by rintro rfl;exact h v List.mem_cons_self
   simp[this]
theorem rE{kindOf:Str->Option NameKind}{x:Str}{v:Value}:∀{P:KY} {vs:KQ} {i:Nat} {m:KS},P.Nodup->P[i]?=some x->vs[i]?=some v->kindOf x=some .local ->
  bindL kindOf (P.zip vs) m x=some v
 | [],_,_,_,_,h,_,_=>by simp at h
 |_::_,[],_,_,_,_,h,_=>by simp at h
 |p::P,w::vs,0,m,nd,h1,h2,hk=>by
  simp at h1 h2;subst h1;subst h2
  show bindL kindOf ((p,w)::P.zip vs) m p=_;unfold bindL;rw[rX λv hv=>(List.nodup_cons.mp nd).1 (List.of_mem_zip hv).1,if_pos hk];simp
 |p::P,w::vs,i+1,m,nd,h1,h2,hk=>by
  show bindL kindOf ((p,w)::P.zip vs) m x=_;unfold bindL;exact rE (i:=i) (List.nodup_cons.mp nd).2 (by simpa using h1) (by simpa using h2) hk
theorem rG{kindOf:Str->Option NameKind}{x:Str}{v:Value}:∀{P:KY} {vs:KQ} {i:Nat} {m:KS},P.Nodup->P[i]?=some x->vs[i]?=some v->kindOf x≠some .local ->
  bindC kindOf (P.zip vs) m x=some v
 | [],_,_,_,_,h,_,_=>by simp at h
 |_::_,[],_,_,_,_,h,_=>by simp at h
 |p::P,w::vs,0,m,nd,h1,h2,hk=>by
  simp at h1 h2;subst h1;subst h2
  show bindC kindOf ((p,w)::P.zip vs) m p=_;unfold bindC;rw[sw λv hv=>(List.nodup_cons.mp nd).1 (List.of_mem_zip hv).1,if_neg hk];simp
 |p::P,w::vs,i+1,m,nd,h1,h2,hk=>by
  show bindC kindOf ((p,w)::P.zip vs) m x=_;unfold bindC;exact rG (i:=i) (List.nodup_cons.mp nd).2 (by simpa using h1) (by simpa using h2) hk
noncomputable def start(N:KY)(vs:List V):St:=vs.map some++List.replicate (N.length-vs.length) none
noncomputable def fU(CX:k7)(P:KW)(w:K0)(K:KM)(mg:KS)(base:Heap)(N:KY)(qual:Str)(scope:Scope)(f:Addr)(cd:Value)(A:KZ)(outer:List Env)(s:KP)(H:Hp)(E:XK):Cx where
 prog:=P
 w:=w
 K:=K
 mg:=mg
 base:=base
 A:=A.deeper (envOfC qual scope s.heap.objs.size f cd)
 N:=N
 s₀:=s
 H₀:=H
 env:=envOfC qual scope s.heap.objs.size f cd
 outer:=outer
 stack:=envOfC qual scope s.heap.objs.size f cd::outer
 ex:=[]
 calm:=true
 fn:=λ_=>true
 pn:=[]
 xe:=λe s'=>wpAny (model P w) (A.deeper (envOfC qual scope s.heap.objs.size f cd)) (leaving (envOfC qual scope s.heap.objs.size f cd) e) (λ_ s''=>CX outer H s E e s'') (λe' s''=>CX outer H s E e' s'') s'
theorem u9{sc:Scope}{n:Nat}{x:Str}(h:sc.names.lookup x=some .cell):∃c,(cellsFrom n sc.names []).lookup x=some c:=by
 have q:=PySem.W.cellsFrom_some sc.names n [] (.inl h);exact Option.isSome_iff_exists.mp q
theorem y4{CX:k7}{P:KW}{w:K0}{K:KM}{mg:KS}{base:Heap}{N ps:KY}{qual:Str}{scope:Scope}{f:Addr}{cd:Value}{A:KZ}{outer:List Env}{s s1:KP}{H:Hp}{E:XK}{us:KQ}{vs:List V}
  (S:az N ps scope) (hd:A.handled=none) (e0:wb P w K mg base A outer s H) (hl:vs.length=ps.length) (r:bj vs us)
  (x:InCallC s s.heap.objs.size (bindL (envOfC qual scope s.heap.objs.size f cd).kindOf (ps.zip us) λ_=>none) (cellsFrom (s.heap.objs.size+1) scope.names []) (bindC (envOfC qual scope s.heap.objs.size f cd).kindOf (ps.zip us) λ_=>none) s1) :
  Inv (fU CX P w K mg base N qual scope f cd A outer s H E) [] (start N vs) H s1:=by
 have hpl:ps.length<=N.length:=by have:=congrArg List.length S.pre;rw[Ku]at this;omega
 obtain⟨h1,tk,rfl,hk⟩:=x.done;have noA:∀b:Addr,b∉(fU CX P w K mg base N qual scope f cd A outer s H E).ex:=λb z=>absurd (show b∈([]:List Addr) from z) (by simp);refine⟨⟨e0.mod,S.kind,rfl,rfl,Ke _,λy z c h1 h2=>?_,λy hy=>?_,λy c _ h=>?_,λ_=>hd,Around.frames_deeper e0.frames,.inr ⟨rfl,rfl⟩,λb z=>absurd z (noA b),e0.bs,e0.bsz,λb _ _=>noA b,λb z=>absurd z (noA b),e0.funs,e0.frf⟩,
  rfl,e0.bare,Un.kept hk,⟨_,x.toInCall.ns,λi y v h1 h2 h3=>?_⟩,λy c h=>⟨_,x.cell y c h⟩,e0.hok.fresh (Ke _),λy c h=>?_,λp hp=>absurd (show p∈([]:List (Addr×Obj)) from hp) (by simp),e0.hok.kept hk,?_⟩
 ·exact name_of_addr x.apart (PySem.mem_of_lookup h1) (PySem.mem_of_lookup h2)
 ·have hy:scope.names.lookup y=some .cell\/scope.names.lookup y=some .free:=hy
  rcases hy with hy | hy
  ·exact u9 hy
  ·exact absurd rfl (S.nofree _ (PySem.mem_of_lookup hy))
 ·exact Nat.le_of_lt (x.above y c (PySem.mem_of_lookup h))
 ·have hi:i<vs.length:=by
   unfold start at h2
   by_cases hi:i<vs.length
   ·exact hi
   ·rw[Kb (by simpa using hi)]at h2
    rw[List.getElem?_replicate]at h2
    split at h2<;>cases h2
  have ha:vs[i]?=some v:=by
   unfold start at h2;rw[Kc (by simpa using hi),JW]at h2;cases e:vs[i]? with
   |none=>rw[e]at h2;cases h2
   |some a=>rw[e]at h2;cases h2;rfl
  obtain⟨u,hu,rv⟩:=r.get ha;have hp:ps[i]?=some y:=by
   rw[<- S.pre,List.getElem?_take_of_lt ⋯];exact h1
  have ndP:ps.Nodup:=by rw[<- S.pre];exact S.nd.sublist (List.take_sublist _ _)
  refine⟨u,rv,?_⟩;rcases S.par y (JX hp) with k | k
  ·exact .inl ⟨k,rE ndP hp hu k⟩
  ·obtain⟨c,e⟩:=u9 (n:=s.heap.objs.size+1) k
   refine .inr ⟨.inl k,c,e,?_⟩;have q:=x.cell y c e;rw[rG ndP hp hu (by show scope.names.lookup y≠_;rw[k];decide)]at q;exact q
 ·exact e0.hok.fresh (Nat.le_of_lt (x.above y c (PySem.mem_of_lookup h)))
 ·unfold start
  show _=N.length;rw[Kd,JU,List.length_replicate];omega
theorem Et{CX:k7}{P:KW}{w:K0}{K:KM}{mg:KS}{base:Heap}{k:Nat}{f:Addr}{name qual:Str}{params:Arguments}{body:List Stmt}{scope:Scope}{dV kV doc pm cdv ct oc:Value}{an od:K1}
  {osl:Array (Option Value)} {N ps:KY} {sp:Sp} (lk:K.lookup f=some ⟨oc,od,.func (PySem.W.fnOf name qual params body scope dV kV doc pm an cdv ct),osl⟩) (hcd:PySem.W.codeIn K cdv qual=true) (S:az N ps scope)
  (len:∀vs H Q E,sp vs H Q E->vs.length=ps.length)
  (hbody:∀(A:KZ) (outer:List Env) (s:KP) (H:Hp) (vs:List V) (Q:VK) (E:XK),df k (A.deeper (envOfC qual scope s.heap.objs.size f cdv))->sp vs H Q E ->
   ∃t,vU (fU CX P w K mg base N qual scope f cdv A outer s H E) body t/\t {nx:=λ_ H'=>Q .non H',rt:=Q} (start N vs) H) :
  aQ P w K mg base CX (k+1) f (PySem.W.fnOf name qual params body scope dV kV doc pm an cdv ct) ps sp:=by
 refine⟨len,λA outer s H args us vs Q E hr e0 hb r hsp=>?_⟩;have hl:=len _ _ _ _ hsp;have KX:K.In s.heap:=e0.mod.kin.keeps λb o e=>(e0.bs b o e).1;have lim:s.heap.NoLimit:=e0.mod.nolimit.keeps λb o e=>(e0.bs b o e).1;have hkind:∀y∈ps.zip us,scope.names.lookup y.1=some .local\/(scope.names.lookup y.1=some .cell/\((cellsFrom (s.heap.objs.size+1) scope.names []).lookup y.1).isSome=true):=λ⟨n,v⟩ hy=>by
  rcases S.par n (List.of_mem_zip hy).1 with q | q
  ·exact .inl q
  ·exact .inr ⟨q,PySem.W.cellsFrom_some _ _ _ (.inl q)⟩
 refine codeAny_call_function hr.depth (KX _ _ lk) rfl S.co S.gen rfl (PySem.W.codeRec_of KX hcd) (hb _ _ _ _ ?_);refine wpAny_newFunctionEnv_cells S.kind hkind λenv he s1 x=>?_;subst he;refine⟨lim.keeps x.toInCall.keep,codeAny_func ?_⟩;obtain⟨t,ht,hq⟩:=hbody A outer s H vs Q E (hr.deeper _) hsp;have I:Inv (fU CX P w K mg base N qual scope f cdv A outer s H E) [] (start N vs) H s1:=y4 S hr.hd e0 hl r x;refine wpAny_mono (ht [] s1 (start N vs) H _ I hq) (λfl s' hs=>?_) λe s' hs=>hs;have fin:∀{σ':St} {H':Hp} {v:V} {u:Value},Inv (fU CX P w K mg base N qual scope f cdv A outer s H E) [] σ' H' s'->bo v u->Q v H'->CE outer P w H s Q u s':=
  fun{σ' H' v u} J rv q=>⟨v,H',J.os,J.bare,J.base,J.hok,rv,q⟩
 cases fl with
 |ret u=>
  obtain⟨v,σ',H',J,rv,q⟩:=hs;exact fin J rv q
 |next=>
  obtain⟨σ',H',J,q⟩:=hs;exact fin (v:=V.non) (u:=Value.none) J rfl q
 |brk=>
  obtain⟨_,_,_,q⟩:=hs;exact False.elim q
 |cont=>
  obtain⟨_,_,_,q⟩:=hs;exact False.elim q
section
variable {X:Cx}{x:Str}{p pos:Pos}{e:Expr}{es:K2}{t:TA}{id T:String}{r:List V->Hp->VK->Prop}
noncomputable def Gw(r:List V->Hp->VK->Prop)(t:TA):TE:=λσ H Q=>t σ H λvs H1=>r vs H1 Q
theorem aB(hc:im X (.builtin id) r)(hg:Gl X x)(hm:X.mg x=none)(hv:bootBuiltins x=some (.builtin id))(ha:PA X (e::es) t)(hn:autoParam (x≠"__name__") zzD._auto_1)(hdb:autoParam ((x==("__debug__":Str))=false) zzD._auto_1)
  (he:autoParam (starEach (e::es) X.env=(false,eval e X.env)::starEach es X.env) zzR._auto_1) (hpl:autoParam ((backTo pos (starEach es X.env)).any (·.1)=false) zzR._auto_1):PE X (.Call (.Name x p) (e::es) [] pos) (Gw r t):=by
 intro pins s σ H Q I h;refine wpAny_Call_Name_kw (eV I hg hm hv ?_ hn hdb);exact PyProof.Rows.callWith_builtin1 (bX (ha pos pins s σ H _ I h) λus s1 ⟨vs,H1,I1,r1,q1⟩=>hc pins s1 σ H1 vs us Q I1 r1 q1) he hpl
theorem dH(hc:im X (.type T) r)(hg:Gl X x)(hm:X.mg x=none)(hv:bootBuiltins x=some (.type T))(ha:PA X (e::es) t)(hn:autoParam (x≠"__name__") zzD._auto_1)(hdb:autoParam ((x==("__debug__":Str))=false) zzD._auto_1)
  (he:autoParam (starEach (e::es) X.env=(false,eval e X.env)::starEach es X.env) zzR._auto_1) (hpl:autoParam ((backTo pos (starEach es X.env)).any (·.1)=false) zzR._auto_1):PE X (.Call (.Name x p) (e::es) [] pos) (Gw r t):=by
 intro pins s σ H Q I h;refine wpAny_Call_Name_kw (eV I hg hm hv ?_ hn hdb);exact PyProof.Rows.callWith_type1 (bX (ha pos pins s σ H _ I h) λus s1 ⟨vs,H1,I1,r1,q1⟩=>hc pins s1 σ H1 vs us Q I1 r1 q1) he hpl
end
end L2
namespace HT
open PySem PyProof.Rows
section
open PySem.SeqAt
open PySem.AutoSeq1 (wpAny_loadPart')
open PySem.MeetsSeq PySem.MeetsSeq2 PySem.MeetsSeq3
end
section
variable {prog:KW}{w:K0}{A:KZ}{E:KL}{s:KP}
theorem cat_tup{t b:Addr}{vs ws:KQ}{Q:KL}(ht:IsTup s.heap t vs.toArray)(hb:IsTup s.heap b ws.toArray)(hv:vs≠[])
  (h1:ws=[]->Q (.ref t) s) (h2:ws≠[]->Q (.ref s.heap.objs.size) {s with heap:=s.heap.push {cls:=.type "tuple",data:=.seq (vs++ws).toArray} })
  (hsz:vs.length+ws.length<=sizeLine):wpAny (model prog w) A (binaryOp .Add (.ref t) (.ref b)) Q E s:=by
 obtain⟨⟨cls,dd,data,sl⟩,ho,hc,n,hd⟩:=id ht;obtain⟨⟨cls2,dd2,data2,sl2⟩,ho2,hc2,n2,hd2⟩:=id hb;simp only at hc hd hc2 hd2;subst hc hd hc2 hd2;have e:vs.toArray++ws.toArray=(vs++ws).toArray:=by simp
 by_cases hw:ws=[]
 ·exact concat_meets ⟨_,ho,rfl⟩ ⟨_,ho2,rfl⟩ noFill_tuple_add seq_tuple_add PySem.F.slot_tuple_add PySem.F.entry_tuple_add (PySem.F.args_tuple_add_2 _ _)
   (tuple_addW1 t b vs.toArray ws.toArray n n2 dd dd2 sl sl2 (by simpa using hv) (by simp[hw])) ⟨ho,ho2,h1 hw⟩
 ·refine concat_meets ⟨_,ho,rfl⟩ ⟨_,ho2,rfl⟩ noFill_tuple_add seq_tuple_add PySem.F.slot_tuple_add PySem.F.entry_tuple_add (PySem.F.args_tuple_add_2 _ _)
   (tuple_addW2 t b vs.toArray ws.toArray n n2 dd dd2 sl sl2 (by simpa using hv) (by simpa using hw) (by rw[J0,J0];exact hsz)) ⟨ho,ho2,?_⟩
  rw[e];exact h2 hw
noncomputable def sIx(n d:Nat):Option Int->Nat
 |none=>d
 |some v=>if v<0 then(v+(n:Int)).toNat else min v.toNat n
theorem sIx_none(n d:Nat):sIx n d none=d:=rfl
theorem sIx_nat(n d k:Nat):sIx n d (some (k:Int))=min k n:=by
 show(if(k:Int)<0 then((k:Int)+(n:Int)).toNat else min (k:Int).toNat n)=min k n;rw[if_neg ⋯,J2]
theorem sIx_le(n d:Nat)(hd:d<=n)(o:Option Int):sIx n d o<=n:=by
 cases o with
 |none=>exact hd
 |some v=>
  show(if v<0 then(v+(n:Int)).toNat else min v.toNat n)<=n
  by_cases hv:v<0
  ·rw[if_pos hv];omega
  ·rw[if_neg hv];exact Nat.min_le_right _ _
theorem yL(v:Int)(n d:Nat):(if v<0 then max (v+(n:Int)) 0 else min v (n:Int))=((sIx n d (some v):Nat):Int):=by
 show(if v<0 then max (v+(n:Int)) 0 else min v (n:Int))=(((if v<0 then(v+(n:Int)).toNat else min v.toNat n):Nat):Int)
 by_cases hv:v<0
 ·simp only[if_pos hv];omega
 ·simp only[if_neg hv];omega
theorem x5(lo hi:Option Int)(n:Nat):Builtin.Slice.sliceAdjust lo hi 1 (n:Int)=(((sIx n 0 lo:Nat):Int),((sIx n n hi:Nat):Int)):=by
 have h1:¬ ((1:Int)<0):=by omega
 unfold Builtin.Slice.sliceAdjust;simp only[h1,if_false];refine Prod.ext ?_ ?_
 ·cases lo with
  |none=>rfl
  |some v=>exact yL v n 0
 ·cases hi with
  |none=>rfl
  |some v=>exact yL v n n
theorem xQ(i j:Nat):Builtin.Slice.slicePlaces (i:Int) (j:Int) 1=j-i:=by
 unfold Builtin.Slice.slicePlaces;have h1:(1:Int)>0:=by omega
 simp only[h1,if_true,Int.ediv_one]
 split<;>omega
theorem o7{v:Value}{o:Option Int}{Q:Option Int->Shared->Prop}(p:IsPart v o)(h:Q o s):wpAny (model prog w) A (Builtin.Slice.slicePartIndex v) Q E s:=by
 cases p with
 |none=>exact slicePart_none h
 |int i t=>exact slicePart_int h
theorem ik{sl:Addr}{vl vu:Value}{lo hi:Option Int}{n:Nat}{Q:Int×Int×Nat->Shared->Prop}(hs:s.heap.IsSliceOf sl vl vu .none)(pl:IsPart vl lo)(pu:IsPart vu hi)
  (h:Q (((sIx n 0 lo:Nat):Int),1,sIx n n hi-sIx n 0 lo) s):wpAny (model prog w) A (Builtin.Slice.sliceApplied (.ref sl) (pure (n:Int))) Q E s:=by
 obtain⟨os,hos,hcs,hds⟩:=id hs;unfold Builtin.Slice.sliceApplied Builtin.Slice.sliceFields;refine wpAny_bind (wpAny_bind (wpAny_field hos hds (x:=vl) rfl (wpAny_bind (wpAny_field hos hds (x:=vu) rfl (wpAny_bind (wpAny_field hos hds (x:=.none) rfl (wpAny_pure ?_)))))));refine wpAny_bind (slicePart_none ?_);show wpAny _ _ (if((1:Int)==0)=true then _ else _) _ _ s;rw[if_neg nofun];refine wpAny_bind (o7 pl (wpAny_bind (o7 pu (wpAny_bind (wpAny_pure ?_)))));show wpAny _ _ (match Builtin.Slice.sliceAdjust lo hi 1 (n:Int) with | (lo,hi)=>pure (lo,(1:Int),Builtin.Slice.slicePlaces lo hi 1)) _ _ s;rw[x5 lo hi n];show wpAny _ _ (pure (((sIx n 0 lo:Nat):Int),(1:Int),Builtin.Slice.slicePlaces ((sIx n 0 lo:Nat):Int) ((sIx n n hi:Nat):Int) 1)) _ _ s;rw[xQ];exact wpAny_pure h
theorem Cm(xs:Array Value)(i k:Nat):((List.range k).filterMap fun(m:Nat)=>xs[((i:Int)+(m:Int)*1).toNat]?).toArray=((xs.toList.drop i).take k).toArray:=by
 have e:(fun(m:Nat)=>xs[((i:Int)+(m:Int)*1).toNat]?)=λm=>xs[i+m]?:=by
  funext m
  have:((i:Int)+(m:Int)*1).toNat=i+m:=by omega
  rw[this]
 rw[e];have:=pick_run xs i k;rw[List.filterMap_map]at this;have e2:((λx=>xs[x]?)∘λx=>i+x)=λm=>xs[i+m]?:=rfl;rw[e2]at this;rw[this]
theorem getItem_tuple_cut{t sl:Addr}{items:Array Value}{vl vu:Value}{lo hi:Option Int}{Q:KL}(ht:IsTup s.heap t items)(hs:s.heap.IsSliceOf sl vl vu .none)(pl:IsPart vl lo)(pu:IsPart vu hi)
  (hw:¬ (sIx items.size 0 lo=0/\sIx items.size items.size hi=items.size))
  (h:Q (.ref s.heap.objs.size) {s with heap:=s.heap.push {cls:=.type "tuple",data:=.seq ((items.toList.drop (sIx items.size 0 lo)).take (sIx items.size items.size hi-sIx items.size 0 lo)).toArray} })
  (hsz:items.size<=sizeLine):wpAny (model prog w) A (getItem (.ref t) (.ref sl)) Q E s:=by
 have htake:sizeOk (.seq ((items.toList.drop (sIx items.size 0 lo)).take (sIx items.size items.size hi-sIx items.size 0 lo)).toArray):=by
  show((items.toList.drop (sIx items.size 0 lo)).take (sIx items.size items.size hi-sIx items.size 0 lo)).toArray.size<=sizeLine;rw[J0,Ku,Kv,Array.length_toList];omega
 have hj:sIx items.size items.size hi<=items.size:=sIx_le _ _ (Ke _) hi;obtain⟨os,hos,hcs,hds⟩:=id hs;have hTs:s.TypeIs (.ref sl) "slice":=⟨os,hos,hcs⟩;unfold getItem
 try with_reducible refine wpAny_holding ?_
 first | refine wpAny_bind (wpAny_pure ?_) | skip
 refine wpAny_bind (wpAny_sequenceKey ht.typeIs nofun ?_);refine wpAny_bind (wpAny_callSpecial?_slot (name:=Str.ofString "__getitem__") ht.typeIs PyProof.Rows.slot_tuple_getitem
  (wpAny_call_entry PyProof.Rows.slot_tuple_getitem ht.typeIs entry_tuple_getitem ?_ (args_tuple_getitem _ _)))
 show wpAny _ _ (Builtin.Tuple.tupleItemsOf (.ref t) >>= _) _ _ s;refine wpAny_bind (tupleItemsOf_ ht ?_);refine wpAny_bind (wpAny_typeOf hTs ?_);rw[if_pos nofun];refine wpAny_bind (ik hs pl pu ?_);have hno:¬ ((((sIx items.size 0 lo:Nat):Int)==0&&(1:Int)==1&&(sIx items.size items.size hi-sIx items.size 0 lo)==items.size)=true):=by
  intro q;rw[Bool.and_eq_true,Bool.and_eq_true]at q;have q1:((sIx items.size 0 lo:Nat):Int)=0:=eq_of_beq q.1.1;have q2:sIx items.size items.size hi-sIx items.size 0 lo=items.size:=eq_of_beq q.2;exact hw ⟨⋯,⋯⟩
 show wpAny _ _ (if(((sIx items.size 0 lo:Nat):Int)==0&&(1:Int)==1&&(sIx items.size items.size hi-sIx items.size 0 lo)==items.size)=true then _ else _) _ _ s;rw[if_neg hno,Cm]
 first
  |exact wpAny_bind (m:=Builtin.Tuple.tupleExact _) (wpAny_newObj_type (wpAny_pure ⟨_,rfl,wpAny_pure h⟩) htake)
  |exact wpAny_bind (m:=Builtin.Tuple.tupleExact _) (wpAny_newObj_type (wpAny_bind (wpAny_pure (wpAny_pure ⟨_,rfl,wpAny_pure h⟩))) htake)
  |exact wpAny_bind (wpAny_bind (m:=Builtin.Tuple.tupleExact _) (wpAny_newObj_type (wpAny_pure (wpAny_pure ⟨_,rfl,wpAny_pure h⟩)) htake))
  |exact wpAny_bind (wpAny_bind (m:=Builtin.Tuple.tupleExact _) (wpAny_newObj_type (wpAny_pure ⟨_,rfl,wpAny_pure h⟩) htake))
end
end HT
namespace L2
open PySem PySem.Spec PyProof.Rows
noncomputable abbrev TO:=St->Hp->(Option Int->Hp->Prop)->Prop
noncomputable def PO(X:Cx)(e:Option Expr)(t:TO):Prop:=
 ∀(pins:KN) (s:KP) (σ:St) (H:Hp) (Q:Option Int->Hp->Prop),Inv X pins σ H s->t σ H Q ->
  wpAny (model X.prog X.w) X.A (evalPart e X.env) (λu s'=>∃o H',Inv X pins σ H' s'/\IsPart u o/\Q o H') X.xe s
noncomputable def tE:TO:=λ_ H Q=>Q none H
noncomputable def BV(t:TE):TO:=λσ H Q=>t σ H λx H1=>∃i,x=.int i/\Q (some i) H1
section
variable {X:Cx}{e:Expr}{te:TE}{lo hi:Option Expr}{tl th:TO}{pos p2:Pos}
theorem gE:PO X none tE:=by
 intro pins s σ H Q I h;rw[evalPart_none];exact wpAny_pure ⟨none,H,I,.none,h⟩
theorem e_(h:PE X e te):PO X (some e) (BV te):=by
 intro pins s σ H Q I hw;rw[evalPart_some];refine bX (h pins s σ H _ I hw) λu s1 ⟨x,H1,I1,r1,q1⟩=>?_;obtain⟨i,rfl,q⟩:=q1;obtain⟨t,rfl⟩:=r1;exact⟨some i,H1,I1,.int i t,q⟩
noncomputable def FY(X:Cx)(r:V->Option Int->Option Int->Hp->VK->Prop):Prop:=
 ∀(pins:KN) (s:KP) (σ:St) (H:Hp) (x:V) (v vl vu:Value) (lo hi:Option Int) (sl:Addr) (Q:VK),Inv X pins σ H s->bo x v->s.heap.IsSliceOf sl vl vu .none->IsPart vl lo->IsPart vu hi->r x lo hi H Q ->
  ∃T id,typeLookup (.type T) "__getitem__"=pure (some (.builtin id))/\s.TypeIs v T/\wpAny (model X.prog X.w) X.A (getItem v (.ref sl)) (EP X pins σ Q) X.xe s
noncomputable def G3(r:V->Option Int->Option Int->Hp->VK->Prop)(te:TE)(tl th:TO):TE:=λσ H Q=>te σ H λx H1=>tl σ H1 λl H2=>th σ H2 λu H3=>r x l u H3 Q
theorem eG{r:V->Option Int->Option Int->Hp->VK->Prop}(hr:FY X r)(he:PE X e te)(hl:PO X lo tl)(hu:PO X hi th):PE X (.Subscript e (.Slice lo hi none p2) pos) (G3 r te tl th):=by
 intro pins s σ H Q I h;refine Subscript_ (bX (he pins s σ H _ I h) λv s1 ⟨x,H1,I1,r1,q1⟩=>?_);refine wpAny_Slice (bX (hl pins s1 σ H1 _ I1 q1) λvl s2 ⟨l,H2,I2,pl,q2⟩=>bX (hu pins s2 σ H2 _ I2 q2) λvu s3 ⟨u,H3,I3,pu,q3⟩=>?_);rw[evalPart_none];refine wpAny_pure ?_;have I4:Inv X pins σ H3 {s3 with heap:=s3.heap.push {cls:=.type "slice",data:=.fields #[vl,vu,.none]} }:=I3.kept (t':=s3.toks) λb ob q=>JT _ q;obtain⟨T,id,hT,ht,hg⟩:=hr pins {s3 with heap:=s3.heap.push {cls:=.type "slice",data:=.fields #[vl,vu,.none]} } σ H3 x v vl vu l u s3.heap.objs.size Q I4 r1 (Heap.IsSliceOf.new ..) pl pu q3;show wpAny (model X.prog X.w) X.A (subscriptTail e (.Slice lo hi none p2) v (.ref s3.heap.objs.size)) (EP X pins σ Q) X.xe {s3 with heap:=s3.heap.push {cls:=.type "slice",data:=.fields #[vl,vu,.none]} };exact tail_any (ops:=[.ref s3.heap.objs.size,v]) ht hT hg (by with_unfolding_all rfl)
noncomputable def nA(xs:List V)(lo hi:Option Int):List V:=(xs.drop (HT.sIx xs.length 0 lo)).take (HT.sIx xs.length xs.length hi-HT.sIx xs.length 0 lo)
theorem jQ(xs:List V)(lo hi:Option Int):(nA xs lo hi).length<=xs.length:=by
 unfold nA;rw[Ku,Kv];omega
noncomputable def EU(K:KM):V->Option Int->Option Int->Hp->VK->Prop:=λx lo hi H Q=>∃a xs,x=.ref a/\ba K H a xs /\
 ¬ (HT.sIx xs.length 0 lo=0/\HT.sIx xs.length xs.length hi=xs.length)/\∀p,H p=none->Q (.ref p) (aA H p (.tup (nA xs lo hi)))
theorem nG:FY X (EU X.K):=by
 intro pins s σ H x v vl vu lo hi sl Q I rx hs pl pu h;obtain⟨a,xs,rfl,hx,hw,q⟩:=h;cases rx;obtain⟨its,r,ht,hz⟩:=I.tuple hx;have hlen:its.toArray.size=xs.length:=by rw[J0];exact r.length.symm
 refine⟨"tuple",_,PyProof.Rows.slot_tuple_getitem.lookup,ht.typeIs,?_⟩;refine HT.getItem_tuple_cut ht hs pl pu (by rw[hlen];exact hw) ?_ (by rw[hlen];exact hz);rw[hlen];refine⟨.ref s.heap.objs.size,_,I.laid (t':=s.toks) (o:=.tup (nA xs lo hi)) (λb ob q=>JT _ q) (Ke _) ?_,rfl,q _ (I.hok.fresh (Ke _))⟩;exact⟨Km (jQ xs lo hi) hz,_,(r.drop (HT.sIx xs.length 0 lo)).take (HT.sIx xs.length xs.length hi-HT.sIx xs.length 0 lo),IsTup.new _ _⟩
noncomputable def Bc(K:KM):R2:=λx y H Q=>∃a b xs ys,x=.ref a/\y=.ref b/\ba K H a xs/\ba K H b ys/\xs≠[]/\xs.length+ys.length<=sizeLine /\
 (ys=[]->Q (.ref a) H)/\(ys≠[]->∀p,H p=none->Q (.ref p) (aA H p (.tup (xs++ys))))
theorem bj.nil_iff{xs:List V}{us:KQ}(r:bj xs us):us=[]↔xs=[]:=by
 cases r with
 |nil=>simp
 |cons _ _=>simp
theorem dC:bf X (binaryOp .Add) (Bc X.K):=by
 intro pins s σ H x y v u Q I rx ry h;obtain⟨a,b,xs,ys,rfl,rfl,ha,hb,hx,hz,q1,q2⟩:=h;cases rx;cases ry;obtain⟨its,r1,p1,_⟩:=I.tuple ha;obtain⟨its2,r2,p2,_⟩:=I.tuple hb;refine HT.cat_tup p1 p2 (λz=>hx (r1.nil_iff.mp z)) (λz=>⟨.ref a,H,I,rfl,q1 (r2.nil_iff.mp z)⟩) (λz=>?_) (by rw[<- r1.length,<- r2.length];exact hz);refine⟨.ref s.heap.objs.size,_,I.laid (t':=s.toks) (o:=.tup (xs++ys)) (λb ob q=>JT _ q) (Ke _) ?_,rfl,q2 (λw=>z (r2.nil_iff.mpr w)) _ (I.hok.fresh (Ke _))⟩;exact⟨by rw[Kd];exact hz,_,r1.append r2,IsTup.new _ _⟩
end
noncomputable def E2(n:Nat)(i:Int):Option Nat:=if 0<=i then(if i<n then some i.toNat else none) else if -(n:Int)<=i then some (i+n).toNat else none
noncomputable def h_{α:Type}(xs:List α)(i:Int):Option α:=(E2 xs.length i).bind λj=>xs[j]?
theorem D6{n:Nat}{i:Int}{j:Nat}(h:E2 n i=some j):seqIndex? i n=some j/\j<n/\-(n:Int)<=i/\i<n:=by
 unfold E2 at h
 by_cases h0:0<=i
 ·rw[if_pos h0]at h
  by_cases h1:i<n
  ·rw[if_pos h1]at h
   have e:i.toNat=j:=Option.some.inj h;exact⟨by rw[seqIndex_of h0 h1,e],⋯,⋯,h1⟩
  ·rw[if_neg h1]at h;cases h
 ·rw[if_neg h0]at h
  by_cases h1:-(n:Int)<=i
  ·rw[if_pos h1]at h
   have e:(i+n).toNat=j:=Option.some.inj h;exact⟨by rw[seqIndex_neg ⋯ h1,e],⋯,h1,⋯⟩
  ·rw[if_neg h1]at h;cases h
theorem sV{α:Type}{xs:List α}{i:Int}{v:α}(h:h_ xs i=some v):∃j,seqIndex? i xs.length=some j/\xs[j]?=some v/\j<xs.length/\-(xs.length:Int)<=i/\i<xs.length:=by
 unfold h_ at h;cases e:E2 xs.length i with
 |none=>rw[e]at h;cases h
 |some j=>
  rw[e]at h;obtain⟨h1,h2,h3,h4⟩:=D6 e;exact⟨j,h1,h,h2,h3,h4⟩
theorem bt{α:Type}{xs:List α}{j:Nat}{v:α}(h:xs[j]?=some v):h_ xs (j:Int)=some v:=by
 have hj:j<xs.length:=(JS.mp h).1;have e:E2 xs.length (j:Int)=some j:=by
  unfold E2;rw[if_pos ⋯,if_pos ⋯];simp
 unfold h_;rw[e];exact h
noncomputable def yq(b:Expr):Prop:=∀o i,subscripted b false o i=operate [o,i] (getItem o i)
noncomputable def Fs(X:Cx)(r:R2):Prop:=
 ∀(value slice:Expr) (pins:KN) (s:KP) (σ:St) (H:Hp) (x y:V) (v u:Value) (Q:VK),Inv X pins σ H s->bo x v->bo y u->r x y H Q ->
  subscripted slice false v u=operate [v,u] (getItem v u)->wpAny (model X.prog X.w) X.A (subscriptTail value slice v u) (EP X pins σ Q) X.xe s
noncomputable def Hm(X:Cx)(id:String)(r:V->List V->Hp->VK->Prop):Prop:=
 ∀(pins:KN) (s:KP) (σ:St) (H:Hp) (x:V) (xs:List V) (v:Value) (us:KQ) (Q:VK),Inv X pins σ H s->bo x v->bj xs us->r x xs H Q ->
  wpAny (model X.prog X.w) X.A (call (.builtin id) (v::us)) (EP X pins σ Q) X.xe s
section
variable {X:Cx}{a b:Expr}{ta tb:TE}{pos:Pos}
theorem aH{r:R2}(hr:Fs X r)(ha:PE X a ta)(hb:PE X b tb)(hs:yq b):PE X (.Subscript a b pos) (Fj r ta tb):=by
 intro pins s σ H Q I h;exact Subscript_ (EY ha hb I h λv u s2 x y H2 I2 rx ry q=>hr a b pins s2 σ H2 x y v u Q I2 rx ry q (hs _ _))
noncomputable def zH(K:KM):R2:=λx y H Q=>∃p xs i v,x=.ref p/\y=.int i/\aU K H p xs/\h_ xs i=some v/\Q v H
noncomputable def ze(K:KM):R2:=λx y H Q=>∃p xs i v,x=.ref p/\y=.int i/\ba K H p xs/\h_ xs i=some v/\Q v H
noncomputable def FC:R2:=λx y H Q=>∃z i c,x=.str z/\y=.int i/\z.length<=sizeLine/\h_ z.cps.toList i=some c/\Q (.str ⟨#[c]⟩) H
theorem tG:Fs X (zH X.K):=by
 intro value slice pins s σ H x y v u Q I rx ry h hs;obtain⟨p,xs,i,z,rfl,rfl,hq,he,q⟩:=h;cases rx;obtain⟨t,rfl⟩:=ry;obtain⟨its,r,pl,hz⟩:=I.list hq;obtain⟨j,h1,h2,h3,h4,h5⟩:=sV he;obtain⟨w,ew,rw'⟩:=r.get h2;have hl:=r.length;have hn:=qh;have fin:EP X pins σ Q w s:=⟨z,H,I,rw',q⟩
 by_cases h0:0<=i
 ·have hj:i.toNat=j:=by
   rw[seqIndex_of h0 h5]at h1;exact Option.some.inj h1
  exact item_listR pl.isList h0 ⋯ (by rw[hj];simpa using ew) fin hs
 ·have hj:(i+(its.toArray.size:Int)).toNat=j:=by
   rw[seqIndex_neg ⋯ h4]at h1;rw[J0,<- hl];exact Option.some.inj h1
  exact subscriptTail_builtinR (x:=w) pl.isList.typeIs slot_list_getitem.lookup
   (wpAny_getItem_list_neg (Q:=λr s'=>r=w/\EP X pins σ Q r s') pl.isList ⋯ (by rw[J0]<;>omega) ⋯ (by rw[hj];simpa using ew) ⟨rfl,fin⟩) hs
theorem Cf:Fs X (ze X.K):=by
 intro value slice pins s σ H x y v u Q I rx ry h hs;obtain⟨p,xs,i,z,rfl,rfl,hq,he,q⟩:=h;cases rx;obtain⟨t,rfl⟩:=ry;obtain⟨its,r,pl,hz⟩:=I.tuple hq;obtain⟨j,h1,h2,h3,h4,h5⟩:=sV he;obtain⟨w,ew,rw'⟩:=r.get h2;have hl:=r.length;have hn:=qh;have fin:EP X pins σ Q w s:=⟨z,H,I,rw',q⟩;exact subscriptTail_builtinR (x:=w) pl.typeIs slot_tuple_getitem.lookup
  (getItem_tuple (j:=j) (Q:=λr s'=>r=w/\EP X pins σ Q r s') pl ⋯ ⋯ (by rw[J0,<- hl];exact h1) (by simpa using ew) ⟨rfl,fin⟩) hs
theorem m5:Fs X FC:=by
 intro value slice pins s σ H x y v u Q I rx ry h hs;obtain⟨z,i,c,rfl,rfl,hz,he,q⟩:=h;obtain⟨t,rfl⟩:=rx;obtain⟨t',rfl⟩:=ry;obtain⟨j,h1,h2,h3,h4,h5⟩:=sV he;have hl:z.cps.toList.length=z.length:=by simp[Str.length]
 rw[hl]at h1 h4 h5;have hn:=qh;exact tail_any (typeIs_str s z t) slot_str_getitem.lookup (getItem_str (c:=c) (by
  have e1:decide (i < -(2 ^ 63:Int))=false:=decide_eq_false ⋯;have e2:decide (i≥2 ^ 63)=false:=decide_eq_false ⋯;rw[e1,e2,Bool.or_false]) (by rw[h1];simpa using h2) ⟨.str ⟨#[c]⟩,H,I.tok _,⟨_,rfl⟩,q⟩) hs
theorem tT(lo hi:Option Int)(n:Nat):(sliceBounds lo hi none n).1=((HT.sIx n 0 lo:Nat):Int)/\(sliceBounds lo hi none n).2.1=((HT.sIx n n hi:Nat):Int)/\(sliceBounds lo hi none n).2.2=1:=by
 refine⟨?_,?_,rfl⟩
 ·cases lo with
  |none=>simp[sliceBounds,HT.sIx]
  |some i=>
   simp only[sliceBounds,HT.sIx,Option.getD_none,show(1:Int)>0 by decide,if_true]
   by_cases h:i<0
   ·simp only[h,if_true]<;>omega
   ·simp only[h,if_false]<;>omega
 ·cases hi with
  |none=>simp[sliceBounds,HT.sIx]
  |some i=>
   simp only[sliceBounds,HT.sIx,Option.getD_none,show(1:Int)>0 by decide,if_true]
   by_cases h:i<0
   ·simp only[h,if_true]<;>omega
   ·simp only[h,if_false]<;>omega
theorem qY(its:KQ)(lo hi:Option Int):slicePick its.toArray lo hi none=((its.drop (HT.sIx its.length 0 lo)).take (HT.sIx its.length its.length hi-HT.sIx its.length 0 lo)).toArray:=by
 obtain⟨h1,h2,h3⟩:=tT lo hi its.toArray.size;unfold slicePick;rw[h1,h2,h3];simp only[sliceRange_one,pick_run,J0]<;>rfl
noncomputable def GA(K:KM):V->Option Int->Option Int->Hp->VK->Prop:=λx lo hi H Q=>∃a xs,x=.ref a/\aU K H a xs/\∀p,H p=none->Q (.ref p) (aA H p (.lst (nA xs lo hi)))
theorem Gs:FY X (GA X.K):=by
 intro pins s σ H x v vl vu lo hi sl Q I rx hs pl pu h;obtain⟨a,xs,rfl,hx,q⟩:=h;cases rx;obtain⟨its,r,ht,hz⟩:=I.list hx;have hlen:=r.length;refine⟨"list",_,slot_list_getitem.lookup,ht.isList.typeIs,?_⟩;refine wpAny_getItem_list_slice ht.isList hs pl pu .none (by simp) ?_ (by rw[J0]<;>omega);rw[qY,<- hlen];refine⟨.ref s.heap.objs.size,_,I.laid (t':=s.toks) (o:=.lst (nA xs lo hi)) (λb ob q=>JT _ q) (Ke _) ?_,rfl,q _ (I.hok.fresh (Ke _))⟩;exact⟨Km (jQ xs lo hi) hz,_,0,(r.drop (HT.sIx xs.length 0 lo)).take (HT.sIx xs.length xs.length hi-HT.sIx xs.length 0 lo),JZ _ rfl⟩
noncomputable def i_:V->Bool
 | .non=>true
 | .bl _=>true
 | .int _=>true
 | .str _=>true
 |_=>false
noncomputable def vz:V->V->Bool
 | .non,.non=>true
 | .bl a,.bl b=>a==b
 | .bl a,.int b=>(if a then 1 else 0)==b
 | .int a,.bl b=>a==(if b then 1 else 0)
 | .int a,.int b=>a==b
 | .str a,.str b=>a==b
 |_,_=>false
theorem yf{A:KZ}{s:KP}{y x:V}{u v:Value}(ry:bo y u)(rx:bo x v)(fy:i_ y=true)(fx:i_ x=true):SeqAt.EqAt A s u v (vz y x):=by
 cases y with
 |non=>
  cases ry;cases x with
  |non=>cases rx;exact SeqAt.EqAt.same _
  |bl b=>cases rx;exact SeqAt.EqAt.none_bool b
  |int b=>obtain⟨t,rfl⟩:=rx;exact SeqAt.EqAt.none_int b t
  |str b=>obtain⟨t,rfl⟩:=rx;exact SeqAt.EqAt.none_str b t
  |_=>exact absurd (show false=true from fx) Kg
 |bl a=>
  cases ry;cases x with
  |non=>cases rx;exact SeqAt.EqAt.bool_none a
  |bl b=>cases rx;exact SeqAt.EqAt.bool_bool a b
  |int b=>obtain⟨t,rfl⟩:=rx;exact SeqAt.EqAt.bool_int a b t
  |str b=>obtain⟨t,rfl⟩:=rx;exact SeqAt.EqAt.bool_str a b t
  |_=>exact absurd (show false=true from fx) Kg
 |int a=>
  obtain⟨t',rfl⟩:=ry;cases x with
  |non=>cases rx;exact SeqAt.EqAt.int_none a t'
  |bl b=>cases rx;exact SeqAt.EqAt.int_bool a t' b
  |int b=>obtain⟨t,rfl⟩:=rx;exact SeqAt.EqAt.int_int a t' b t
  |str b=>obtain⟨t,rfl⟩:=rx;exact SeqAt.EqAt.int_str a t' b t
  |_=>exact absurd (show false=true from fx) Kg
 |str a=>
  obtain⟨t',rfl⟩:=ry;cases x with
  |non=>cases rx;exact SeqAt.EqAt.str_none a t'
  |bl b=>cases rx;exact SeqAt.EqAt.str_bool a t' b
  |int b=>obtain⟨t,rfl⟩:=rx;exact SeqAt.EqAt.str_int a t' b t
  |str b=>obtain⟨t,rfl⟩:=rx;exact SeqAt.EqAt.str_str a t' b t
  |_=>exact absurd (show false=true from fx) Kg
 |_=>exact absurd (show false=true from fy) Kg
theorem lV:im X (.builtin "len") (λxs H Q=>∃p ys,xs=[.ref p]/\(aU X.K H p ys\/ba X.K H p ys)/\Q (.int ys.length) H):=by
 intro pins s σ H xs us Q I r h;obtain⟨p,ys,rfl,hq,q⟩:=h;obtain⟨u,rfl,rx⟩:=wm r;cases rx;have hn:=qh;rcases hq with hq | hq
 ·obtain⟨its,r',pl,hz⟩:=I.list hq
  have hlen:=r'.length;exact Calls.call_len_list pl.isList (by simp only[J0]<;>omega) ⟨.int ys.length,H,I.tok _,⟨s.toks+1,by rw[J0,hlen]⟩,q⟩
 ·obtain⟨its,r',pl,hz⟩:=I.tuple hq
  have hlen:=r'.length;exact len_tuple pl (by simp only[J0]<;>omega) ⟨.int ys.length,H,I.tok _,⟨s.toks+1,by rw[J0,hlen]⟩,q⟩
theorem aV:im X (.builtin "len") (λxs H Q=>∃z,xs=[.str z]/\z.length<=sizeLine/\Q (.int z.length) H):=by
 intro pins s σ H xs us Q I r h;obtain⟨z,rfl,hz,q⟩:=h;obtain⟨u,rfl,t,rfl⟩:=wm r;have hn:=qh;exact len_str ⋯ ⟨.int z.length,H,I.tok _,⟨_,rfl⟩,q⟩
theorem cM:im X (.type "list") (λxs H Q=>∃p ys,xs=[.ref p]/\(aU X.K H p ys\/ba X.K H p ys)/\∀l,H l=none->Q (.ref l) (aA H l (.lst ys))):=by
 intro pins s σ H xs us Q I r h;obtain⟨p,ys,rfl,hq,q⟩:=h;obtain⟨u,rfl,rx⟩:=wm r;cases rx;have fin:∀(its:KQ),bj ys its->ys.length<=sizeLine->∀(h':Heap) (c':Nat),(∀b o',s.heap.get? b=some o'->h'.get? b=some o') ->
   h'.get? s.heap.objs.size=some {cls:=.type "list",dict:=none,data:=.seq its.toArray c',slots:=#[]}->EP X pins σ Q (.ref s.heap.objs.size) {s with heap:=h' }:=λits r' hz h' c' kp e=>
  ⟨.ref s.heap.objs.size,_,I.laid (t':=s.toks) kp (Ke _) (show bU X.prog X.w _ h' _ (.lst ys) from⟨hz,its,c',r',e⟩),rfl,q _ (I.hok.fresh (Ke _))⟩
 rcases hq with hq | hq
 ·obtain⟨its,r',pl,hz⟩:=I.list hq
  have hlen:=r'.length;obtain⟨o,ho,hc,n,hd⟩:=pl.isList;exact call_list_seq p (.inl rfl) ho hc hd (λh' c' kp e=>fin its r' hz h' c' kp e) (by simp only[J0]<;>omega)
 ·obtain⟨its,r',pl,hz⟩:=I.tuple hq
  have hlen:=r'.length;obtain⟨o,ho,hc,n,hd⟩:=pl;exact call_list_seq p (.inr rfl) ho hc hd (λh' c' kp e=>fin its r' hz h' c' kp e) (by simp only[J0]<;>omega)
theorem q_:im X (.type "tuple") (λxs H Q=>∃p ys,xs=[.ref p]/\((aU X.K H p ys/\∀l,H l=none->Q (.ref l) (aA H l (.tup ys)))\/(ba X.K H p ys/\Q (.ref p) H))):=by
 intro pins s σ H xs us Q I r h;obtain⟨p,ys,rfl,h⟩:=h;obtain⟨u,rfl,rx⟩:=wm r;cases rx;rcases h with⟨hq,q⟩ | ⟨hq,q⟩
 ·obtain⟨its,r',pl,hz⟩:=I.list hq
  have hlen:=r'.length;refine call_tuple_list pl.isList (λh' kp=>?_) (by simp only[J0]<;>omega);have I1:Inv X pins σ H {s with heap:=h' }:=I.kept (t':=s.toks) kp;have I2:Inv X pins σ (aA H h'.objs.size (.tup ys)) {s with heap:=h'.push {cls:=.type "tuple",data:=.seq its.toArray} }:=
   I1.laid (t':=s.toks) (λb o e=>JT _ e) (Ke _) (show bU X.prog X.w _ _ _ (.tup ys) from⟨hz,its,r',IsTup.new _ _⟩)
  exact⟨.ref h'.objs.size,_,I2,rfl,q _ (I1.hok.fresh (Ke _))⟩
 ·obtain⟨its,r',pl,hz⟩:=I.tuple hq
  exact call_tuple_same pl ⟨.ref p,H,I,rfl,q⟩
noncomputable def Hg(K:KM)(T:String)(x:V)(H:Hp):Prop:=match x with
 | .str _=>T="str"
 | .int _=>T="int"
 | .ref p=>(T="list"/\∃xs,aU K H p xs)\/(T="tuple"/\∃o,K.lookup p=some o/\o.cls=.type "tuple"/\o.dict=none) \/
   (T="dict"/\((∃kvs,H p=some (.dK kvs))\/∃kvs,H p=some (.dT kvs)))\/(T="set"/\∃S n,H p=some (.set S n))
 |_=>False
theorem Fd{pins:KN}{σ:St}{H:Hp}{s:KP}{T:String}{x:V}{v:Value}(I:Inv X pins σ H s)(r:bo x v)(ty:Hg X.K T x H) :
  s.TypeIs v T/\∀a,v=.ref a->∃ob,s.heap.get? a=some ob/\ob.dict=none:=by
 cases x with
 |str z=>
  obtain⟨t,rfl⟩:=r;cases(show T="str" from ty);exact⟨typeIs_str s z t,λ_ e=>nomatch e⟩
 |int i=>
  obtain⟨t,rfl⟩:=r;cases(show T="int" from ty);exact⟨typeIs_int s i t,λ_ e=>nomatch e⟩
 |ref p=>
  cases r;rcases ty with⟨rfl,xs,hq⟩ | ⟨rfl,o,hk,hc,hd⟩ | ⟨rfl,hk⟩ | ⟨rfl,S,n,hk⟩
  ·obtain⟨its,_,pl,_⟩:=I.list hq
   refine⟨pl.isList.typeIs,λa e=>?_⟩;cases e;obtain⟨o,n,e,c,hd,_⟩:=pl;exact⟨o,e,hd⟩
  ·refine⟨⟨o,I.kIn p o hk,hc⟩,λa e=>?_⟩
   cases e;exact⟨o,I.kIn _ o hk,hd⟩
  ·have z:∃o,s.heap.get? p=some o/\o.ExactDict:=by
    rcases hk with⟨kvs,hk⟩ | ⟨kvs,hk⟩
    ·obtain⟨_,_,_,_,o,_,_,e,ex,_⟩:=I.hok p _ hk
     exact⟨o,e,ex⟩
    ·obtain⟨_,_,_,_,o,_,_,e,ex,_⟩:=I.hok p _ hk
     exact⟨o,e,ex⟩
   obtain⟨o,e,ex⟩:=z;refine⟨⟨o,e,ex.1⟩,λa e2=>?_⟩;cases e2;exact⟨o,e,ex.2.1⟩
  ·obtain⟨o,_,_,_,e,ex,_⟩:=I.hok p _ hk
   refine⟨⟨o,e,ex.1⟩,λa e2=>?_⟩;cases e2;exact⟨o,e,ex.2.1⟩
 |_=>exact False.elim ty
noncomputable def GR(K:KM)(T:String)(r:V->List V->Hp->VK->Prop)(to:TE)(t:TA):TE:=λσ H Q=>to σ H λx H1=>Hg K T x H1/\t σ H1 λxs H2=>r x xs H2 Q
variable {o e:Expr}{es:K2}{to:TE}{t:TA}{name:Str}{apos cpos:Pos}{T id:String}{r:V->List V->Hp->VK->Prop}
theorem hU(pa:PlainAttrs T)(slot:Slot T name id)(hty:typeOf (.builtin id)=pure (.type "method_descriptor"))(hm:Hm X id r)(ho:PE X o to)(ha:PA X (e::es) t)
  (hbase:autoParam (attributeBase o name X.env (eval o X.env)=eval o X.env) zzR._auto_1)
  (hfew:autoParam (((backTo cpos (starEach (e::es) X.env)).all (λx=>!x.1)&&(backToKw cpos (keywordEach [] X.env)).all (λx=>x.1.isSome)
   && decide ((e::es).length+([]:List Keyword).length+(if([]:List Keyword).isEmpty then 0 else 1)<30))=true) zzR._auto_1)
  (hline:autoParam ((apos.endLine==cpos.line)=true) zzR._auto_1) (hs:autoParam (starEach (e::es) X.env=(false,eval e X.env)::starEach es X.env) zzR._auto_1) (hplain:autoParam ((backTo cpos (starEach es X.env)).any (·.1)=false) zzR._auto_1) :
  PE X (.Call (.Attribute o name apos) (e::es) [] cpos) (GR X.K T r to t):=by
 intro pins s σ H Q I h;refine wpAny_Call_method_late hbase hfew hline rfl (bX (ho pins s σ H _ I h) λv s1 ⟨x,H1,I1,r1,ty,q1⟩=>?_);obtain⟨h1,h2⟩:=Fd I1 r1 ty;refine⟨T,id,pa,slot,hty,h1,h2,?_⟩;have hA:=ha cpos pins s1 σ H1 _ I1 q1;rw[hs]at hA ⊢;refine Calls.callWith_builtin (by show(false||(backTo cpos (starEach es X.env)).any (·.1))=false;rw[hplain]<;>rfl) (Calls.evalArgs_plain ?_);exact bX hA λus s2 ⟨vs,H2,I2,r2,q2⟩=>hm pins s2 σ H2 x vs v us Q I2 r1 r2 q2
end
noncomputable def G9(X:Cx)(id:String)(r:V->List V->Hp->VK->Prop):Prop:=
 ∀(pins:KN) (s:KP) (σ:St) (H:Hp) (x:V) (xs:List V) (v:Value) (us:KQ) (Q:VK),Inv X pins σ H s->bo x v->bj xs us->r x xs H Q ->
  wpAny (model X.prog X.w) X.A (call (.builtin id) (v::us)) (EP X pins σ Q) X.xe s
theorem bj.one:∀{x:V} {us:KQ},bj [x] us->∃u,us=[u]/\bo x u
 |_,_,.cons r .nil=>⟨_,rfl,r⟩
theorem bj.two:∀{x y:V} {us:KQ},bj [x,y] us->∃u v,us=[u,v]/\bo x u/\bo y v
 |_,_,_,.cons r (.cons q .nil)=>⟨_,_,rfl,r,q⟩
theorem bj.zero:∀{us:KQ},bj [] us->us=[]
 |_,.nil=>rfl
section
variable {X:Cx}{pins:KN}{σ:St}{H:Hp}{s:KP}{l b:Addr}{xs ys zs:List V}
theorem Inv.lset{its its':KQ}{n:Nat}{f:Array Value->Array Value}{t':Nat}(I:Inv X pins σ H s)(hH:H l=some (.lst xs))
  (e:s.heap.get? l=some {cls:=.type "list",data:=.seq its.toArray n}) (hf:f its.toArray=its'.toArray) (hv:bj ys its') (hz:ys.length<=sizeLine) :
  Inv X pins σ (aA H l (.lst ys)) {s with heap:=s.heap.update l (Obj.mapSeq f),toks:=t' }:=by
 have q:=PySem.IsL.update e f;rw[hf]at q;refine I.write (x:=l) (e:=l) (by rw[hH];exact trivial) (.inl rfl) (λb' u hb hu=>(JY s.heap (Obj.mapSeq f) (Ne.symm hb)).trans hu) ⟨_,q⟩ ?_;exact⟨hz,its',_,hv,q⟩
theorem Inv.lnew{its:KQ}{t':Nat}(I:Inv X pins σ H s)(hv:bj ys its)(hz:ys.length<=sizeLine) :
  Inv X pins σ (aA H s.heap.objs.size (.lst ys)) {s with heap:=s.heap.push {cls:=.type "list",data:=.seq its.toArray},toks:=t' }:=
 I.laid (λ_ _ q=>JT _ q) (Ke _) ⟨hz,its,0,hv,JZ _ rfl⟩
theorem Inv.fresh(I:Inv X pins σ H s):H s.heap.objs.size=none:=I.hok.fresh (Ke _)
theorem Inv.lstM(I:Inv X pins σ H s)(hH:H l=some (.lst xs)):xs.length<=sizeLine/\∃(its:KQ) (n:Nat),bj xs its/\xs.length=its.length/\s.heap.get? l=some {cls:=.type "list",data:=.seq its.toArray n}:=by
 obtain⟨z,its,n,r,e⟩:=I.hok l _ hH;exact⟨z,its,n,r,r.length,e⟩
theorem BK{n:Nat}(h:n<=sizeLine):Builtin.List.listTooLong n=false:=by
 unfold Builtin.List.listTooLong;exact decide_eq_false ⋯
end
section
variable {X:Cx}
noncomputable def ux:V->List V->Hp->VK->Prop:=λx vs H Q=>∃l xs y,x=.ref l/\vs=[y]/\H l=some (.lst xs)/\xs.length<sizeLine/\Q .non (aA H l (.lst (xs++[y])))
theorem dS:G9 X "list.append" ux:=by
 intro pins s σ H x vs v us Q I rx rv h;obtain⟨l,xs,y,rfl,rfl,hH,hz,q⟩:=h;cases rx;obtain⟨u,rfl,ru⟩:=rv.one;obtain⟨z,its,n,r,hl,e⟩:=I.lstM hH;refine call_meets F.slot_list_append ⟨_,e,rfl⟩ F.entry_list_append (F.args_list_append_2 _ _) (PySem.list_append l its.toArray n u (by rw[J0];omega)) ⟨e,?_⟩;refine⟨.non,_,I.lset (its':=its++[u]) hH e (by simp) (r.append (.cons ru .nil)) ?_,rfl,q⟩;rw[Kd,List.length_singleton];omega
noncomputable def tD:V->List V->Hp->VK->Prop:=λx vs H Q=>∃l b xs zs,x=.ref l/\vs=[.ref b]/\H l=some (.lst xs)/\H b=some (.lst zs)/\xs.length+zs.length<=sizeLine/\Q .non (aA H l (.lst (xs++zs)))
theorem Ah:G9 X "list.extend" tD:=by
 intro pins s σ H x vs v us Q I rx rv h;obtain⟨l,b,xs,zs,rfl,rfl,hH,hB,hz,q⟩:=h;cases rx;obtain⟨u,rfl,ru⟩:=rv.one;cases ru;obtain⟨z,its,n,r,hl,e⟩:=I.lstM hH;obtain⟨z2,its2,n2,r2,hl2,e2⟩:=I.lstM hB;have hsz:its.toArray.size+its2.toArray.size<=sizeLine:=by rw[J0,J0];omega
 have hlong:¬ (!its.toArray.isEmpty&&Builtin.List.listTooLong (its.toArray.size+its2.toArray.size))=true:=by
  rw[BK hsz,Bool.and_false];exact Kg
 refine call_meets F.slot_list_extend ⟨_,e,rfl⟩ F.entry_list_extend (F.args_list_extend_2 _ _)
  (AutoSeq1.list_extend_list_list_0 l its.toArray n b its2.toArray n2 hlong (by rw[J0];omega) ⋯) ⟨e,e2,?_⟩
 refine⟨.non,_,I.lset (its':=its++its2) hH e (by simp) (r.append r2) ?_,rfl,q⟩;rw[Kd];omega
noncomputable def E5:R2:=λx y H Q=>∃l b xs zs,x=.ref l/\y=.ref b/\H l=some (.lst xs)/\H b=some (.lst zs)/\xs.length+zs.length<=sizeLine/\∀p,H p=none->Q (.ref p) (aA H p (.lst (xs++zs)))
theorem wY:bf X (binaryOp .Add) E5:=by
 intro pins s σ H x y v u Q I rx ry h;obtain⟨l,b,xs,zs,rfl,rfl,hH,hB,hz,q⟩:=h;cases rx;cases ry;obtain⟨z,its,n,r,hl,e⟩:=I.lstM hH;obtain⟨z2,its2,n2,r2,hl2,e2⟩:=I.lstM hB;refine PySem.P.add_list e e2 ?_ (by rw[J0,J0];omega);have ea:its.toArray++its2.toArray=(its++its2).toArray:=by simp
 rw[ea];exact⟨.ref _,_,I.lnew (t':=s.toks) (r.append r2) (by rw[Kd];omega),rfl,q _ I.fresh⟩
end
section
variable {prog:KW}{w:K0}{A:KZ}{E:KL}{s:KP}
end
section
variable {X:Cx}
end
section
variable {κ:Type}[DecidableEq κ]
noncomputable def ce(kvs:List (κ×V))(k:κ):Option V:=(kvs.find? λkv=>decide (kv.1=k)).map (·.2)
noncomputable def cB(kvs:List (κ×V))(k:κ)(v:V):List (κ×V):=
 if(kvs.any λkv=>decide (kv.1=k))=true then kvs.map (λkv=>if kv.1=k then(kv.1,v) else kv) else kvs++[(k,v)]
theorem cP{p:κ×V}{r:List (κ×V)}{k:κ}(e:p.1=k):ce (p::r) k=some p.2:=by simp[ce,List.find?_cons,e]
theorem cN{p:κ×V}{r:List (κ×V)}{k:κ}(e:¬ p.1=k):ce (p::r) k=ce r k:=by simp[ce,List.find?_cons,e]
theorem fj(k:κ):∀kvs:List (κ×V),(kvs.any λkv=>decide (kv.1=k))=(ce kvs k).isSome
 | []=>rfl
 |p::r=>by
  rw[List.any_cons]
  by_cases e:p.1=k
  ·simp only[cP e,decide_eq_true e,Bool.true_or,Option.isSome_some]
  ·rw[cN e,decide_eq_false e,Bool.false_or];exact fj k r
theorem vS(k j:κ)(y:V):∀kvs:List (κ×V),ce (kvs.map λkv=>if kv.1=k then(kv.1,y) else kv) j=(ce kvs j).map λx=>if j=k then y else x
 | []=>rfl
 |p::r=>by
  have ih:=vS k j y r;rw[Kl]
  by_cases h:p.1=k
  ·rw[if_pos h]
   by_cases e:p.1=j
   ·rw[cP (p:=(p.1,y)) e,cP e,Option.map_some,if_pos (e.symm.trans h)]
   ·rw[cN (p:=(p.1,y)) e,cN e,ih]
  ·rw[if_neg h]
   by_cases e:p.1=j
   ·rw[cP (p:=p) e,cP e,Option.map_some,if_neg (λz=>h (e.trans z))]
   ·rw[cN (p:=p) e,cN e,ih]
theorem rL(k j:κ)(y:V):∀kvs:List (κ×V),ce kvs k=none->ce (kvs++[(k,y)]) j=if j=k then some y else ce kvs j
 | [],_=>by
  by_cases e:k=j
  ·rw[if_pos e.symm];exact cP (p:=(k,y)) e
  ·rw[if_neg (λz=>e z.symm)];exact cN (p:=(k,y)) e
 |p::r,hn=>by
  rw[List.cons_append];have hk:¬ p.1=k:=λz=>by rw[cP z]at hn;cases hn
  rw[cN hk]at hn;have ih:=rL k j y r hn
  by_cases e:p.1=j
  ·rw[cP e,cP e,if_neg (λz=>hk (e.trans z))]
  ·rw[cN e,cN e,ih]
theorem mz(kvs:List (κ×V))(k j:κ)(y:V):ce (cB kvs k y) j=if j=k then some y else ce kvs j:=by
 unfold cB
 by_cases a:(kvs.any λkv=>decide (kv.1=k))=true
 ·rw[if_pos a,vS]
  rw[fj]at a
  by_cases e:j=k
  ·obtain⟨x,hx⟩:=Option.isSome_iff_exists.mp a
   rw[if_pos e,e,hx,Option.map_some,if_pos rfl]
  ·rw[if_neg e]
   cases ce kvs j with
   |none=>rfl
   |some x=>rw[Option.map_some,if_neg e]
 ·rw[if_neg a]
  refine rL k j y kvs ?_;rw[fj]at a;cases q:ce kvs k with
  |none=>rfl
  |some x=>rw[q]at a;exact(a rfl).elim
theorem gz(kvs:List (κ×V))(k:κ)(v:V):(cB kvs k v).length<=kvs.length+1:=by
 unfold cB
 split
 ·rw[JU];omega
 ·rw[Kd,J4,List.length_nil];omega
theorem pz{kvs:List (κ×V)}{k:κ}(v:V)(h:ce kvs k=none):cB kvs k v=kvs++[(k,v)]:=by
 unfold cB;rw[fj,h];exact if_neg nofun
theorem jO.isSome_eq{o:Option V}{u:Option Value}(r:jO o u):o.isSome=u.isSome:=by
 cases o with
 |none=>cases u with
  |none=>rfl
  |some _=>exact(show False from r).elim
 |some _=>cases u with
  |none=>exact(show False from r).elim
  |some _=>rfl
theorem KV.val{kvs:List (κ×V)}{vs:List (κ×Value)}(r:KV kvs vs)(k:κ):jO (ce kvs k) (valueAt vs k):=by
 unfold KV at r
 induction r with
 |nil=>exact True.intro
 | @cons p q ps qs h t ih=>
  obtain⟨h1,h2⟩:=h
  by_cases e:p.1=k
  ·have e':q.1=k:=h1.symm.trans e
   have b:valueAt (q::qs) k=some q.2:=by simp[valueAt,List.find?_cons,e']
   rw[cP e,b];exact h2
  ·have e':¬ q.1=k:=λz=>e (h1.trans z)
   have b:valueAt (q::qs) k=valueAt qs k:=by simp[valueAt,List.find?_cons,e']
   rw[cN e,b];exact ih
theorem KV.any{kvs:List (κ×V)}{vs:List (κ×Value)}(r:KV kvs vs)(k:κ):(kvs.any λkv=>decide (kv.1=k))=vs.any λkv=>decide (kv.1=k):=by
 unfold KV at r
 induction r with
 |nil=>rfl
 |cons h t ih=>rw[List.any_cons,List.any_cons,ih,h.1]
theorem KV.repl{kvs:List (κ×V)}{vs:List (κ×Value)}(r:KV kvs vs)(k:κ){y:V}{u:Value}(ry:bo y u) :
  KV (kvs.map λkv=>if kv.1=k then(kv.1,y) else kv) (vs.map λkv=>if kv.1=k then(kv.1,u) else kv):=by
 unfold KV at r ⊢
 induction r with
 |nil=>exact .nil
 | @cons p q ps qs h t ih=>
  rw[Kl,Kl];refine .cons ?_ ih;obtain⟨h1,h2⟩:=h
  by_cases e:p.1=k
  ·rw[if_pos e,if_pos (h1.symm.trans e)];exact⟨h1,ry⟩
  ·rw[if_neg e,if_neg (λz=>e (h1.trans z))];exact⟨h1,h2⟩
theorem KV.put{kvs:List (κ×V)}{vs:List (κ×Value)}(r:KV kvs vs)(k:κ){y:V}{u:Value}(ry:bo y u):KV (cB kvs k y) (stored vs k u):=by
 unfold cB stored;rw[r.any k]
 by_cases e:(vs.any λkv=>decide (kv.1=k))=true
 ·rw[if_pos e,if_pos e];exact r.repl k ry
 ·rw[if_neg e,if_neg e];exact Paired.snoc r ⟨rfl,ry⟩
theorem KV.length{kvs:List (κ×V)}{vs:List (κ×Value)}(r:KV kvs vs):kvs.length=vs.length:=Paired.length r
end
theorem so{P:KW}{w:K0}{k:cS}{u:Value}(r:bo (kV k) u):(cG P w).is k u=true:=by
 cases k with
 |inl i=>obtain⟨t,e⟩:=(show ∃t,u=Value.int i t from r);subst e;exact vq P w i t
 |inr x=>obtain⟨t,e⟩:=(show ∃t,u=Value.str x t from r);subst e;exact vb P w x t
theorem rC{P:KW}{w:K0}:∀{ks:List cS} {us:KQ},bj (ks.map kV) us->ItemsAre (cG P w) ks us
 | [],_,r=>by rw[List.map_nil]at r;cases r;exact .nil
 |k::ks,_,r=>by
  rw[Kl]at r;cases r with
  |cons h t=>exact .cons (so h) (rC t)
noncomputable abbrev KT(H:Hp):List (List cS×V)->List (List cS×Addr×Value)->Prop:=Paired λp q=>p.1=q.1/\H q.2.1=some (.tup (p.1.map kV))/\bo p.2 q.2.2
theorem KT.val{H:Hp}{kvs:List (List cS×V)}{xs:List (List cS×Addr×Value)}(r:KT H kvs xs)(k:List cS):jO (ce kvs k) ((atKey xs k).map (·.2)):=by
 induction r with
 |nil=>exact True.intro
 | @cons p q ps qs h t ih=>
  obtain⟨h1,_,h2⟩:=h
  by_cases e:p.1=k
  ·have e':q.1=k:=h1.symm.trans e
   have b:atKey (q::qs) k=some q.2:=by simp[atKey,List.find?_cons,e']
   rw[cP e,b];exact h2
  ·have e':¬ q.1=k:=λz=>e (h1.trans z)
   have b:atKey (q::qs) k=atKey qs k:=by simp[atKey,List.find?_cons,e']
   rw[cN e,b];exact ih
theorem KT.repl{H:Hp}{kvs:List (List cS×V)}{xs:List (List cS×Addr×Value)}(r:KT H kvs xs)(k:List cS){y:V}{u:Value}(ry:bo y u) :
  KT H (kvs.map λkv=>if kv.1=k then(kv.1,y) else kv) (xs.map (putAt k u)):=by
 induction r with
 |nil=>exact .nil
 | @cons p q ps qs h t ih=>
  rw[Kl,Kl];refine .cons ?_ ih;obtain⟨h1,h2,h3⟩:=h;unfold putAt
  by_cases e:p.1=k
  ·rw[if_pos e,if_pos (h1.symm.trans e)];exact⟨h1,h2,ry⟩
  ·rw[if_neg e,if_neg (λz=>e (h1.trans z))];exact⟨h1,h2,h3⟩
theorem KT.put{H:Hp}{kvs:List (List cS×V)}{xs:List (List cS×Addr×Value)}(r:KT H kvs xs)(k:List cS){b:Addr}{y:V}{u:Value}(hb:H b=some (.tup (k.map kV)))(ry:bo y u) :
  KT H (cB kvs k y) (storedH xs k b u):=by
 have e:(kvs.any λkv=>decide (kv.1=k))=(atKey xs k).isSome:=by
  rw[fj,(r.val k).isSome_eq,Option.isSome_map]
 unfold cB storedH;rw[e]
 by_cases q:(atKey xs k).isSome=true
 ·rw[if_pos q,if_pos q];exact r.repl k ry
 ·rw[if_neg q,if_neg q];exact Paired.snoc r ⟨rfl,hb,ry⟩
theorem KT.keeps{H H':Hp}{kvs:List (List cS×V)}{xs:List (List cS×Addr×Value)}(r:KT H kvs xs)(ht:∀b ys,H b=some (.tup ys)->H' b=some (.tup ys)):KT H' kvs xs:=
 Paired.mapP r λ_ _ z=>⟨z.1,ht _ _ z.2.1,z.2.2⟩
section
variable {P:KW}{w:K0}{H:Hp}{h:Heap}{a:Addr}
theorem Es{u:HO}(ok:j5 P w H h)(e:Rd H a u):bU P w H h a u:=e.ok ok
theorem rR{kvs:List (cS×V)}(ok:j5 P w H h)(e:Rd H a (.dK kvs)):kvs.length<=sizeLine/\(a==sysModules)=false/\∃vs,KV kvs vs/\h.DictOf (cG P w) a vs:=
 show bU P w H h a (.dK kvs) from Es ok e
theorem C6{kvs:List (cS×V)}(ok:j5 P w H h)(e:H a=some (.dK kvs)):kvs.length<=sizeLine/\(a==sysModules)=false/\∃vs,KV kvs vs/\h.DictOf (cG P w) a vs:=rR ok (.inl e)
theorem uk{ks:List cS}(ok:j5 P w H h)(e:H a=some (.tup (ks.map kV))):(tupleKind (cG P w)).is h ks a:=by
 obtain⟨_,its,r,o,h1,h2,n,h3⟩:=(show bU P w H h a (.tup (ks.map kV)) from ok a _ e);exact⟨o,its.toArray,n,h1,h2,h3,by simpa using rC r⟩
theorem vn{kvs:List (List cS×V)}(ok:j5 P w H h)(e:Rd H a (.dT kvs)):kvs.length<=sizeLine/\(a==sysModules)=false /\
  ∃xs,KT H kvs xs/\h.DictOfH (tupleKind (cG P w)) a xs:=by
 obtain⟨z,y,xs,r,o,es,ep,h1,h2,h3,h4,h5⟩:=(show bU P w H h a (.dT kvs) from Es ok e);refine⟨z,y,xs,r,o,es,ep,h1,h2,h3,h4,λx hx=>?_,h5⟩;have all:∀{l:List (List cS×V)} {m:List (List cS×Addr×Value)},KT H l m->∀x∈m,(tupleKind (cG P w)).is h x.1 x.2.1:=by
  intro l m q
  induction q with
  |nil=>intro x hx;exact nomatch hx
  | @cons p q ps qs hq t ih=>
   intro x hx;rcases J8.mp hx with e | hx
   ·subst e
    exact uk ok (by rw[<- hq.1];exact hq.2.1)
   ·exact ih x hx
 exact all r x hx
theorem FJ{kvs:List (List cS×V)}(ok:j5 P w H h)(e:H a=some (.dT kvs)):kvs.length<=sizeLine/\(a==sysModules)=false /\
  ∃xs,KT H kvs xs/\h.DictOfH (tupleKind (cG P w)) a xs:=vn ok (.inl e)
end
noncomputable def oK(H:Hp)(a:Addr)(y:V)(r:Option V):Prop:=
 (∃kvs k,Rd H a (.dK kvs)/\y=kV k/\r=ce kvs k)\/∃kvs k b,Rd H a (.dT kvs)/\y=.ref b/\H b=some (.tup (k.map kV))/\r=ce kvs k
noncomputable def yT(H:Hp)(a:Addr)(y v:V)(H':Hp):Prop:=
 (∃kvs k,H a=some (.dK kvs)/\y=kV k/\kvs.length<sizeLine/\H'=aA H a (.dK (cB kvs k v))) \/
 ∃kvs k b,H a=some (.dT kvs)/\y=.ref b/\H b=some (.tup (k.map kV))/\kvs.length<sizeLine/\H'=aA H a (.dT (cB kvs k v))
theorem oK.t{H:Hp}{a b:Addr}{kvs:List (List cS×V)}{k:List cS}(e:H a=some (.dT kvs))(eb:H b=some (.tup (k.map kV))):oK H a (.ref b) (ce kvs k):=.inr ⟨kvs,k,b,.inl e,rfl,eb,rfl⟩
theorem yT.t{H:Hp}{a b:Addr}{kvs:List (List cS×V)}{k:List cS}{v:V}(e:H a=some (.dT kvs))(eb:H b=some (.tup (k.map kV)))(hl:kvs.length<sizeLine) :
  yT H a (.ref b) v (aA H a (.dT (cB kvs k v))):=.inr ⟨kvs,k,b,e,rfl,eb,hl,rfl⟩
section
variable {X:Cx}{pins:KN}{σ:St}{H:Hp}{s:KP}{a:Addr}{y v:V}{u r:Value}{o:Option V}{A:KZ}{E:KL}
theorem Inv.big(I:Inv X pins σ H s):sysModules<s.heap.objs.size:=by
 have h:mainGlobals<s.heap.objs.size:=(I.mod.glob.keeps I.bk).lt;exact Nat.lt_trans nofun h
theorem Aw{Q:KL}(hu:A.units+1<cLine)(I:Inv X pins σ H s)(g:oK H a y (some v))(ry:bo y u)(h:∀w' s',Inv X pins σ H s'->bo v w'->Q w' s') :
  wpAny (model X.prog X.w) A (getItem (.ref a) u) Q E s:=by
 rcases g with⟨kvs,k,e,ey,l⟩ | ⟨kvs,k,b,e,ey,eb,l⟩
 ·subst ey
  obtain⟨z,hd,vs,rel,dd⟩:=rR I.hok e;obtain⟨w',hw,rw'⟩:=jO.some_of (v:=v) (o:=valueAt vs k) (by rw[l];exact rel.val k);exact wpAny_getItem_of (so ry) dd.mapOf hw (h w' _ (I.tok _) rw')
 ·subst ey
  cases(show u=Value.ref b from ry);obtain⟨z,hd,xs,rel,dd⟩:=vn I.hok e;obtain⟨w',hw,rw'⟩:=jO.some_of (v:=v) (o:=(atKey xs k).map (·.2)) (by rw[l];exact rel.val k);obtain⟨p,hp,hp2⟩:=Ki.mp hw;refine wpAny_getItem_heap (tupleKind_room_in1 hu) (uk I.hok eb) dd hp ?_;rw[hp2];exact h w' _ (I.tok _) rw'
theorem DO{Q:KL}(hu:A.units+1<cLine)(I:Inv X pins σ H s)(g:oK H a y o)(ry:bo y u)(h:∀s',Inv X pins σ H s'->Q (.bool (!o.isSome)) s') :
  wpAny (model X.prog X.w) A (compareOp .NotIn u (.ref a)) Q E s:=by
 rcases g with⟨kvs,k,e,ey,l⟩ | ⟨kvs,k,b,e,ey,eb,l⟩
 ·subst ey
  obtain⟨z,hd,vs,rel,dd⟩:=rR I.hok e;refine wpAny_notIn_of (so ry) hd dd.mapOf ?_;rw[<- (rel.val k).isSome_eq,<- l];exact h _ (I.tok _)
 ·subst ey
  cases(show u=Value.ref b from ry);obtain⟨z,hd,xs,rel,dd⟩:=vn I.hok e;refine wpAny_notIn_heap (tupleKind_room_in1 hu) (uk I.hok eb) hd dd ?_;have q:=(rel.val k).isSome_eq;rw[Option.isSome_map]at q;rw[<- q,<- l];exact h _ (I.tok _)
theorem oP{h':Heap}{t':Nat}{ob:HO}(I:Inv X pins σ H s)(mu:Gc (H a))(hs:Heap.SameBut a s.heap h')(he:∃q,h'.get? a=some q)(new:bU X.prog X.w (aA H a ob) h' a ob) :
  Inv X pins σ (aA H a ob) {s with heap:=h',toks:=t' }:=
 I.write (x:=a) (e:=a) mu (.inl rfl) (λb q hb z=>(hs.2 b hb).trans z) he new
theorem wZ{P:KW}{w:K0}{H':Hp}{h':Heap}{kvs:List (cS×V)}{vs:List (cS×Value)}(z:kvs.length<=sizeLine)(hd:(a==sysModules)=false)(rel:KV kvs vs)(dd:h'.DictOf (cG P w) a vs) :
  bU P w H' h' a (.dK kvs):=⟨z,hd,vs,rel,dd⟩
theorem zx{H':Hp}{Q:Unit->Shared->Prop}(hu:A.units+1<cLine)(I:Inv X pins σ H s)(g:yT H a y v H')(ry:bo y u)(rv:bo v r)(h:∀s',Inv X pins σ H' s'->Q () s') :
  wpAny (model X.prog X.w) A (setItem (.ref a) u r) Q E s:=by
 rcases g with⟨kvs,k,e,ey,l,eH⟩ | ⟨kvs,k,b,e,ey,eb,l,eH⟩
 ·subst ey eH
  obtain⟨z,hd,vs,rel,dd⟩:=C6 I.hok e;have hz:vs.length<=sizeLine:=by rw[<- rel.length];exact z
  have hl:(cB kvs k v).length<=sizeLine:=by have:=gz kvs k v;omega
  refine wpAny_setItem_pairs (hsz:=hz) (so ry) dd λh' dd' hs=>h _ ?_;have he:∃q,h'.get? a=some q:=let ⟨q,_,_,hq,_⟩:=dd';⟨q,hq⟩
  exact oP I (by rw[e];exact True.intro) hs he (wZ hl hd (rel.put k rv) dd')
 ·subst ey eH
  cases(show u=Value.ref b from ry);obtain⟨z,hd,xs,rel,dd⟩:=FJ I.hok e;have hz:xs.length<=sizeLine:=by rw[<- Paired.length rel];exact z
  have hl:(cB kvs k v).length<=sizeLine:=by have:=gz kvs k v;omega
  refine wpAny_setItem_heap (hsz:=hz) (tupleKind_room_in1 hu) (uk I.hok eb) dd λh' dd' hs=>h _ ?_;obtain⟨q,es,ep,hq,h2,h3,h4,_,h5⟩:=dd';refine oP I (by rw[e];exact True.intro) hs ⟨q,hq⟩ ⟨hl,hd,_,(rel.put k eb rv).keeps λc ys ec=>?_,q,es,ep,hq,h2,h3,h4,h5⟩;rw[am (F5 ec e (λz=>nomatch z))];exact ec
end
section
variable {X:Cx}{pins:KN}{σ:St}{H:Hp}{s:KP}{a:Addr}{kvs:List (cS×V)}{k:cS}{u:Value}{A:KZ}{E:KL}
theorem FM{Q:KL}(I:Inv X pins σ H s)(e:Rd H a (.dK kvs))(h:∀t s',Inv X pins σ H s'->Q (.int kvs.length t) s'):wpAny (model X.prog X.w) A (call (.builtin "len") [.ref a]) Q E s:=by
 obtain⟨z,hd,vs,rel,dd⟩:=rR I.hok e;refine call_len_dict hd dd (by rw[<- rel.length];rw[sizeLine_eq]at z;omega) ?_;rw[<- rel.length];exact h _ _ (I.tok _)
end
noncomputable def F7(i:Expr):Prop:=∀ov iv,subscripted i false ov iv=operate [ov,iv] (getItem ov iv)
theorem DE{prog:KW}{w:K0}{A:KZ}{E:KL}{s:KP}{env:Env}{value slice:Expr}{pos:Pos}{T id:String}{Q:KL}
  (hl:typeLookup (.type T) "__getitem__"=pure (some (.builtin id))) (hs:F7 slice)
  (h:wpAny (model prog w) A (eval value env) (λo s₁=>wpAny (model prog w) A (eval slice env) (λi s₂=>s₂.TypeIs o T/\wpAny (model prog w) A (getItem o i) Q E s₂) E s₁) E s) :
  wpAny (model prog w) A (eval (.Subscript value slice pos) env) Q E s:=by
 refine Subscript_ (wpAny_mono h (λo s₁ h₁=>wpAny_mono h₁ (λi s₂ h₂=>?_) λ_ _ x=>x) λ_ _ x=>x);obtain⟨hT,h₂⟩:=h₂;unfold subscriptTail;refine wpAny_bind ?_;rw[getitemInPython_of_ne hT.not_modules];refine wpAny_bind (wpAny_specialOf hT hl ?_);have fin:wpAny (model prog w) A (subscripted slice false o i) (λr s₃=>wpAny (model prog w) A (letTemporaryGo value o r >>= λ_=>pure r) Q E s₃) E s₂:=by
  rw[hs o i];exact wpAny_operating (wpAny_mono h₂ (λr s₃ h₃=>wpAny_bind (wpAny_letTemporaryGo (wpAny_pure h₃))) λ_ _ x=>x)
 first
  |exact wpAny_pure (wpAny_bind fin)
  |exact wpAny_bind (wpAny_pure (wpAny_bind fin))
  |exact wpAny_bind fin
theorem v5{X:Cx}{pins:KN}{σ:St}{H:Hp}{s:KP}{a:Addr}{y:V}{o:Option V}(I:Inv X pins σ H s)(g:oK H a y o):s.TypeIs (.ref a) "dict":=by
 rcases g with⟨kvs,k,e,_,_⟩ | ⟨kvs,k,b,e,_,_,_⟩
 ·obtain⟨_,_,vs,_,dd⟩:=rR I.hok e
  exact dd.typeIs
 ·obtain⟨_,_,xs,_,dd⟩:=vn I.hok e
  exact dd.typeIs
noncomputable def Cz(td ty:TE):TE:=λσ H Q=>td σ H λx H1=>ty σ H1 λy H2=>∃a v,x=.ref a/\oK H2 a y (some v)/\Q v H2
noncomputable def tR(ty td:TE):TE:=λσ H Q=>ty σ H λy H1=>td σ H1 λx H2=>∃a o,x=.ref a/\oK H2 a y o/\Q (.bl (!o.isSome)) H2
noncomputable def BC(td ty tv:TE):TS:=λD σ H=>tv σ H λv H1=>td σ H1 λx H2=>ty σ H2 λy H3=>∃a H4,x=.ref a/\yT H3 a y v H4/\D.nx σ H4
section
variable {X:Cx}{o i e value:Expr}{pos pos' tpos:Pos}{td ty tv:TE}
theorem uw(hu:X.A.units+1<cLine)(ho:PE X o td)(hi:PE X i ty)(hs:F7 i):PE X (.Subscript o i pos) (Cz td ty):=by
 intro pins s σ H Q I h;refine DE PySem.F.slot_dict_getitem.lookup hs (bX (ho pins s σ H _ I h) λu s1 ⟨x,H1,I1,rx,q1⟩=>bX (hi pins s1 σ H1 _ I1 q1) λiv s2 ⟨y,H2,I2,ry,a,v,ex,g,q2⟩=>?_);subst ex;obtain rfl:u=Value.ref a:=rx;exact⟨v5 I2 g,Aw hu I2 g ry λw' s3 I3 rw'=>⟨v,H2,I3,rw',q2⟩⟩
theorem su(hu:X.A.units+1<cLine)(hi:PE X i ty)(ho:PE X o td):PC X .NotIn i o (tR ty td):=by
 intro pins s σ H Q I h;refine bX (hi pins s σ H _ I h) λiv s1 ⟨y,H1,I1,ry,q1⟩=>bX (ho pins s1 σ H1 _ I1 q1) λu s2 ⟨x,H2,I2,rx,a,ov,ex,g,q2⟩=>?_;subst ex;obtain rfl:u=Value.ref a:=rx;exact DO hu I2 g ry λs3 I3=>⟨.bl (!ov.isSome),H2,I3,rfl,q2⟩
theorem yg(hu:X.A.units+1<cLine)(ho:PE X o td)(hi:PE X i ty)(hv:PE X value tv)(hs:swapsWith value (some (.Subscript o i pos')) pos.line X.env=pure false) :
  PS X (.Assign [.Subscript o i pos'] value pos) (BC td ty tv):=by
 intro pins s σ H D I h;refine wpAny_Assign_Subscript (bX (hv pins s σ H _ I h) λr s1 ⟨v,H1,I1,rv,q1⟩=>bX (ho pins s1 σ H1 _ I1 q1) λu s2 ⟨x,H2,I2,rx,q2⟩=>bX (hi pins s2 σ H2 _ I2 q2) λiv s3 ⟨y,H3,I3,ry,a,H4,ex,g,q3⟩=>?_) hs;subst ex;obtain rfl:u=Value.ref a:=rx;exact zx hu I3 g ry rv λs4 I4=>⟨σ,H4,I4,q3⟩
end
theorem CO{P:KW}{w:K0}{H:Hp}(h:Heap)(hb:sysModules<h.objs.size):bU P w H (h.push {cls:=.type "dict",data:=.dict #[]}) h.objs.size (.dK []):=
 ⟨Kf _,beq_eq_false_iff_ne.mpr (Ne.symm (Ka hb)),[],.nil,Heap.DictOf.new h⟩
theorem A_{P:KW}{w:K0}{H:Hp}(h:Heap)(hb:sysModules<h.objs.size):bU P w H (h.push {cls:=.type "dict",data:=.dict #[]}) h.objs.size (.dT []):=
 ⟨Kf _,beq_eq_false_iff_ne.mpr (Ne.symm (Ka hb)),[],.nil,_,#[],0,JZ _ rfl,⟨rfl,rfl,rfl⟩,rfl,rfl,List.nodup_nil⟩
noncomputable def wH:TE:=λ_ H Q=>∀p,H p=none->Q (.ref p) (aA H p (.dT []))
section
variable {X:Cx}{pos:Pos}
theorem wq:PE X (.Dict [] [] pos) wH:=λpins s σ H Q I h=>
 wpAny_Dict_empty ⟨.ref s.heap.objs.size,_,I.laid (a:=s.heap.objs.size) (o:=.dT []) (t':=s.toks) (λ_ _ q=>JT _ q) (Ke _) (A_ s.heap I.big),rfl,h _ (I.hok.fresh (Ke _))⟩
end
noncomputable def qi:List (TE×TE)->St->Hp->(List (V×V)->Hp->Prop)->Prop
 | [],_,H,Q=>Q [] H
 | (tk,tv)::r,σ,H,Q=>tk σ H λx H1=>tv σ H1 λy H2=>qi r σ H2 λps H3=>Q ((x,y)::ps) H3
noncomputable abbrev VV:List (V×V)->List (Value×Value)->Prop:=Paired λp q=>bo p.1 q.1/\bo p.2 q.2
noncomputable def Gm(X:Cx)(pos:Pos)(keys:List (Option Expr))(values:K2)(trs:List (TE×TE)):Prop:=
 ∀(pins:KN) (s:KP) (σ:St) (H:Hp) (Q:List (V×V)->Hp->Prop),Inv X pins σ H s->qi trs σ H Q ->
  wpAny (model X.prog X.w) X.A (evalPairs (pairTrees keys values X.env pos)) (λvs s'=>∃ps H',Inv X pins σ H' s'/\VV ps vs/\Q ps H') X.xe s
theorem Dm{X:Cx}{pos:Pos}:Gm X pos [] [] []:=λpins s σ H Q I h=>pairTrees_nil_walk ⟨[],H,I,.nil,h⟩
theorem Ca{X:Cx}{pos:Pos}{k v:Expr}{ks:List (Option Expr)}{vs:K2}{tk tv:TE}{trs:List (TE×TE)}(hk:PE X k tk)(hv:PE X v tv)(hr:Gm X pos ks vs trs) :
  Gm X pos (some k::ks) (v::vs) ((tk,tv)::trs):=λpins s σ H Q I h=>
 pairTrees_cons_walk (bX (hk pins s σ H _ I h) λu s1 ⟨x,H1,I1,rx,q1⟩=>bX (hv pins s1 σ H1 _ I1 q1) λw2 s2 ⟨y,H2,I2,ry,q2⟩=>
  bX (hr pins s2 σ H2 _ I2 q2) λws s3 ⟨ps,H3,I3,rel,q3⟩=>⟨(x,y)::ps,H3,I3,.cons ⟨rx,ry⟩ rel,q3⟩)
noncomputable def pF(kvs more:List (cS×V)):List (cS×V):=more.foldl (λacc kv=>cB acc kv.1 kv.2) kvs
theorem KV.merge:∀{more:List (cS×V)} {rs:List (cS×Value)} {kvs:List (cS×V)} {vs:List (cS×Value)},KV more rs->KV kvs vs->KV (pF kvs more) (merged vs rs):=by
 intro more rs kvs vs r;unfold KV at r
 induction r generalizing kvs vs with
 |nil=>intro q;exact q
 | @cons p q ps qs h t ih=>
  intro r0;have e:KV (cB kvs p.1 p.2) (stored vs q.1 q.2):=by
   have:=r0.put p.1 h.2;rw[<- h.1];exact this
  exact ih e
theorem lh:∀(more kvs:List (cS×V)),(pF kvs more).length<=kvs.length+more.length
 | [],kvs=>by show kvs.length<=kvs.length+0;omega
 |p::r,kvs=>by
  have h1:=lh r (cB kvs p.1 p.2);have h2:=gz kvs p.1 p.2;show(pF (cB kvs p.1 p.2) r).length<=_;rw[J4];omega
theorem oY{P:KW}{w:K0}:∀{kvs:List (cS×V)} {ws:List (Value×Value)},VV (kvs.map λkv=>(kV kv.1,kv.2)) ws->∃rs,Carries (cG P w) ws rs/\KV kvs rs
 | [],_,r=>by rw[List.map_nil]at r;cases r;exact⟨[],True.intro,.nil⟩
 |p::kvs,_,r=>by
  rw[Kl]at r;cases r with
  | @cons a b as bs h t=>
   obtain⟨rs,c,q⟩:=oY (P:=P) (w:=w) t;obtain⟨b1,b2⟩:=b;exact⟨(p.1,b2)::rs,⟨so h.1,rfl,c⟩,.cons ⟨rfl,h.2⟩ q⟩
noncomputable def Cc(trs:List (TE×TE)):TE:=λσ H Q=>∀p,H p=none->qi trs σ (aA H p (.dK [])) λps H2=>H2 p=some (.dK [])/\∃kvs:List (cS×V),ps=kvs.map (λkv=>(kV kv.1,kv.2))/\kvs.length<=15/\Q (.ref p) (aA H2 p (.dK (pF [] kvs)))
theorem Dx{X:Cx}{pos:Pos}{keys:List (Option Expr)}{values:K2}{trs:List (TE×TE)}(h:Gm X pos keys values trs)(hall:keys.all (·.isSome)=true)(hl:keys.length=values.length)(h0:keys≠[])
  (h15:keys.length<=15):PE X (.Dict keys values pos) (Cc trs):=by
 intro pins s σ H Q I q;have hn:=I.hok.fresh (Ke s.heap.objs.size);have I1:=I.laid (a:=s.heap.objs.size) (o:=.dK []) (h':=s.heap.push {cls:=.type "dict",data:=.dict #[]}) (t':=s.toks) (λ_ _ q=>JT _ q) (Ke _) (CO s.heap I.big);refine wpAny_Dict_walk (knd:=cG X.prog X.w) hall hl h0 h15 (bX (h pins _ σ _ _ I1 (q _ hn)) λws s2 ⟨ps,H2,I2,rel,e,kvs,ep,lk,q2⟩=>?_);subst ep;obtain⟨rs,c,rk⟩:=oY (P:=X.prog) (w:=X.w) rel;obtain⟨z,hd,vs0,r0,dd⟩:=C6 I2.hok e;cases r0;refine⟨rs,c,dd,λh' dd' hs=>⟨.ref s.heap.objs.size,_,?_,rfl,q2⟩⟩;have hz:(pF [] kvs).length<=sizeLine:=by
  have h1:=lh kvs [];rw[List.length_nil]at h1;rw[sizeLine_eq];omega
 have he:∃q,h'.get? s.heap.objs.size=some q:=let ⟨q,_,_,hq,_⟩:=dd';⟨q,hq⟩
 exact oP I2 (by rw[e];exact True.intro) hs he (wZ hz hd (rk.merge .nil) dd')
structure M1(X:Cx)(o:Expr)(m:Str)(apos:Pos)(e:Expr)(cpos:Pos):Prop where
 base:attributeBase o m X.env (eval o X.env)=eval o X.env
 few:((backTo cpos (starEach [e] X.env)).all (λx=>!x.1)&&(backToKw cpos (keywordEach [] X.env)).all (λx=>x.1.isSome)
  && decide (([e]:List Expr).length+([]:List Keyword).length+(if([]:List Keyword).isEmpty then 0 else 1)<30))=true
 line:(apos.endLine==cpos.line)=true
 trees:backTo cpos (starEach [e] X.env)=[(false,eval e X.env)]
structure M2(X:Cx)(o:Expr)(m:Str)(apos:Pos)(e f:Expr)(cpos:Pos):Prop where
 base:attributeBase o m X.env (eval o X.env)=eval o X.env
 few:((backTo cpos (starEach [e,f] X.env)).all (λx=>!x.1)&&(backToKw cpos (keywordEach [] X.env)).all (λx=>x.1.isSome)
  && decide (([e,f]:List Expr).length+([]:List Keyword).length+(if([]:List Keyword).isEmpty then 0 else 1)<30))=true
 line:(apos.endLine==cpos.line)=true
 trees:backTo cpos (starEach [e,f] X.env)=[(false,eval e X.env),(false,eval f X.env)]
noncomputable def Hd(H:Hp)(a:Addr):Prop:=(∃kvs,Rd H a (.dK kvs))\/∃kvs,Rd H a (.dT kvs)
theorem E6{X:Cx}{pins:KN}{σ:St}{H:Hp}{s:KP}{a:Addr}(I:Inv X pins σ H s)(d:Hd H a) :
  s.TypeIs (.ref a) "dict"/\(∀b,Value.ref a=.ref b->∃ob,s.heap.get? b=some ob/\ob.dict=none)/\(a==sysModules)=false:=by
 rcases d with⟨kvs,e⟩ | ⟨kvs,e⟩
 ·obtain⟨_,hd,vs,_,dd⟩:=rR I.hok e
  refine⟨dd.typeIs,λb q=>?_,hd⟩;cases q;obtain⟨ob,_,_,h1,h2,_⟩:=dd;exact⟨ob,h1,h2.2.1⟩
 ·obtain⟨_,hd,xs,_,dd⟩:=vn I.hok e
  refine⟨dd.typeIs,λb q=>?_,hd⟩;cases q;obtain⟨ob,_,_,h1,h2,_⟩:=dd;exact⟨ob,h1,h2.2.1⟩
section
variable {X:Cx}{pins:KN}{σ:St}{H:Hp}{s:KP}{a:Addr}{y d:V}{u r:Value}{o:Option V}{A:KZ}{E:KL}
end
section
variable {X:Cx}{o e f:Expr}{apos cpos:Pos}{td ty tx:TE}
end
section
variable {X:Cx}{pins:KN}{σ:St}{H:Hp}{s:KP}{a:Addr}{kvs:List (cS×V)}{A:KZ}{E:KL}
end
section
variable {X:Cx}{pins:KN}{σ:St}{H:Hp}{s:KP}{a:Addr}{y:V}{u:Value}{A:KZ}{E:KL}
end
end L2
namespace Att
open PySem PySem.W PySem.Calls PyProof.Rows
theorem oz{P:Params}{h:Heap}:∀(ns:List Int) (vs:KQ),WellAll P h vs (ns.map WData.int)->IntsAre vs ns:=by
 intro ns
 induction ns with
 |nil=>
  intro vs w;rw[List.map_nil]at w;cases w;exact .nil
 |cons n ns ih=>
  intro vs w;rw[Kl]at w;cases w with
  |cons a b=>
   cases a;exact .cons _ _ (ih _ b)
theorem zX{l:OpenLaw}{n:Nat}(hn:l.most=some n){P:Params}{h:Heap}{args:List WData}{vals:KQ}
  (hpre:l.row.toRowW.claim.pre args=true) (hwl:WellAll P h vals args) :
  ∃a vs ns,vals=[Value.ref a]/\args=[WData.list (ns.map WData.int)]/\h.get? a=some {cls:=.type "list",data:=.seq vs.toArray}/\IntsAre vs ns/\ns.length<=n:=by
 have hsh:WShape.hasAll [] args [.list .int]=true:=(pre_splitW hpre).1;have hc:l.pre.holds [] {args:=args}=true:=(pre_splitW hpre).2;obtain⟨d,r,rfl,h1,h2⟩:=hasAllW_cons hsh;obtain rfl:=hasAllW_nil h2;obtain⟨xs,rfl,h3⟩:=hasW_list h1;obtain⟨ns,rfl⟩:=items_int h3;have hlen:ns.length<=n:=by
  unfold OpenLaw.pre at hc;have h4:(WTm.not (.lt (.lit (.int (n:Int))) (.len (.arg 0)))).holds [] {args:=[.list (ns.map .int)]}=true:=by
   have h4:=(holds_andW hc).1;rw[hn]at h4;exact h4
  have h5:=condW_of h4 (w_not (w_lt w_lit (w_len_list (w_arg rfl))));rw[JU]at h5;refine Nat.le_of_not_lt λq=>?_;have q':(n:Int)<((ns.length:Nat):Int):=by omega
  first
   | (rw[decide_eq_true q']at h5;exact absurd h5 nofun)
   | (simp at h5;omega)
 cases hwl with
 |cons w1 w2=>
  cases w2;cases w1 with
  |list ho hall=>exact⟨_,_,ns,rfl,rfl,ho,oz ns _ hall,hlen⟩
theorem yR(l:OpenLaw)(args:List WData):l.row.toRowW.claim.post args (.bool true) args=true:=
 postW_of (r:=l.row.toRowW) (X:=(true==true))
  (show WShape.has [] (.bool true) .bool=true by first | rfl | decide | simp[WShape.has,WShape.arms,WShape.armsAll])
  (show(WTm.eq .res (.lit (.bool true))).value [] {args:=args,res:=some (.bool true),after:=args}=some (.bool (true==true)) from w_eq_bool (w_res rfl) w_lit) rfl
theorem attach_call{l:OpenLaw}{n:Nat}{q:KW}{loose:KY}{XP:(Str->Option Value)->Heap->Prop}{YP:World->Heap->Prop}{d:DefRec}
  (hn:l.most=some n) (hdf:d.params.defaults=[])
  (call:∀(w:K0) (s₀ s₁:KP) (mg mb:KS) (fa:Addr) (o:Obj) (pm cd doc:Value) (a:Addr) (vs:KQ) (ns:List Int),
   Ground q loose [] XP w s₀ mg mb s₁.heap->YP w s₁.heap ->
   s₁.heap.get? fa=some o->o.data=.func (docDef d.name d.params d.body d.scope pm cd doc)->s₁.heap.CodeRec cd d.name->mg d.name=some (.ref fa) ->
   s₁.heap.get? a=some {cls:=.type "list",data:=.seq vs.toArray}->IntsAre vs ns->ns.length<=n->s₁.gens=#[] ->
   codeAny (model l.prog w) callerA (.call (.ref fa) ⟨[.ref a],[]⟩) (λr s'=>r=.ok (.ret (.bool true))/\OldK s₁.heap s'.heap/\s'.os=s₁.os/\AllBare s'.gens) s₁) :
  WalkO q loose XP YP l.row.toRowW d [] (λf vs=>PySem.call f vs):=by
 intro w s₀ s₁ mg mb G Y fa o pm cd doc dV kV ho hd hcd hD hmg hg args vals as hpre hlay hrd hwl hlo;obtain rfl:dV=.none:=Dflts.none hD hdf;obtain rfl:kV=.none:=Dflts.noKw hD;obtain⟨a,vs,ns,rfl,rfl,hobj,hints,hlen⟩:=zX hn hpre hwl;refine enter_call (codeAny_mono (call w s₀ s₁ mg mb fa o pm cd doc a vs ns G Y ho (fd_plain hd) hcd hmg hobj hints hlen hg) λr s' hq=>?_);obtain⟨rfl,h2,h3,h4⟩:=hq;exact⟨.inl ⟨.bool true,.bool true,[],rfl,λ_=>rfl,.bool true,yR l _,λ_=>⟨List.Pairwise.nil,λ_ hm=>(nomatch hm)⟩⟩,h2,h3,h4⟩
section
variable {prog:KW}{w:K0}{A:KZ}{E:KL}{s:KP}{K:Frag}
noncomputable def Gy(h:Heap)(L d:Addr):List (Addr×Obj):=(List.range h.objs.size).filterMap λa=>if a=L\/a=d then none else(h.get? a).map λo=>(a,o)
end
end Att
namespace L2
open PySem PySem.Spec PyProof.Rows
theorem rZ:∀{vs:KQ} {ns:List Int},IntsAre vs ns->bj (ns.map V.int) vs
 |_,_,.nil=>.nil
 |_,_,.cons n t h=>.cons ⟨t,rfl⟩ (rZ h)
noncomputable def E3(H:Hp):Prop:=∀b,H b=none\/∃o xs,H b=some (.frz o (.lst xs))
theorem Cn{P:KW}{w:K0}{K:KM}{mg mb:KS}{CX:k7}{k:Nat}{fa a:Addr}{fd:KU}{x:Str}{sp:Sp}{s₁:KP}{vs:KQ}{ns:List Int}
  (KX:K.In s₁.heap) (hns:s₁.heap.Ns mainGlobals mg) (hb:s₁.heap.Ns builtinsNs mb) (hbb:∀x:Str,x≠"__name__"->mb x=bootBuiltins x) (hlim:s₁.heap.NoLimit) (hg:s₁.gens=#[])
  (ha:s₁.heap.get? a=some {cls:=.type "list",data:=.seq vs.toArray}) (hi:IntsAre vs ns) (hl:ns.length<=sizeLine) (hr:df k callerA)
  (F:∀base:Heap,K.In base->base.Ns mainGlobals mg->aQ P w K mg base CX k fa fd [x] sp) (hbind:∀(s:KP) (u:Value),BindsTo s fd ⟨[u],[]⟩ [(x,u)])
  (hsp:∀H:Hp,E3 H->aU K H a (ns.map V.int)->sp [.ref a] H (λv _=>v=.bl true) λ_ _ _=>False)
  (hCX:∀H e s',CX [] H s₁ (λ_ _ _=>False) e s'->False) :
  codeAny (model P w) callerA (.call (.ref fa) ⟨[.ref a],[]⟩) (λr s'=>r=.ok (.ret (.bool true))/\OldK s₁.heap s'.heap/\s'.os=s₁.os/\AllBare s'.gens) s₁:=by
 have rv:=rZ hi;have lenV:=hi.length
 -- from an abstract heap in which nothing but the script may be tracked
 have core:∀H:Hp,E3 H->aU K H a (ns.map V.int)->j5 P w H s₁.heap->(∀b,H b≠none->b=a)->(H a≠none->K.lookup a=none) ->
   codeAny (model P w) callerA (.call (.ref fa) ⟨[.ref a],[]⟩) (λr s'=>r=.ok (.ret (.bool true))/\OldK s₁.heap s'.heap/\s'.os=s₁.os/\AllBare s'.gens) s₁:=by
  intro H hO hS hok hA hK;have base_of:∀{b:Addr} {o:Obj},s₁.heap.get? b=some o->H b=none->(tq s₁.heap H).get? b=some o:=λe n=>B5 e n;have noA:∀{b:Addr} {o:Obj} {es:Array DictEntry} {ep:Nat},s₁.heap.get? b=some o->o.data=.dict es ep->H b=none:=fun{b o es ep} e d=>by
   cases q:H b with
   |none=>rfl
   |some u=>
    have e':b=a:=hA b (by rw[q];simp);subst e';rw[ha]at e;cases e
    have d':Data.seq vs.toArray _=Data.dict es ep:=d;cases d'
  have nsK:∀{b:Addr} {m:KS},s₁.heap.Ns b m->(tq s₁.heap H).Ns b m:=fun{b m} ⟨o,es,ep,e,d,r⟩=>⟨o,es,ep,base_of e (noA e d),d,r⟩;have hKb:K.In (tq s₁.heap H):=λb o e=>base_of (KX b o e) (by
   cases q:H b with
   |none=>rfl
   |some u=>
    have e':b=a:=hA b (by rw[q];simp);subst e';rw[hK (by rw[q];simp)]at e;cases e)
  have hM:Mod K mg (tq s₁.heap H):=⟨hKb,nsK hns,⟨mb,nsK hb,hbb⟩,let ⟨mc,h1,h2⟩:=hlim;⟨mc,nsK h1,h2⟩⟩;have e0:wb P w K mg (tq s₁.heap H) callerA [] s₁ H:=⟨rfl,hM,λb o e=>D4 e,Nat.le_of_eq (AV _ _),trivial,λb hb=>absurd (show b∈([]:List Addr) from hb) (by simp),hok,.of_eq hg⟩;refine codeAny_mono ((F _ hKb (nsK hns)).run callerA [] s₁ H ⟨[.ref a],[]⟩ [.ref a] [.ref a] _ _ hr e0 (hbind s₁ (.ref a)) (.cons rfl .nil) (hsp H hO hS)) λr s' h=>?_;cases r with
  |error e=>exact(hCX H e s' h).elim
  |ok fl=>
   cases fl with
   |next=>exact False.elim h
   |brk=>exact False.elim h
   |cont=>exact False.elim h
   |ret u=>
    obtain⟨v,H',os,bare,un,hok',r',q⟩:=h;have q':v=.bl true:=q;subst q';obtain rfl:u=Value.bool true:=r';refine⟨rfl,OldK.of_keep λb o e=>?_,os,bare⟩;cases q:H b with
    |none=>exact un.keep b o e q (by intro z;exact absurd (show b∈([]:List Addr) from z) (by simp)) (by simp)
    |some u=>
     rcases hO b with z | ⟨ob,xs,z⟩
     ·rw[q]at z;cases z
     ·have z2:=un.frzs b ob _ z
      obtain⟨e1,_⟩:=hok b _ z;obtain⟨e2,_⟩:=hok' b _ z2;rw[e]at e1;cases e1
      exact e2
 cases hk:K.lookup a with
 |some o=>
  -- the script is one of the module's own objects
  have e:=KX a o hk;rw[ha]at e;cases e;refine core (λ_=>none) (λ_=>.inl rfl) (.inr ⟨_,vs.toArray,_,hk,rfl,rfl,rfl,by rw[J0,lenV];exact hl,by simpa using rv⟩) (λb u z=>by have z':(none:Option HO)=some u:=z;cases z') (λb z=>absurd rfl z) λz=>absurd rfl z
 |none=>
  refine core (λb=>if b=a then some (.frz {cls:=.type "list",data:=.seq vs.toArray} (.lst (ns.map V.int))) else none) (λb=>?_) (.inl (.inr ⟨{cls:=.type "list",data:=.seq vs.toArray},if_pos rfl⟩)) (λb u z=>?_) (λb z=>?_) λ_=>hk
  ·by_cases hb:b=a
   ·exact .inr ⟨_,_,if_pos hb⟩
   ·exact .inl (if_neg hb)
  ·by_cases hb:b=a
   ·have z':=(if_pos hb).symm.trans z
    cases z';subst hb;exact⟨ha,by rw[JU];exact hl,vs,_,rv,ha⟩
   ·have z':=(if_neg hb).symm.trans z
    cases z'
  ·by_cases hb:b=a
   ·exact hb
   ·exact absurd (if_neg hb) z
theorem walk_of{l:PySem.W.OpenLaw}{n k:Nat}{q:KW}{loose:KY}{XP:(Str->Option Value)->Heap->Prop}{YP:World->Heap->Prop}{d:DefRec}{K:Params->PySem.W.Frag}{CX:World->k7}{sp:World->Sp}{x:Str}
  (hn:l.most=some n) (hn2:n<=sizeLine) (hdf:d.params.defaults=[]) (hr:df k callerA)
  (hY:∀(w:K0) (h:Heap),YP w h->(K w.params).In h)
  (F:∀(w:K0) (mg:KS) (fa:Addr) (h:Heap),(K w.params).In h->h.Ns mainGlobals mg->mg d.name=some (.ref fa) ->
   ∃fd:FuncData,(∀(s:KP) (u:Value),BindsTo s fd ⟨[u],[]⟩ [(x,u)]) /\
    ∀base:Heap,(K w.params).In base->base.Ns mainGlobals mg->aQ l.prog w (K w.params) mg base (CX w) k fa fd [x] (sp w))
  (hsp:∀(w:K0) (H:Hp) (a:Addr) (ns:List Int),ns.length<=n->E3 H->aU (K w.params) H a (ns.map V.int)->sp w [.ref a] H (λv _=>v=.bl true) λ_ _ _=>False)
  (hCX:∀(w:K0) (H:Hp) (s:KP) (e:Value) (s':KP),CX w [] H s (λ_ _ _=>False) e s'->False) :
  PySem.W.WalkO q loose XP YP l.row.toRowW d [] (λf vs=>PySem.call f vs):=by
 refine Att.attach_call hn hdf λw s₀ s₁ mg mb fa o pm cd doc a vs ns G Y ho hd hcd hmg hobj hints hlen hg=>?_;have KX:=hY w _ Y;obtain⟨fd,hb,hF⟩:=F w mg fa _ KX G.T.g hmg;exact Cn KX G.T.g G.T.b G.T.builtins G.T.nolimit hg hobj hints (Km hlen hn2) hr hF hb (λH hO hS=>hsp w H a ns hlen hO hS) λH e s'=>hCX w H s₁ e s'
noncomputable def aR(s:Stmt):Arguments:=match s with
 | .FunctionDef _ a _ _ _ _ _ _ _ _=>a
 |_=>{posonlyargs:=[],args:=[],vararg:=none,kwonlyargs:=[],kw_defaults:=[],kwarg:=none,defaults:=[]}
noncomputable def aP(s:Stmt):List Stmt:=match s with
 | .FunctionDef _ _ b _ _ _ _ _ _ _=>b
 |_=>[]
noncomputable def ah(s:Stmt):Scope:=match s with
 | .FunctionDef _ _ _ _ _ _ sc _ _ _=>sc
 |_=>{kind:=.function,names:=[],isGenerator:=false,isCoroutine:=false}
noncomputable abbrev bC:k7:=λ_ _ _ _ _ _=>False
noncomputable abbrev E0:XK:=λ_ _ _=>False
theorem aY{X:Cx}:cX bC X E0:=λ_ _ _ _ _ _ _ h=>h.elim
structure cw(K:KM)(x qual:Str)(st:Stmt)(f:Addr)(fd:KU):Prop where
 ex:∃(oc:Value) (od:K1) (kV doc pm:Value) (an:K1) (cdv ct:Value) (osl:Array (Option Value)),
  fd=PySem.W.fnOf x qual (aR st) (aP st) (ah st) .none kV doc pm an cdv ct/\K.lookup f=some ⟨oc,od,.func fd,osl⟩/\PySem.W.codeIn K cdv qual=true
 kp:PySem.W.keepIn K (.ref f)=true
section
variable {P:KW}{w:K0}{K:KM}{mg:KS}{base:Heap}
theorem cw.ok{x qual:Str}{st:Stmt}{f:Addr}{fd:KU}{N ps:KY}{k:Nat}{sp:Sp}(F:cw K x qual st f fd)(S:az N ps (ah st))(len:∀vs H Q E,sp vs H Q E->vs.length=ps.length)
  (hbody:∀(cdv:Value) (A:KZ) (outer:List Env) (s:KP) (H:Hp) (vs:List V) (Q:VK) (E:XK),df k (A.deeper (envOfC qual (ah st) s.heap.objs.size f cdv))->sp vs H Q E ->
   ∃t,vU (fU bC P w K mg base N qual (ah st) f cdv A outer s H E).nox (aP st) t/\t {nx:=λ_ H'=>Q .non H',rt:=Q} (start N vs) H):aQ P w K mg base bC (k+1) f fd ps sp:=by
 obtain⟨oc,od,kV,doc,pm,an,cdv,ct,osl,rfl,lk,hcd⟩:=F.ex;refine Et lk hcd S len λA outer s H vs Q E hr hsp=>?_;obtain⟨t,h,q⟩:=hbody cdv A outer s H vs Q E hr hsp;exact⟨t,h.nox,q⟩
theorem cw.binds{x qual:Str}{st:Stmt}{f:Addr}{fd:KU}{ps:KY}(F:cw K x qual st f fd)
  (h:∀(kV doc pm:Value) (an:K1) (cdv ct:Value) (us:KQ),us.length=ps.length->bindArgs (PySem.W.fnOf x qual (aR st) (aP st) (ah st) .none kV doc pm an cdv ct) ⟨us,[]⟩=pure (ps.zip us)):b7 K fd ps []:=by
 obtain⟨oc,od,kV,doc,pm,an,cdv,ct,osl,rfl,lk,hcd⟩:=F.ex;exact .all (h kV doc pm an cdv ct)
theorem bx{x qual:Str}{st:Stmt}{f:Addr}{oc:Value}{od an:K1}{osl:Array (Option Value)}{kV doc pm cdv ct:Value}(l:K.lookup f=some ⟨oc,od,.func (PySem.W.fnOf x qual (aR st) (aP st) (ah st) .none kV doc pm an cdv ct),osl⟩)
  (c:PySem.W.codeIn K cdv qual=true) (k:PySem.W.keepIn K (.ref f)=true):cw K x qual st f (PySem.W.fnOf x qual (aR st) (aP st) (ah st) .none kV doc pm an cdv ct):=⟨⟨oc,od,kV,doc,pm,an,cdv,ct,osl,rfl,l,c⟩,k⟩
end
section
variable {X:Cx}
theorem pv(i:Nat){x:Str}{pos:Pos}(hN:autoParam (X.N[i]?=some x) zzR._auto_1)(hv:Gn X.env.scope x:=by first | exact Or.inl rfl | exact Or.inr (Or.inl rfl) | exact Or.inr (Or.inr rfl))(hd:autoParam ((x==("__debug__":Str))=false) zzD._auto_1)
  (hcd:autoParam ((x==("__classdict__":Str))=false) zzD._auto_1):PE X (.Name x pos) (zJ i):=E_ hN hv hd hcd
theorem sF:im X (.builtin "len") (λxs H Q=>∃a kvs,xs=[V.ref a]/\H a=some (.dK kvs)/\Q (.int kvs.length) H):=by
 intro pins s σ H xs us Q I r h;obtain⟨a,kvs,rfl,ha,q⟩:=h;obtain⟨u,rfl,ru⟩:=wm r;cases ru;exact FM I (.inl ha) λt s' I'=>⟨.int kvs.length,H,I',⟨t,rfl⟩,q⟩
end
noncomputable def aC(H H':Hp):Prop:=∀b o,H b=some o->H' b=some o
theorem aC.refl(H:Hp):aC H H:=λ_ _ h=>h
theorem aC.trans{H H1 H2:Hp}(a:aC H H1)(b:aC H1 H2):aC H H2:=λc o h=>b c o (a c o h)
theorem aC.free{H H':Hp}(e:aC H H'){l:Addr}(h:H' l=Option.none):H l=Option.none:=by
 cases q:H l with
 |none=>rfl
 |some o=>
  rw[e l o q]at h;cases h
theorem aC.seq{K:KM}{H H':Hp}{a:Addr}{xs:List V}(e:aC H H')(h:aU K H a xs):aU K H' a xs:=by
 rcases h with(h | ⟨o,h⟩) | h
 ·exact .inl (.inl (e _ _ h))
 ·exact .inl (.inr ⟨o,e _ _ h⟩)
 ·exact .inr h
section
variable {κ:Type}[DecidableEq κ]
theorem vN{kvs:List (κ×V)}{k:κ}(h:ce kvs k=none):¬ k∈kvs.map (·.1):=by
 intro m;obtain⟨p,hp,e⟩:=Ky.mp m;have q:(kvs.any λkv=>decide (kv.1=k))=true:=List.any_eq_true.mpr ⟨p,hp,decide_eq_true e⟩;rw[fj,h]at q;exact absurd q (by simp)
theorem Eh{kvs:List (κ×V)}{k:κ}{v:V}(h:ce kvs k=some v):k∈kvs.map (·.1):=by
 have q:(kvs.any λkv=>decide (kv.1=k))=true:=by
  rw[fj,h]
  all_goals rfl
 obtain⟨p,hp,e⟩:=List.any_eq_true.mp q;exact Ky.mpr ⟨p,hp,of_decide_eq_true e⟩
theorem yP:∀{l:List κ} {k:κ},l.Nodup->¬ k∈l->(l++[k]).Nodup
 | [],k,_,_=>by simp
 |a::r,k,h,hk=>by
  obtain⟨h1,h2⟩:=List.nodup_cons.mp h;show(a::(r++[k])).Nodup;refine List.nodup_cons.mpr ⟨λm=>?_,yP h2 λm=>hk (J8.mpr (Or.inr m))⟩;rcases J6.mp m with q | q
  ·exact h1 q
  ·exact hk (J8.mpr (Or.inl (JV.mp q).symm))
theorem DF{kvs:List (κ×V)}{k:κ}(v:V)(hn:(kvs.map (·.1)).Nodup)(h:ce kvs k=none):((cB kvs k v).map (·.1)).Nodup:=by
 rw[pz v h,J5];exact yP hn (vN h)
end
end L2
namespace PySem
open Sem (wp)
open Builtin Builtin.Str Builtin.Int
namespace F
theorem nF:Manifest.owners.lookup "reversed"=some Manifest.sig_reversed:=by kernel_rfl
theorem slot_rvs_next:Slot "reversed" "__next__" "reversed.__next__":=
 .of (owner:="reversed") (n:="__next__") (by rw[typeLookup_type,builtinLookup_eq_fast];kernel_rfl) (by decide +kernel) (by decide +kernel) (by decide +kernel)
  (by first | exact .inl (by decide +kernel) | exact .inr (by decide +kernel)) (by rw[isSubtype_type];kernel_rfl)
theorem entry_rvs_next:entryFor table "reversed.__next__"=some Builtin.«reversed.__next__»:=entryFor_of_tree (by kernel_rfl)
theorem slot_rvs_iter:Slot "reversed" "__iter__" "reversed.__iter__":=
 .of (owner:="reversed") (n:="__iter__") (by rw[typeLookup_type,builtinLookup_eq_fast];kernel_rfl) (by decide +kernel) (by decide +kernel) (by decide +kernel)
  (by first | exact .inl (by decide +kernel) | exact .inr (by decide +kernel)) (by rw[isSubtype_type];kernel_rfl)
theorem nolen_rvs:typeLookup (.type "reversed") "__len__"=pure none:=by rw[typeLookup_type,builtinLookup_eq_fast];kernel_rfl
theorem hint_rvs:typeLookup (.type "reversed") "__length_hint__"=pure (some (.builtin "reversed.__length_hint__")):=by rw[typeLookup_type,builtinLookup_eq_fast];kernel_rfl
theorem args_rvs_next_1(a:Value):argsOk "reversed.__next__" ⟨[a],[]⟩:=by
 unfold argsOk;rw[signature?_of (id:="reversed.__next__") (n:=['_','_','t','x','e','n','_','_']) (o:=['d','e','s','r','e','v','e','r']) (by kernel_rfl) nF];kernel_rfl
theorem args_rvs_iter_1(a:Value):argsOk "reversed.__iter__" ⟨[a],[]⟩:=by
 unfold argsOk;rw[signature?_of (id:="reversed.__iter__") (n:=['_','_','r','e','t','i','_','_']) (o:=['d','e','s','r','e','v','e','r']) (by kernel_rfl) nF];kernel_rfl
theorem entry_rvs_iter:entryFor table "reversed.__iter__"=some Builtin.«dict_keyiterator.__iter__»:=
 entryFor_alias (id':="dict_keyiterator.__iter__") (by kernel_rfl) (by first | rfl | decide +kernel | (unfold String.splitOn;simp +decide [String.splitOnAux])) (by decide +kernel) (by kernel_rfl)
theorem slot_rvs_hint:Slot "reversed" "__length_hint__" "reversed.__length_hint__":=
 .of (owner:="reversed") (n:="__length_hint__") (by rw[typeLookup_type,builtinLookup_eq_fast];kernel_rfl) (by decide +kernel) (by decide +kernel) (by decide +kernel)
  (by first | exact .inl (by decide +kernel) | exact .inr (by decide +kernel)) (by rw[isSubtype_type];kernel_rfl)
theorem entry_rvs_hint:entryFor table "reversed.__length_hint__"=some Builtin.«reversed.__length_hint__»:=entryFor_of_tree (by kernel_rfl)
theorem args_rvs_hint_1(a:Value):argsOk "reversed.__length_hint__" ⟨[a],[]⟩:=by
 unfold argsOk;rw[signature?_of (id:="reversed.__length_hint__") (n:=['_','_','t','n','i','h','_','h','t','g','n','e','l','_','_']) (o:=['d','e','s','r','e','v','e','r']) (by kernel_rfl) nF];kernel_rfl
end F
section
variable {prog:KW}{w:K0}{A:KZ}{E:KL}{s:KP}
noncomputable def wS(x:Str)(t:Tok)(i:Int):Obj:={cls:=.type "reversed",data:=.fields #[.str x t,rawInt i]}
noncomputable def Heap.IsRvs(h:Heap)(a:Addr)(x:Str)(t:Tok)(i:Int):Prop:=∃o,h.get? a=some o/\o.cls=.type "reversed"/\o.data=.fields #[.str x t,rawInt i]
theorem Heap.IsRvs.typeIs{a:Addr}{x:Str}{t:Tok}{i:Int}(y:s.heap.IsRvs a x t i):s.TypeIs (.ref a) "reversed":=let ⟨o,ho,hc,_⟩:=y;⟨o,ho,hc⟩
theorem Heap.IsRvs.at{h h':Heap}{a:Addr}{x:Str}{t:Tok}{i:Int}(y:h.IsRvs a x t i)(e:∀o,h.get? a=some o->h'.get? a=some o):h'.IsRvs a x t i:=let ⟨o,ho,r⟩:=y;⟨o,e _ ho,r⟩
theorem jh{it:Addr}{x:Str}{t:Tok}{i c:Nat}{Q:Option Value->Shared->Prop}(hit:s.heap.IsRvs it x t (i:Int))(hx:x.cps[i]?=some c)(hsz:i<2 ^ 63)
  (hQ:∀h' tk tk',h'.IsRvs it x t ((i:Int)-1)->Heap.SameBut it s.heap h'->Q (some (.str ⟨#[c]⟩ tk)) {s with heap:=h',toks:=tk' }):wpAny (model prog w) A (pyNext (.ref it)) Q E s:=by
 obtain⟨o,ho,hc,hd⟩:=id hit;have hlen:i<x.length:=(Array.getElem?_eq_some_iff.mp hx).1;unfold pyNext;refine wpAny_bind (wpAny_attempt (wpAny_callSpecial?_slot (name:=Str.ofString "__next__") hit.typeIs F.slot_rvs_next
  (wpAny_call_entry F.slot_rvs_next hit.typeIs F.entry_rvs_next ?_ (F.args_rvs_next_1 _))))
 unfold Builtin.«reversed.__next__»;refine wpAny_bind (wpAny_of_eq (a:=(Value.ref it,[])) rfl ?_)
 try dsimp only
 refine wpAny_bind (wpAny_field ho hd (x:=.str x t) rfl ?_);refine wpAny_bind (wpAny_field ho hd (x:=rawInt (i:Int)) rfl ?_);show wpAny _ _ (if(i:Int)<0 then _ else _) _ _ s;rw[if_neg ⋯];refine wpAny_bind (wpAny_specialOf (typeIs_str s x t) F.slot_str_getitem.lookup ?_)
 try dsimp only
 first
 |rw[if_neg (show ¬ ((some (Value.builtin "str.__getitem__")).isNone=true) from Kg)]
 |skip
 refine wpAny_bind (wpAny_mkInt ?_);refine wpAny_bind (wpAny_attempt ?_);have hb:(seqIndex? (i:Int) x.length).bind (x.cps[·]?)=some c:=by
  have e:seqIndex? (i:Int) x.length=some i:=by
   have hn:¬ ((i:Int)<0):=by omega
   unfold seqIndex?;simp[hn,hlen]
  rw[e];exact hx
 refine P.getItem_str (c:=c) (by simp;omega) hb ?_;dsimp only;refine wpAny_bind (wpAny_field ho hd (x:=rawInt (i:Int)) rfl ?_);show wpAny _ _ (setField (Value.ref it) 1 (rawInt ((i:Int)-1)) >>= λ_=>ret (Value.str ⟨#[c]⟩ _)) _ _ _;refine wpAny_bind (wpAny_setField ho hd (by simp) ?_);refine wpAny_pure ⟨_,rfl,wpAny_pure (hQ _ _ _ ?_ (Heap.SameBut.update ..))⟩;exact⟨_,J3 _ ho (Obj.isFreed_of_fields (Obj.data_mapFields hd _)),(Obj.cls_mapFields ..).trans hc,by
  rw[Obj.data_mapFields hd];simp⟩
theorem jI{it:Addr}{x:Str}{t:Tok}{Q:Option Value->Shared->Prop}(hh:A.handled=none)(hit:s.heap.IsRvs it x t (-1))
  (hQ:∀h',Heap.ExtBut it s.heap h'->Q none {s with heap:=h' }):wpAny (model prog w) A (pyNext (.ref it)) Q E s:=by
 obtain⟨o,ho,hc,hd⟩:=id hit;unfold pyNext;refine wpAny_bind (wpAny_attempt (wpAny_callSpecial?_slot (name:=Str.ofString "__next__") hit.typeIs F.slot_rvs_next
  (wpAny_call_entry F.slot_rvs_next hit.typeIs F.entry_rvs_next ?_ (F.args_rvs_next_1 _))))
 unfold Builtin.«reversed.__next__»;refine wpAny_bind (wpAny_of_eq (a:=(Value.ref it,[])) rfl ?_)
 try dsimp only
 refine wpAny_bind (wpAny_field ho hd (x:=.str x t) rfl ?_);refine wpAny_bind (wpAny_field ho hd (x:=rawInt (-1)) rfl ?_);show wpAny _ _ (if(-1:Int)<0 then _ else _) _ _ s;rw[if_pos nofun];refine wpAny_bind (wpAny_rule ?_);show wpAny _ _ ((setField (Value.ref it) 1 (rawInt (-1)) >>= λ_=>setField (Value.ref it) 0 .none) >>= _) _ _ _;refine wpAny_bind (wpAny_bind (wpAny_setField ho hd (by simp) ?_));have ho1:=J3 (Obj.mapFields (·.setIfInBounds 1 (rawInt (-1)))) ho (Obj.isFreed_of_fields (Obj.data_mapFields hd _));refine wpAny_setField ho1 (Obj.data_mapFields hd _) (by simp) ?_;dsimp only;show wpAny _ _ (SmallTypes.stopIteration >>= _) _ _ _;refine wpAny_bind ?_;unfold SmallTypes.stopIteration
 first
 |show wpAny _ _ (newExc (.type "StopIteration") [] >>= _) _ _ _
 | (refine wpAny_bind ?_;show wpAny _ _ (newExc (.type "StopIteration") [] >>= _) _ _ _)
 refine wpAny_bind ?_;simp only[newExc,newTuple];refine wpAny_bind (wpAny_newObj_type ?_ (by size_fits));refine wpAny_bind (m:=firstArgMember _ _) (wpAny_of_eq (a:=Value.none) (by first | rfl | (simp only[firstArgMember];rfl)) ?_);refine wpAny_newObj_type ?_ (by size_fits);simp only[raiseNew];refine wpAny_bind (wpAny_handled ?_)
 first | rw[show A.in1.handled=none from hh] | rw[hh]
 refine wpAny_bind (wpAny_pure (wpAny_throw ?_));refine wpAny_bind (wpAny_isInstance (T:="StopIteration") (b:=true) ⟨_,JZ _ rfl,rfl⟩ isSubtype_stop ?_);refine wpAny_pure (hQ _ ?_);intro b ob hb eb;exact JT _ (JT _ ((JY _ _ (Ne.symm hb)).trans ((JY _ _ (Ne.symm hb)).trans eb)))
theorem ic{it:Addr}{x:Str}{t:Tok}{i:Int}{Q:KL}(hit:s.heap.IsRvs it x t i)(h:Q (.ref it) s):wpAny (model prog w) A (pyIter (.ref it)) Q E s:=by
 refine wpAny_pyIter_slot hit.typeIs F.slot_rvs_iter (wpAny_call_entry F.slot_rvs_iter hit.typeIs F.entry_rvs_iter ?_ (F.args_rvs_iter_1 _));show wpAny _ _ (ret (.ref it)) _ _ s;exact wpAny_pure ⟨_,rfl,"reversed",_,hit.typeIs,F.slot_rvs_next.lookup,h⟩
theorem hint_rvs{it:Addr}{x:Str}{t:Tok}{i:Int}{Q:KL}(hit:s.heap.IsRvs it x t i)(hi:i<x.length)(hz:x.length<=sizeLine)
  (h:∀u tk,s.toks<=tk->Q (.int (i+1) u) {s with toks:=tk}):wpAny (model prog w) A (call (.builtin "reversed.__length_hint__") [.ref it]) Q E s:=by
 obtain⟨o,ho,hc,hd⟩:=id hit;refine wpAny_call_entry F.slot_rvs_hint hit.typeIs F.entry_rvs_hint ?_ (F.args_rvs_hint_1 _);unfold Builtin.«reversed.__length_hint__»;refine wpAny_bind (wpAny_of_eq (a:=Value.ref it) rfl ?_);refine wpAny_bind (wpAny_field ho hd (x:=.str x t) rfl ?_);show wpAny _ _ (if(Value.str x t==Value.none)=true then _ else _) _ _ s;rw[if_neg (show ¬ ((Value.str x t==Value.none)=true) from λz=>by cases(eq_of_beq z))];have hs:sizeLine=16777216:=sizeLine_eq;refine wpAny_bind (P.len_str ⋯ ?_);refine wpAny_bind (m:=asInt? _) (wpAny_pure ?_);dsimp only;refine wpAny_bind (wpAny_field ho hd (x:=rawInt i) rfl ?_);show wpAny _ _ (if(x.length:Int)<i+1 then _ else _) _ _ _;rw[if_neg ⋯];show wpAny _ _ (mkInt (i+1) >>= λv=>ret v) _ _ _;exact wpAny_bind (wpAny_mkInt (wpAny_pure ⟨_,rfl,h _ _ (by simp;omega)⟩))
theorem Walks.rvs{A:KZ}(hh:A.handled=none)(I:Addr)(x:Str)(t:Tok)(hz:x.length<=sizeLine) :
  Walks prog w A I [I] [I] x.length (λi v=>∃c tk,x.cps[x.length-1-i]?=some c/\v=.str ⟨#[c]⟩ tk) (λi h=>i<=x.length/\h.IsRvs I x t ((x.length:Int)-1-(i:Int))) where
 sub:=λb hb=>hb
 frame:=λ_ _ _ y hk=>⟨y.1,y.2.at λo e=>hk I (by simp) o e⟩
 item:=λi s Q E hi y hQ=>by
  have e:(x.length:Int)-1-(i:Int)=((x.length-1-i:Nat):Int):=by omega
  have hit:=y.2;rw[e]at hit;have hb:x.length-1-i<x.cps.size:=by have:x.length=x.cps.size:=rfl;omega
  have hx:x.cps[x.length-1-i]?=some (x.cps[x.length-1-i]'hb):=Array.getElem?_eq_getElem hb;have hs:sizeLine=16777216:=sizeLine_eq;refine jh hit hx ⋯ λh' tk tk' hit' hs'=>?_;have e2:((x.length-1-i:Nat):Int)-1=(x.length:Int)-1-((i+1:Nat):Int):=by omega
  rw[e2]at hit';exact hQ _ h' tk' ⟨_,tk,hx,rfl⟩ ⟨hi,hit'⟩ λb o hb eo=>hs'.extBut b o (λh=>hb (by simp[h])) eo
 done:=λs Q E y hQ=>by
  have e:(x.length:Int)-1-(x.length:Int) = -1:=by omega
  have hit:=y.2;rw[e]at hit;exact jI hh hit λh' he'=>hQ h' s.toks λb o hb eo=>he' b o (λh=>hb (by simp[h])) eo
 self:=λ_ _ _ _ y hQ=>ic y.2 hQ
theorem lX{I:Addr}{x:Str}{t:Tok}{Q:List Value->Shared->Prop}(hh:A.handled=none)(hit:s.heap.IsRvs I x t ((x.length:Int)-1))(hz:x.length<=sizeLine)
  (hQ:∀s' acc,Moved [I] (λa b=>b=a) s s'->ItemsOf (λi v=>∃c tk,x.cps[x.length-1-i]?=some c/\v=.str ⟨#[c]⟩ tk) acc x.length->Q acc.toList s'):wpAny (model prog w) A (collect (.ref I)) Q E s:=by
 have W:=(Walks.rvs (prog:=prog) (w:=w) (A:=A.in1) hh I x t hz).toS;have hn:x.length<=sizeLine:=hz;have hst:(λi (s:KP)=>i<=x.length/\s.heap.IsRvs I x t ((x.length:Int)-1-(i:Int))) 0 s:=⟨Kf _,by simpa using hit⟩;have hT:∀i (s:KP),(i<=x.length/\s.heap.IsRvs I x t ((x.length:Int)-1-(i:Int)))->s.TypeIs (.ref I) "reversed":=λi s y=>y.2.typeIs;have hlt:I<s.heap.objs.size:=by obtain⟨o,ho,_⟩:=hit;exact Kh ho
 have hSI:s.heap.objs.size≠I:=λe=>Kn _ (e▸hlt);have hSf:s.heap.objs.size∉[I]:=λhm=>hSI (JV.mp hm);unfold collect;refine wpAny_bind (wpAny_runValue (codeAny_builtin F.entry_proto_collect ?_));rw[Around.under_plainId F.plain_proto_collect _];show wpAny _ A.in1 (newList [] >>= λl=>again (.builtin "list.__iadd__" ⟨[l,.ref I],[]⟩)) _ _ s;refine wpAny_bind (wpAny_newObj_type ?_);refine wpAny_pure ⟨plainId_quiet F.plain_list_iadd _,codeAny_builtin F.entry_list_iadd ?_⟩;rw[Around.under_plainId F.plain_list_iadd _];have hst₁:=W.frame 0 s (s.heap.push {cls:=.type "list",data:=.seq ([]:List Value).toArray}) s.toks hst (Ke _) λb _ o e=>JT _ e;have hS₁:(s.heap.push {cls:=.type "list",data:=.seq ([]:List Value).toArray}).get? s.heap.objs.size=some {cls:=.type "list",data:=.seq ([]:List Value).toArray}:=JZ _ rfl;have h1:Builtin.List.listSameRef (.ref s.heap.objs.size) (.ref I)=false:=by simp[Builtin.List.listSameRef,hSI]
 show wpAny _ A.in1 (Builtin.List.listExtendWith (.ref s.heap.objs.size) (.ref I) (.ref s.heap.objs.size)) _ _ _;unfold Builtin.List.listExtendWith;refine wpAny_bind (wpAny_typeOf (hT 0 _ hst₁) ?_);rw[if_neg (by rw[h1];decide)];refine wpAny_bind (W.self 0 _ _ _ hst₁ ?_);refine wpAny_bind (wpAny_holding ?_);unfold Builtin.List.listLengthHint;refine wpAny_bind (wpAny_specialOf (hT 0 _ hst₁) F.nolen_rvs ?_);show wpAny _ A.in1 (specialOf (Value.ref I) (Str.ofString "__length_hint__") >>= _) _ _ _;refine wpAny_bind (wpAny_specialOf (hT 0 _ hst₁) F.hint_rvs ?_)
 (generalize hid:("reversed.__length_hint__":String)=id0;(fail_if_success (clear hid id0));wp_delta;rw[show splitId id0=some ("reversed","__length_hint__") from by subst hid;decide +kernel];subst hid)
 refine wpAny_bind (wpAny_isInstance (b:=true) (hT 0 _ hst₁) (by rw[isSubtype_type];kernel_rfl) ?_);rw[if_neg (show ¬ ((!true)=true) by decide)];dsimp only
 split
 ·rename_i hsil
  exact absurd hsil (by decide +kernel)
 refine wpAny_bind (wpAny_rule ?_);refine wpAny_bind (wpAny_of_eq (F.slot_rvs_hint.bind _) ?_);dsimp only;refine wpAny_bind (wpAny_attempt ?_);refine hint_rvs (i:=(x.length:Int)-1-((0:Nat):Int)) hst₁.2 ⋯ hz λu tk htk=>?_;dsimp only;have hs:sizeLine=16777216:=sizeLine_eq;have hk:Builtin.List.listTooLong (Int.toNat ((x.length:Int)-1-((0:Nat):Int)+1))=false:=by
  unfold Builtin.List.listTooLong;have e:Int.toNat ((x.length:Int)-1-((0:Nat):Int)+1)=x.length:=by omega
  rw[e]
  simpa using hz
 refine wpAny_bind (m:=asInt? (.int _ u)) (wpAny_pure ?_);dsimp only;have hfit:Builtin.List.listFitsIndex ((x.length:Int)-1-((0:Nat):Int)+1)=true:=by
  unfold Builtin.List.listFitsIndex;simp;omega
 rw[if_neg (by rw[hfit];decide),if_neg ⋯,if_neg (by rw[hk];decide)];refine wpAny_pure ?_
 -- the loop,from a list that may have been touched
 have fin:∀(h₂:Heap) (c:Nat),(∀b o,b≠s.heap.objs.size->(s.heap.push {cls:=.type "list",data:=.seq ([]:List Value).toArray}).get? b=some o->h₂.get? b=some o) ->
   h₂.get? s.heap.objs.size=some {cls:=.type "list",data:=.seq ([]:List Value).toArray c} ->
   codeAny (model prog w) A (.builtin "list.extend.loop" ⟨[.ref s.heap.objs.size,.ref I,.ref s.heap.objs.size],[]⟩) (λr s'=>match r with
    | .ok (.ret v)=>wpAny (model prog w) A (match v with
     | .ref a=>do
      let __do_lift <- load a
      match __do_lift.data with
       | .seq xs _=>pure xs.toList
       |_=>unsupported "internal:collect"
     |_=>unsupported "internal:collect") Q E s'
    | .ok _=>False
    | .error e=>E e s') {s with heap:=h₂,toks:=tk}:=λh₂ c keep hS₂=>by
  have hst₂:(λi (s:KP)=>i<=x.length/\s.heap.IsRvs I x t ((x.length:Int)-1-(i:Int))) 0 {s with heap:=h₂,toks:=tk}:=⟨Kf _,hst₁.2.at λo e=>keep I o (Ne.symm hSI) e⟩;refine codeAny_extend_loopS W hn _ hSf _ x.length 0 _ _ _ rfl (Kf _) hst₂ hS₂ (ItemsOf.nil _) λs' acc' c' hm hS' hacc=>?_;show wpAny _ A (load s.heap.objs.size >>= _) _ _ s';refine wpAny_bind (wpAny_load hS' ?_);refine wpAny_pure (hQ s' acc' ?_ hacc);exact⟨λb ob hb e=>hm.heap b ob (λhm'=>by
    rcases J8.mp hm' with e1 | hm'
    ·exact absurd (e1▸Kh e) (Kn _)
    ·exact hb hm') (keep b ob (λe1=>absurd (e1▸Kh e) (Kn _)) (JT _ e)),hm.gens,hm.drawn,hm.os,Km htk hm.toks⟩
 have quiet:=plainId_quiet F.plain_extend_loop (⟨[.ref s.heap.objs.size,.ref I,.ref s.heap.objs.size],[]⟩:Args)
 split
 ·refine wpAny_bind (wpAny_rule ?_)
  show wpAny _ A.in1 ((updateSeq s.heap.objs.size (·.push .none) >>= λ_=>updateSeq s.heap.objs.size (·.pop)) >>= _) _ _ _;refine wpAny_bind (wpAny_bind (wpAny_updateSeq hS₁ rfl ?_ (by simp) (by simp)));have q1:=PySem.IsL.update (h:=s.heap.push {cls:=.type "list",data:=.seq ([]:List Value).toArray}) (l:=s.heap.objs.size) (items:=([]:List Value).toArray) (n:=0) hS₁ (·.push .none);refine wpAny_updateSeq q1 rfl ?_ (by simp;omega) (by simp);have q2:=PySem.IsL.update q1 (·.pop);exact wpAny_pure ⟨quiet,fin _ _ (λb o hb e=>(JY _ _ (Ne.symm hb)).trans ((JY _ _ (Ne.symm hb)).trans e)) (show _=some ({cls:=.type "list",data:=.seq ([]:List Value).toArray _}:Obj) from q2)⟩
 ·exact wpAny_pure ⟨quiet,fin _ _ (λb o hb e=>e) hS₁⟩
theorem Bi{I:Addr}{x sep:Str}{t t0:Tok}{Q:KL}(hh:A.handled=none)(hit:s.heap.IsRvs I x t ((x.length:Int)-1))(hz:x.length<=1000)(hsep:sep.length<=1000)
  (h:∀(s':KP) (t':Tok) (k:Nat),(∀b o,b≠I->s.heap.get? b=some o->s'.heap.get? b=some o)->s'.gens=s.gens->s'.drawn=s.drawn->s'.os=s.os ->
   Q (.str (Txt.join sep (x.cps.toList.reverse.map λc=>(⟨#[c]⟩:Str))) t') {s' with toks:=k}):wpAny (model prog w) A (call (.builtin "str.join") [.str sep t0,.ref I]) Q E s:=by
 have hs:sizeLine=16777216:=sizeLine_eq;refine wpAny_call (codeAny_call_builtin F.slot_str_join.plain F.entry_str_join (F.slot_str_join.check _ _ _ _ _ _ _ _ (typeIs_str _ _ _) (F.args_str_join_2 _ _) ?_));rw[join_tree_other];refine wpAny_bind (wpAny_typeOf hit.typeIs ?_);show wpAny _ A.in1 ((pyIter (.ref I)).tryCatch _ >>= λit=>collect it >>= λitems=>joinTail sep items) _ _ s;refine wpAny_bind (wpAny_tryCatch (ic hit ?_));refine wpAny_bind (lX hh hit ⋯ λs' acc hm hacc=>?_);obtain⟨l,hl⟩:=exists_strValues acc.toList λv hv=>by
  obtain⟨j,hj,rfl⟩:=Array.mem_iff_getElem.mp (Array.mem_toList_iff.mp hv);obtain⟨c,tk,_,e⟩:=hacc.2 j _ (Array.getElem?_eq_getElem hj);exact⟨_,_,e⟩
 have hlx:l.map (·.1)=x.cps.toList.reverse.map λc=>(⟨#[c]⟩:Str):=by
  have el:l.length=x.length:=by
   have q:=congrArg List.length hl;simp[strValues]at q;rw[q];exact hacc.1
  refine List.ext_getElem (by simp[el];rfl) λj h1 h2=>?_;simp only[Kj,List.getElem_reverse];have hj:j<l.length:=by simpa using h1
  have ha:acc.toList[j]?=some (Value.str (l[j]).1 (l[j]).2):=by
   rw[<- hl];simp[strValues,hj]
  have ha':acc[j]?=some (Value.str (l[j]).1 (l[j]).2):=by simpa using ha
  obtain⟨c,tk,hc,e⟩:=hacc.2 j _ ha'
  injection e with e1 _
  rw[e1];have hb:x.length-1-j<x.cps.size:=by have:x.length=x.cps.size:=rfl;omega
  rw[Array.getElem?_eq_getElem hb]at hc;have hc':=Option.some.inj hc;rw[<- hc'];simp only[Array.length_toList,Array.getElem_toList]
  rfl
 rw[<- hl];have hok:JoinOk sep (l.map (·.1))=true:=by
  unfold JoinOk;rw[StrLaws.joinTotal];have e1:((l.map (·.1)).map (·.length)).sum=x.length:=by
   rw[hlx,J7];have:((λy:Str=>y.length)∘λc=>(⟨#[c]⟩:Str))=λ_=>1:=by funext c;rfl
   rw[this,List.map_const',List.sum_replicate_nat];simp
   rfl
  have e2:(l.map (·.1)).length=x.length:=by rw[hlx];simp;rfl
  rw[e1,e2];have:x.length*sep.length<=1000*1000:=Nat.mul_le_mul hz hsep;unfold tooLong;rw[decide_eq_false ⋯]
  rfl
 have hpost:=λt' k=>h s' t' k (λb o hb e=>hm.heap b o (λz=>hb (JV.mp z)) e) hm.gens hm.drawn hm.os;unfold JoinOk at hok;rw[Bool.not_eq_true']at hok;have g:Gives (joinTail sep (strValues l)) (joinMade sep l):=by
  have g0:=gives_joinTail sep l hok;cases l with
  |nil=>exact g0
  |cons p r=>cases r with
   |nil=>exact g0
   |cons q r'=>exact g0
 rw[<- hlx]at hpost;exact g prog w A (wants Q E) s' (post_join l ⟨joinFit_length hok,hpost⟩)
end
namespace F
theorem rj:Slot "reversed" "__init__" "object.__init__":=
 .of (owner:="object") (n:="__init__") (by rw[typeLookup_type,builtinLookup_eq_fast];kernel_rfl) (by decide +kernel) (by decide +kernel) (by decide +kernel)
  (by first | exact .inl (by decide +kernel) | exact .inr (by decide +kernel)) (by rw[isSubtype_type];kernel_rfl)
theorem yu:mroOf (.type "reversed")=pure [.type "reversed",.type "object"]:=by rw[mroOf_type];kernel_rfl
theorem ph:typeLookup (.type "reversed") "__new__"=pure (some (.builtin "reversed.__new__")):=by rw[typeLookup_type,builtinLookup_eq_fast];kernel_rfl
theorem rvs_called:TypeCalled "reversed" "reversed.__new__" "object.__init__":=
 ⟨by decide +kernel,by decide +kernel,⟨_,_,yu⟩,madeBy_type yu ph (by decide +kernel),by decide +kernel,by rw[isSubtype_type];kernel_rfl,rj⟩
theorem rvs_typeCall_1(a:Value):checkTypeCall "reversed" ⟨[a],[]⟩=pure ():=by kernel_rfl
theorem rvs_newCall_1(a:Value):checkBuiltinCall "reversed.__new__" ⟨[.type "reversed",a],[]⟩=pure ():=by kernel_rfl
theorem rvs_entry_new:entryFor table "reversed.__new__"=some Builtin.«reversed.__new__»:=entryFor_of_tree (by kernel_rfl)
theorem rvs_sub:isSubtype (.type "reversed") (.type "reversed")=pure true:=by rw[isSubtype_type];kernel_rfl
theorem rvs_nostr:typeLookup (.type "str") "__reversed__"=pure none:=by rw[typeLookup_type,builtinLookup_eq_fast];kernel_rfl
end F
section
variable {prog:KW}{w:K0}{A:KZ}{E:KL}{s:KP}
theorem tX(a:Value):Builtin.SmallTypes.newClass "reversed" ⟨[.type "reversed",a],[]⟩=pure (.type "reversed",[a]):=by
 unfold Builtin.SmallTypes.newClass;simp only[isType,F.rvs_sub,pure_bind,Bool.not_true,Bool.false_eq_true,if_false]
theorem qX(x:Str)(t:Tok)(hz:x.length<=sizeLine):Meets (Builtin.«reversed.__new__» ⟨[.type "reversed",.str x t],[]⟩)
  (λ_ R s=>R (.ok (.ret (.ref s.heap.objs.size))) {s with heap:=s.heap.push (wS x t ((x.length:Int)-1)),toks:=s.toks+1+1}):=
 .of_wp λprog w A R s h=>by
  have hs:sizeLine=16777216:=sizeLine_eq;unfold Builtin.«reversed.__new__»;refine wpAny_bind (wpAny_of_eq (tX _) ?_)
  try dsimp only
  refine wpAny_bind (wpAny_of_eq (a:=()) (by first | rfl | kernel_rfl) ?_);refine wpAny_bind (wpAny_of_eq (a:=()) (by first | rfl | kernel_rfl) ?_)
  try dsimp only
  refine wpAny_bind (wpAny_specialOf (typeIs_str s x t) F.rvs_nostr ?_)
  try dsimp only
  refine wpAny_bind ?_;refine wpAny_bind (wpAny_isInstance (T:="str") (b:=false) (typeIs_str s x t) (by rw[isSubtype_type];kernel_rfl) ?_);rw[if_neg nofun];refine wpAny_bind (wpAny_specialOf (typeIs_str s x t) F.slot_str_getitem.lookup ?_);dsimp only
  split
  ·refine wpAny_pure ?_
   rw[if_neg nofun];refine wpAny_bind (P.len_str ⋯ ?_);refine wpAny_bind (m:=asInt? _) (wpAny_pure ?_);dsimp only;show wpAny _ _ (newObj (.type "reversed") (.fields #[.str x t,rawInt ((x.length:Int)-1)]) >>= λv=>ret v) _ _ _;exact wpAny_bind (wpAny_newObj_type (wpAny_pure ⟨_,rfl,h⟩))
  ·rename_i hn
   exact absurd (by decide +kernel) hn
theorem mf{x:Str}{t:Tok}{Q:KL}(hz:x.length<=sizeLine)
  (h:Q (.ref s.heap.objs.size) {s with heap:=s.heap.push (wS x t ((x.length:Int)-1)),toks:=s.toks+1+1}):wpAny (model prog w) A (call (.type "reversed") [.str x t]) Q E s:=
 callType_new F.rvs_called nofun (F.rvs_typeCall_1 _) (F.rvs_newCall_1 _) (λobj=>F.args_object_init_2 obj _) F.rvs_entry_new (qX x t hz) ⟨⟨_,JZ _ rfl,rfl⟩,h⟩
end
end PySem
namespace L2
open PySem PySem.Spec PyProof.Rows
noncomputable def fE(env:Env):List (Str×NameKind)->List (Str×Addr)->List (Str×Addr)
 | [],acc=>acc
 | (n,k)::r,acc=>if k==.free then fE env r ((n,(env.cells.lookup n).getD 0)::acc) else fE env r acc
theorem nW{env:Env}:∀(ns:List (Str×NameKind)) (acc:List (Str×Addr)),(∀x∈ns,x.2=.free->∃c,env.cells.lookup x.1=some c) ->
  (forIn ns acc fun(x:Str×NameKind) (cs:List (Str×Addr))=>(if x.2==.free then do
    let c <- cellOf env x.1
    pure (ForInStep.yield ((x.1,c)::cs))
   else pure (ForInStep.yield cs):Sem (ForInStep (List (Str×Addr)))))=pure (fE env ns acc)
 | [],acc,_=>rfl
 | (n,k)::r,acc,h=>by
  have ih:=λa=>nW (env:=env) r a λx hx=>h x (J9 _ hx);rw[List.forIn_cons]
  by_cases hk:k=.free
  ·subst hk
   obtain⟨c,hc⟩:=h (n,.free) List.mem_cons_self rfl;have hc':env.cells.lookup n=some c:=hc;have e1:cellOf env n=pure c:=by unfold cellOf;rw[hc']
   simp only[fE,hc',Option.getD_some];show((do let c <- cellOf env n;pure (ForInStep.yield ((n,c)::acc))) >>= _)=_;rw[e1,pure_bind,pure_bind];exact ih _
  ·have e2:(k==NameKind.free)=false:=by simpa using hk
   simp only[fE,e2,Bool.false_eq_true,if_false];rw[pure_bind];exact ih _
theorem jY{env:Env}{scope:Scope}(h:∀x∈scope.names,x.2=.free->∃c,env.cells.lookup x.1=some c) :
  closureFor scope env=pure (fE env scope.names []):=by
 unfold closureFor;have e:=nW (env:=env) scope.names [] h;have e2:(forIn scope.names ([]:List (Str×Addr)) λx cs=>(match x with
   | (name,kind)=>if kind==.free then do
     let c <- cellOf env name
     pure (ForInStep.yield ((name,c)::cs))
    else pure (ForInStep.yield cs):Sem (ForInStep (List (Str×Addr)))))=pure (fE env scope.names []):=e
 simp only[]at e2 ⊢
 first
  | (rw[e2];rfl)
  | (erw [e2];rfl)
theorem iw{env:Env}:∀{ns:List (Str×NameKind)} {acc:List (Str×Addr)} {x:Str} {c:Addr},(∀y∈ns,y.2=.free->∃c,env.cells.lookup y.1=some c) ->
  (∀y c,acc.lookup y=some c->env.cells.lookup y=some c)->(fE env ns acc).lookup x=some c->env.cells.lookup x=some c
 | [],_,_,_,_,ha,e=>ha _ _ e
 | (n,k)::r,acc,x,c,h,ha,e=>by
  have hr:∀y∈r,y.2=.free->∃c,env.cells.lookup y.1=some c:=λy hy=>h y (J9 _ hy);unfold fE at e
  by_cases hk:k=.free
  ·subst hk
   rw[if_pos (by simp)]at e;obtain⟨c',hc⟩:=h (n,.free) List.mem_cons_self rfl;have hc':env.cells.lookup n=some c':=hc;refine iw hr (λy d z=>?_) e;rw[hc',Option.getD_some,List.lookup_cons]at z
   by_cases q:y=n
   ·subst q
    simp at z;subst z;exact hc'
   ·have q':(y==n)=false:=by simpa using q
    rw[q']at z;exact ha y d z
  ·rw[if_neg (by simpa using hk)]at e
   exact iw hr ha e
theorem oN{env:Env}:∀{ns:List (Str×NameKind)} {acc:List (Str×Addr)} {x:Str},((∃c,acc.lookup x=some c)\/(x,NameKind.free)∈ns)->∃c,(fE env ns acc).lookup x=some c
 | [],_,_,h=>by
  rcases h with h | h
  ·exact h
  ·exact nomatch h
 | (n,k)::r,acc,x,h=>by
  unfold fE
  by_cases hk:k=.free
  ·subst hk
   rw[if_pos (by simp)];refine oN ?_
   by_cases q:x=n
   ·subst q
    left
    simp[List.lookup_cons]
   ·have q':(x==n)=false:=by simpa using q
    rcases h with⟨c,h⟩ | h
    ·exact .inl ⟨c,by rw[List.lookup_cons,q'];exact h⟩
    ·rcases J8.mp h with z | z
     ·cases z
      exact absurd rfl q
     ·exact .inr z
  ·rw[if_neg (by simpa using hk)]
   refine oN ?_;rcases h with h | h
   ·exact .inl h
   ·rcases J8.mp h with z | z
    ·cases z
     exact absurd rfl hk
    ·exact .inr z
noncomputable def vY(scope osc:Scope):Scope:=
 {scope with names:=scope.names.map fun(n,k)=>if(k==.free&&osc.kind==.function&&osc.names.lookup n==some .cell) then(n,.cell) else(n,k)}
noncomputable def Cp(scope osc:Scope):Bool:=
 (scope.kind==.function)&&(osc.kind==.function)&&scope.names.all fun(n,k)=>(k != .free || !scope.names.contains (n,NameKind.cell))&&(k != .local||scope.names.lookup n==some .local) &&
  (k != .free||osc.names.lookup n==some .cell||osc.names.lookup n==some .free)&&(k != .free||(vY scope osc).names.lookup n != some .local)
structure bw(scope osc:Scope):Prop where
 kind:scope.kind=.function
 sep:∀x∈scope.names,x.2=.free->(x.1,NameKind.cell)∉scope.names
 loc:∀x∈scope.names,x.2=.local->scope.names.lookup x.1=some .local
 free:∀x∈scope.names,x.2=.free->osc.names.lookup x.1=some .cell\/osc.names.lookup x.1=some .free
 nl:∀x∈scope.names,x.2=.free->(vY scope osc).names.lookup x.1≠some .local
theorem bw.of{scope osc:Scope}(h:Cp scope osc=true):bw scope osc:=by
 unfold Cp at h;rw[Bool.and_eq_true,Bool.and_eq_true,Kz]at h;obtain⟨⟨h1,h0⟩,h2⟩:=h;refine⟨by simpa using h1,λx hx e=>?_,λx hx e=>?_,λx hx e=>?_,λx hx e=>?_⟩
 all_goals
  obtain⟨n,k⟩:=x;have q:=h2 (n,k) hx;simp only[Bool.and_eq_true,Bool.or_eq_true,bne_iff_ne,beq_iff_eq]at q
 ·have z:=q.1.1.1.resolve_left (λz=>z e)
  simpa using z
 ·exact q.1.1.2.resolve_left (λz=>z e)
 ·rcases q.1.2 with(z | z) | z
  ·exact absurd e z
  ·exact .inl z
  ·exact .inr z
 ·exact q.2.resolve_left (λz=>z e)
theorem gm{osc:Scope}:∀{ns:List (Str×NameKind)} {x:Str} {k':NameKind},
  (ns.map fun(n,k)=>if(k==NameKind.free&&osc.kind==.function&&osc.names.lookup n==some .cell) then(n,NameKind.cell) else(n,k)).lookup x=some k' ->
  (k'=.cell\/k'=.free)->(x,NameKind.free)∈ns\/(x,NameKind.cell)∈ns
 | [],_,_,h,_=>by simp at h
 | (n,k)::r,x,k',h,hk'=>by
  rw[Kl]at h
  by_cases q:x=n
  ·subst q
   by_cases z:(k==NameKind.free&&osc.kind==.function&&osc.names.lookup x==some .cell)=true
   ·have:k=.free:=by
     simp only[Bool.and_eq_true,beq_iff_eq]at z;exact z.1.1
    subst this;exact .inl List.mem_cons_self
   ·simp only[z,Bool.false_eq_true,if_false]at h
    rw[List.lookup_cons]at h;simp at h;subst h;rcases hk' with e | e
    ·subst e;exact .inr List.mem_cons_self
    ·subst e;exact .inl List.mem_cons_self
  ·have q':(x==n)=false:=by simpa using q
   refine(gm (osc:=osc) (k':=k') (ns:=r) (x:=x) ?_ hk').imp (J9 _) (J9 _)
   by_cases z:(k==NameKind.free&&osc.kind==.function&&osc.names.lookup n==some .cell)=true
   ·simp only[z,if_true]at h
    rw[List.lookup_cons,q']at h;exact h
   ·simp only[z,Bool.false_eq_true,if_false]at h
    rw[List.lookup_cons,q']at h;exact h
theorem jN:∀(ns:List (Str×NameKind)) (n:Nat) (acc:List (Str×Addr)),cellsFrom n ns acc=cellsFrom n ns []++acc
 | [],_,_=>rfl
 | (x,k)::r,n,acc=>by
  unfold cellsFrom
  split
  ·rw[jN r (n+1) ((x,n)::acc),jN r (n+1) [(x,n)],Kr];rfl
  ·exact jN r n acc
theorem tj:∀{ns:List (Str×NameKind)} {n:Nat} {x:Str} {c:Addr},(x,c)∈cellsFrom n ns []->(x,NameKind.cell)∈ns
 | [],_,_,_,h=>nomatch h
 | (y,k)::r,n,x,c,h=>by
  unfold cellsFrom at h
  split at h
  ·rename_i hk
   rw[jN]at h;rcases J6.mp h with h | h
   ·exact J9 _ (tj h)
   ·cases JV.mp h
    have:k=.cell:=by simpa using hk
    subst this;exact List.mem_cons_self
  ·exact J9 _ (tj h)
theorem uG:∀{ns:List (Str×NameKind)} {n:Nat} {x:Str} {acc:List (Str×Addr)},((x,NameKind.cell)∈ns\/∃c,acc.lookup x=some c)->∃c,(cellsFrom n ns acc).lookup x=some c
 | [],_,_,_,h=>h.elim (λz=>nomatch z) id
 | (y,k)::r,n,x,acc,h=>by
  unfold cellsFrom
  split
  ·refine uG ?_
   by_cases q:x=y
   ·subst q
    exact .inr ⟨n,by simp[List.lookup_cons]⟩
   ·have q':(x==y)=false:=by simpa using q
    rcases h with h | ⟨c,h⟩
    ·rcases J8.mp h with z | z
     ·cases z;exact absurd rfl q
     ·exact .inl z
    ·exact .inr ⟨c,by rw[List.lookup_cons,q'];exact h⟩
  ·rename_i hk
   refine uG ?_;rcases h with h | h
   ·rcases J8.mp h with z | z
    ·cases z;exact absurd rfl hk
    ·exact .inl z
   ·exact .inr h
noncomputable def eN(env:Env)(scope:Scope)(C:Addr):List (Str×Addr):=cellsFrom (C+1) scope.names (fE env scope.names [])
theorem l9:∀{ns:List (Str×NameKind)} {n:Nat} {x:Str} {c:Addr},(x,c)∈cellsFrom n ns []->n<=c
 | [],_,_,_,h=>nomatch h
 | (y,k)::r,n,x,c,h=>by
  unfold cellsFrom at h
  split at h
  ·rw[jN]at h
   rcases J6.mp h with h | h
   ·exact Km (Nat.le_succ _) (l9 h)
   ·cases JV.mp h
    exact Ke _
  ·exact l9 h
theorem pS:∀{ns:List (Str×NameKind)} {n:Nat},(cellsFrom n ns []).Pairwise λx y=>x.2≠y.2
 | [],_=>List.Pairwise.nil
 | (y,k)::r,n=>by
  unfold cellsFrom
  split
  ·rw[jN]
   refine List.pairwise_append.mpr ⟨pS,by simp,λa ha b hb e=>?_⟩;cases JV.mp hb;have:=l9 (x:=a.1) (c:=a.2) ha;rw[e]at this;exact absurd this (Nat.not_succ_le_self _)
  ·exact pS
theorem i9{env:Env}{scope:Scope}{C:Addr}{x:Str}{c:Addr}(h:(eN env scope C).lookup x=some c) :
  ((x,c)∈cellsFrom (C+1) scope.names []/\C<c/\(x,NameKind.cell)∈scope.names)\/((cellsFrom (C+1) scope.names []).lookup x=none/\(fE env scope.names []).lookup x=some c):=by
 unfold eN at h;rw[jN,List.lookup_append]at h;cases q:(cellsFrom (C+1) scope.names []).lookup x with
 |none=>rw[q]at h;exact .inr ⟨rfl,h⟩
 |some d=>
  rw[q]at h;cases h;have:=mem_of_lookup q;exact .inl ⟨this,l9 this,tj this⟩
theorem CA{ns:List (Str×NameKind)}{n:Nat}{x:Str}(h:(x,NameKind.cell)∉ns):(cellsFrom n ns []).lookup x=none:=by
 cases q:(cellsFrom n ns []).lookup x with
 |none=>rfl
 |some d=>exact absurd (tj (mem_of_lookup q)) h
section
variable {M:Model}{A:KZ}{E:KL}{s:KP}
theorem fJ{scope:Scope}{globals:Addr}{closure:List (Str×Addr)}{qual:Str}{func:K1}{code:Value}{outer:Env}{builtins:Addr}{Q:Env->Shared->Prop}
  (hQ:Q (newEnv scope s.heap.objs.size globals (cellsFrom (s.heap.objs.size+1) scope.names closure) qual func code (some outer) builtins) {s with heap:=pushCells (s.heap.push {cls:=.type "dict",data:=.dict #[]}) scope.names}) :
  wpAny M A (newFunctionEnv scope globals closure [] qual func code (some outer) builtins) Q E s:=by
 simp only[newFunctionEnv,Option.isSome_some,if_true];simp only[newEnv]at hQ;refine wpAny_bind (wpAny_alloc ?_);refine wpAny_bind (wpAny_layCells _ (λname kind cells=>by cases hkc:kind==NameKind.cell<;>simp[hkc]) _ _ _ _ ?_);rw[show({s with heap:=s.heap.push {cls:=.type "dict",data:=.dict #[]} }:Shared).heap.objs.size=s.heap.objs.size+1 from Heap.size_push ..];rw[List.forIn_nil];exact wpAny_bind (wpAny_pure (wpAny_pure hQ))
end
noncomputable def Cx.blk(X:Cx)(N':KY)(s₂:KP)(H₂:Hp)(scope:Scope)(fp:KR)(C:Addr):Cx where
 prog:=X.prog
 w:=X.w
 K:=X.K
 mg:=X.mg
 base:=X.base
 A:=X.A
 N:=N'
 s₀:=s₂
 H₀:=H₂
 env:=compEnvC scope (eN X.env scope C) C X.env
 outer:=X.stack
 stack:=X.stack
 ex:=fp
 fn:=λx=>scope.names.contains (x,NameKind.cell)
 calm:=X.calm
 pn:=[]
 xe:=λ_ _=>False
noncomputable def sf(k:Nat)(js:KO)(σ:St):St:=List.replicate k none++js.map λj=>(σ[j]?).join
noncomputable def pW(own:KY)(js:KO)(N:KY):List Str:=own++js.map λj=>N.getD j Str.empty
section
variable {X:Cx}
theorem Inv.capFree{pins:KN}{σ:St}{H:Hp}{s:KP}{scope:Scope}(I:Inv X pins σ H s)(hk:bw scope X.env.scope):∀x∈scope.names,x.2=.free->∃c,X.env.cells.lookup x.1=some c:=
 λx hx e=>I.ok.has x.1 (hk.free x hx e)
theorem Inv.capL{pins:KN}{σ:St}{H:Hp}{s:KP}{scope:Scope}{x:Str}{c:Addr}(I:Inv X pins σ H s)(hk:bw scope X.env.scope)(e:(fE X.env scope.names []).lookup x=some c):X.env.cells.lookup x=some c:=
 iw (I.capFree hk) (λ_ _ z=>by simp at z) e
theorem Inv.blkL{pins:KN}{σ:St}{H:Hp}{s:KP}{scope:Scope}{C:Addr}{x:Str}{c:Addr}(I:Inv X pins σ H s)(hk:bw scope X.env.scope)(e:(eN X.env scope C).lookup x=some c) :
  ((x,c)∈cellsFrom (C+1) scope.names []/\C<c/\(x,NameKind.cell)∈scope.names)\/X.env.cells.lookup x=some c:=
 (i9 e).imp id λz=>I.capL hk z.2
theorem Fo{pins:KN}{σ:St}{H:Hp}{s:KP}{N':KY}{scope:Scope}{fp:KR}{C:Addr}(I:Inv X pins σ H s)(hk:bw scope X.env.scope)(hC:s.heap.objs.size<=C)
  (hf:∀b∈fp,oE X pins H b) (ho:∀b∈fp,∃o,s.heap.get? b=some o):(X.blk N' s H scope fp C).Ok where
 mod:=I.ok.mod
 kind:=hk.kind
 glob:=I.ok.glob
 blt:=I.ok.blt
 above:=hC
 inj:=λx y c e1 e2=>by
  have low:∀z,X.env.cells.lookup z=some c->c<C:=λz e=>by
   obtain⟨v,q⟩:=I.cell z c e;exact J' q.lt hC
  rcases I.blkL hk e1 with⟨a1,a2,_⟩ | a<;>rcases I.blkL hk e2 with⟨b1,b2,_⟩ | b
  ·exact name_of_addr pS a1 b1
  ·exact absurd (low _ b) (Nat.not_lt.mpr (Nat.le_of_lt a2))
  ·exact absurd (low _ a) (Nat.not_lt.mpr (Nat.le_of_lt b2))
  ·exact I.ok.inj x y c a b
 has:=λx h=>by
  refine uG ?_;have z:(x,NameKind.free)∈scope.names\/(x,NameKind.cell)∈scope.names:=by
   rcases h with h | h
   ·exact gm (osc:=X.env.scope) h (.inl rfl)
   ·exact gm (osc:=X.env.scope) h (.inr rfl)
  rcases z with z | z
  ·exact .inr (oN (.inr z))
  ·exact .inl z
 cab:=λx c z e=>by
  have z':(x,NameKind.cell)∈scope.names:=by
   have z2:scope.names.contains (x,NameKind.cell)=true:=z
   simpa using z2
  have e':(eN X.env scope C).lookup x=some c:=e;rcases i9 e' with⟨_,a,_⟩ | ⟨a,_⟩
  ·exact Km hC (Nat.le_of_lt a)
  ·obtain⟨d,q⟩:=uG (n:=C+1) (acc:=[]) (.inl z')
   rw[a]at q;cases q
 hd:=I.ok.hd
 frames:=I.ok.frames
 stk:=.inl rfl
 exf:=λb hb=>⟨λe=>by
  obtain⟨o,q⟩:=ho b hb;have e':b=C:=e;rw[e']at q;exact absurd (Kh q) (Nat.not_lt.mpr hC),λx c e=>by
  rcases I.blkL hk e with⟨_,a,_⟩ | a
  ·obtain⟨o,q⟩:=ho b hb
   intro z;rw[z]at a;exact absurd (J' (Kh q) hC) (Nat.not_lt.mpr (Nat.le_of_lt a))
  ·exact(hf b hb).2.2.2.2.1 x c a⟩
 bs:=I.bs
 bsz:=Km I.ok.bsz I.sz
 noex:=λb o e hb=>by
  rcases(hf b hb).2.2.2.1 with z | z
  ·exact I.ok.noex b o e z
  ·exact absurd (Kh (I.ok.bs b o e).1) (Nat.not_lt.mpr z)
 exfs:=λb hb hs=>by
  rcases J8.mp (I.stkSub b hs) with z | z
  ·exact(hf b hb).2.1 z
  ·exact(hf b hb).2.2.1 z
 funs:=I.stack
 frf:=I.stkFree
theorem zM{pins:KN}{σ:St}{H:Hp}{s s1:KP}{own:KY}{js:KO}{scope:Scope}{fp:KR}{C:Addr}{m:KS}(I:Inv X pins σ H s)(hk:bw scope X.env.scope)(hC:s.heap.objs.size<=C)
  (hf:∀b∈fp,oE X pins H b) (ho:∀b∈fp,∃o,s.heap.get? b=some o) (hos:s1.os=s.os) (hg:s1.gens=s.gens) (hn:s1.heap.Ns C m) (keep:∀b o,s.heap.get? b=some o->s1.heap.get? b=some o)
  (hown:∀x c,(x,c)∈cellsFrom (C+1) scope.names []->s1.heap.IsCell c none) (hcap:(js.all λj=>scope.names.contains (X.N.getD j Str.empty,NameKind.free))=true) :
  Inv (X.blk (pW own js X.N) s H scope fp C) [] (sf own.length js σ) H s1:=by
 have cl:=fun{x:Str} {c:Addr} (e:(fE X.env scope.names []).lookup x=some c)=>iw (I.capFree hk) (λ_ _ z=>by simp at z) e;refine⟨Fo I hk hC hf ho,hos,hg▸I.bare,Un.kept keep,⟨m,hn,λi x v e1 e2 e3=>?_⟩,λx c e=>?_,I.hok.fresh hC,λx c e=>(I.blkL hk e).elim (λz=>I.hok.fresh (Km hC (Nat.le_of_lt z.2.1))) λz=>I.freeC x c z,λp hp=>(nomatch hp),I.hok.kept keep,?_⟩
 ·have e1':(own++js.map λj=>X.N.getD j Str.empty)[i]?=some x:=e1
  have e2':(List.replicate own.length none++js.map λj=>(σ[j]?).join)[i]?=some (some v):=e2
  by_cases hi:i<own.length
  ·rw[Kc (by rw[List.length_replicate];exact hi),List.getElem?_replicate,if_pos hi]at e2'
   cases e2'
  ·have hi':own.length<=i:=Nat.le_of_not_lt hi
   rw[Kb (by rw[List.length_replicate];exact hi'),List.length_replicate,JW]at e2';rw[Kb hi',JW]at e1';cases ej:js[i-own.length]? with
   |none=>rw[ej]at e1';cases e1'
   |some j=>
    rw[ej]at e1' e2';have ex:X.N.getD j Str.empty=x:=Option.some.inj e1';have ev:(σ[j]?).join=some v:=Option.some.inj e2';have hj:σ[j]?=some (some v):=by
     cases q:σ[j]? with
     |none=>rw[q]at ev;cases ev
     |some z=>rw[q]at ev;simp at ev;rw[ev]
    have hjl:j<X.N.length:=by rw[<- I.len];exact(JS.mp hj).1
    have hN:X.N[j]?=some x:=by rw[<- ex,List.getD_eq_getElem?_getD,JR hjl];rfl
    have hx:(x,NameKind.free)∈scope.names:=by
     have q:=Kz.mp hcap j (JX ej);rw[ex]at q
     simpa using q
    have ko:=hk.free _ hx rfl;obtain⟨mo,hno,hl⟩:=I.loc;obtain⟨u,ru,lk⟩:=hl j x v hN hj (ko.elim (λz=>.inr (.inl z)) λz=>.inr (.inr z));refine⟨u,ru,?_⟩;rcases lk with⟨kk,_⟩ | ⟨kk,c,ec,hc⟩
    ·rcases ko with z | z
     ·rw[show X.env.kindOf x=X.env.scope.names.lookup x from rfl,z]at kk;cases kk
     ·rw[show X.env.kindOf x=X.env.scope.names.lookup x from rfl,z]at kk;cases kk
    ·obtain⟨c',hc'⟩:=oN (env:=X.env) (ns:=scope.names) (acc:=[]) (x:=x) (.inr hx)
     have:=cl hc';rw[ec]at this;cases this;refine .inr ⟨?_,c,?_,hc.keeps keep⟩
     case refine_2=>
      show(eN X.env scope C).lookup x=some c;unfold eN;rw[jN,List.lookup_append,CA (hk.sep _ hx rfl)];exact hc'
     -- its kind within the block
     rcases e3 with z | z | z
     ·exact absurd z (hk.nl _ hx rfl)
     ·exact .inl z
     ·exact .inr z
 ·rcases I.blkL hk e with z | z
  ·exact⟨none,hown x c z.1⟩
  ·obtain⟨v,z⟩:=I.cell x c z
   exact⟨v,z.keeps keep⟩
 ·show(List.replicate own.length none++js.map λj=>(σ[j]?).join).length=(own++js.map λj=>X.N.getD j Str.empty).length
  simp
noncomputable def Eo(env:Env)(ifs:K2):Sem Bool:=forIn ifs true λc r=>if r=true then do let ok <- isTrue c env (eval c env);pure (ForInStep.yield ok) else pure (ForInStep.yield r)
theorem uE{prog:KW}{w:K0}{A:KZ}{R:Result->Shared->Prop}{s:KP}{elt target iter:Expr}{ifs:K2}{scope:Scope}{pos:Pos}{it acc:Value}{env:Env}(I:Nat->Shared->Prop)
  (turn:∀n s,I n s->wpAny (model prog w) A (pyNext it) (λr s₁=>match r with
   |none=>R (.ok .next) s₁
   |some v=>wpAny (model prog w) A (letOwnedTupleGo target it v) (λ_ s₁'=>wpAny (model prog w) A (assign target env v) (λ_ s₂=>
     wpAny (model prog w) A (Eo env ifs) (λok s₃=>
      if ok=true then wpAny (model prog w) A (eval elt env) (λx s₄=>
       wpAny (model prog w) A (call (.builtin "list.append") [acc,x]) (λ_ s₅=>∃m,m<n/\I m s₅) (λ_ _=>False) s₄) (λ_ _=>False) s₃
      else ∃m,m<n/\I m s₃) (λ_ _=>False) s₂) (λ_ _=>False) s₁') (λ_ _=>False) s₁) (λ_ _=>False) s)
  (n:Nat) (h:I n s) :
  codeAny (model prog w) A (.compLoop (.ListComp elt [⟨target,iter,ifs,0⟩] scope pos) 0 it acc env) R s:=by
 refine codeAny_loop rfl I (λn s hI=>?_) n h;show wpAny _ A ((compTurn (.ListComp elt [⟨target,iter,ifs,0⟩] scope pos) 0 it acc env).onRaise (λx=>do noteFrame x env;theTreesLotGoes x)) _ _ s;refine wpAny_noted ?_;rw[compTurn_list];have up:∀{α:Type} {t:Sem α} {Q Q':α->Shared->Prop} {E':KL} {s:KP},wpAny (model prog w) A t Q (λ_ _=>False) s->(∀a s,Q a s->Q' a s)->wpAny (model prog w) A t Q' E' s:=
  λh hQ=>wpAny_mono h hQ λ_ _ f=>f.elim
 refine wpAny_bind (wpAny_standAt (wpAny_bind (up (turn n s hI) λr s₁ h₁=>?_)));cases r with
 |none=>exact wpAny_pure h₁
 |some v=>
  refine wpAny_bind (up h₁ λ_ s₁' h₁'=>wpAny_bind (up h₁' λ_ s₂ h₂=>wpAny_bind (up h₂ λok s₃ h₃=>?_)));cases ok with
  |false=>exact wpAny_pure ⟨rfl,h₃⟩
  |true=>
   exact wpAny_bind (wpAny_bind (up h₃ λx s₄ h₄=>wpAny_bind (up h₄ λ_ s₅ h₅=>wpAny_pure (wpAny_pure ⟨rfl,h₅⟩))))
noncomputable def Gk(X:Cx)(ifs:K2)(t:TT):Prop:=
 ∀(pins:KN) (s:KP) (σ:St) (H:Hp) (Q:Bool->Hp->Prop),Inv X pins σ H s->t σ H Q->wpAny (model X.prog X.w) X.A (Eo X.env ifs) (TP X pins σ Q) X.xe s
noncomputable def yK:TT:=λ_ H Q=>Q true H
theorem bT{X:Cx}:Gk X [] yK:=λpins s σ H Q I h=>wpAny_tests_nil ⟨H,I,h⟩
noncomputable def i7(J:It)(g:TG)(ti:TT)(te:TE)(σ:St)(H:Hp)(Q:List V->Hp->Prop):Prop:=
 ∃W:Nat->Nat->List V->St->Hp->Prop,(∃m,W 0 m [] σ H)/\∀i m acc σ' H',W i m acc σ' H' ->
  acc.length<sizeLine/\((J.stop i H'/\Q acc H') \/
   (J.go i H'/\∃N:List V->St->Hp->Prop,(∀acc' σ2 H2,N acc' σ2 H2->∃m',m'<m/\W (i+1) m' acc' σ2 H2) /\
    ∀x H2,J.yld i H' x H2->g x σ' H2 λσ2 H3=>ti σ2 H3 λb H4=>if b=true then te σ2 H4 λv H5=>N (acc++[v]) σ2 H5 else N acc σ2 H4))
noncomputable def yo(k:Nat)(js:KO)(wi:TI)(g:TG)(ti:TT)(te:TE):TE:=λσ H Q=>wi σ H λJ H1=>i7 J g ti te (sf k js σ) H1 λacc H'=>∀l,H' l=none->Q (.ref l) (aA H' l (.lst acc))
noncomputable abbrev g9(its:KQ)(n:Nat):Obj:={cls:=.type "list",data:=.seq its.toArray n}
theorem rY{pins:KN}{σ:St}{H:Hp}{s:KP}{elt tg iter:Expr}{ifs:K2}{scope:Scope}{pos:Pos}{own:KY}{js:KO}{g:TG}{ti:TT}{te:TE}{J:It}{fp:KR}{it:Addr}{tn:Nat->Heap->Prop}{Q:List V->Hp->Prop}{E:KL}
  {RR:Value->Addr->Result->Shared->Prop} (hc:X.calm=true) (hk:bw scope X.env.scope) (hcap:(js.all λj=>scope.names.contains (X.N.getD j Str.empty,NameKind.free))=true)
  (hg:∀s H fp C,PG (X.blk (pW own js X.N) s H scope fp C) tg g) (hi:∀s H fp C,Gk (X.blk (pW own js X.N) s H scope fp C) ifs ti) (he:∀s H fp C,PE (X.blk (pW own js X.N) s H scope fp C) elt te)
  (I:Inv X pins σ H s) (T:qy X.prog X.w X.K tg J fp it tn) (st:tn 0 s.heap) (hf:∀b∈fp,oE X pins H b)
  (hW:i7 J g ti te (sf own.length js σ) H Q)
  (hRR:∀(D C:Addr) (s':KP) (H':Hp) (acc:List V) (m:KS),Q acc H'->H' D=none->Inv X pins σ (aA H' D (.lst acc)) s'->s'.heap.Ns C m->aA H' D (.lst acc) C=none->C≠X.env.locals->X.s₀.heap.objs.size<=C ->
   (∀x c,X.env.cells.lookup x=some c->c≠C)->(∀p∈X.pn++pins,p.1≠C)->RR (.ref D) C (.ok .next) s') :
  wpAny (model X.prog X.w) X.A (newList []) (λacc s₃=>wpAny (model X.prog X.w) X.A (newFunctionEnv scope X.env.globals (fE X.env scope.names []) [] X.env.qual none .none (some X.env)) (λcenv s₄=>
   codeAny (model X.prog X.w) X.A (.compStart (.ListComp elt [⟨tg,iter,ifs,0⟩] scope pos) 0 (.ref it) acc {cenv with scope:=relabel scope X.env}) (RR acc cenv.locals) s₄) E s₃) E s:=by
 obtain⟨W,⟨m0,w0⟩,turn⟩:=hW;refine wpAny_newObj_type (fJ ?_);dsimp only;generalize hH2:s.heap.push {cls:=.type "list",dict:=none,data:=.seq ([]:List Value).toArray}=H2;generalize hh1:pushCells (H2.push {cls:=.type "dict",data:=.dict #[]}) scope.names=h₁;have hpk:∀b o,(H2.push {cls:=.type "dict",data:=.dict #[]}).get? b=some o->h₁.get? b=some o:=λb o e=>hh1▸pushCells_keeps _ _ b o e;have hns₁:h₁.Ns H2.objs.size λ_=>none:=by
  have q:(H2.push {cls:=.type "dict",data:=.dict #[]}).Ns H2.objs.size λ_=>none:=Heap.Ns.new ..;exact q.at' λo e=>hpk _ o e
 have hown₁:∀x c,(x,c)∈cellsFrom (H2.objs.size+1) scope.names []->h₁.IsCell c none:=λx c e=>by
  have ok:=cellsFrom_ok scope.names (H2.push {cls:=.type "dict",data:=.dict #[]}) (H2.objs.size+1) [] ⟨λ_ _ hm=>(nomatch hm),List.Pairwise.nil⟩ (by rw[Heap.size_push];exact Ke _);rw[Heap.size_push,hh1]at ok;exact(ok.empty x c e).1
 have hC:H2.objs.size=s.heap.objs.size+1:=by rw[<- hH2,Heap.size_push]
 have hDC:s.heap.objs.size≠H2.objs.size:=by rw[hC];exact Ka (Ko _)
 have hCle:s.heap.objs.size<=H2.objs.size:=by rw[hC];exact Nat.le_succ _
 have below:∀b,b<s.heap.objs.size->b≠H2.objs.size/\b≠s.heap.objs.size:=λb hb=>⟨by rw[hC];exact Ka (Nat.lt_succ_of_lt hb),Ka hb⟩;have old:∀b o,s.heap.get? b=some o->h₁.get? b=some o:=λb o e=>hpk b o (JT _ (hH2▸JT _ e));have hacc:h₁.get? s.heap.objs.size=some (g9 [] 0):=hpk _ _ (JT _ (hH2▸JZ _ rfl));have hob:∀b∈fp,∃o,s.heap.get? b=some o:=λb hb=>let ⟨o,e,_⟩:=T.obj 0 _ st b hb;⟨o,e⟩
 have st₁:tn 0 h₁:=T.keep 0 _ _ st λb _ o e=>old b o e;generalize hXb:X.blk (pW own js X.N) s H scope fp H2.objs.size=Xb;have I₁:Inv Xb [] (sf own.length js σ) H {s with heap:=h₁}:=hXb▸zM I hk hCle hf hob rfl rfl hns₁ old hown₁ hcap;have eP:Xb.prog=X.prog:=by rw[<- hXb];rfl
 have ew:Xb.w=X.w:=by rw[<- hXb];rfl
 have eK:Xb.K=X.K:=by rw[<- hXb];rfl
 have eA:Xb.A=X.A:=by rw[<- hXb];rfl
 have ec:Xb.calm=true:=by rw[<- hXb];exact hc
 have eE:Xb.env=compEnvC scope (eN X.env scope H2.objs.size) H2.objs.size X.env:=by rw[<- hXb];rfl
 have ex:Xb.xe=λ_ _=>False:=by rw[<- hXb];rfl
 have es:Xb.s₀=s:=by rw[<- hXb];rfl
 have eh:Xb.H₀=H:=by rw[<- hXb];rfl
 have ef:Xb.fs=nE X.stack:=by rw[<- hXb];rfl
 have exx:Xb.ex=fp:=by rw[<- hXb];rfl
 have ep:Xb.pn=[]:=by rw[<- hXb];rfl
 have eL:Xb.env.locals=H2.objs.size:=by rw[eE];rfl
 have hD0:H s.heap.objs.size=none:=I.hok.fresh (Ke _)
 -- D is no iterator's,no frame's
 have hDf:∀b∈fp,b≠s.heap.objs.size:=λb hb e=>by
  obtain⟨o,q⟩:=hob b hb;rw[e]at q;exact absurd (Kh q) (Kn _)
 have hDs:s.heap.objs.size∉Xb.fs:=λz=>by
  rw[ef]at z;rcases J8.mp (I.stkSub _ z) with q | q
  ·exact absurd I.lt (by rw[<- q];exact Kn _)
  ·exact I.nofs (Ke _) q
 have hDcell:∀x c,Xb.env.cells.lookup x=some c->c≠s.heap.objs.size:=λx c e q=>by
  rcases I.blkL hk (C:=H2.objs.size) (x:=x) (c:=c) (by rw[eE]at e;exact e) with⟨_,z,_⟩ | z
  ·rw[q]at z
   exact absurd hCle (Nat.not_le.mpr z)
  ·obtain⟨v,o,ho,_⟩:=I.cell x c z
   rw[q]at ho;exact absurd (Kh ho) (Kn _)
 have stat:∀{pl:KN} {H':Hp},(∀b∈fp,H' b=none)->(∀p∈pl,p.1=s.heap.objs.size)->∀b∈fp,oE Xb pl H' b:=λhn hp b hb=>by
  refine⟨hn b hb,?_,?_,.inl (by rw[exx];exact hb),λx c e=>?_,λp hpp=>?_⟩
  ·rw[eL];exact(below b (let ⟨o,q⟩:=hob b hb;Kh q)).1
  ·rw[ef];intro z
   rcases J8.mp (I.stkSub b z) with q | q
   ·exact(hf b hb).2.1 q
   ·exact(hf b hb).2.2.1 q
  ·rcases I.blkL hk (C:=H2.objs.size) (x:=x) (c:=c) (by rw[eE]at e;exact e) with⟨_,z,_⟩ | z
   ·intro q
    rw[q]at z;obtain⟨o,q2⟩:=hob b hb;exact absurd (J' (Kh q2) hCle) (Nat.not_lt.mpr (Nat.le_of_lt z))
   ·exact(hf b hb).2.2.2.2.1 x c z
  ·rw[ep,KC]at hpp
   rw[hp p hpp];exact(hDf b hb).symm
 have loop:∀s₃:Shared,s₃={s with heap:=h₁} ->
   codeAny (model X.prog X.w) X.A (.compLoop (.ListComp elt [⟨tg,iter,ifs,0⟩] scope pos) 0 (.ref it) (.ref s.heap.objs.size) (compEnvC scope (eN X.env scope H2.objs.size) H2.objs.size X.env))
    (RR (.ref s.heap.objs.size) H2.objs.size) s₃:=by
  rintro s₃ rfl;refine uE (λn s'=>∃(i:Nat) (acc:List V) (its:KQ) (k:Nat) (σ':St) (H':Hp),Inv Xb [] σ' H' s'/\tn i s'.heap/\(∀b∈fp,H' b=none)/\H' s.heap.objs.size=none/\s'.heap.get? s.heap.objs.size=some (g9 its k)/\bj acc its/\W i n acc σ' H')
   ?_ m0 ⟨0,[],[],0,_,H,I₁,st₁,λb hb=>(hf b hb).1,hD0,hacc,.nil,w0⟩
  rintro n s' ⟨i,acc,its,k,σ',H',I',st',fr',hD',oD',rv',w'⟩;obtain⟨hlen,tt⟩:=turn i n acc σ' H' w'
  -- the gathered list,pinned
  have Ip:Inv Xb [(s.heap.objs.size,g9 its k)] σ' H' s':=I'.pins_of λp hp=>by
   have e:p=(s.heap.objs.size,g9 its k):=by simpa using hp
   subst e;exact⟨oD',hD',by rw[eL];exact hDC,hDs,λv z=>by cases z⟩
  have hpl:∀p∈[(s.heap.objs.size,g9 its k)],p.1=s.heap.objs.size:=λp hp=>by
   have e:p=(s.heap.objs.size,g9 its k):=by simpa using hp
   rw[e]
  rcases tt with⟨stop,q⟩ | ⟨go,N,hN,step⟩
  ·have d:=T.done Xb eP ew eK ec i _ s' σ' H' (λ_ _=>False) Ip (stat fr' hpl) st' stop
   rw[eA]at d;refine wpAny_mono d (λr s1 hr=>?_) λ_ _ z=>z;obtain⟨rfl,I1⟩:=hr;have oD1:s1.heap.get? s.heap.objs.size=some (g9 its k):=(I1.pin _ (List.mem_append_right _ (JV.mpr rfl))).1;obtain⟨mC,hnC,_⟩:=I1.loc;rw[eL]at hnC;obtain⟨oC,_,_,hoC,_⟩:=id hnC;have hCH:H' H2.objs.size=none:=by have:=I1.free;rwa [eL]at this
   have ub:Un (nE X.stack) fp H H' s.heap s1.heap:=by have:=I1.base;rwa [ef,exx,eh,es]at this
   refine hRR _ _ s1 H' acc mC q hD' ?_ hnC ?_ ?_ ?_ ?_ ?_
   ·-- tH outside
    refine I.call' (ch:=fp) (by have:=I1.os;rwa [es]at this) ⟨λb o e n1 h1 h2=>ub.keep b o e n1 h1 h2,λb o e n1 h1 h2=>ub.slot b o e n1 h1 h2,λb o e n1 h1=>?_,ub.there,λb xs e=>?_,λb o u e=>?_,λb ps e=>?_⟩ ?_ (by have:=I1.bare;exact this) λb hb=>?_
    ·rw[am (λz=>by rw[z]at e;exact absurd (Kh e) (Kn _))]
     exact ub.free b o e n1 h1
    ·rw[am (aD (ub.tups b xs e) hD')]
     exact ub.tups b xs e
    ·rw[am (aD (ub.frzs b o u e) hD')]
     exact ub.frzs b o u e
    ·obtain⟨more,z⟩:=ub.tbls b ps e
     exact⟨more,by rw[am (aD z hD')];exact z⟩
    ·intro b u e
     have hokb:=I1.hok;rw[eP,ew]at hokb
     by_cases hb:b=s.heap.objs.size
     ·subst hb
      rw[ac]at e;cases e;exact⟨Nat.le_of_lt hlen,its,k,rv',oD1⟩
     ·rw[am hb]at e
      refine(hokb b u e).stay (λc v _ z=>z) (λc z=>?_) λc xs z=>?_
      ·rw[am (aD z hD')];exact z
      ·rw[am (aD z hD')];exact z
    ·exact⟨(hf b hb).2.2.2.1,(hf b hb).2.1,(hf b hb).2.2.2.2.1,(hf b hb).2.2.2.2.2⟩
   ·rw[am hDC.symm];exact hCH
   ·intro z;have:=I.lt;rw[<- z]at this;exact absurd this (Nat.not_lt.mpr hCle)
   ·exact Km I.sz hCle
   ·intro x c e z
    obtain⟨v,o,ho,_⟩:=I.cell x c e;rw[z]at ho;exact absurd (Kh ho) (Nat.not_lt.mpr hCle)
   ·intro p hp z
    have:=(I.pin p hp).1;rw[z]at this;exact absurd (Kh this) (Nat.not_lt.mpr hCle)
  ·have d:=T.item Xb eP ew eK ec i _ s' σ' H' (λ_ _=>False) Ip (stat fr' hpl) st' go
   rw[eA]at d;refine wpAny_mono d (λr s1 hr=>?_) λ_ _ z=>z;obtain⟨u,rfl,d2⟩:=hr;refine wpAny_mono d2 (λ_ s2 hr2=>?_) λ_ _ z=>z;obtain⟨x,H2',I2,r2,y2,st2,fr2⟩:=hr2;have I2':=I2.pinned (stat fr2 hpl) (T.obj _ _ st2);have G:=hXb▸hg s H fp H2.objs.size;have d3:=G _ s2 σ' H2' x u _ I2' r2 (step x H2' y2);rw[eP,ew,eA,ex,eE]at d3;refine wpAny_mono d3 (λ_ s3 hr3=>?_) λ_ _ z=>z;obtain⟨σ3,H3,I3,q3⟩:=hr3;have Gi:=hXb▸hi s H fp H2.objs.size;have d4:=Gi _ s3 σ3 H3 _ I3 q3;rw[eP,ew,eA,ex,eE]at d4;refine wpAny_mono d4 (λb s4 hr4=>?_) λ_ _ z=>z;obtain⟨H4,I4,q4⟩:=hr4;have again:∀{s5:KP} {H5:Hp} {σ5:St},Inv Xb ([(s.heap.objs.size,g9 its k)]++pM fp s2.heap) σ5 H5 s5->s5.heap.get? s.heap.objs.size=some (g9 its k)/\H5 s.heap.objs.size=none/\tn (i+1) s5.heap/\∀b∈fp,H5 b=none:=fun{s5 H5 σ5} I5=>by
    have pD:=I5.pin (s.heap.objs.size,g9 its k) (List.mem_append_right _ (List.mem_append_left _ (JV.mpr rfl)));refine⟨pD.1,pD.2.1,T.keep _ _ _ st2 λb hb o e=>(I5.pin (b,o) (List.mem_append_right _ (List.mem_append_right _ (iy hb e)))).1,λb hb=>?_⟩;obtain⟨o,e,_⟩:=T.obj _ _ st2 b hb;exact(I5.pin (b,o) (List.mem_append_right _ (List.mem_append_right _ (iy hb e)))).2.1
   have bare:∀{s5:KP} {H5:Hp} {σ5:St} {pl:KN},Inv Xb pl σ5 H5 s5->Inv Xb [] σ5 H5 s5:=λI5=>I5.pins_of λp hp=>nomatch hp;cases b with
   |false=>
    obtain⟨m',hm,w5⟩:=hN _ _ _ q4;obtain⟨a1,a2,a3,a4⟩:=again I4;exact⟨m',hm,i+1,acc,its,k,σ3,H4,bare I4,a3,a4,a2,a1,rv',w5⟩
   |true=>
    have Ge:=hXb▸he s H fp H2.objs.size;have d5:=Ge _ s4 σ3 H4 _ I4 q4;rw[eP,ew,eA,ex,eE]at d5;refine wpAny_mono d5 (λy s5 hr5=>?_) λ_ _ z=>z;obtain⟨v,H5,I5,r5,q5⟩:=hr5;obtain⟨m',hm,w5⟩:=hN _ _ _ q5;obtain⟨a1,a2,a3,a4⟩:=again I5;have hl:=rv'.length;refine call_meets F.slot_list_append ⟨_,a1,rfl⟩ F.entry_list_append (F.args_list_append_2 _ _) (PySem.list_append s.heap.objs.size its.toArray k y (by rw[J0];omega)) ⟨a1,?_⟩;have qu:=PySem.IsL.update a1 (λx_1=>x_1.push y);have qe:(its.toArray.push y)=(its++[y]).toArray:=by simp
    rw[qe]at qu;have I6:Inv Xb [] σ3 H5 {s5 with heap:=s5.heap.update s.heap.objs.size (Obj.mapSeq λx_1=>x_1.push y),toks:=s5.toks}:=
     (bare I5).turned (λb o hb e=>(JY s5.heap _ (Ne.symm hb)).trans e) a2 (by rw[eL];exact hDC) (.inr (by rw[es];exact Ke _)) hDcell (by rw[ep];intro p hp;exact nomatch hp)
    refine⟨m',hm,i+1,acc++[v],its++[y],_,σ3,H5,I6,T.keep _ _ _ a3 (λb hb o e=>(JY s5.heap _ (hDf b hb).symm).trans e),a4,a2,qu,rv'.append (.cons r5 .nil),w5⟩
 refine codeAny_compStart_list (loop _ rfl) ?_;exact T.self _ 0 _ _ _ st₁ (loop _ rfl)
theorem cC{elt tg iter:Expr}{ifs:K2}{scope:Scope}{pos:Pos}(own:KY)(js:KO){wi:TI}{g:TG}{ti:TT}{te:TE}(hc:X.calm=true)(hk:bw scope X.env.scope)
  (hcap:(js.all λj=>scope.names.contains (X.N.getD j Str.empty,NameKind.free))=true) (hw:PI X tg iter wi)
  (hg:∀s H fp C,PG (X.blk (pW own js X.N) s H scope fp C) tg g) (hi:∀s H fp C,Gk (X.blk (pW own js X.N) s H scope fp C) ifs ti) (he:∀s H fp C,PE (X.blk (pW own js X.N) s H scope fp C) elt te)
  (hs:∀x,foldedSetIterable iter X.env x=pure x:=by intro _;rfl):PE X (.ListComp elt [⟨tg,iter,ifs,0⟩] scope pos) (yo own.length js wi g ti te):=by
 intro pins s σ H Q I h;rw[eval_ListComp];refine wpAny_comprehension_free (use:=none) rfl hs (jY (I.capFree hk)) hk.kind hk.loc (bX (hw pins s σ H _ I h) λv s1 h1=>bX h1 λitv s2 h2=>?_);obtain⟨it,fp,tn,J,H2,rfl,I2,T,st2,f2,hW⟩:=h2;refine rY (RR:=λacc C=>compPost (model X.prog X.w) X.A X.xe none (EP X pins σ Q) acc C) (Q:=λacc H'=>∀l,H' l=none->Q (.ref l) (aA H' l (.lst acc))) hc hk hcap hg hi he I2 T st2 f2 hW ?_;intro D C s' H' acc m q hD I' hn hC0 hCL hCs hCc hCp;refine⟨m,hn,λh' sb=>?_⟩;exact⟨.ref D,_,I'.turned (t':=s'.toks) (λb o hb e=>(sb.2 b hb).trans e) hC0 hCL (.inr hCs) hCc hCp,rfl,q D hD⟩
theorem iF{i:Nat}{x:Str}{elt tg iter:Expr}{ifs:K2}{scope:Scope}{pos spos:Pos}{px:Pos}(own:KY)(js:KO){wi:TI}{g:TG}{ti:TT}{te:TE}(hN:X.N.Nodup)(hxi:X.N[i]?=some x)(hx:Loc X.env.scope x)
  (hsw:swapsWith (.ListComp elt [⟨tg,iter,ifs,0⟩] scope pos) (some (.Name x px)) spos.line X.env=pure true)
  (hc:X.calm=true) (hk:bw scope X.env.scope)
  (hcap:(js.all λj=>scope.names.contains (X.N.getD j Str.empty,NameKind.free))=true) (hw:PI X tg iter wi)
  (hg:∀s H fp C,PG (X.blk (pW own js X.N) s H scope fp C) tg g) (hi:∀s H fp C,Gk (X.blk (pW own js X.N) s H scope fp C) ifs ti) (he:∀s H fp C,PE (X.blk (pW own js X.N) s H scope fp C) elt te)
  (hs:∀x,foldedSetIterable iter X.env x=pure x:=by intro _;rfl) (hf:X.fn x=true\/X.env.scope.names.lookup x=some .local:=by first | exact .inl rfl | exact .inr rfl | assumption) :
  PS X (.Assign [.Name x px] (.ListComp elt [⟨tg,iter,ifs,0⟩] scope pos) spos) (xX (yo own.length js wi g ti te) (k9 i)):=by
 intro pins s σ H Dn I h;rw[exec_Assign_Name_used _ _ _ _ hsw];refine wpAny_bind (wpAny_standAt (wpAny_bind ?_));show wpAny _ _ (do let _ <- comprehension (.ListComp elt [⟨tg,iter,ifs,0⟩] scope pos) scope X.env _ (newList []) false (eval iter X.env) (some (assign (.Name x px) X.env))) _ _ s;refine wpAny_bind (wpAny_mono (wpAny_comprehension_free (use:=some (assign (.Name x px) X.env)) (Q:=λ_ s'=>SP X pins Dn .next s') (E:=X.xe) rfl hs (jY (I.capFree hk)) hk.kind hk.loc ?_) (λ_ s' q=>wpAny_pure (wpAny_pure q)) λ_ _ z=>z);refine(bX (hw pins s σ H _ I h) λv s1 h1=>bX h1 λitv s2 h2=>?_);obtain⟨it,fp,tn,J,H2,rfl,I2,T,st2,f2,hW⟩:=h2;refine rY (RR:=λacc C=>compPost (model X.prog X.w) X.A X.xe (some (assign (.Name x px) X.env)) (λ_ s'=>SP X pins Dn .next s') acc C) (Q:=λacc H'=>∀l,H' l=none->k9 i (.ref l) σ (aA H' l (.lst acc)) Dn.nx) hc hk hcap hg hi he I2 T st2 f2 hW ?_;intro D C s' H' acc m q hD I' hn hC0 hCL hCs hCc hCp;show wpAny _ _ (assign (.Name x px) X.env (.ref D)) _ _ s';refine wpAny_assign_Name (sv I' hN hxi hx (v:=.ref D) rfl (λs'' I'' sb=>?_) hf);obtain⟨a,sb,ha⟩:=sb;have hCa:C≠a:=by
  rcases ha with z | z
  ·rw[z];exact hCL
  ·exact(hCc x a z).symm
 refine⟨m,hn.sameBut sb hCa,λh' sb'=>?_⟩;exact⟨_,_,I''.turned (t':=s''.toks) (λb o hb e=>(sb'.2 b hb).trans e) hC0 hCL (.inr hCs) hCc hCp,q D hD⟩
end
section
variable {K:KM}{g:TG}{ti:TT}{te:TE}{σ:St}{H:Hp}{Q:List V->Hp->Prop}
theorem kj{J:It}{n:Nat}(Pv:Nat->List V->St->Hp->Prop)(h0:Pv 0 [] σ H)(hz:∀i acc σ H,Pv i acc σ H->acc.length<sizeLine)(hi:∀i acc σ H,Pv i acc σ H->i<=n)
  (stop:∀acc σ H,Pv n acc σ H->J.stop n H) (go:∀i acc σ H,i<n->Pv i acc σ H->J.go i H)
  (hs:∀i x acc σ H H2,i<n->Pv i acc σ H->J.yld i H x H2->g x σ H2 λσ2 H3=>ti σ2 H3 λb H4=>if b=true then te σ2 H4 λv H5=>Pv (i+1) (acc++[v]) σ2 H5 else Pv (i+1) acc σ2 H4)
  (he:∀acc σ H,Pv n acc σ H->Q acc H) :
  i7 J g ti te σ H Q:=by
 refine⟨λi m acc σ H=>Pv i acc σ H/\m=n+1-i,⟨n+1,h0,rfl⟩,?_⟩;rintro i m acc σ' H' ⟨w,rfl⟩;refine⟨hz i acc σ' H' w,?_⟩;have hle:=hi i acc σ' H' w;rcases Nat.lt_or_ge i n with hlt | hge
 ·refine .inr ⟨go i acc σ' H' hlt w,λacc' σ2 H2=>Pv (i+1) acc' σ2 H2,λacc' σ2 H2 w2=>⟨n+1-(i+1),?_,w2,rfl⟩,λx H2 y=>hs i x acc σ' H' H2 hlt w y⟩
  have:=hi (i+1) acc' σ2 H2 w2;omega
 ·have e:i=n:=by omega
  subst e;exact .inl ⟨stop acc σ' H' w,he acc σ' H' w⟩
theorem ny{a:Addr}{xs:List V}(Pv:Nat->List V->St->Hp->Prop)(h0:Pv 0 [] σ H)(hz:∀i acc σ H,Pv i acc σ H->acc.length<sizeLine)(hi:∀i acc σ H,Pv i acc σ H->i<=xs.length)
  (hl:∀i acc σ H,Pv i acc σ H->aU K H a xs)
  (hs:∀i x acc σ H,xs[i]?=some x->Pv i acc σ H->g x σ H λσ2 H3=>ti σ2 H3 λb H4=>if b=true then te σ2 H4 λv H5=>Pv (i+1) (acc++[v]) σ2 H5 else Pv (i+1) acc σ2 H4)
  (he:∀acc σ H,Pv xs.length acc σ H->Q acc H):i7 (Dk K a) g ti te σ H Q:=by
 exact kj (J:=Dk K a) (g:=g) (ti:=ti) (te:=te) (Q:=Q) (n:=xs.length) Pv h0 hz hi (λacc σ H w=>⟨xs,hl _ _ _ _ w,Ke _⟩)
  (λi acc σ H hlt w=>⟨xs,xs[i],hl _ _ _ _ w,JR hlt⟩) (λi x acc σ H H2 hlt w y=>by obtain⟨rfl,hx⟩:=y;exact hs i x acc σ H2 (hx xs (hl _ _ _ _ w)) w) he
theorem eW{lo:Int}{n:Nat}(Pv:Nat->List V->St->Hp->Prop)(h0:Pv 0 [] σ H)(hz:∀i acc σ H,Pv i acc σ H->acc.length<sizeLine)(hi:∀i acc σ H,Pv i acc σ H->i<=n)
  (hs:∀i acc σ H,i<n->Pv i acc σ H->g (.int (lo+i)) σ H λσ2 H3=>ti σ2 H3 λb H4=>if b=true then te σ2 H4 λv H5=>Pv (i+1) (acc++[v]) σ2 H5 else Pv (i+1) acc σ2 H4)
  (he:∀acc σ H,Pv n acc σ H->Q acc H):i7 (AZ lo n) g ti te σ H Q:=by
 exact kj (J:=AZ lo n) (g:=g) (ti:=ti) (te:=te) (Q:=Q) (n:=n) Pv h0 hz hi (λacc σ H w=>Ke _) (λi acc σ H hlt w=>hlt) (λi x acc σ H H2 hlt w y=>by obtain⟨rfl,rfl⟩:=y;exact hs i acc σ H2 hlt w) he
end
structure eO(P:KW)(w:K0)(K:KM)(mg:KS)(base:Heap)(CX:k7)(k:Nat)(x:Str)(ps:KY)(sp:Sp):Prop where
 ex:∃(f:Addr) (fd:KU),aQ P w K mg base CX k f fd ps sp/\mg x=some (.ref f)/\PySem.W.keepIn K (.ref f)=true/\b7 K fd ps []
structure NB(mg:KS):Prop where
 len:mg "len"=none
 range:mg "range"=none
 list:mg "list"=none
 tuple:mg "tuple"=none
 isinstance:mg "isinstance"=none
 int:mg "int"=none
 bool:mg "bool"=none
 str:mg "str"=none
 reversed:mg "reversed"=none
 all:mg "all"=none
 enumerate:mg "enumerate"=none
 zip:mg "zip"=none
 sorted:mg "sorted"=none
 set:mg "set"=none
 dict:mg "dict"=none
 min:mg "min"=none
 max:mg "max"=none
 sum:mg "sum"=none
 ValueError:mg "ValueError"=none
section
variable {X:Cx}{CX:k7}{k:Nat}{x:Str}{ps:KY}{sp:Sp}{E:XK}{p pos:Pos}{e:Expr}{es:K2}{t:TA}
theorem aK(C:eO X.prog X.w X.K X.mg X.base CX k x ps sp)(hr:df k X.A)(hg:Gl X x)(hx:cX CX X E)(ha:PA X (e::es) t)(hdb:autoParam ((x==("__debug__":Str))=false) zzK._auto_1)
  (hst:autoParam (starEach (e::es) X.env=(false,eval e X.env)::starEach es X.env) zzR._auto_1) (hpl:autoParam ((backTo pos (starEach es X.env)).any (·.1)=false) zzR._auto_1):PE X (.Call (.Name x p) (e::es) [] pos) (n6 sp [] E t):=by
 obtain⟨f,fd,F,hm,hk,hb⟩:=C.ex;exact D7 F hr hg hm hk hb .nil hx ha hdb hst hpl
end
section
variable {X:Cx}{tg:Expr}
noncomputable def Cv(_ j:Int):Prop:=0<j/\j<18446744073709551616
theorem bZ:bf X (binaryOp .FloorDiv) (rI Cv λi j=>.int (i/j)):=Gh λi j _ _ _ _ _ hc q=>by
 have h1:(0:Int)<j:=hc.1;have h2:j<18446744073709551616:=hc.2;refine floordiv_int ⋯ (by rw[Int.fdiv_eq_ediv_of_nonneg i ⋯];exact q) (.inl (PyProof.noPylong_of_log2 ?_));have h64:j.natAbs.log2<64:=(Nat.log2_lt ⋯).mpr ⋯;omega
theorem lx:∀{ys:KY} {us:KQ},bj (ys.map V.str) us->StrsAre us ys
 | [],_,.nil=>.nil
 |y::ys,_,.cons r t=>by
  obtain⟨tk,rfl⟩:=r;exact .cons y tk (lx t)
noncomputable def C5(K:KM):V->List V->Hp->VK->Prop:=λx xs H Q=>∃z p ys,x=.str z/\xs=[.ref p]/\(aU K H p (ys.map V.str)\/ba K H p (ys.map V.str))/\(ys.map (·.length)).sum+ys.length*z.length<=16777216/\Q (.str (Txt.join z ys)) H
theorem oR:Hm X "str.join" (C5 X.K):=by
 intro pins s σ H x xs v us Q I rx rv h;obtain⟨z,p,ys,rfl,rfl,hs,hz,q⟩:=h;obtain⟨t,rfl⟩:=rx;obtain⟨u,rfl,ru⟩:=rv.one;cases ru;rcases hs with hs | hs
 ·obtain⟨its,r,pl,_⟩:=I.list hs
  exact join_list pl.isList (by simpa using lx r) hz λt' k=>⟨.str _,H,I.tok k,⟨t',rfl⟩,q⟩
 ·obtain⟨its,r,pl,_⟩:=I.tuple hs
  exact join_tuple pl (by simpa using lx r) hz λt' k=>⟨.str _,H,I.tok k,⟨t',rfl⟩,q⟩
noncomputable def FP(x:Str):It:=⟨λi _=>i<x.cps.size,λi H v H'=>H'=H/\∃c,x.cps[i]?=some c/\v=.str ⟨#[c]⟩,λi _=>x.cps.size<=i⟩
theorem C_{P:KW}{w:K0}{K:KM}{tg:Expr}(x:Str)(t:Tok)(it:Addr):qy P w K tg (FP x) [it] it (λi h=>h.IsStrIter it (strIterType x) x t i) where
 mem:=by simp
 obj:=λi h st b hb=>by
  have e:b=it:=by simpa using hb
  subst e;obtain⟨o,e,c,d⟩:=st;exact⟨o,e,λv z=>by rw[d]at z;cases z⟩
 keep:=λi h h' st k=>by
  obtain⟨o,e,c,d⟩:=st;exact⟨o,k it (by simp) o e,c,d⟩
 item:=by
  intro X hP hw hK hc i pins s σ H E I hf st hg;subst hP hw hK;obtain⟨f0,f1,f2,f3,f4,f5⟩:=hf it (by simp);have hi:i<x.cps.size:=hg;have hx:x.cps[i]?=some x.cps[i]:=Array.getElem?_eq_getElem hi;have fin:∀h',h'.IsStrIter it (strIterType x) x t (i+1)->Heap.SameBut it s.heap h'->∃u,(some (Value.str ⟨#[x.cps[i]]⟩ s.toks))=some u /\
    wpAny (model X.prog X.w) X.A (letOwnedTupleGo tg (.ref it) u) (λ_ s2=>∃v H',Inv X pins σ H' s2/\bo v u/\(FP x).yld i H v H'/\s2.heap.IsStrIter it (strIterType x) x t (i+1)/\∀b∈[it],H' b=none) E {s with heap:=h',toks:=s.toks+1}:=λh' st' sb=>by
   have I1:Inv X pins σ H {s with heap:=h',toks:=s.toks+1}:=I.turned (λb o hb e=>(sb.2 b hb).trans e) f0 f1 f3 f4 f5;obtain⟨o,e,c,d⟩:=id st';refine⟨_,rfl,vM (s:={s with heap:=h',toks:=s.toks+1}) e c d ?_ ⟨.str ⟨#[x.cps[i]]⟩,H,I1,⟨_,rfl⟩,⟨rfl,_,hx,rfl⟩,st',λb hb=>(hf b hb).1⟩⟩;unfold strIterType
   split<;>decide
  cases ha:x.cps.all (· < 128) with
  |true=>
   have ety:strIterType x="str_ascii_iterator":=by unfold strIterType;rw[ha];rfl
   rw[ety]at st fin ⊢;exact wpAny_pyNext_ascii_item st hx fin
  |false=>
   have ety:strIterType x="str_iterator":=by unfold strIterType;rw[ha];rfl
   rw[ety]at st fin ⊢;exact wpAny_pyNext_wide_item st hx fin
 done:=by
  intro X hP hw hK hc i pins s σ H E I hf st hg;subst hP hw hK;obtain⟨f0,f1,f2,f3,f4,f5⟩:=hf it (by simp);have hi:x.cps.size<=i:=hg;have hx:x.cps[i]?=none:=Array.getElem?_eq_none hi;cases ha:x.cps.all (· < 128) with
  |true=>
   have ety:strIterType x="str_ascii_iterator":=by unfold strIterType;rw[ha];rfl
   rw[ety]at st;exact wpAny_pyNext_ascii_end (I.ok.hd hc) st hx λh' eb=>⟨rfl,I.turned (t':=s.toks) (λb o hb e=>eb b o hb e) f0 f1 f3 f4 f5⟩
  |false=>
   have ety:strIterType x="str_iterator":=by unfold strIterType;rw[ha];rfl
   rw[ety]at st;exact wpAny_pyNext_wide_end (I.ok.hd hc) st hx λh' eb=>⟨rfl,I.turned (t':=s.toks) (λb o hb e=>eb b o hb e) f0 f1 f3 f4 f5⟩
 self:=λA i s Q E st h=>by
  cases ha:x.cps.all (· < 128) with
  |true=>
   have ety:strIterType x="str_ascii_iterator":=by unfold strIterType;rw[ha];rfl
   rw[ety]at st;exact wpAny_pyIter_striter_ascii st h
  |false=>
   have ety:strIterType x="str_iterator":=by unfold strIterType;rw[ha];rfl
   rw[ety]at st;exact wpAny_pyIter_striter_wide st h
noncomputable def FD(tl:TE):TI:=λσ H R=>tl σ H λv H1=>∃x,v=.str x/\R (FP x) H1
theorem EZ{l:Expr}{tl:TE}(hl:PE X l tl):PI X tg l (FD tl):=by
 intro pins s σ H R I h;refine bX (hl pins s σ H _ I h) λv s1 ⟨x,H1,I1,r1,q1⟩=>?_;obtain⟨x,rfl,q⟩:=q1;obtain⟨t,rfl⟩:=r1;refine wpAny_pyIter_strU ?_;refine⟨s1.heap.objs.size,[s1.heap.objs.size],_,_,H1,rfl,I1.kept (t':=s1.toks) λb o e=>JT _ e,C_ x t _,⟨_,JZ _ rfl,rfl,rfl⟩,λb hb=>?_,q⟩;have e:b=s1.heap.objs.size:=by simpa using hb
 subst e;exact I1.fpOk (Ke _) (I1.hok.fresh (Ke _))
noncomputable def Gd(K:KM)(a:Addr)(n:Nat):It:=
 ⟨λi H=>∃xs x,aU K H a xs/\i<n/\xs[n-1-i]?=some x,λi H x H'=>H'=H/\∀xs,aU K H a xs->xs[n-1-i]?=some x,λi _=>i=n⟩
theorem BY{P:KW}{w:K0}{K:KM}{tg:Expr}(a it:Addr)(n:Nat):qy P w K tg (Gd K a n) [it] it (λi h=>h.IsRevIter it a ((n:Int)-1-(i:Int))) where
 mem:=by simp
 obj:=λi h st b hb=>by
  have e:b=it:=by simpa using hb
  subst e;obtain⟨o,e,c,d⟩:=st;exact⟨o,e,λv z=>by rw[d]at z;cases z⟩
 keep:=λi h h' st k=>st.at λo e=>k it (by simp) o e
 item:=by
  intro X hP hw hK hc i pins s σ H E I hf st hg;subst hP hw hK;obtain⟨xs,x,hq,hi,hx⟩:=hg;obtain⟨its,rv,p,hz⟩:=I.list hq;obtain⟨u,hu,ru⟩:=rv.get hx;obtain⟨f0,f1,f2,f3,f4,f5⟩:=hf it (by simp);have e:(n:Int)-1-(i:Int)=((n-1-i:Nat):Int):=by omega
  have st1:=st;rw[e]at st1;refine wpAny_pyNext_rev_item st1 p.isList (x:=u) (by simpa using hu) λh' st' sb=>?_;have e2:((n-1-i:Nat):Int)-1=(n:Int)-1-((i+1:Nat):Int):=by omega
  rw[e2]at st';have I1:Inv X pins σ H {s with heap:=h' }:=I.turned (t':=s.toks) (λb o hb e=>(sb.2 b hb).trans e) f0 f1 f3 f4 f5;obtain⟨o,e,c,d⟩:=id st';exact⟨u,rfl,vM (s:={s with heap:=h' }) e c d nofun ⟨x,H,I1,ru,⟨rfl,λys hy=>by rw[I.list_inj hy hq];exact hx⟩,st',λb hb=>(hf b hb).1⟩⟩
 done:=by
  intro X hP hw hK hc i pins s σ H E I hf st hg;subst hP hw hK;obtain⟨f0,f1,f2,f3,f4,f5⟩:=hf it (by simp);have hi:i=n:=hg;subst hi;have e:(i:Int)-1-(i:Int) = -1:=by omega
  rw[e]at st;exact wpAny_pyNext_rev_end (I.ok.hd hc) st λh' eb=>⟨rfl,I.turned (t':=s.toks) (λb o hb e=>eb b o hb e) f0 f1 f3 f4 f5⟩
 self:=λ_ _ _ _ _ st h=>wpAny_pyIter_revIter st h
noncomputable def EX(K:KM)(ta:TA):TI:=λσ H R=>ta σ H λvs H1=>∃a xs,vs=[.ref a]/\aU K H1 a xs/\R (Gd K a xs.length) H1
theorem xl{a:Expr}{ta:TA}{p pos:Pos}(hg:Gl X "reversed")(hm:X.mg "reversed"=none)(ha:PA X [a] ta)(hs:autoParam (starEach [a] X.env=[(false,eval a X.env)]) zzR._auto_1):PI X tg (.Call (.Name "reversed" p) [a] [] pos) (EX X.K ta):=by
 intro pins s σ H R I h;refine Call_ (eV I hg hm boot_reversed (PyProof.Rows.callWith_type1 (bX (ha pos pins s σ H _ I h) λus s1 ⟨vs,H1,I1,r1,q1⟩=>?_) hs rfl));obtain⟨l,xs,rfl,hq,q⟩:=q1;obtain⟨u,rfl,ru⟩:=r1.one;cases ru;obtain⟨its,rv,pl,hz⟩:=I1.list hq;have hlen:=rv.length;refine call_reversed_list pl.isList ?_;have es:its.toArray.size=xs.length:=by rw[J0,hlen]
 rw[es];have I2:Inv X pins σ H1 {s1 with heap:=s1.heap.push (revObj l ((xs.length:Int)-1))}:=I1.kept (t':=s1.toks) λb o e=>JT _ e;have st:(s1.heap.push (revObj l ((xs.length:Int)-1))).IsRevIter s1.heap.objs.size l ((xs.length:Int)-1-((0:Nat):Int)):=⟨_,JZ _ rfl,rfl,by simp[revObj]⟩;refine wpAny_pyIter_revIter st ?_;refine⟨s1.heap.objs.size,[s1.heap.objs.size],_,_,H1,rfl,I2,BY l _ xs.length,st,λb hb=>?_,q⟩;have e:b=s1.heap.objs.size:=by simpa using hb
 subst e;exact I1.fpOk (Ke _) (I1.hok.fresh (Ke _))
noncomputable def EV:V->Option Int->Option Int->Hp->VK->Prop:=λx lo hi H Q=>∃z,x=.str z/\z.length<=sizeLine/\Q (.str (Txt.slice z lo hi)) H
theorem BH:FY X EV:=by
 intro pins s σ H x v vl vu lo hi sl Q I rx hs pl pu h;obtain⟨z,rfl,hz,q⟩:=h;obtain⟨t,rfl⟩:=rx;have fin:∀t' k,EP X pins σ Q (.str (Txt.slice z lo hi) t') {s with toks:=k}:=λt' k=>⟨.str _,H,I.tok k,⟨t',rfl⟩,q⟩;refine⟨"str",_,F.slot_str_getitem.lookup,typeIs_str _ _ _,?_⟩;cases pl with
 |none=>
  cases pu with
  |none=>exact wpAny_getItem_str_slice (l:=none) (u:=none) (st:=none) hs rfl (post_val_or_str ⟨Km (Txt.slice_le z _ _) hz,fin⟩)
  |int j uj=>exact wpAny_getItem_str_slice (l:=none) (u:=some (j,uj)) (st:=none) hs rfl (post_val_or_str ⟨Km (Txt.slice_le z _ _) hz,fin⟩)
 |int i ui=>
  cases pu with
  |none=>exact wpAny_getItem_str_slice (l:=some (i,ui)) (u:=none) (st:=none) hs rfl (post_val_or_str ⟨Km (Txt.slice_le z _ _) hz,fin⟩)
  |int j uj=>exact wpAny_getItem_str_slice (l:=some (i,ui)) (u:=some (j,uj)) (st:=none) hs rfl (post_val_or_str ⟨Km (Txt.slice_le z _ _) hz,fin⟩)
noncomputable def GO(sep:Str)(ta:TA):TE:=λσ H Q=>ta σ H λvs H1=>∃x,vs=[.str x]/\x.length<=1000/\sep.length<=1000/\Q (.str (Txt.join sep (x.cps.toList.reverse.map λc=>(⟨#[c]⟩:Str)))) H1
theorem qO{e:Expr}{ta:TA}{sep:Str}{j:Nat}{p0 ap p1 p2 cpos:Pos}(hc:X.calm=true)(hg:Gl X "reversed")(hm:X.mg "reversed"=none)(ha:PA X [e] ta)
  (hfew:autoParam (((backTo cpos (starEach [.Call (.Name "reversed" p1) [e] [] p2] X.env)).all (λx=>!x.1)&&(backToKw cpos (keywordEach [] X.env)).all (λx=>x.1.isSome)
   && decide ([Expr.Call (.Name "reversed" p1) [e] [] p2].length+([]:List Keyword).length+(if([]:List Keyword).isEmpty then 0 else 1)<30))=true) zzR._auto_1)
  (hline:autoParam ((ap.endLine==cpos.line)=true) zzR._auto_1) (hs:autoParam (starEach [e] X.env=[(false,eval e X.env)]) zzR._auto_1) :
  PE X (.Call (.Attribute (.Constant (.str sep) j p0) "join" ap) [.Call (.Name "reversed" p1) [e] [] p2] [] cpos) (GO sep ta):=by
 intro pins s σ H Q I h;refine wpAny_Call_method_late rfl hfew hline rfl (bX (jX (X:=X) pins s σ H (λv H1=>v=.str sep/\H1=H) I ⟨rfl,rfl⟩) λv s1 ⟨x,H1,I1,r1,hx⟩=>?_);obtain⟨rfl,rfl⟩:=hx;obtain⟨t0,rfl⟩:=r1;refine⟨"str",_,F.plainAttrs_str,F.slot_str_join,F.type_str_join,typeIs_str _ _ _,(λa z=>nomatch z),?_⟩;refine Calls.callWith_builtin rfl (Calls.evalArgs_plain ?_);show wpAny _ _ (spliced ((false,eval (.Call (.Name "reversed" p1) [e] [] p2) X.env)::[])) _ _ s1;refine Calls.spliced_cons ?_;refine Call_ (eV I1 hg hm boot_reversed (PyProof.Rows.callWith_type1 (bX (ha p2 pins s1 σ H1 _ I1 h) λus s2 ⟨vs,H2,I2,r2,q2⟩=>?_) hs rfl));obtain⟨x,rfl,hz,hsp,q⟩:=q2;obtain⟨u,rfl,ru⟩:=r2.one;obtain⟨t,rfl⟩:=ru;have hsl:sizeLine=16777216:=sizeLine_eq;refine mf ⋯ (Calls.spliced_nil ?_);have I3:Inv X pins σ H2 {s2 with heap:=s2.heap.push (wS x t ((x.length:Int)-1)),toks:=s2.toks+1+1}:=I2.kept λb o e=>JT _ e;have fp:=I2.fpOk (b:=s2.heap.objs.size) (H':=H2) (Ke _) (I2.hok.fresh (Ke _));obtain⟨f0,f1,f2,f3,f4,f5⟩:=fp;refine Bi (I3.ok.hd hc) (I:=s2.heap.objs.size) (x:=x) (t:=t) ⟨_,JZ _ rfl,rfl,rfl⟩ hz hsp λs' t' k keep eg ed eo=>?_;obtain⟨h',g',d',k',o'⟩:=s';cases eg;cases ed;cases eo;exact⟨.str _,H2,I3.turned (t':=k) (λb o hb e=>keep b o hb e) f0 f1 f3 f4 f5,⟨t',rfl⟩,q⟩
noncomputable def D8:V->Value
 | .ty n=>.type n
 | .ref a=>.ref a
 |_=>.none
noncomputable def sX:V->Bool
 | .ty _=>true
 | .ref _=>true
 |_=>false
theorem D'{c:V}{u:Value}(r:bo c u)(h:sX c=true):u=D8 c:=by
 cases c with
 |ty n=>exact r
 |ref a=>exact r
 |_=>cases h
noncomputable def E9(K:KM):List V->Hp->VK->Prop:=λxs H Q=>∃x c t b,xs=[x,c]/\sX c=true/\jl K H x t/\PySem.W.kitOne K t (D8 c)=some b/\Q (.bl b) H
theorem dB:im X (.builtin "isinstance") (E9 X.K):=by
 intro pins s σ H xs us Q I r h;obtain⟨x,c,t,b,rfl,hc,ty,e,q⟩:=h;obtain⟨u,v,rfl,ru,rv⟩:=r.two;rw[D' rv hc];exact zk I ru ty e λtk=>⟨.bl b,H,I.tok tk,rfl,q⟩
theorem wa(K:KM)(n:String):PySem.W.kitOne K (.type n) (.type n)=some true:=by
 unfold PySem.W.kitOne;rw[if_pos (beq_self_eq_true _)]
inductive Dt where
 |non | bl (b:Bool) | int (i:Int) | str (x:Str) | lst (ds:List Dt) | tup (ds:List Dt)
end
end L2
namespace bG
noncomputable abbrev G6:=List Nat
noncomputable abbrev bG:=List G6
noncomputable def eR(p:bG)(r c:Nat):Prop:=p.length=r/\∀x∈p,x.length=c
noncomputable def fB(p:bG):bG:=p.map List.reverse
noncomputable def col(p:bG)(i:Nat):G6:=p.reverse.map λx=>x.getD i 0
noncomputable def fK(p:bG):bG:=(List.range (p.headD []).length).map (col p)
noncomputable def br:Nat->bG->bG
 |0,p=>p
 |n+1,p=>br n (fK p)
noncomputable def turned(p:bG)(t:Nat):bG:=br (t%4) (if 4<=t then fB p else p)
theorem Ce{p:bG}{r c i:Nat}(h:eR p r c)(hi:i<r):(p.getD i []).length=c:=by
 have hl:i<p.length:=by rw[h.1];exact hi
 rw[List.getD_eq_getElem?_getD,JR hl];exact h.2 _ (J1 hl)
theorem bI{p:bG}{r c:Nat}(h:eR p r c)(hr:0<r):(p.headD []).length=c:=by
 have:=Ce h hr;cases p with
 |nil=>have:=h.1;simp at this;omega
 |cons x p=>simpa using this
theorem gG{p:bG}{r c:Nat}(h:eR p r c):eR (fB p) r c:=by
 refine⟨by simp[fB,h.1],λx hx=>?_⟩;obtain⟨y,hy,rfl⟩:=Ky.mp hx;rw[J_];exact h.2 y hy
theorem sO{p:bG}{r c:Nat}(h:eR p r c)(hr:0<r):eR (fK p) c r:=by
 refine⟨by unfold fK;rw[JU,List.length_range,bI h hr],λx hx=>?_⟩;obtain⟨i,_,rfl⟩:=Ky.mp hx;simp[col,h.1]
theorem cV:∀(n:Nat) {p:bG} {r c:Nat},eR p r c->0<r->0<c->eR (br n p) (if n%2=0 then r else c) (if n%2=0 then c else r)
 |0,_,_,_,h,_,_=>h
 |n+1,p,r,c,h,hr,hc=>by
  have:=cV n (sO h hr) hc hr;show eR (br n (fK p)) _ _
  by_cases e:n%2=0
  ·rw[if_pos e,if_pos e]at this
   rw[if_neg ⋯,if_neg ⋯];exact this
  ·rw[if_neg e,if_neg e]at this
   rw[if_pos ⋯,if_pos ⋯];exact this
theorem vp{p:bG}{r c:Nat}(h:eR p r c)(hr:0<r)(hc:0<c)(t:Nat):eR (turned p t) (if t%2=0 then r else c) (if t%2=0 then c else r):=by
 unfold turned;have e:t%4%2=t%2:=by omega
 rw[<- e]
 split
 ·exact cV _ (gG h) hr hc
 ·exact cV _ h hr hc
theorem mw(a b:Nat)(p:bG):br a (br b p)=br (b+a) p:=by
 induction b generalizing p with
 |zero=>rw[Nat.zero_add];rfl
 |succ b ih=>show br a (br b (fK p))=_;rw[ih,Nat.add_right_comm];rfl
noncomputable def after(t u:Nat):Nat:=if u<4 then t/4*4+(t+u)%4 else(1-t/4)*4+(u+8-t)%4
noncomputable def tH(t:Nat):Nat:=if t<4 then(4-t)%4 else t
end bG
namespace QL
open PySem L2 bG
noncomputable def tx(r:KO):Str:=⟨r.toArray⟩
noncomputable def aE(p:bG):List V:=p.map λr=>V.str (tx r)
theorem ax(r:KO):(tx r).length=r.length:=by show r.toArray.size=r.length;simp
theorem gF(r:KO):(tx r).cps.toList=r:=by show r.toArray.toList=r;simp
theorem av(p:bG):(aE p).length=p.length:=by unfold aE;simp
theorem bc{p:bG}{i:Nat}(h:i<p.length):(aE p)[i]?=some (V.str (tx p[i])):=by unfold aE;rw[JW,JR h];rfl
theorem eF(p:bG)(r:KO):aE (p++[r])=aE p++[V.str (tx r)]:=by unfold aE;simp
theorem Cq:∀(ys:List (List Nat)),Txt.join (Str.ofString "") (ys.map tx)=tx ys.flatten
 | []=>rfl
 |y::ys=>by
  have key:∀(zs:List (List Nat)) (a:KO),(zs.map tx).foldl (λacc (p:Str)=>acc++(Str.ofString "").cps++p.cps) a.toArray=(a++zs.flatten).toArray:=by
   intro zs
   induction zs with
   |nil=>intro a;simp
   |cons z zs ih=>
    intro a;rw[Kl,List.foldl_cons];have e:a.toArray++(Str.ofString "").cps++(tx z).cps=(a++z).toArray:=by
     have e0:(Str.ofString "").cps=#[]:=rfl;rw[e0];show a.toArray ++ #[]++z.toArray=_;simp
    rw[e,ih];simp
  show(⟨(ys.map tx).foldl (λacc (p:Str)=>acc++(Str.ofString "").cps++p.cps) (tx y).cps⟩:Str)=_;show(⟨(ys.map tx).foldl (λacc (p:Str)=>acc++(Str.ofString "").cps++p.cps) y.toArray⟩:Str)=_;rw[key]
  rfl
theorem fS(r:KO):Txt.join (Str.ofString "") (r.map λc=>(⟨#[c]⟩:Str))=tx r:=by
 have e:(r.map λc=>(⟨#[c]⟩:Str))=(r.map λc=>[c]).map tx:=by rw[J7];rfl
 rw[e,Cq]
 congr 1
 clear e
 induction r with
 |nil=>rfl
 |cons c r ih=>simp[ih]
noncomputable def rV(p:bG):Prop:=p.length<=64/\∀r∈p,r.length<=64
theorem rV.of{p:bG}{r c:Nat}(h:eR p r c)(hr:r<=64)(hc:c<=64):rV p:=⟨by rw[h.1];exact hr,λx hx=>by rw[h.2 x hx];exact hc⟩
theorem bd{n:Nat}(h:n<=1000000):n<sizeLine:=by have:=sizeLine_eq;omega
theorem ak{n:Nat}(h:n<=1000000):n<=sizeLine:=by have:=sizeLine_eq;omega
theorem ae{H:Hp}{l:Addr}{o:HO}(h:H l=none):aC H (aA H l o):=λb u e=>by rw[am (aD e h)];exact e
theorem fP{H0 H:Hp}{l:Addr}{o:HO}(s:aC H0 H)(h:H0 l=none):aC H0 (aA H l o):=λb u e=>by rw[am (aD e h)];exact s b u e
theorem fo{p:bG}{r c i:Nat}(h:eR p r c)(hi:i<r):∃hl:i<p.length,(p[i]).length=c:=⟨by rw[h.1];exact hi,h.2 _ (J1 _)⟩
noncomputable def cO(H:Hp)(p:bG)(Q:VK):Prop:=∀(l:Addr) (H':Hp),H l=none->H' l=some (.lst (aE p))->aC H H'->Q (.ref l) H'
theorem Ct{α:Type}{xs:List α}{i:Int}(h0:0<=i)(h1:i<xs.length):∃v,v∈xs/\h_ xs i=some v:=by
 have hb:i.toNat<xs.length:=by omega
 obtain⟨j,hj⟩:∃j:Nat,i=(j:Int):=⟨i.toNat,⋯⟩;subst hj;exact⟨xs[j]'⋯,J1 _,bt (JR ⋯)⟩
theorem ua(K:KM):PySem.W.kitOne K (.type "int") (.type "bool")=some false:=by kernel_rfl
end QL
namespace L2
open PySem PySem.Spec PyProof.Rows
section
variable {X:Cx}
theorem bb:im X (.builtin "len") (λxs H Q=>∃p ys,xs=[.ref p]/\aU X.K H p ys/\Q (.int ys.length) H):=λpins s σ H xs us Q I r ⟨p,ys,e,h,q⟩=>lV pins s σ H xs us Q I r ⟨p,ys,e,.inl h,q⟩
theorem kf:im X (.builtin "len") (λxs H Q=>∃p ys,xs=[.ref p]/\ba X.K H p ys/\Q (.int ys.length) H):=λpins s σ H xs us Q I r ⟨p,ys,e,h,q⟩=>lV pins s σ H xs us Q I r ⟨p,ys,e,.inr h,q⟩
theorem vI{K:KM}{g:TG}{ti:TT}{te:TE}{σ:St}{H:Hp}{Q:List V->Hp->Prop}{a:Addr}{xs:List V}(Pv:Nat->List V->St->Hp->Prop)(h0:Pv 0 [] σ H)(hz:∀i acc σ H,Pv i acc σ H->acc.length<sizeLine)(hi:∀i acc σ H,Pv i acc σ H->i<=xs.length)
  (hl:∀i acc σ H,Pv i acc σ H->aU K H a xs)
  (hs:∀i x acc σ H,xs.reverse[i]?=some x->Pv i acc σ H->g x σ H λσ2 H3=>ti σ2 H3 λb H4=>if b=true then te σ2 H4 λv H5=>Pv (i+1) (acc++[v]) σ2 H5 else Pv (i+1) acc σ2 H4)
  (he:∀acc σ H,Pv xs.length acc σ H->Q acc H):i7 (Gd K a xs.length) g ti te σ H Q:=by
 have rv:∀{i:Nat} {x:V},i<xs.length->xs[xs.length-1-i]?=some x->xs.reverse[i]?=some x:=fun{i x} hi e=>by rw[List.getElem?_reverse hi];exact e
 exact kj (J:=Gd K a xs.length) (g:=g) (ti:=ti) (te:=te) (Q:=Q) (n:=xs.length) Pv h0 hz hi (λacc σ H w=>rfl)
  (λi acc σ H hlt w=>⟨xs,xs[xs.length-1-i]'⋯,hl _ _ _ _ w,hlt,JR ⋯⟩) (λi x acc σ H H2 hlt w y=>by obtain⟨rfl,hx⟩:=y;exact hs i x acc σ H2 (rv hlt (hx xs (hl _ _ _ _ w))) w) he
theorem DT(i j:Int):(Ef (.int i) (.int j)=true)=True:=by simp[Ef]
theorem ja{a:Expr}{ta:TE}(ha:PE X a ta)(he:∀whole,isTrue a X.env whole=(do let v <- whole;standAt a.pos;holding [v] (truthy v))):PT X a (vC ta):=by
 intro pins s σ H Q I h;rw[he];refine wpAny_bind (bX (ha pins s σ H _ I h) λv s1 ⟨x,H1,I1,r1,k,e,q⟩=>?_);subst e;cases r1;exact wpAny_bind (wpAny_standAt (wpAny_holding (wpAny_truthy_bool ⟨H1,I1,q⟩)))
noncomputable def tf(J:It)(g:TG)(tb:TS)(D:iP)(σ:St)(H:Hp):Prop:=∃W:Nat->Nat->St->Hp->Prop,(∃m,W 0 m σ H)/\∀i m σ H,W i m σ H ->
 (J.stop i H/\D.nx σ H)\/(J.go i H/\∃N:St->Hp->Prop,(∀σ' H',N σ' H'->∃m',m'<m/\W (i+1) m' σ' H')/\∀x H',J.yld i H x H'->g x σ H' λσ2 H2=>tb {D with nx:=N,ct:=N,bk:=D.nx} σ2 H2)
noncomputable def BU(wi:TI)(g:TG)(tb:TS):TS:=λD σ H=>wi σ H λJ H1=>tf J g tb D σ H1
theorem bu{tg iter:Expr}{body:List Stmt}{wi:TI}{g:TG}{tb:TS}{pos:Pos}(hp:PassesOwn (model X.prog X.w) X.A X.env X.xe)(hc:X.calm=true)(hi:PI X tg iter wi)(hg:PG X tg g)(hb:vU X body tb)
  (hs:∀x,foldedSetIterable iter X.env x=pure x:=by intro _;rfl):PS X (.For tg iter body [] pos) (BU wi g tb):=Fx hp hc hi hg hb hs
section
variable {K:KM}{g:TG}{tb:TS}{D:iP}{σ:St}{H:Hp}
theorem dh{a:Addr}{xs:List V}(Pv:Nat->St->Hp->Prop)(h0:Pv 0 σ H)(hl:∀i σ H,i<=xs.length->Pv i σ H->aU K H a xs)
  (hs:∀i x σ H,xs[i]?=some x->Pv i σ H->g x σ H λσ2 H2=>tb {D with nx:=Pv (i+1),ct:=Pv (i+1),bk:=D.nx} σ2 H2) (hd:∀σ H,Pv xs.length σ H->D.nx σ H):tf (Dk K a) g tb D σ H:=CM Pv h0 hl hs hd
theorem pR{a:Addr}{xs:List V}(Pv:Nat->St->Hp->Prop)(h0:Pv 0 σ H)(hl:∀i σ H,i<=xs.length->Pv i σ H->ba K H a xs)
  (hs:∀i x σ H,xs[i]?=some x->Pv i σ H->g x σ H λσ2 H2=>tb {D with nx:=Pv (i+1),ct:=Pv (i+1),bk:=D.nx} σ2 H2) (hd:∀σ H,Pv xs.length σ H->D.nx σ H):tf (El K a) g tb D σ H:=DD Pv h0 hl hs hd
theorem fX{lo:Int}{n:Nat}(Pv:Nat->St->Hp->Prop)(h0:Pv 0 σ H)
  (hs:∀i σ H,i<n->Pv i σ H->g (.int (lo+i)) σ H λσ2 H2=>tb {D with nx:=Pv (i+1),ct:=Pv (i+1),bk:=D.nx} σ2 H2) (hd:∀σ H,Pv n σ H->D.nx σ H):tf (AZ lo n) g tb D σ H:=Au Pv h0 hs hd
end
end
theorem aW:bootBuiltins "len"=some (.builtin "len"):=by decide +kernel
theorem iJ:bootBuiltins "list"=some (.type "list"):=by decide +kernel
theorem wf:bootBuiltins "tuple"=some (.type "tuple"):=by decide +kernel
theorem EF:bootBuiltins "int"=some (.type "int"):=by decide +kernel
theorem Dy:bootBuiltins "bool"=some (.type "bool"):=by decide +kernel
theorem eZ:bootBuiltins "isinstance"=some (.builtin "isinstance"):=by decide +kernel
theorem CW:bootBuiltins "all"=some (.builtin "all"):=by decide +kernel
end L2
namespace PtM
open PySem PySem.Builtin.Str PySem.StrLaws
end PtM
namespace L2
open PySem PySem.Spec PyProof.Rows
section
variable {X:Cx}{a b c d:Expr}{ta tb tc td:TE}{pos:Pos}
noncomputable def E7(K:KM):List V->Hp->VK->Prop:=λxs H Q=>∃(p:Addr) (bs:List Bool),xs=[.ref p]/\aU K H p (bs.map V.bl)/\Q (.bl (bs.all id)) H
theorem yF:∀{bs:List Bool} {us:KQ} {i:Nat} {u:Value},bj (bs.map V.bl) us->us[i]?=some u->∃k,bs[i]?=some k/\u=.bool k
 | [],_,_,_,.nil,e=>by simp at e
 |k::bs,_,0,u,.cons r _,e=>by simp at e;subst e;exact⟨k,rfl,r⟩
 |k::bs,_,i+1,u,.cons _ t,e=>by
  obtain⟨k',h1,h2⟩:=yF (i:=i) t (by simpa using e);exact⟨k',by simpa using h1,h2⟩
theorem zi(bs:List Bool):((List.range bs.length).all λi=>(bs[i]?).getD true)=bs.all id:=by
 rw[Bool.eq_iff_iff,Kz,Kz]
 constructor
 ·intro h x hx
  obtain⟨i,hi,e⟩:=List.getElem_of_mem hx;have q:=h i (List.mem_range.mpr hi);rw[JR hi,Option.getD_some,e]at q;exact q
 ·intro h i hi
  have hi':=List.mem_range.mp hi;rw[JR hi',Option.getD_some];exact h _ (J1 hi')
theorem vw(hc:X.calm=true):im X (.builtin "all") (E7 X.K):=by
 intro pins s σ H xs us Q I r h;obtain⟨p,bs,rfl,hs,q⟩:=h;obtain⟨u,rfl,ru⟩:=r.one;cases ru;obtain⟨its,rv,pl,_⟩:=I.list hs;have hlt:p<s.heap.objs.size:=by obtain⟨_,e,_⟩:=pl.isList;exact Kh e
 have hlen:its.length=bs.length:=by rw[<- rv.length,JU]
 refine call_all_walk (wpAny_pyIter_list pl.isList ?_);refine⟨s.heap.objs.size,[s.heap.objs.size,p],[s.heap.objs.size],its.toArray.size,_,_,λi=>(bs[i]?).getD true,rfl,Walks.list (A:=X.A.in1) (I.ok.hd hc) _ p (Ka hlt) its.toArray,
  ⟨⟨_,JZ _ rfl,rfl,rfl⟩,pl.isList.push _⟩,λi v s' Q' E' hP hQ=>?_,λh' tk hk=>?_⟩
 ·obtain⟨k,e,rfl⟩:=yF (i:=i) rv (by simpa using hP)
  dsimp only at hQ;rw[e,Option.getD_some]at hQ;exact wpAny_truthy_bool hQ
 ·have e:((List.range its.toArray.size).all λi=>(bs[i]?).getD true)=bs.all id:=by rw[J0,hlen];exact zi bs
  rw[e];exact⟨.bl _,H,I.kept (t':=tk) λb o eo=>hk b o (λhm=>by rw[JV.mp hm]at eo;exact Kn _ (Kh eo)) (JT _ eo),rfl,q⟩
end
section
variable {K:KM}{g:TG}{ti:TT}{te:TE}{σ:St}{H:Hp}{Q:List V->Hp->Prop}
theorem CU{a:Addr}{xs:List V}(Pv:Nat->List V->St->Hp->Prop)(h0:Pv 0 [] σ H)(hz:∀i acc σ H,Pv i acc σ H->acc.length<sizeLine)(hi:∀i acc σ H,Pv i acc σ H->i<=xs.length)
  (hl:∀i acc σ H,Pv i acc σ H->ba K H a xs)
  (hs:∀i x acc σ H,xs[i]?=some x->Pv i acc σ H->g x σ H λσ2 H3=>ti σ2 H3 λb H4=>if b=true then te σ2 H4 λv H5=>Pv (i+1) (acc++[v]) σ2 H5 else Pv (i+1) acc σ2 H4)
  (he:∀acc σ H,Pv xs.length acc σ H->Q acc H):i7 (El K a) g ti te σ H Q:=by
 exact kj (J:=El K a) (g:=g) (ti:=ti) (te:=te) (Q:=Q) (n:=xs.length) Pv h0 hz hi (λacc σ H w=>⟨xs,hl _ _ _ _ w,Ke _⟩)
  (λi acc σ H hlt w=>⟨xs,xs[i],hl _ _ _ _ w,JR hlt⟩) (λi x acc σ H H2 hlt w y=>by obtain⟨rfl,hx⟩:=y;exact hs i x acc σ H2 (hx xs (hl _ _ _ _ w)) w) he
end
end L2
namespace QL
open PySem L2 bG PySem.Builtin PySem.Builtin.Str
theorem xv(row:KO)(i k:Nat)(h:i+k<=row.length):((List.range k).map λm=>i+m).filterMap (λj=>row[j]?)=(row.drop i).take k:=by
 rw[List.filterMap_map]
 induction k with
 |zero=>simp
 |succ k ih=>
  rw[List.range_succ,List.filterMap_append,ih ⋯,List.take_add_one,List.getElem?_drop];have e:i+k<row.length:=by omega
  simp[JR e]
noncomputable def BT(n:Nat)(d:Int):Option Int->Int
 |none=>d
 |some i=>max 0 (min (if i<0 then i+(n:Int) else i) (n:Int))
theorem vj(n d:Nat)(v:Option Int):BT n (d:Int) v=((HT.sIx n d v:Nat):Int):=by
 cases v with
 |none=>rfl
 |some v=>
  show max 0 (min (if v<0 then v+(n:Int) else v) (n:Int))=(((if v<0 then(v+(n:Int)).toNat else min v.toNat n:Nat)):Int)
  by_cases hv:v<0
  ·rw[if_pos hv,if_pos hv,Int.max_def,Int.min_def]
   split<;>split at * <;> omega
  ·rw[if_neg hv,if_neg hv,Int.max_def,Int.min_def]
   split<;>split at * <;> omega
theorem xa(lo hi:Option Int)(n:Nat):strSliceIndices lo hi 1 n=sliceRange (BT n ((0:Nat):Int) lo) (BT n (n:Int) hi) 1:=by cases lo<;>cases hi<;>rfl
theorem rM(row:KO)(lo hi:Option Int):Txt.slice (tx row) lo hi=tx ((row.drop (HT.sIx row.length 0 lo)).take (HT.sIx row.length row.length hi-HT.sIx row.length 0 lo)):=by
 have hl:=HT.sIx_le row.length 0 (Kf _) lo;have hh:=HT.sIx_le row.length row.length (Ke _) hi;have key:strSliceIndices lo hi 1 (tx row).length=(List.range (HT.sIx row.length row.length hi-HT.sIx row.length 0 lo)).map λm=>HT.sIx row.length 0 lo+m:=by
  rw[ax,xa,vj,vj];generalize HT.sIx row.length 0 lo=a;generalize HT.sIx row.length row.length hi=b;unfold sliceRange;have en:(if(1:Int)>0 then(if(a:Int)<(b:Int) then((b:Int)-(a:Int)+1-1)/1 else 0) else(if(a:Int)>(b:Int) then((a:Int)-(b:Int)-1-1)/(-1) else 0)).toNat=b-a:=by
   rw[if_pos nofun]
   split<;>omega
  show(List.range (if(1:Int)>0 then(if(a:Int)<(b:Int) then((b:Int)-(a:Int)+1-1)/1 else 0) else(if(a:Int)>(b:Int) then((a:Int)-(b:Int)-1-1)/(-1) else 0)).toNat).map (fun(k:Nat)=>((a:Int)+1*(k:Int)).toNat)=_;rw[en];refine List.map_congr_left λm _=>?_;omega
 unfold Txt.slice;rw[key];generalize HT.sIx row.length 0 lo=a at hl ⊢;generalize HT.sIx row.length row.length hi=b at hh ⊢
 by_cases hab:a+(b-a)<=row.length
 ·have e:(((List.range (b-a)).map λm=>a+m).filterMap λj=>(tx row).cps[j]?)=(row.drop a).take (b-a):=by
   rw[<- xv row a (b-a) hab]
   congr 1
   funext j
   show row.toArray[j]?=row[j]?;simp
  rw[e]
  split
  ·rename_i hw
   simp at hw;rw[ax]at hw;have ha0:a=0:=by omega
   have hb0:b-a=row.length:=by omega
   rw[ha0,KJ];rw[ha0]at hb0;rw[hb0,Kt]
  ·rfl
 ·exact absurd hab ⋯
end QL
namespace L2
open PySem PySem.Spec PyProof.Rows
section
variable {X:Cx}{K:KM}{tg:Expr}
theorem oV(hK:X.K=K):Fs X (ze K):=hK▸Cf
end
end L2
namespace PySem
open Sem (wp)
noncomputable def TrD(cp:Value->Prop)(h base:Heap)(e:Addr)(cls:Value)(od:K1)(fl:Value):Prop:=
 ∃oe vs T oT ts,h.get? e=some oe/\oe.cls=cls/\oe.dict=od/\oe.data=.fields vs/\vs[1]?=some (.ref T)/\base.get? T=none/\T≠e/\h.get? T=some oT/\oT.data=.fields ts/\ts[3]?=some fl/\∃cx,vs[2]?=some cx/\cp cx
structure my(cp:Value->Prop)(base:Heap)(l:List Env)(e:Addr)(cls:Value)(od:K1)(fl:Value)(h:Heap):Prop where
 st:base.StaysIn h
 new:base.get? e=none
 ff:h.FunFrames base l
 tr:TrD cp h base e cls od fl
theorem qG(o:Obj)(f:Array Value->Array Value):(Obj.mapFields f o).dict=o.dict:=by unfold Obj.mapFields;split<;>rfl
section
variable {cp:Value->Prop}{M:Model}{A:KZ}{E:KL}{s:KP}{base:Heap}{env:Env}{outer:List Env}{L e:Addr}{Q:Unit->Shared->Prop}
theorem yB{cls fl:Value}{od:K1}{l:List Env}(x:my cp base l e cls od fl s.heap)(h:∀h',my cp base l e cls od .none h'->s.heap.UpToSlots h'->Q () {s with heap:=h' }):wpAny M A (setFlight (.ref e) none) Q E s:=by
 obtain⟨oe,vs,T,oT,ts,he,hc,ho,hd,h1,hnT,hTe,hT,hdT,h3,hcx⟩:=x.tr;have hsz:3<ts.size:=(Array.getElem?_eq_some_iff.mp h3).1;have oth:∀b,b≠T->(s.heap.update T (Obj.mapFields (·.setIfInBounds 3 Value.none))).get? b=s.heap.get? b:=λb hb=>JY _ _ (Ne.symm hb);have nrec:∀b o,s.heap.get? b=some o->(∀vs,o.data≠.fields vs)->b≠T:=λb o hb hnf q=>by rw[q,hT]at hb;injection hb with hb;subst hb;exact hnf ts hdT
 unfold setFlight;refine wpAny_bind (wpAny_field he hd h1 ?_);rw[if_pos (show(Value.ref T != Value.none)=true from by simp)];refine wpAny_setField hT hdT hsz (h _ ⟨λb o hb=>(oth b λq=>by rw[q,hnT]at hb;cases hb).trans (x.st b o hb),x.new,x.ff.of_keeps λb o hb hnf=>⟨o,(oth b (nrec b o hb hnf)).trans hb,rfl⟩,?_⟩ λb o hb hnf=>⟨o.slots,(oth b (nrec b o hb hnf)).trans hb⟩);exact⟨oe,vs,T,_,_,(oth e (Ne.symm hTe)).trans he,hc,ho,hd,h1,hnT,hTe,J3 _ hT (Obj.isFreed_of_fields (Obj.data_mapFields hdT _)),Obj.data_mapFields hdT _,by simp[hsz],hcx⟩
theorem B3{oe:Obj}{vs:Array Value}{head:Value}{hadNext:Bool}(hfr:A.frames=some (env::outer))(hl:s.heap.FunFrames base (env::outer))(hf:env.frame=some L)
  (he:s.heap.get? e=some oe) (hkb:base.StaysIn s.heap) (hen:base.get? e=none) (hd:oe.data=.fields vs) (hsz:1<vs.size) (hcx:∃cx,vs[2]?=some cx/\cp cx)
  (h:∀h',my cp base (env::outer) e oe.cls oe.dict (rawInt L) h'->s.heap.UpToSlots h'->Q () {s with heap:=h' }) :
  wpAny M A (do let a <- frameOf env;let pl <- entryPlaceOf L hadNext;let b <- EntryCells.newEntry head a .none (rawInt L) .none pl;setField (.ref e) 1 b) Q E s:=by
 have hene:e∉(env::outer).filterMap (·.frame):=λhm=>by
  obtain⟨_,o,ho,hnf⟩:=hl.mem hm;rw[he]at ho;injection ho with ho;subst ho;exact hnf vs hd
 refine wpAny_bind (wpAny_frameOf_fun hfr hl hf λh₁ hs₁=>?_);refine wpAny_bind (wpAny_entryPlaceOf λpl hpl=>?_);unfold EntryCells.newEntry newFields;refine wpAny_bind (wpAny_newObj_type ?_ (hpl.sizeOk5 _ _ _ _ _));have he₁:h₁.get? e=some oe:=(hs₁.2.1 e hene).trans he;have kb₁:base.StaysIn h₁:=λb o hb=>(hs₁.2.1 b λhm=>by rw[(hl.mem hm).1]at hb;cases hb).trans (hkb b o hb);generalize hT0:({cls:=.type "traceback",dict:=none,data:=.fields ([head,.ref L,.none,rawInt L,.none]++(if pl.isEmpty then List.replicate 6 Value.none else pl)).toArray}:Obj)=To;have dTo:To.data=.fields ([head,.ref L,.none,rawInt L,.none]++(if pl.isEmpty then List.replicate 6 Value.none else pl)).toArray:=by rw[<- hT0]
 have he₂:=JT (h:=h₁) To he₁;have hTe:h₁.objs.size≠e:=Nat.ne_of_gt (Kh he₁);have keep:∀b o,b≠e->h₁.get? b=some o->((h₁.push To).update e (Obj.mapFields (·.setIfInBounds 1 (Value.ref h₁.objs.size)))).get? b=some o:=λb o hbe hb=>by
  rw[JY _ _ (Ne.symm hbe)];exact JT _ hb
 have nrec:∀b o,s.heap.get? b=some o->(∀vs,o.data≠.fields vs)->b≠e:=λb o hb hnf q=>by
  rw[q,he]at hb
  injection hb with hb
  subst hb;exact hnf vs hd
 refine wpAny_setField he₂ hd hsz (h _ ?_ ?_)
 ·have hd₃:=Obj.data_mapFields hd (·.setIfInBounds 1 (Value.ref h₁.objs.size))
  refine⟨λb o hb=>keep b o (λq=>by rw[q,hen]at hb;cases hb) (kb₁ b o hb),hen,hl.of_keeps λb o hb hnf=>?_,?_⟩
  ·obtain⟨sl,hs⟩:=hs₁.2.2 b o hb
   exact⟨_,keep b _ (nrec b o hb hnf) hs,rfl⟩
  ·refine⟨_,_,h₁.objs.size,To,_,J3 _ he₂ (Obj.isFreed_of_fields hd₃),Obj.cls_mapFields _ _,qG _ _,hd₃,by simp[hsz],kb₁.fresh,hTe,?_,dTo,?_,?_⟩
   ·rw[JY _ _ (Ne.symm hTe)]
    refine JZ _ ?_;rw[<- hT0];rfl
   ·first | (simp;done) | (rcases hpl with rfl | ⟨_,_,_,_,_,_,_,rfl⟩<;>simp)
   ·obtain⟨cx,h2,hp⟩:=hcx
    exact⟨cx,by rw[Array.getElem?_setIfInBounds_ne nofun];exact h2,hp⟩
 ·intro b o hb hnf
  obtain⟨sl,hs⟩:=hs₁.2.2 b o hb;exact⟨sl,keep b _ (nrec b o hb hnf) hs⟩
theorem FR{cls:Value}{od:K1}(hfr:A.frames=some (env::outer))(hf:env.frame=some L)(x:my cp base (env::outer) e cls od .none s.heap)
  (h:∀h',my cp base (env::outer) e cls od (rawInt L) h'->s.heap.UpToSlots h'->Q () {s with heap:=h' }):wpAny M A (noteFrame (.ref e) env) Q E s:=by
 obtain⟨oe,vs,T,oT,ts,he,hc,ho,hd,h1,hnT,hTe,hT,hdT,h3,hcx⟩:=x.tr;subst hc ho;unfold noteFrame;simp only[hf];refine wpAny_bind (wpAny_field he hd h1 ?_);rw[if_pos (show(Value.ref T != Value.none)=true from by simp)];refine wpAny_bind (wpAny_field hT hdT h3 ?_);rw[if_neg (show ¬ ((Value.none==rawInt L)=true) from by simp[rawInt])];refine wpAny_bind (wpAny_setField hT hdT (Array.getElem?_eq_some_iff.mp h3).1 ?_);have oth:∀b,b≠T->(s.heap.update T (Obj.mapFields (·.setIfInBounds 3 Value.none))).get? b=s.heap.get? b:=λb hb=>JY _ _ (Ne.symm hb);have nrec:∀b o,s.heap.get? b=some o->(∀vs,o.data≠.fields vs)->b≠T:=λb o hb hnf q=>by rw[q,hT]at hb;injection hb with hb;subst hb;exact hnf ts hdT
 refine B3 hfr (x.ff.of_keeps λb o hb hnf=>⟨o,(oth b (nrec b o hb hnf)).trans hb,rfl⟩) hf ((oth e (Ne.symm hTe)).trans he) (λb o hb=>(oth b λq=>by rw[q,hnT]at hb;cases hb).trans (x.st b o hb)) x.new hd (Array.getElem?_eq_some_iff.mp h1).1 hcx λh' y up=>h h' y λb o hb hnf=>up b o ((oth b (nrec b o hb hnf)).trans hb) hnf
theorem Fp{oe:Obj}{vs:Array Value}(hfr:A.frames=some (env::outer))(hl:s.heap.FunFrames base (env::outer))(hf:env.frame=some L)(he:s.heap.get? e=some oe)(hkb:base.StaysIn s.heap)(hen:base.get? e=none)(hd:oe.data=.fields vs)(h1:vs[1]?=some .none)(hcx:∃cx,vs[2]?=some cx/\cp cx)
  (h:∀h',my cp base (env::outer) e oe.cls oe.dict (rawInt L) h'->s.heap.UpToSlots h'->Q () {s with heap:=h' }):wpAny M A (noteFrame (.ref e) env) Q E s:=by
 unfold noteFrame;simp only[hf];refine wpAny_bind (wpAny_field he hd h1 ?_);rw[if_neg nofun];exact B3 hfr hl hf he hkb hen hd (Array.getElem?_eq_some_iff.mp h1).1 hcx h
theorem my.drop{cls fl:Value}{od:K1}{h:Heap}(x:my cp base (env::outer) e cls od fl h):my cp base outer e cls od fl h:=⟨x.st,x.new,x.ff.2.2,x.tr⟩
theorem EC{cls:Value}{od:K1}(hfr:A.frames=some (env::outer))(hf:env.frame=some L)(x:my cp base (env::outer) e cls od .none s.heap)
  (h:∀h',my cp base outer e cls od .none h'->s.heap.UpToSlots h'->Q () {s with heap:=h' }):wpAny M A (leaving env (.ref e)) Q E s:=by
 unfold leaving;exact wpAny_bind (FR hfr hf x λh1 y1 u1=>yB y1 λh2 y2 u2=>h h2 y2.drop (u1.trans u2))
theorem yz{oe:Obj}{vs:Array Value}(hfr:A.frames=some (env::outer))(hl:s.heap.FunFrames base (env::outer))(hf:env.frame=some L)(he:s.heap.get? e=some oe)(hkb:base.StaysIn s.heap)(hen:base.get? e=none)(hd:oe.data=.fields vs)(h1:vs[1]?=some .none)(hcx:∃cx,vs[2]?=some cx/\cp cx)
  (h:∀h',my cp base outer e oe.cls oe.dict .none h'->s.heap.UpToSlots h'->Q () {s with heap:=h' }):wpAny M A (leaving env (.ref e)) Q E s:=by
 unfold leaving;exact wpAny_bind (Fp hfr hl hf he hkb hen hd h1 hcx λh1 y1 u1=>yB y1 λh2 y2 u2=>h h2 y2.drop (u1.trans u2))
end
end PySem
namespace L2
open PySem PySem.Spec PyProof.Rows
structure Fly0(P:KW)(w:K0)(outer:List Env)(H:Hp)(s:KP)(B:Heap)(H':Hp)(s':KP):Prop where
 st:B.StaysIn s'.heap
 ff:s'.heap.FunFrames B outer
 un:Un (nE outer) [] H H' s.heap s'.heap
 hok:j5 P w H' s'.heap
 cov:∀b o,H' b=some o->∃ob,B.get? b=some ob
 old:∀b o,s.heap.get? b=some o->b∉nE outer->∃o',B.get? b=some o'
 os:s'.os=s.os
 bare:AllBare s'.gens
structure FT(cp:Value->Prop)(P:KW)(w:K0)(outer:List Env)(H:Hp)(s:KP)(B:Heap)(H':Hp)(s':KP)(ea:Addr)(cls:Value)(od:K1):Prop extends Fly0 P w outer H s B H' s' where
 fl:my cp B outer ea cls od .none s'.heap
noncomputable def Gj(cp:Value->Prop)(P:KW)(w:K0):k7:=λouter H s E e s'=>∃ea cls od B H',e=.ref ea/\FT cp P w outer H s B H' s' ea cls od/\H' ea=none/\E cls od H'
noncomputable abbrev bE(P:KW)(w:K0):k7:=Gj (λv=>v=.none) P w
theorem bg{cp:Value->Prop}{P:KW}{w:K0}{X:Cx}:cX (Gj cp P w) X (λ_ _ _=>False):=λ_ _ _ _ _ _ _ h=>by
 obtain⟨_,_,_,_,_,_,_,_,f⟩:=h;exact f.elim
theorem zR{P:KW}{w:K0}{H:Hp}{B h h':Heap}(ok:j5 P w H h)(cov:∀b o,H b=some o->∃ob,B.get? b=some ob)(k:B.StaysIn h)(k':B.StaysIn h'):j5 P w H h':=λa o e=>
 (ok a o e).stay (λb u hb q=>by
  have hb':∃ob,B.get? b=some ob:=by
   rcases hb with rfl | hb
   ·exact cov _ _ e
   ·exact cov _ _ hb
  obtain⟨ob,hB⟩:=hb';have:=k b ob hB;rw[q]at this;cases this;exact k' b _ hB) (λ_ q=>q) λ_ _ q=>q
theorem bU.there{P:KW}{w:K0}{H:Hp}{h:Heap}{a:Addr}{o:HO}(x:bU P w H h a o):∃ob,h.get? a=some ob:=by
 cases o with
 |lst xs=>obtain⟨_,_,_,_,e⟩:=x;exact⟨_,e⟩
 |tup xs=>obtain⟨_,_,_,ob,e,_⟩:=x;exact⟨_,e⟩
 |dK kvs=>obtain⟨_,_,_,_,o,_,_,e,_⟩:=x;exact⟨_,e⟩
 |dT kvs=>obtain⟨_,_,_,_,o,_,_,e,_⟩:=x;exact⟨_,e⟩
 |set S n=>obtain⟨o,_,_,_,e,_⟩:=x;exact⟨_,e⟩
 |ins C dx fs=>obtain⟨_,_,_,e,_⟩:=x;exact⟨_,e⟩
 |own y=>exact x
 |xd fs=>obtain⟨_,⟨_,_,_,e,_⟩,_⟩:=x;exact⟨_,e⟩
 |rng lo hi=>obtain⟨_,_,_,e⟩:=x;exact⟨_,e⟩
 |frz ob u=>obtain⟨e,_⟩:=x;exact⟨_,e⟩
 |tbl ps=>exact⟨_,show h.get? a=some _ from x⟩
 |met f y=>exact⟨_,show h.get? a=some _ from x⟩
 |ext φ=>obtain⟨_,e,_⟩:=x;exact e
section
variable {P:KW}{w:K0}{K:KM}{mg:KS}{base:Heap}{N:KY}{qual:Str}{scope:Scope}{f:Addr}{cd:Value}{A:KZ}{outer:List Env}{s:KP}{H:Hp}{E E1:XK}{CX:k7}
theorem Fly0.up{cp:Value->Prop}{X:Cx}{pins:KN}{σ:St}{H1 H':Hp}{s1 s':KP}{B h':Heap}{ea:Addr}{cls:Value}{od:K1}(I:Inv X pins σ H1 s1)(hex:X.ex=[])(hst:X.stack=X.env::X.outer)(hfr:X.env.frame=some X.env.locals)(hP:X.prog=P)(hw:X.w=w)
  (x:Fly0 P w X.stack H1 s1 B H' s') (fl2:my cp B X.outer ea cls od .none h') (up:s'.heap.UpToSlots h') :
  FT cp P w X.outer X.H₀ X.s₀ B H' {s' with heap:=h' } ea cls od:=by
 have nex:∀b,b∉X.ex:=λb=>by rw[hex];simp
 have nfr:∀b o,X.s₀.heap.get? b=some o->b∉X.fs->b∉nE X.stack:=λb o e hb hm=>by
  rw[hst]at hm;unfold nE at hm;rw[List.filterMap_cons,hfr]at hm;rcases J8.mp hm with z | z
  ·exact absurd (Kh e) (by rw[z];exact Nat.not_lt.mpr I.ok.above)
  ·exact hb z
 have sub:∀b,b∈X.fs->b∈nE X.stack:=λb hb=>by
  rw[hst];unfold nE;rw[List.filterMap_cons,hfr];exact J9 _ hb
 have kB:∀b o,X.s₀.heap.get? b=some o->b∉X.fs->∃o',B.get? b=some o':=λb o e hb=>by
  obtain⟨o1,e1⟩:=I.base.there b o e (nex b);exact x.old b o1 e1 (nfr b o e hb)
 have fr0:∀b∈X.fs,X.H₀ b=none:=I.ok.frf;have sl:∀b o,X.s₀.heap.get? b=some o->X.H₀ b=none->b∈X.fs->∃sl,h'.get? b=some {o with slots:=sl}:=λb o e hn hb=>by
  obtain⟨sl1,e1⟩:=I.base.slot b o e hn hb (nex b);have n1:=I.base.free b o e hn (nex b);obtain⟨sl2,e2⟩:=x.un.slot b _ e1 n1 (sub b hb) (by simp);obtain⟨_,o3,e3,nf⟩:=x.ff.mem (sub b hb);rw[e2]at e3;cases e3;obtain⟨sl3,e4⟩:=up b _ e2 nf;exact⟨sl3,e4⟩
 refine⟨⟨fl2.st,fl2.ff,⟨λb o e hn hb _=>?_,λb o e hn hb _=>sl b o e hn hb,λb o e hn _=>?_,λb o e _=>?_,λb xs q=>x.un.tups b xs (I.base.tups b xs q),λb o u q=>x.un.frzs b o u (I.base.frzs b o u q),λb ps q=>?_⟩,zR x.hok x.cov x.st fl2.st,x.cov,kB,x.os.trans I.os,x.bare⟩,fl2⟩
 ·have e1:=I.base.keep b o e hn hb (nex b)
  have n1:=I.base.free b o e hn (nex b);have e2:=x.un.keep b o e1 n1 (nfr b o e hb) (by simp);obtain⟨o',eB⟩:=kB b o e hb;have:=x.st b o' eB;rw[e2]at this;cases this;exact fl2.st b _ eB
 ·obtain⟨o1,e1⟩:=I.base.there b o e (nex b)
  exact x.un.free b o1 e1 (I.base.free b o e hn (nex b)) (by simp)
 ·by_cases hb:b∈X.fs
  ·obtain⟨z,ez⟩:=sl b o e (fr0 b hb) hb
   exact⟨_,ez⟩
  ·obtain⟨o',eB⟩:=kB b o e hb
   exact⟨_,fl2.st b _ eB⟩
 ·obtain⟨m1,e1⟩:=I.base.tbls b ps q
  obtain⟨m2,e2⟩:=x.un.tbls b _ e1;exact⟨m1++m2,by rw[e2,Array.append_assoc]⟩
theorem aX{cp:Value->Prop}(hE:∀c d H',E1 c d H'->E c d H'):cX (Gj cp P w) (fU (Gj cp P w) P w K mg base N qual scope f cd A outer s H E) E1:=by
 intro pins σ H1 s1 e s' I x;obtain⟨ea,cls,od,B,H',rfl,fly,hn,q⟩:=x;refine EC I.ok.frames rfl fly.fl λh' fl2 up=>?_;exact⟨ea,cls,od,B,H',rfl,Fly0.up I rfl rfl rfl rfl rfl fly.toFly0 fl2 up,hn,hE _ _ _ q⟩
noncomputable def Cb(X:Cx)(E:XK):Prop:=∀(pins:KN) (σ:St) (H:Hp) (s:KP) (h':Heap) (e:Addr) (cls:Value) (vs:KQ),Inv X pins σ H s->Heap.MadeExcOf s.heap h' e cls vs->E cls none H->X.xe (.ref e) {s with heap:=h' }
theorem fq(hE:∀c d H',E1 c d H'->E c d H'):Cb (fU (bE P w) P w K mg base N qual scope f cd A outer s H E) E1:=by
 intro pins σ H1 s1 h1 e cls vs I x q;have hin:∀env∈(fU (bE P w) P w K mg base N qual scope f cd A outer s H E).stack,∀b,env.frame=some b->b∈nE (fU (bE P w) P w K mg base N qual scope f cd A outer s H E).stack:=λenv he b hb=>List.mem_filterMap.mpr ⟨env,he,hb⟩;obtain⟨t0,he0,ht0,htt⟩:=x.there;have nt:∀b,s1.heap.get? b=none->H1 b=none:=λb hb=>by
  cases z:H1 b with
  |none=>rfl
  |some o=>
   obtain⟨ob,hob⟩:=(I.hok b o z).there;rw[hb]at hob;cases hob
 have hff:=PySem.W.funFrames_hide I.stack hin;have fly0:Fly0 P w (fU (bE P w) P w K mg base N qual scope f cd A outer s H E).stack H1 s1 (PySem.W.hideAll s1.heap (nE (fU (bE P w) P w K mg base N qual scope f cd A outer s H E).stack)) H1 {s1 with heap:=h1}:=
  ⟨λb o e=>x.keeps b o (PySem.W.of_hideAll _ e),hff.of_keeps λb o e _=>⟨o,x.keeps b o e,rfl⟩,Un.kept x.keeps,I.hok.kept x.keeps,λb o z=>by
   obtain⟨ob,hob⟩:=(I.hok b o z).there;exact⟨ob,PySem.W.hideAll_get _ hob λhm=>by rw[I.stkFree b hm]at z;cases z⟩,λb o e hm=>⟨o,PySem.W.hideAll_get _ e hm⟩,rfl,I.bare⟩
 have newB:(PySem.W.hideAll s1.heap (nE (fU (bE P w) P w K mg base N qual scope f cd A outer s H E).stack)).get? e=none:=by
  cases z:(PySem.W.hideAll s1.heap (nE (fU (bE P w) P w K mg base N qual scope f cd A outer s H E).stack)).get? e with
  |none=>rfl
  |some o=>have:=PySem.W.of_hideAll _ z;rw[x.new]at this;cases this
 refine yz (cp:=λv=>v=.none) (s:={s1 with heap:=h1}) I.ok.frames fly0.ff rfl he0 fly0.st newB rfl rfl ⟨_,rfl,rfl⟩ λh' fl2 up=>?_;exact⟨e,cls,none,_,H1,rfl,Fly0.up I rfl rfl rfl rfl rfl fly0 fl2 up,nt e x.new,hE _ _ _ q⟩
end
structure v8(K:KM)(C:Addr)(bmB:KQ)(newId:String):Prop where
 exc:PySem.W.excIn K C bmB newId=true
theorem v8.obj{K:KM}{C:Addr}{bmB:KQ}{newId:String}{h:Heap}(c:v8 K C bmB newId)(X:K.In h):∃bm N nm q bs hdct sn sub ab col dd k0 k1 k2 k3 k5 mN,
  h.get? C=some (excClassObj nm q C N bs bm hdct sn sub ab col dd k0 k1 k2 k3 k5 newId)/\h.Ns N mN/\mN "__init__"=none/\OwnTail h bmB bm/\∃dd' cd sl,K.lookup C=some ⟨.type "type",dd',.cls cd,sl⟩/\cd.mro=.ref C::bm:=by
 have q:=c.exc;unfold PySem.W.excIn at q;cases hl:K.lookup C with
 |none=>rw[hl]at q;cases q
 |some ob=>
  rw[hl]at q
  split at q
  ·rename_i dd cd sl e
   cases e
   split at q
   ·rename_i C' bm k0 k1 k2 k3 n k5 hm hs
    simp only[Bool.and_eq_true,beq_iff_eq,Bool.not_eq_true']at q;obtain⟨⟨⟨⟨⟨rfl,rfl⟩,hdel⟩,ht⟩,hok⟩,hni⟩:=q;have ho:=X _ _ hl;have hsl:sl=#[k0,k1,k2,k3,some (.builtin n),k5]:=Array.toList_inj.mp hs;subst hsl;obtain⟨nm,bs,mro,ns,qn,hd,sn,sub,ab,col,del⟩:=cd;dsimp only at hm hdel hok hni ho;subst hm hdel;exact⟨bm,ns,nm,qn,bs,hd,sn,sub,ab,col,dd,k0,k1,k2,k3,k5,_,ho,.of_isNs (PySem.W.isNs_of_in X hok),PySem.W.nsMap_none_of_in X hok hni,PySem.W.tail_of_in X ht,dd,_,_,rfl,rfl⟩
   ·cases q
  ·cases q
section
variable {X:Cx}{x:Str}{np cpos pos:Pos}{e₀:Expr}{cn:K2}{t:TA}{C:Addr}{B Bn newId nid initId inN:String}{bm bmN:KQ}{E:XK}
noncomputable def sR(C:Addr)(E:XK)(t:TA):TS:=λ_ σ H=>t σ H λvs H1=>vs.length<=sizeLine/\E (.ref C) none H1
theorem A5(c:v8 X.K C bm newId)(Fn:ExcBaseFacts Bn newId inN bmN)(hBn:bm.contains (.type Bn)=true)(FB:ExcBaseFacts B nid initId bm)(hc:X.calm=true)(hg:Gl X x)(hm:X.mg x=some (.ref C))(hx:Cb X E)(ha:PA X (e₀::cn) t)
  (hd:autoParam ((x==("__debug__":Str))=false) zzK._auto_1)
  (he:autoParam (starEach (e₀::cn) X.env=(false,eval e₀ X.env)::starEach cn X.env) zzR._auto_1) (hpl:autoParam ((backTo cpos (starEach cn X.env)).any (·.1)=false) zzR._auto_1) :
  PS X (.Raise (some (.Call (.Name x np) (e₀::cn) [] cpos)) none pos) (sR C E t):=by
 intro pins s σ H D I h;obtain⟨tl,N,nm,q,bs,hdct,sn,sub,ab,col,dd,k0,k1,k2,k3,k5,mN,hC,hN,hni,T,_⟩:=c.obj I.mod.kin;refine wpAny_Raise_call_subU (C:=C) (nm:=nm) (q:=q) (N:=N) (bs:=bs) (bm:=tl) (hdct:=hdct) (sn:=sn) (sub:=sub) (ab:=ab) (col:=col) (dd:=dd) (k0:=k0) (k1:=k1) (k2:=k2) (k3:=k3) (k5:=k5)
  Fn hBn FB (mN:=mN) (T.hasType FB.hasBase) (I.ok.hd hc) (by rw[he];show(false||(backTo cpos (starEach cn X.env)).any (·.1))=false;rw[hpl];rfl) hni (ke I hg hm ⟨rfl,?_⟩ hd)
 rw[he];have ha':=ha cpos pins s σ H _ I h;rw[he]at ha';exact Calls.evalArgs_plain (wpAny_mono ha' (λus s₂ ⟨vs,H1,I1,r1,z,q1⟩=>⟨rfl,by rw[<- r1.length];exact z,I1.bk _ _ hC,hN.keeps I1.bk,T.keeps I1.bk,λh' e hx'=>hx pins σ H1 s₂ h' e _ _ I1 hx' q1⟩) λ_ _ y=>y)
end
noncomputable abbrev TX:=St->Hp->VK->XK->Prop
section
variable {X:Cx}{CX:k7}{k:Nat}{ps:KY}{sp:Sp}{x:Str}{p pos:Pos}{e:Expr}{es:K2}{t:TA}
end
end L2
namespace PySem
open Sem (wp)
section
variable {M:Model}{A:KZ}{E:KL}
variable {nm q nm' q':Str}{C N D N':Addr}{bs bm bs' bm':KQ}{hdct hdct':Bool}{sn sn':KY}{sub sub':KQ}{ab ab':Bool}{col col':Option Bool}{dd dd':K1}{k0 k1 k2 k3 k5 k0' k1' k2' k3' k5':Option Value}{newId newId':String}
end
end PySem
namespace L2
open PySem PySem.Spec PyProof.Rows
section
variable {X:Cx}{pins:KN}{σ:St}{H:Hp}{s:KP}
end
section
variable {X:Cx}{P:KW}{w:K0}{e tg:Expr}{tx:TX}{g:TG}{i:Nat}{n x:Str}{D:Addr}{bmD:KQ}{nD:String}{b₀:Stmt}{suite:List Stmt}{apos pos hpos np:Pos}{ts:Addr->TS}
end
section
variable {X:Cx}{pins:KN}{σ:St}{H:Hp}{s:KP}
theorem Inv.moved{ch:KR}{h':Heap}{tk:Nat}(I:Inv X pins σ H s)(hf:∀b∈ch,oE X pins H b)(k:∀b o,b∉ch->s.heap.get? b=some o->h'.get? b=some o):Inv X pins σ H {s with heap:=h',toks:=tk}:=by
 have nH:∀b o,H b=some o->b∉ch:=λb o e z=>by rw[(hf b z).1]at e;cases e
 refine I.call' (s':={s with heap:=h',toks:=tk}) (ch:=ch) rfl ⟨λb o e _ _ hc=>k b o hc e,λb o e _ _ hc=>⟨o.slots,k b o hc e⟩,λb o e n hc=>n,λb o e hc=>⟨o,k b o hc e⟩,λb xs q=>q,λb o y q=>q,λb qs q=>⟨#[],by rw[q];simp⟩⟩
  (λb o e=>(I.hok b o e).stay (λc u hc q=>k c u (by
   rcases hc with rfl | hc
   ·exact nH _ _ e
   ·exact nH _ _ hc) q) (λ_ q=>q) λ_ _ q=>q) I.bare λb hb=>?_
 obtain⟨f0,f1,f2,f3,f4,f5⟩:=hf b hb;exact⟨f3,f1,f4,f5⟩
theorem Inv.movedT{ch:KR}{h':Heap}{tk:Nat}{T:Addr}{ob:HO}(I:Inv X pins σ H s)(hf:∀b∈ch,oE X pins H b)(k:∀b o,b∉ch->s.heap.get? b=some o->h'.get? b=some o)(hT:s.heap.objs.size<=T)(new:bU X.prog X.w (aA H T ob) h' T ob) :
  Inv X pins σ (aA H T ob) {s with heap:=h',toks:=tk}:=by
 have nH:∀b o,H b=some o->b∉ch:=λb o e z=>by rw[(hf b z).1]at e;cases e
 have hn:H T=none:=I.hok.fresh hT;have nT:∀b o,s.heap.get? b=some o->b≠T:=λb o e z=>by rw[z]at e;exact absurd (Kh e) (Nat.not_lt.mpr hT)
 refine I.call' (s':={s with heap:=h',toks:=tk}) (ch:=ch) rfl ⟨λb o e _ _ hc=>k b o hc e,λb o e _ _ hc=>⟨o.slots,k b o hc e⟩,λb o e n hc=>by rw[am (nT b o e)];exact n,λb o e hc=>⟨o,k b o hc e⟩,λb xs q=>by rw[am (aD q hn)];exact q,λb o y q=>by rw[am (aD q hn)];exact q,λb qs q=>⟨#[],by rw[am (aD q hn),q];simp⟩⟩
  (λb o e=>?_) I.bare λb hb=>?_
 ·by_cases hb:b=T
  ·subst hb
   rw[ac]at e;cases e;exact new
  ·rw[am hb]at e
   exact(I.hok b o e).stay (λc u hc q=>k c u (by
    rcases hc with rfl | hc
    ·exact nH _ _ e
    ·exact nH _ _ hc) q) (λc q=>by rw[am (aD q hn)];exact q) λc xs q=>by rw[am (aD q hn)];exact q
 ·obtain⟨f0,f1,f2,f3,f4,f5⟩:=hf b hb
  exact⟨f3,f1,f4,f5⟩
end
noncomputable def Gg(K:KM)(a b:Addr):It:=
 ⟨λi H=>∃xs ys x y,aU K H a xs/\aU K H b ys/\xs[i]?=some x/\ys[i]?=some y,λi H v H'=>∃T x y,v=.ref T/\H T=none/\H'=aA H T (.tup [x,y])/\(∀xs,aU K H a xs->xs[i]?=some x)/\∀ys,aU K H b ys->ys[i]?=some y,
  λi H=>∃xs ys,aU K H a xs/\aU K H b ys/\(xs.length<=i\/ys.length<=i)⟩
theorem C7{P:KW}{w:K0}{K:KM}{elts:K2}{x1:Nat}{tp:Pos}{z TI TO i1 i2 l1 l2:Addr}(D:ZipApart z TI TO i1 i2 l1 l2) :
  qy P w K (.Tuple elts x1 tp) (Gg K l1 l2) [z,TI,TO,i1,i2] z (λi h=>IsZip h z TI TO .none/\IsPair h TI (.ref i1) (.ref i2)/\(∃a b,IsPair h TO a b)/\h.IsListIter i1 l1 i/\h.IsListIter i2 l2 i) where
 mem:=by simp
 obj:=λi h st b hb=>by
  obtain⟨hz,hTI,⟨a,c,hTO⟩,⟨o1,e1,c1,d1⟩,⟨o2,e2,c2,d2⟩⟩:=st;simp only[J8,List.not_mem_nil,or_false]at hb;rcases hb with rfl | rfl | rfl | rfl | rfl
  ·exact⟨_,hz,λv q=>by cases q⟩
  ·exact⟨_,hTI,λv q=>by cases q⟩
  ·exact⟨_,hTO,λv q=>by cases q⟩
  ·exact⟨_,e1,λv q=>by rw[d1]at q;cases q⟩
  ·exact⟨_,e2,λv q=>by rw[d2]at q;cases q⟩
 keep:=λi h h' st hk=>by
  obtain⟨hz,hTI,⟨a,b,hTO⟩,h1,h2⟩:=st;exact⟨hk z (by simp) _ hz,hk TI (by simp) _ hTI,⟨a,b,hk TO (by simp) _ hTO⟩,h1.at λo e=>hk i1 (by simp) o e,h2.at λo e=>hk i2 (by simp) o e⟩
 item:=by
  intro X hP hw hK hc i pins s σ H E I hf st hg;subst hP hw hK;obtain⟨xs,ys,x,y,hq1,hq2,hx,hy⟩:=hg;obtain⟨its1,rv1,p1,hz1⟩:=I.list hq1;obtain⟨its2,rv2,p2,hz2⟩:=I.list hq2;obtain⟨u1,hu1,ru1⟩:=rv1.get hx;obtain⟨u2,hu2,ru2⟩:=rv2.get hy;obtain⟨hz,hTI,⟨a,b,hTO⟩,h1,h2⟩:=st;refine wpAny_pyNext_zip_item D hz hTI hTO h1 h2 p1.isList p2.isList (x:=u1) (y:=u2) (by simpa using hu1) (by simpa using hu2) λh' a1 a2 a3 a4 a5 a6 hk=>?_;refine⟨_,rfl,wpAny_letOwnedTupleGo_zip a1 λh2' hz' hs'=>?_⟩;have hfree:H s.heap.objs.size=none:=I.hok.fresh (Ke _);have lt:∀{c o},s.heap.get? c=some o->s.heap.objs.size≠c:=λe=>Nat.ne_of_gt (Kh e);have kk:∀c o,c∉[z,TI,TO,i1,i2]->s.heap.get? c=some o->h2'.get? c=some o:=λc o hc e=>
   hs'.extBut _ _ (λq=>hc (by simp[q])) (hk c o (λq=>hc (by simp[q])) (λq=>hc (by simp[q])) (λq=>hc (by simp[q])) (λq=>hc (by simp[q])) e)
  have hT:h2'.get? s.heap.objs.size=some {cls:=.type "tuple",data:=.seq #[u1,u2]}:=hs'.extBut _ _ (lt hz) a5;refine⟨.ref s.heap.objs.size,aA H s.heap.objs.size (.tup [x,y]),I.movedT (tk:=s.toks) hf kk (Ke _) ⟨show 2<=sizeLine from by decide +kernel,[u1,u2],.cons ru1 (.cons ru2 .nil),_,hT,rfl,_,rfl⟩,rfl,
   ⟨_,x,y,rfl,hfree,rfl,λzs hzs=>by rw[I.list_inj hzs hq1];exact hx,λzs hzs=>by rw[I.list_inj hzs hq2];exact hy⟩,
   ⟨hz',hs'.extBut _ _ D.TIz (hk _ _ D.TIz D.TITO D.TIi1 D.TIi2 hTI),⟨_,_,hs'.extBut _ _ D.TOz a2⟩,a3.extBut hs'.extBut D.i1z,a4.extBut hs'.extBut D.i2z⟩,λb hb=>?_⟩
  have hlt:b≠s.heap.objs.size:=by
   obtain⟨o1,e1,_⟩:=h1;obtain⟨o2,e2,_⟩:=h2;simp only[J8,List.not_mem_nil,or_false]at hb;rcases hb with rfl | rfl | rfl | rfl | rfl
   ·exact(lt hz).symm
   ·exact(lt hTI).symm
   ·exact(lt hTO).symm
   ·exact(lt e1).symm
   ·exact(lt e2).symm
  rw[am hlt];exact(hf b hb).1
 done:=by
  intro X hP hw hK hc i pins s σ H E I hf st hg;subst hP hw hK;obtain⟨xs,ys,hq1,hq2,hx⟩:=hg;obtain⟨its1,rv1,p1,hz1⟩:=I.list hq1;obtain⟨its2,rv2,p2,hz2⟩:=I.list hq2;obtain⟨hz,hTI,⟨a,b,hTO⟩,h1,h2⟩:=st;have l1':=rv1.length;have l2':=rv2.length;refine wpAny_pyNext_zip_end (I.ok.hd hc) D hz hTI hTO h1 h2 p1.isList p2.isList ?_ λh' hk=>⟨rfl,I.moved (tk:=s.toks) hf λc o hc e=>hk c o (λq=>hc (by simp[q])) (λq=>hc (by simp[q])) (λq=>hc (by simp[q])) (λq=>hc (by simp[q])) e⟩;rcases hx with hx | hx
  ·exact .inl (by simp;omega)
  ·exact .inr (by simp;omega)
 self:=λ_ _ _ _ _ st h=>wpAny_pyIter_zip st.1 h
theorem rN(n l1 l2:Nat)(h1:l1<n)(h2:l2<n):ZipApart (n+4) (n+2) (n+3) n (n+1) l1 l2:=by
 constructor<;>exact λe=>absurd (show(_:Nat)=_ from e) ⋯
section
variable {X:Cx}{elts:K2}{x1:Nat}{tp:Pos}
noncomputable def Fb(K:KM)(ta:TA):TI:=λσ H R=>ta σ H λvs H1=>∃a b xs ys,vs=[.ref a,.ref b]/\aU K H1 a xs/\aU K H1 b ys/\R (Gg K a b) H1
theorem Dc{a b:Expr}{ta:TA}{p pos:Pos}(hg:Gl X "zip")(hm:X.mg "zip"=none)(ha:PA X [a,b] ta)(hs:autoParam (starEach [a,b] X.env=[(false,eval a X.env),(false,eval b X.env)]) zzR._auto_1)(hs2:autoParam (starEach [b] X.env=[(false,eval b X.env)]) zzR._auto_1):PI X (.Tuple elts x1 tp) (.Call (.Name "zip" p) [a,b] [] pos) (Fb X.K ta):=by
 intro pins s σ H R I h;refine Call_ (eV I hg hm boot_zip (PyProof.Rows.callWith_type1 (bX (ha pos pins s σ H _ I h) λus s1 ⟨vs,H1,I1,r1,q1⟩=>?_) (by rw[hs,hs2]) (by rw[hs2];rfl)));obtain⟨l1,l2,xs,ys,rfl,hq1,hq2,q⟩:=q1;obtain⟨u,v,rfl,ru,rv⟩:=r1.two;cases ru;cases rv;obtain⟨its1,rv1,p1,_⟩:=I1.list hq1;obtain⟨its2,rv2,p2,_⟩:=I1.list hq2;refine call_zip_2 p1.isList p2.isList λh' z1 z2 z3 z4 z5 z6 hk=>?_;have lt1:l1<s1.heap.objs.size:=by obtain⟨_,e,_⟩:=p1.isList;exact Kh e
 have lt2:l2<s1.heap.objs.size:=by obtain⟨_,e,_⟩:=p2.isList;exact Kh e
 have I2:Inv X pins σ H1 {s1 with heap:=h' }:=I1.kept (t':=s1.toks) hk;refine wpAny_pyIter_zip z1 ?_;refine⟨s1.heap.objs.size+4,[s1.heap.objs.size+4,s1.heap.objs.size+2,s1.heap.objs.size+3,s1.heap.objs.size,s1.heap.objs.size+1],_,_,H1,rfl,I2,C7 (l1:=l1) (l2:=l2) ?_,⟨z1,z2,⟨_,_,z3⟩,z4,z5⟩,λb hb=>?_,q⟩
 ·exact rN _ _ _ lt1 lt2
 ·have hb':s1.heap.objs.size<=b:=by
   simp only[J8,List.not_mem_nil,or_false]at hb;rcases hb with e | e | e | e | e<;>(rw[e];first | exact Ke _ | exact Nat.le_add_right _ _)
  exact I1.fpOk hb' (I1.hok.fresh hb')
end
end L2
namespace PySem.W
open PySem PySem.Spec PySem.Calls PyProof.Rows
section
variable {prog:KW}{w:K0}{A:KZ}{E:KL}{s:KP}{K:Frag}{x D:Addr}{ox:Obj}{odo:Option Obj}{name:Str}
structure XTy(K:Frag)(D:Addr):Prop where
 ga:findIn K (.ref D) "__getattribute__"=some (some (.builtin "BaseException.__getattribute__"))
 gh:findIn K (.ref D) "__getattr__"=some none
 mb:mroIn K D (.type "BaseException")=some true
 mo:mroIn K D (.type "object")=some true
 ha:findIn K (.ref D) "__class__"=some (some (.builtin "object.__class__"))
 hn:specialIn K (.builtin "object.__class__") "__get__"=some (some (.builtin "getset_descriptor.__get__"))
 tk:takesIn K (.builtin "object.__class__")=some true
 cl:∃dd cd sl,K.lookup D=some ⟨.type "type",dd,.cls cd,sl⟩
end
end PySem.W
namespace L2
open PySem PySem.Spec PyProof.Rows
section
variable {X:Cx}
end
structure XR(K:KM)(C:Addr):Prop where
 ex:∃(bm bmN:KQ) (newId Bn inN B nid initId:String),v8 K C bm newId/\ExcBaseFacts Bn newId inN bmN/\bm.contains (.type Bn)=true/\ExcBaseFacts B nid initId bm
theorem dN{X:Cx}{x:Str}{np cpos pos:Pos}{e₀:Expr}{cn:K2}{t:TA}{C:Addr}{E:XK}(c:XR X.K C)(hc:X.calm=true)(hg:Gl X x)(hm:X.mg x=some (.ref C))(hx:Cb X E)(ha:PA X (e₀::cn) t)
  (hd:autoParam ((x==("__debug__":Str))=false) zzK._auto_1)
  (he:autoParam (starEach (e₀::cn) X.env=(false,eval e₀ X.env)::starEach cn X.env) zzR._auto_1) (hpl:autoParam ((backTo cpos (starEach cn X.env)).any (·.1)=false) zzR._auto_1) :
  PS X (.Raise (some (.Call (.Name x np) (e₀::cn) [] cpos)) none pos) (sR C E t):=by
 obtain⟨bm,bmN,newId,Bn,inN,B,nid,initId,c1,c2,c3,c4⟩:=c.ex;exact A5 c1 c2 c3 c4 hc hg hm hx ha hd he hpl
section
variable {P:KW}{w:K0}{K:KM}{mg:KS}{base:Heap}
theorem cw.okX{x qual:Str}{st:Stmt}{f:Addr}{fd:KU}{N ps:KY}{k:Nat}{sp:Sp}(F:cw K x qual st f fd)(S:az N ps (ah st))(len:∀vs H Q E,sp vs H Q E->vs.length=ps.length)
  (hbody:∀(cdv:Value) (A:KZ) (outer:List Env) (s:KP) (H:Hp) (vs:List V) (Q:VK) (E:XK),df k (A.deeper (envOfC qual (ah st) s.heap.objs.size f cdv))->sp vs H Q E ->
   ∃t,vU (fU (bE P w) P w K mg base N qual (ah st) f cdv A outer s H E) (aP st) t/\t {nx:=λ_ H'=>Q .non H',rt:=Q} (start N vs) H):aQ P w K mg base (bE P w) (k+1) f fd ps sp:=by
 obtain⟨oc,od,kV,doc,pm,an,cdv,ct,osl,rfl,lk,hcd⟩:=F.ex;exact Et lk hcd S len λA outer s H vs Q E hr hsp=>hbody cdv A outer s H vs Q E hr hsp
theorem aQ.lift{CX:k7}{k:Nat}{f:Addr}{fd:KU}{ps:KY}{sp:Sp}(F:aQ P w K mg base bC k f fd ps sp):aQ P w K mg base CX k f fd ps sp:=
 ⟨F.len,λA outer s H args us vs Q E hr he hb hv hs=>codeAny_mono (F.run A outer s H args us vs Q E hr he hb hv hs) λr s' hq=>by
  cases r with
  |error e=>exact False.elim hq
  |ok fl=>cases fl<;>exact hq⟩
theorem eO.lift{CX:k7}{k:Nat}{x:Str}{ps:KY}{sp:Sp}(c:eO P w K mg base bC k x ps sp):eO P w K mg base CX k x ps sp:=by
 obtain⟨f,fd,F,r⟩:=c.ex;exact⟨f,fd,F.lift,r⟩
end
theorem uM{X:Cx}{K:KM}{es:K2}{k:Nat}{t:Er}{n:Nat}{pos:Pos}(hK:X.K=K)(hc:X.calm=true)(h:FQ X es t)
  (hn:autoParam ((assignEach es X.env).length=n) zzR._auto_1) (hst:autoParam ((assignEach es X.env).findIdx? (·.1)=none) zzR._auto_1):PG X (.Tuple es k pos) (Bt K n t):=hK▸dE hc h hn hst
section
variable {K:KM}{g:TG}{ti:TT}{te:TE}{σ:St}{H:Hp}{Q:List V->Hp->Prop}
theorem wn{a b:Addr}{xs ys:List V}{n:Nat}(hn:n=min xs.length ys.length)(Pv:Nat->List V->St->Hp->Prop)(h0:Pv 0 [] σ H)(hz:∀i acc σ H,Pv i acc σ H->acc.length<sizeLine)(hi:∀i acc σ H,Pv i acc σ H->i<=n)
  (hl:∀i acc σ H,Pv i acc σ H->aU K H a xs/\aU K H b ys)
  (hs:∀i x y acc σ H T,xs[i]?=some x->ys[i]?=some y->Pv i acc σ H->H T=none->g (.ref T) σ (aA H T (.tup [x,y])) λσ2 H3=>ti σ2 H3 λb H4=>if b=true then te σ2 H4 λv H5=>Pv (i+1) (acc++[v]) σ2 H5 else Pv (i+1) acc σ2 H4)
  (he:∀acc σ H,Pv n acc σ H->Q acc H):i7 (Gg K a b) g ti te σ H Q:=by
 refine kj (J:=Gg K a b) (g:=g) (ti:=ti) (te:=te) (Q:=Q) (n:=n) Pv h0 hz hi (λacc σ H w=>⟨xs,ys,(hl _ _ _ _ w).1,(hl _ _ _ _ w).2,⋯⟩)
  (λi acc σ H hlt w=>⟨xs,ys,xs[i]'⋯,ys[i]'⋯,(hl _ _ _ _ w).1,(hl _ _ _ _ w).2,JR ⋯,JR ⋯⟩) (λi x acc σ H H2 hlt w y=>?_) he
 obtain⟨T,x,y,rfl,hT,rfl,hx,hy⟩:=y;exact hs i x y acc σ H T (hx xs (hl _ _ _ _ w).1) (hy ys (hl _ _ _ _ w).2) w hT
end
end L2
namespace QL
open PySem
end QL
namespace L2
open PySem PySem.Spec PyProof.Rows
noncomputable def GW(K:KM)(a:Addr):It:=
 ⟨λi H=>∃xs x,aU K H a xs/\xs[i]?=some x,λi H v H'=>∃T x,v=.ref T/\H T=none/\H'=aA H T (.tup [.int (i:Int),x])/\∀xs,aU K H a xs->xs[i]?=some x,λi H=>∃xs,aU K H a xs/\xs.length<=i⟩
theorem AC{P:KW}{w:K0}{K:KM}{elts:K2}{x1:Nat}{tp:Pos}{e it l:Addr}(hei:e≠it) :
  qy P w K (.Tuple elts x1 tp) (GW K l) [e,it] e (λi h=>(∃old,IsEnum h e it i old)/\h.IsListIter it l i) where
 mem:=by simp
 obj:=λi h st b hb=>by
  obtain⟨⟨old,he⟩,⟨o1,e1,c1,d1⟩⟩:=st;simp only[J8,List.not_mem_nil,or_false]at hb;rcases hb with rfl | rfl
  ·exact⟨_,he,λv q=>by cases q⟩
  ·exact⟨_,e1,λv q=>by rw[d1]at q;cases q⟩
 keep:=λi h h' st hk=>by
  obtain⟨⟨old,he⟩,h1⟩:=st;exact⟨⟨old,hk e (by simp) _ he⟩,h1.at λo e'=>hk it (by simp) o e'⟩
 item:=by
  intro X hP hw hK hc i pins s σ H E I hf st hg;subst hP hw hK;obtain⟨xs,x,hq,hx⟩:=hg;obtain⟨its,rv,p,hz⟩:=I.list hq;obtain⟨u,hu,ru⟩:=rv.get hx;obtain⟨⟨old,he⟩,h1⟩:=st;obtain⟨o1,e1,_⟩:=id h1;refine wpAny_pyNext_enum_item he h1 p.isList (x:=u) (by simpa using hu) hei λh' a1 a2 a3 a4 hk=>?_;refine⟨_,rfl,wpAny_letOwnedTupleGo_enum a1 λh2 he2 hs2=>?_⟩;have hfree:H s.heap.objs.size=none:=I.hok.fresh (Ke _);have lt:∀{c o},s.heap.get? c=some o->s.heap.objs.size≠c:=λe=>Nat.ne_of_gt (Kh e);have kk:∀c o,c∉[e,it]->s.heap.get? c=some o->h2.get? c=some o:=λc o hc q=>
   hs2.extBut _ _ (λz=>hc (by simp[z])) (hk c o (λz=>hc (by simp[z])) (λz=>hc (by simp[z])) q)
  have hT:h2.get? s.heap.objs.size=some {cls:=.type "tuple",data:=.seq #[.int i s.toks,u]}:=hs2.extBut _ _ (lt he) a3;refine⟨.ref s.heap.objs.size,aA H s.heap.objs.size (.tup [.int i,x]),I.movedT (tk:=s.toks+1) hf kk (Ke _) ⟨show 2<=sizeLine from by decide +kernel,[.int i s.toks,u],.cons ⟨_,rfl⟩ (.cons ru .nil),_,hT,rfl,_,rfl⟩,rfl,
   ⟨_,x,rfl,hfree,rfl,λzs hzs=>by rw[I.list_inj hzs hq];exact hx⟩,⟨⟨u,by simpa using he2⟩,a2.extBut hs2.extBut (Ne.symm hei)⟩,λb hb=>?_⟩
  have hlt:b≠s.heap.objs.size:=by
   simp only[J8,List.not_mem_nil,or_false]at hb;rcases hb with rfl | rfl
   ·exact(lt he).symm
   ·exact(lt e1).symm
  rw[am hlt];exact(hf b hb).1
 done:=by
  intro X hP hw hK hc i pins s σ H E I hf st hg;subst hP hw hK;obtain⟨xs,hq,hx⟩:=hg;obtain⟨its,rv,p,hz⟩:=I.list hq;obtain⟨⟨old,he⟩,h1⟩:=st;have l1':=rv.length;refine wpAny_pyNext_enum_end (I.ok.hd hc) he h1 p.isList (by simp;omega) λh' hk=>⟨rfl,I.moved (tk:=s.toks) hf λc o hc e=>hk c o (λq=>hc (by simp[q])) e⟩
 self:=λ_ _ _ _ _ st h=>let ⟨⟨_,he⟩,_⟩:=st;wpAny_pyIter_enum he h
section
variable {X:Cx}{elts:K2}{x1:Nat}{tp:Pos}
noncomputable def Bv(K:KM)(ta:TA):TI:=λσ H R=>ta σ H λvs H1=>∃a xs,vs=[.ref a]/\aU K H1 a xs/\R (GW K a) H1
theorem oS{a:Expr}{ta:TA}{p pos:Pos}(hg:Gl X "enumerate")(hm:X.mg "enumerate"=none)(ha:PA X [a] ta)(hs:autoParam (starEach [a] X.env=[(false,eval a X.env)]) zzR._auto_1):PI X (.Tuple elts x1 tp) (.Call (.Name "enumerate" p) [a] [] pos) (Bv X.K ta):=by
 intro pins s σ H R I h;refine Call_ (eV I hg hm boot_enumerate (PyProof.Rows.callWith_type1 (bX (ha pos pins s σ H _ I h) λus s1 ⟨vs,H1,I1,r1,q1⟩=>?_) (by rw[hs];rfl) (by rfl)));obtain⟨l,xs,rfl,hq,q⟩:=q1;obtain⟨u,rfl,ru⟩:=r1.one;cases ru;obtain⟨its,rv,p1,_⟩:=I1.list hq;refine call_enumerate_list p1.isList λh' z1 z2 z3 hk=>?_;have I2:Inv X pins σ H1 {s1 with heap:=h' }:=I1.kept (t':=s1.toks) hk;refine wpAny_pyIter_enum z1 ?_;refine⟨s1.heap.objs.size+1,[s1.heap.objs.size+1,s1.heap.objs.size],_,_,H1,rfl,I2,AC (l:=l) (Nat.ne_of_gt (Ko _)),⟨⟨_,z1⟩,z2⟩,λb hb=>?_,q⟩;have hb':s1.heap.objs.size<=b:=by
  simp only[J8,List.not_mem_nil,or_false]at hb;rcases hb with e | e<;>(rw[e];first | exact Ke _ | exact Nat.le_add_right _ _)
 exact I1.fpOk hb' (I1.hok.fresh hb')
end
section
variable {K:KM}{g:TG}{tb:TS}{D:iP}{σ:St}{H:Hp}
theorem j8{a:Addr}{xs:List V}(Pv:Nat->St->Hp->Prop)(h0:Pv 0 σ H)(hl:∀i σ H,i<=xs.length->Pv i σ H->aU K H a xs)
  (hs:∀(i:Nat) x σ H T,xs[i]?=some x->Pv i σ H->H T=none->g (.ref T) σ (aA H T (.tup [.int (i:Int),x])) λσ2 H2=>tb {D with nx:=Pv (i+1),ct:=Pv (i+1),bk:=D.nx} σ2 H2) (hd:∀σ H,Pv xs.length σ H->D.nx σ H):tf (GW K a) g tb D σ H:=by
 refine⟨λi m σ H=>m=xs.length-i/\i<=xs.length/\Pv i σ H,⟨xs.length,by simp,Kf _,h0⟩,?_⟩;rintro i m σ H ⟨rfl,hi,p⟩;have q:=hl i σ H hi p
 by_cases hlt:i<xs.length
 ·refine .inr ⟨⟨xs,xs[i],q,by simp[hlt]⟩,Pv (i+1),λσ' H' p'=>⟨xs.length-(i+1),⋯,rfl,hlt,p'⟩,λx H' y=>?_⟩
  obtain⟨T,x,rfl,hT,rfl,y⟩:=y;exact hs i x σ _ T (y xs q) p hT
 ·have e:i=xs.length:=by omega
  subst e;exact .inl ⟨⟨xs,q,Ke _⟩,hd σ H p⟩
end
end L2
namespace PySem
open Sem (wp)
section
variable {M:Model}{A:KZ}{E:KL}{env:Env}
variable {nm q:Str}{C N:Addr}{bs bm:KQ}{hdct:Bool}{sn:KY}{sub:KQ}{ab:Bool}{col:Option Bool}{dd:K1}{k0 k1 k2 k3 k5:Option Value}{newId:String}
theorem rg{s:KP}{x:Sem Value}{Q:Flow->Shared->Prop}(hbase:bm.contains (.type "BaseException")=true)(hh:A.handled=none)
  (h:wpAny M A x (λv s₁=>∃e oe vs,v=.ref e/\s₁.heap.get? C=some (excClassObj nm q C N bs bm hdct sn sub ab col dd k0 k1 k2 k3 k5 newId)/\s₁.heap.get? e=some oe/\oe.cls=.ref C/\oe.data=.fields vs/\vs[1]?=some .none/\E (.ref e) s₁) E s) :
  wpAny M A (raiseStmt env (some x) none) Q E s:=by
 have hcB:(Value.ref C::bm).contains (.type "BaseException")=true:=by rw[List.contains_cons,hbase,Bool.or_true]
 unfold raiseStmt;refine wpAny_bind (wpAny_mono h (λv s₁ h₁=>?_) λ_ _ x=>x);obtain⟨e,⟨oc,od,dt,sl⟩,vs,rfl,hC,he,hc,hd,hv,hE⟩:=h₁;dsimp only at hc hd;subst hc hd;obtain⟨hp,g,d,tk,os⟩:=s₁
 repeat (first | with_reducible refine wpAny_loadPart_at he ?_ | with_reducible refine wpAny_loadPart_at hC ?_ | (with_reducible refine wpAny_isSubtype_exc hC ?_;rw[hcB]) | wp_step)
 rw[hv];refine wpAny_pure ?_;rw[if_neg nofun];exact wpAny_pure (wpAny_raiseNew_none hh hE)
end
section
variable {prog:KW}{w:K0}{A:KZ}{E:KL}{h:Heap}{g:Array GenState}{d:Drawn}{t:Nat}{os:OsState}
variable {nm q:Str}{C N:Addr}{bs bm bmB:KQ}{hdct:Bool}{sn:KY}{sub:KQ}{ab:Bool}{col:Option Bool}{dd:K1}{k0 k1 k2 k3 k5:Option Value}{B Bn newId nid initId inN:String}{bmN:KQ}{K:KM}
theorem kC(Fn:ExcBaseFacts Bn newId inN bmN)(hBn:bmB.contains (.type Bn)=true)(F:ExcBaseFacts B nid initId bmB)(T:OwnTail h bmB bm)(X:K.In h){cn:KQ}{fI:Addr}{Q:Fin->Shared->Prop}
  (hC:h.get? C=some (excClassObj nm q C N bs bm hdct sn sub ab col dd k0 k1 k2 k3 k5 newId)) (hi:PySem.W.findIn K (.ref C) "__init__"=some (some (.ref fI))) (hf:PySem.W.typeIn K (.ref fI)=some (.type "function"))
  (hq:∀h' e,Heap.MadeExcOf h h' e (.ref C) cn ->
   wpAny (model prog w) A (call (.ref fI) (.ref e::cn)) (λr s'=>r=.none/\Q (.done (.ret (.ref e))) s') E ⟨h',g,d,t,os⟩) (hrest:cn.length<=sizeLine) :
  wpAny (model prog w) A (Builtin.«type.__call__» ⟨.ref C::cn,[]⟩) Q E ⟨h,g,d,t,os⟩:=by
 repeat (first | with_reducible refine wpAny_loadPart_at hC ?_ | with_reducible refine wpAny_madeBy_exc hC ?_ | wp_step)
 refine codeAny_call_builtin_code (Code.quiet_builtin _ Fn.quiet) (wpAny_check_new_subU Fn hBn T hC ?_);refine codeAny_exc_new_subU Fn hBn F T hC ?_ hrest;show wpAny _ _ _ _ _ _;have hC₁:=JT {cls:=.ref C,data:=.fields #[.ref h.objs.size,.none,.none,.none,.bool false,.none]}
  (JT {cls:=.type "tuple",data:=.seq cn.toArray} hC)
 have hget:((h.push {cls:=.type "tuple",data:=.seq cn.toArray}).push
   {cls:=.ref C,data:=.fields #[.ref h.objs.size,.none,.none,.none,.bool false,.none]}).get? (h.objs.size+1)=some
   {cls:=.ref C,data:=.fields #[.ref h.objs.size,.none,.none,.none,.bool false,.none]}:=by heap_get
 have hcC:(Value.ref C::bm).contains (.ref C)=true:=by simp
 have X₁:K.In ((h.push {cls:=.type "tuple",data:=.seq cn.toArray}).push {cls:=.ref C,data:=.fields #[.ref h.objs.size,.none,.none,.none,.bool false,.none]}):=
  X.keeps λb o e=>JT _ (JT _ e)
 unfold isInstance
 repeat (first | with_reducible refine wpAny_loadPart_at hget ?_ | (with_reducible refine wpAny_isSubtype_exc hC₁ ?_;rw[hcC]) | wp_step)
 show wpAny _ _ (typeLookup (.ref C) _) _ _ _;refine(PySem.W.looks_findIn X₁ hi).at ?_;refine wpAny_holding (wpAny_bind ((PySem.W.bind_fn X₁ _ hf).at ?_));refine wpAny_bind (wpAny_mono (hq _ (h.objs.size+1) ⟨λb o hb=>JT _ (JT _ hb),Heap.get?_none_of_le (Nat.le_succ _),h.objs.size,hget,Heap.get?_none_of_le (Ke _),?_⟩) (λr s' hr=>?_) λ_ _ x=>x)
 ·exact JT _ (Heap.get?_push_at rfl rfl)
 ·obtain⟨rfl,hQ⟩:=hr
  wp_walk
  exact hQ
theorem qM(Fn:ExcBaseFacts Bn newId inN bmN)(hBn:bmB.contains (.type Bn)=true)(F:ExcBaseFacts B nid initId bmB)(T:OwnTail h bmB bm)(X:K.In h){cn:KQ}{fI:Addr}{Q:KL}
  (hC:h.get? C=some (excClassObj nm q C N bs bm hdct sn sub ab col dd k0 k1 k2 k3 k5 newId)) (hi:PySem.W.findIn K (.ref C) "__init__"=some (some (.ref fI))) (hf:PySem.W.typeIn K (.ref fI)=some (.type "function"))
  (hq:∀h' e,Heap.MadeExcOf h h' e (.ref C) cn ->
   wpAny (model prog w) (A.under (.builtin "type.__call__" ⟨.ref C::cn,[]⟩)) (call (.ref fI) (.ref e::cn)) (λr s'=>r=.none/\Q (.ref e) s') E ⟨h',g,d,t,os⟩) (hrest:cn.length<=sizeLine) :
  wpAny (model prog w) A (call (.ref C) cn) Q E ⟨h,g,d,t,os⟩:=by
 have f1:=tc_lookup;have f2:=tc_bind (.ref C);have hT:(⟨h,g,d,t,os⟩:Shared).TypeIs (.ref C) "type":=⟨_,hC,rfl⟩;refine wpAny_call (codeAny_of_tree ?_);show wpAny _ _ (callAny (.ref C) _) _ _ _
 repeat (any_goals (first | assumption | with_reducible refine wpAny_loadPart_at hC ?_ | wp_step))
 refine⟨rfl,?_⟩;refine codeAny_call_builtin_at (Code.quiet_builtin _ (by decide +kernel)) entry_typeCall (wpAny_check_type_call_sub hC (kC (hrest:=hrest) Fn hBn F T X hC hi hf λh' e hm=>?_));exact hq h' e hm
end
section
variable {prog:KW}{w:K0}{A:KZ}{E:KL}{s:KP}{env:Env}
variable {nm q:Str}{C N:Addr}{bs bm bmB:KQ}{hdct:Bool}{sn:KY}{sub:KQ}{ab:Bool}{col:Option Bool}{dd:K1}{k0 k1 k2 k3 k5:Option Value}{B Bn newId nid initId inN:String}{bmN:KQ}{K:KM}
theorem mY(Fn:ExcBaseFacts Bn newId inN bmN)(hBn:bmB.contains (.type Bn)=true)(F:ExcBaseFacts B nid initId bmB){x:Str}{np cpos pos:Pos}{args:K2}{fI:Addr}{Q:Flow->Shared->Prop}
  (hbase:bm.contains (.type "BaseException")=true) (hh:A.handled=none) (hplain:(backTo cpos (starEach args env)).any (·.1)=false) (hi:PySem.W.findIn K (.ref C) "__init__"=some (some (.ref fI))) (hf:PySem.W.typeIn K (.ref fI)=some (.type "function"))
  (h:wpAny (model prog w) A (eval (.Name x np) env) (λf s₁=>f=.ref C/\wpAny (model prog w) A (evalArgs (.ref C) true (backTo cpos (starEach args env)) [])
   (λa s₂=>a.kw=[]/\a.pos.length<=sizeLine/\s₂.heap.get? C=some (excClassObj nm q C N bs bm hdct sn sub ab col dd k0 k1 k2 k3 k5 newId)/\K.In s₂.heap/\OwnTail s₂.heap bmB bm /\
    ∀h' e,Heap.MadeExcOf s₂.heap h' e (.ref C) a.pos->wpAny (model prog w) (A.under (.builtin "type.__call__" ⟨.ref C::a.pos,[]⟩)) (call (.ref fI) (.ref e::a.pos))
     (λr s'=>r=.none/\∃oe vs,s'.heap.get? C=some (excClassObj nm q C N bs bm hdct sn sub ab col dd k0 k1 k2 k3 k5 newId)/\s'.heap.get? e=some oe/\oe.cls=.ref C/\oe.data=.fields vs/\vs[1]?=some .none/\E (.ref e) s') E {s₂ with heap:=h' }) E s₁) E s) :
  wpAny (model prog w) A (exec (.Raise (some (.Call (.Name x np) args [] cpos)) none pos) env) Q E s:=by
 rw[arm_exec_Raise];simp only[evalOpt,Option.map];refine wpAny_bind (wpAny_standAt (rg (C:=C) (nm:=nm) (q:=q) (N:=N) (bs:=bs) (bm:=bm) (hdct:=hdct) (sn:=sn) (sub:=sub) (ab:=ab) (col:=col) (dd:=dd) (k0:=k0) (k1:=k1) (k2:=k2) (k3:=k3) (k5:=k5) (newId:=newId) hbase hh (wpAny_bind (wpAny_mono (wpAny_Call_ofName (wpAny_mono h (λf s₁ h₁=>?_) λ_ _ x=>x)) (λv s₃ h₃=>wpAny_bind (wpAny_standAt (wpAny_pure h₃))) λ_ _ x=>x))));obtain⟨rfl,h₁⟩:=h₁;unfold callWith;refine wpAny_bind (wpAny_holding (wpAny_mono h₁ (λa s₂ h₂=>wpAny_bind (wpAny_standAt ?_)) λ_ _ x=>x));obtain⟨apos,akw⟩:=a;obtain⟨hkw,hlen,hC,hX,T,h₂⟩:=h₂;obtain rfl:akw=[]:=hkw;obtain⟨hp,g,d,tk,os⟩:=s₂;simp only[hplain];refine wpAny_bind (wpAny_keeperOf_exc hC ?_);refine wpAny_bind (qM (hrest:=hlen) Fn hBn F T hX hC hi hf λh' e hm=>wpAny_mono (h₂ h' e hm) (λr s' hr=>⟨hr.1,wpAny_bind (wpAny_holding (wpAny_point (wpAny_pure ?_)))⟩) λ_ _ x=>x);obtain⟨_,oe,vs,a1,a2,a3,a4,a5,a6⟩:=hr;exact⟨e,oe,vs,rfl,a1,a2,a3,a4,a5,a6⟩
end
end PySem
namespace PySem.W
open PySem PySem.Spec PySem.Calls PyProof.Rows
open Builtin Builtin.ObjectAttr
noncomputable def excOut(K:Frag)(C:Addr)(bmB:KQ)(newId:String):Bool:=match K.lookup C with
 |some ⟨.type "type",_,.cls cd,sl⟩=>(match cd.mro,sl.toList with
  | .ref C'::bm,[_,_,_,_,some (.builtin n),_]=>C'==C&&n==newId && !cd.hasDel&&tailIn K bmB bm&&nsOkIn K cd.ns
  |_,_=>false)
 |_=>false
noncomputable def strip:List Value->List Value
 | .ref _::r=>strip r
 |l=>l
theorem mi(self:Value):∀{l bm:KQ},strip l=bm->refuseLoop self "__setattr__" bm=pure ()->refuseLoop self "__setattr__" l=pure ()
 | [],_,e,h=>by rw[show([]:List Value)=_ from e];exact h
 | .ref c::r,_,e,h=>by rw[refuseLoop_ref];exact mi self (l:=r) e h
 | .type n::r,_,e,h=>by rw[show(Value.type n::r)=_ from e];exact h
 | .none::r,_,e,h=>by rw[show(Value.none::r)=_ from e];exact h
 | .bool b::r,_,e,h=>by rw[show(Value.bool b::r)=_ from e];exact h
 | .int i t::r,_,e,h=>by rw[show(Value.int i t::r)=_ from e];exact h
 | .float i t::r,_,e,h=>by rw[show(Value.float i t::r)=_ from e];exact h
 | .str i t::r,_,e,h=>by rw[show(Value.str i t::r)=_ from e];exact h
 | .bytes i t::r,_,e,h=>by rw[show(Value.bytes i t::r)=_ from e];exact h
 | .builtin n::r,_,e,h=>by rw[show(Value.builtin n::r)=_ from e];exact h
 | .ellipsis::r,_,e,h=>by rw[show(Value.ellipsis::r)=_ from e];exact h
 | .notImplemented::r,_,e,h=>by rw[show(Value.notImplemented::r)=_ from e];exact h
structure XSt(K:Frag)(C:Addr)(f:Str):Prop where
 sa:findIn K (.ref C) "__setattr__"=some (some (.builtin "object.__setattr__"))
 st:∃cd,clsIn K C=some cd/\strip cd.mro=[.type "ValueError",.type "Exception",.type "BaseException",.type "object"]/\cd.hasDict=true/\cd.mro.contains (.type "object")=true/\cd.mro.isEmpty=false
 no:findIn K (.ref C) f=some none
section
variable {prog:KW}{w:K0}{A:KZ}{E:KL}{s:KP}{K:Frag}{x C:Addr}{ox:Obj}{vs:Array Value}{name:Str}{v:Value}
theorem set_new{Q:Unit->Shared->Prop}(X:K.In s.heap)(c:XSt K C name)(hx:s.heap.get? x=some ox)(hcl:ox.cls=.ref C)(hdn:ox.dict=none)(hdt:ox.data=.fields vs)
  (h:∀h' t',(∀b o,b≠x->s.heap.get? b=some o->h'.get? b=some o)->h'.get? x=some {ox with dict:=some s.heap.objs.size}->h'.Ns1 s.heap.objs.size (λy=>if y=name then some v else none)->Q () {s with heap:=h',toks:=t' }) :
  wpAny (model prog w) A (setAttr (.ref x) name v) Q E s:=by
 obtain⟨cd,hc,hst,hhd,hob,hne⟩:=c.st;obtain⟨oc,od,dt,sl⟩:=ox;dsimp only at hcl hdn hdt;subst hcl hdn hdt;have J:InstAt s.heap x ⟨.ref C,none,.fields vs,sl⟩ C none:=⟨hx,rfl,rfl,trivial⟩;obtain⟨hh,g,d,t,os⟩:=s;have SF:=PySem.F.store_object;refine set_plain X J c.sa ?_;have sub:Looks (model prog w) hh (isInstance (.ref x) (.type "object")) true:=J.type.andThen (looks_mroIn X (by unfold mroIn;rw[hc,Option.bind_some,if_neg (by rw[hne];decide),hob]));refine codeAny_call_builtin SF.slot.plain SF.entry (@check_slot (model prog w) _ _ _ "object.__setattr__" "object" "__setattr__" (.ref x) [.str name t,v] [] _ SF.kind SF.split sub (SF.args (.ref x) (.str name t) v) ?_);have hm:Looks (model prog w) hh (mroOf (.ref C)) cd.mro:=(looks_clsIn X hc).andThen .now;rw[osa_eq,refuse_eq];refine wpAny_bind (wpAny_bind (J.type.at (wpAny_bind (hm.at ?_))));rw[mi _ hst (PySem.F.store_ValueError.passes _)];refine wpAny_pure (wpAny_bind (J.type.at (wpAny_bind ((looks_findIn X c.no).at (wpAny_bind (wpAny_pure ?_))))));have hx₁:(hh.push {cls:=.type "dict",data:=.dict #[]}).get? x=some ⟨.ref C,none,.fields vs,sl⟩:=JT _ hx;have hxs:x≠hh.objs.size:=Ka (Kh hx);show wpAny _ _ (storeInOwnDict (.ref x) (.ref C) (.str name t) name v false) _ _ _;refine wpAny_bind (wpAny_pure (wpAny_bind (wpAny_bind (wpAny_loadPart hx ?_))));refine wpAny_bind ((looks_clsIn X hc).at ?_);rw[if_neg (by rw[hhd];decide)];dsimp only;rw[if_neg (by simp[typeHasDict])];refine wpAny_bind (wpAny_alloc' ?_);refine wpAny_bind (wpAny_update' hx₁ ?_);refine wpAny_pure ?_;have hgd:((hh.push {cls:=.type "dict",data:=.dict #[]}).update x λo=>{cls:=o.cls,dict:=some hh.objs.size,data:=o.data,slots:=o.slots}).get? hh.objs.size
   = some {cls:=.type "dict",data:=.dict #[]}:=
  (Heap.get?_update_ne _ _ _ _ hxs.symm).trans (Heap.get?_push_at rfl rfl)
 have hnd:((hh.push {cls:=.type "dict",data:=.dict #[]}).update x λo=>{cls:=o.cls,dict:=some hh.objs.size,data:=o.data,slots:=o.slots}).Ns hh.objs.size (λ_=>none):=
  ⟨_,#[],_,hgd,rfl,λe he=>absurd he (by simp),λ_=>rfl⟩
 show wpAny _ _ (storeInDict hh.objs.size (.str name t) name v) _ _ _;unfold storeInDict newKeyGuard;refine wpAny_bind (wpAny_pure (wpAny_bind (wpAny_nsSet1 (Heap.Ns1.of_empty hnd) λh' hn' hs=>?_)));obtain⟨oD,esD,epD,hoD,hdD,hcD⟩:=hn'.count (Within.cons name v Within.nil);refine wpAny_bind (wpAny_lookBehind hoD (by rw[hdD];exact pastItsLine_dict (Km hcD (by rw[J4,List.length_nil,sizeLine_eq];omega))) ?_);refine wpAny_pure (h h' _ (λb o hb e=>(hs.2 b (Ka (Kh e))).trans ((Heap.get?_update_ne _ _ _ _ hb).trans (JT _ e))) ?_ hn');exact(hs.2 x hxs).trans (J3 _ hx₁ rfl)
end
end PySem.W
namespace L2
open PySem PySem.Spec PyProof.Rows
structure zN(K:KM)(C:Addr)(bmB:KQ)(newId:String):Prop where
 exc:PySem.W.excOut K C bmB newId=true
theorem zN.obj{K:KM}{C:Addr}{bmB:KQ}{newId:String}{h:Heap}(c:zN K C bmB newId)(X:K.In h):∃bm N nm q bs hdct sn sub ab col dd k0 k1 k2 k3 k5,
  h.get? C=some (excClassObj nm q C N bs bm hdct sn sub ab col dd k0 k1 k2 k3 k5 newId)/\OwnTail h bmB bm/\∃dd' cd sl,K.lookup C=some ⟨.type "type",dd',.cls cd,sl⟩/\cd.mro=.ref C::bm:=by
 have q:=c.exc;unfold PySem.W.excOut at q;cases hl:K.lookup C with
 |none=>rw[hl]at q;cases q
 |some ob=>
  rw[hl]at q
  split at q
  ·rename_i dd cd sl e
   cases e
   split at q
   ·rename_i C' bm k0 k1 k2 k3 n k5 hm hs
    simp only[Bool.and_eq_true,beq_iff_eq,Bool.not_eq_true']at q;obtain⟨⟨⟨⟨rfl,rfl⟩,hdel⟩,ht⟩,hok⟩:=q;have ho:=X _ _ hl;have hsl:sl=#[k0,k1,k2,k3,some (.builtin n),k5]:=Array.toList_inj.mp hs;subst hsl;obtain⟨nm,bs,mro,ns,qn,hd,sn,sub,ab,col,del⟩:=cd;dsimp only at hm hdel hok ho;subst hm hdel;exact⟨bm,ns,nm,qn,bs,hd,sn,sub,ab,col,dd,k0,k1,k2,k3,k5,ho,PySem.W.tail_of_in X ht,dd,_,_,rfl,rfl⟩
   ·cases q
  ·cases q
noncomputable def Ez(ea:Addr)(cls:Value)(od:K1)(h:Heap):Prop:=∃o vs,h.get? ea=some o/\o.cls=cls/\o.dict=od/\o.data=.fields vs/\vs[1]?=some .none/\vs[2]?=some .none/\vs.size=6
noncomputable abbrev xn(ea:Addr)(cls:Value)(od:K1):HO:=.ext (Ez ea cls od)
theorem sr{ea:Addr}{cls:Value}{od:K1}:∀h1 h2:Heap,Ez ea cls od h1->(∀o,h1.get? ea=some o->h2.get? ea=some o)->Ez ea cls od h2:=
 λh1 h2 ⟨o,ws,e1,e2,e3,e4,e5⟩ k=>⟨o,ws,k o e1,e2,e3,e4,e5⟩
section
variable {X:Cx}{o value:Expr}{f:Str}{pos pos':Pos}{ta tv:TE}
noncomputable def Bx(K:KM)(ta tv:TE)(f:Str):TS:=λD σ H=>tv σ H λy H1=>ta σ H1 λx H2=>∃a C,x=.ref a/\H2 a=some (xn a (.ref C) none)/\PySem.W.XSt K C f /\
 ∀d,H2 d=none->D.nx σ (aA (aA H2 d (.xd [(f,y)])) a (xn a (.ref C) (some d)))
theorem yk(ha:PE X o ta)(hv:PE X value tv)(hs:swapsWith value (some (.Attribute o f pos')) pos.line X.env=pure false):PS X (.Assign [.Attribute o f pos'] value pos) (Bx X.K ta tv f):=by
 intro pins s σ H D I h;refine plainObj_wpAny_Assign_Attribute (bX (hv pins s σ H _ I h) λu s1 ⟨y,H1,I1,ry,q⟩=>bX (ha pins s1 σ H1 _ I1 q) λov s2 ⟨x,H2,I2,rx,a,C,ex,ea,c,q2⟩=>?_) hs;subst ex;obtain rfl:ov=Value.ref a:=rx;obtain⟨⟨ob,ws,e1,e2,e3,e4,e5⟩,_,_⟩:=(show bU X.prog X.w H2 s2.heap a (xn a (.ref C) none) from I2.hok a _ ea);refine PySem.W.set_new I2.kIn c e1 e2 e3 e4 λh' t' hk hx hn=>?_;have hfr:H2 s2.heap.objs.size=none:=I2.hok.fresh (Ke _);have hne:s2.heap.objs.size≠a:=Nat.ne_of_gt (Kh e1);have oa:(h'.update a λ_=>ob).get? a=some ob:=J3 _ hx (Obj.isFreed_of_fields e4);have oo:∀b,b≠a->(h'.update a λ_=>ob).get? b=h'.get? b:=λb hb=>JY _ _ (Ne.symm hb);have I3:Inv X pins σ (aA H2 s2.heap.objs.size (.xd [(f,y)])) {s2 with heap:=h'.update a λ_=>ob,toks:=t' }:=I2.laid (λb u z=>by
   by_cases hb:b=a
   ·subst hb;rw[e1]at z;cases z;exact oa
   ·rw[oo b hb];exact hk b u hb z) (Ke _) ⟨_,hn.at λo z=>(oo _ hne).trans z,λg=>?_⟩
 ·have I4:=I3.write (x:=a) (e:=a) (o:=xn a (.ref C) (some s2.heap.objs.size)) (h':=h') (t':=t') (by rw[am (Ne.symm hne),ea];exact True.intro) (.inl rfl) (λb u hb z=>by rw[<- oo b hb];exact z) ⟨_,hx⟩ ⟨⟨_,ws,hx,e2,rfl,e4,e5⟩,⟨_,hx⟩,sr⟩
  exact⟨σ,_,I4,q2 _ hfr⟩
 ·show jO (List.lookup g [(f,y)]) (if g=f then some u else none)
  by_cases z:g=f
  ·have hb:(g==f)=true:=beq_iff_eq.mpr z
   simp only[List.lookup,hb,if_pos z];exact ry
  ·have hb:(g==f)=false:=beq_eq_false_iff_ne.mpr z
   simp only[List.lookup,hb,if_neg z];exact True.intro
end
noncomputable def ml(C:Addr)(fn:Str):Sp:=λvs H Q _=>∃a v,vs=[.ref a,v]/\H a=some (xn a (.ref C) none)/\∀d,H d=none->Q .non (aA (aA H d (.xd [(fn,v)])) a (xn a (.ref C) (some d)))
noncomputable def ug(H:Hp)(e:Addr):Hp:=λb=>if b=e then none else H b
theorem fL{H:Hp}{e b:Addr}(h:b≠e):ug H e b=H b:=by unfold ug;rw[if_neg h]
theorem kb{H:Hp}{e:Addr}:ug H e e=none:=by unfold ug;rw[if_pos rfl]
noncomputable def Dh(X:Cx)(E:XK):Prop:=∀(pins:KN) (σ:St) (H2:Hp) (s2:KP) (hm:Heap) (H3:Hp) (s3:KP) (e C:Addr) (od:K1),Inv X pins σ H2 s2->Inv X pins σ H3 s3->s2.heap.get? e=none ->
 (∀b o,s2.heap.get? b=some o->hm.get? b=some o)->Un (nE X.stack) [] (aA H2 e (xn e (.ref C) none)) H3 hm s3.heap->s3.os=s2.os->H3 e=some (xn e (.ref C) od)->E (.ref C) od (ug H3 e)->X.xe (.ref e) s3
section
variable {P:KW}{w:K0}{K:KM}{mg:KS}{base:Heap}{N:KY}{qual:Str}{scope:Scope}{f:Addr}{cd:Value}{A:KZ}{outer:List Env}{s:KP}{H:Hp}{E E1:XK}
theorem dI(hE:∀c d H',E1 c d H'->E c d H'):Dh (fU (bE P w) P w K mg base N qual scope f cd A outer s H E) E1:=by
 intro pins σ H2 s2 hm H3 s3 e C od I2 I3 new keep un os3 he3 q;obtain⟨⟨oe,vs,g1,g2,g3,g4,g5⟩,_,_⟩:=(show bU P w H3 s3.heap e (xn e (.ref C) od) from I3.hok e _ he3);have ne:∀b o,s2.heap.get? b=some o->b≠e:=λb o z y=>by rw[y,new]at z;cases z
 have h2e:H2 e=none:=by
  cases z:H2 e with
  |none=>rfl
  |some o=>
   obtain⟨ob,hob⟩:=(I2.hok e o z).there;rw[new]at hob;cases hob
 have hin:∀env∈(fU (bE P w) P w K mg base N qual scope f cd A outer s H E).stack,∀b,env.frame=some b->b∈e::nE (fU (bE P w) P w K mg base N qual scope f cd A outer s H E).stack:=λenv he b hb=>.tail _ (List.mem_filterMap.mpr ⟨env,he,hb⟩);have hff:=PySem.W.funFrames_hide I3.stack hin;have u0:∀b,b≠e->H2 b=none->aA H2 e (xn e (.ref C) none) b=none:=λb hb n=>by rw[am hb];exact n
 have fly0:Fly0 P w (fU (bE P w) P w K mg base N qual scope f cd A outer s H E).stack H2 s2 (PySem.W.hideAll s3.heap (e::nE (fU (bE P w) P w K mg base N qual scope f cd A outer s H E).stack)) (ug H3 e) s3:=by
  refine⟨λb o z=>PySem.W.of_hideAll _ z,hff,⟨λb o z n hb _=>un.keep b o (keep b o z) (u0 b (ne b o z) n) hb (by simp),λb o z n hb _=>un.slot b o (keep b o z) (u0 b (ne b o z) n) hb (by simp),λb o z n _=>?_,λb o z _=>un.there b o (keep b o z) (by simp),λb xs z=>?_,λb o y z=>?_,λb ps z=>?_⟩,λb o z=>?_,λb o z=>?_,λb o z hb=>?_,os3,I3.bare⟩
  ·rw[fL (ne b o z)]
   exact un.free b o (keep b o z) (u0 b (ne b o z) n) (by simp)
  ·have hb:b≠e:=aD z h2e
   rw[fL hb];exact un.tups b xs (by rw[am hb];exact z)
  ·have hb:b≠e:=aD z h2e
   rw[fL hb];exact un.frzs b o y (by rw[am hb];exact z)
  ·have hb:b≠e:=aD z h2e
   rw[fL hb];exact un.tbls b ps (by rw[am hb];exact z)
  ·have hb:b≠e:=λy=>by rw[y,kb]at z;cases z
   rw[fL hb]at z;exact(I3.hok b o z).stay (λ_ _ _ y=>y) (λc y=>by rw[fL (λx=>by rw[x,he3]at y;cases y)];exact y) λc xs y=>by rw[fL (λx=>by rw[x,he3]at y;cases y)];exact y
  ·have hb:b≠e:=λy=>by rw[y,kb]at z;cases z
   rw[fL hb]at z;obtain⟨ob,hob⟩:=(I3.hok b o z).there;refine⟨ob,PySem.W.hideAll_get _ hob λhm=>?_⟩;rcases J8.mp hm with y | y
   ·exact hb y
   ·rw[I3.stkFree b y]at z;cases z
  ·obtain⟨o',z'⟩:=un.there b o (keep b o z) (by simp)
   refine⟨o',PySem.W.hideAll_get _ z' λhm=>?_⟩;rcases J8.mp hm with y | y
   ·exact ne b o z y
   ·exact hb y
 have newB:(PySem.W.hideAll s3.heap (e::nE (fU (bE P w) P w K mg base N qual scope f cd A outer s H E).stack)).get? e=none:=PySem.W.hideAll_none _ (List.mem_cons_self ..);refine yz (cp:=λv=>v=.none) (s:=s3) I3.ok.frames fly0.ff rfl g1 fly0.st newB g4 g5.1 ⟨_,g5.2.1,rfl⟩ λh' fl2 up=>?_;rw[g2,g3]at fl2;exact⟨e,.ref C,od,_,ug H3 e,rfl,Fly0.up I2 rfl rfl rfl rfl rfl fly0 fl2 up,kb,hE _ _ _ q⟩
end
structure XI(P:KW)(w:K0)(K:KM)(mg:KS)(base:Heap)(k:Nat)(C:Addr)(fn:Str):Prop where
 ex:∃(bm bmN:KQ) (newId Bn inN B nid initId:String) (fI:Addr) (fd:KU) (ps:KY),zN K C bm newId/\ExcBaseFacts Bn newId inN bmN/\bm.contains (.type Bn)=true/\ExcBaseFacts B nid initId bm /\
  PySem.W.findIn K (.ref C) "__init__"=some (some (.ref fI))/\PySem.W.typeIn K (.ref fI)=some (.type "function")/\aQ P w K mg base bC k fI fd ps (ml C fn)/\b7 K fd ps []
section
variable {X:Cx}{x:Str}{np cpos pos:Pos}{e₀:Expr}{t:TA}{C:Addr}{fn:Str}{k:Nat}{E:XK}
noncomputable def uV(C:Addr)(fn:Str)(E:XK)(t:TA):TS:=λ_ σ H=>t σ H λvs H1=>vs.length<=sizeLine/\∃v,vs=[v]/\∀d,H1 d=none->E (.ref C) (some d) (aA H1 d (.xd [(fn,v)]))
theorem dJ(c:XI X.prog X.w X.K X.mg X.base k C fn)(hr:df (k+1) X.A)(hc:X.calm=true)(hg:Gl X x)(hm:X.mg x=some (.ref C))(hx:Dh X E)(ha:PA X [e₀] t)
  (hd:autoParam ((x==("__debug__":Str))=false) zzK._auto_1) (he:autoParam (starEach [e₀] X.env=(false,eval e₀ X.env)::starEach [] X.env) zzR._auto_1) (hpl:autoParam ((backTo cpos (starEach [] X.env)).any (·.1)=false) zzR._auto_1) :
  PS X (.Raise (some (.Call (.Name x np) [e₀] [] cpos)) none pos) (uV C fn E t):=by
 obtain⟨bmB,bmN,newId,Bn,inN,B,nid,initId,fI,fd,ps,c1,c2,c3,c4,hi,hf,F,hb⟩:=c.ex;intro pins s σ H D I h;obtain⟨tl,N,nm,q,bs,hdct,sn,sub,ab,col,dd,k0,k1,k2,k3,k5,hC,T,_⟩:=c1.obj I.mod.kin;refine mY (K:=X.K) (fI:=fI) (C:=C) (nm:=nm) (q:=q) (N:=N) (bs:=bs) (bm:=tl) (hdct:=hdct) (sn:=sn) (sub:=sub) (ab:=ab) (col:=col) (dd:=dd) (k0:=k0) (k1:=k1) (k2:=k2) (k3:=k3) (k5:=k5)
  c2 c3 c4 (T.hasType c4.hasBase) (I.ok.hd hc) (by rw[he];show(false||(backTo cpos (starEach [] X.env)).any (·.1))=false;rw[hpl];rfl) hi hf (ke I hg hm ⟨rfl,?_⟩ hd)
 rw[he];have ha':=ha cpos pins s σ H _ I h;rw[he]at ha';refine Calls.evalArgs_plain (wpAny_mono ha' (λus s₂ ⟨vs,H1,I1,r1,z,v,ev,q1⟩=>⟨rfl,by rw[<- r1.length];exact z,I1.bk _ _ hC,I1.kIn,T.keeps I1.bk,λh' e hx'=>?_⟩) λ_ _ y=>y);subst ev;obtain⟨u,rfl,ru⟩:=r1.one;obtain⟨t0,he0,ht0,htt⟩:=hx'.there;have ne:∀b o,s₂.heap.get? b=some o->b≠e:=λb o z y=>by rw[y,hx'.new]at z;cases z
 have h1e:H1 e=none:=by
  cases z:H1 e with
  |none=>rfl
  |some o=>
   obtain⟨ob,hob⟩:=(I1.hok e o z).there;rw[hx'.new]at hob;cases hob
 have Im:Inv X pins σ (aA H1 e (xn e (.ref C) none)) {s₂ with heap:=h' }:=by
  refine I1.call' (s':={s₂ with heap:=h' }) (ch:=[]) rfl ⟨λb o z _ _ _=>hx'.keeps b o z,λb o z _ _ _=>⟨o.slots,hx'.keeps b o z⟩,λb o z n _=>by rw[am (ne b o z)];exact n,λb o z _=>⟨o,hx'.keeps b o z⟩,λb xs z=>by rw[am (aD z h1e)];exact z,λb o y z=>by rw[am (aD z h1e)];exact z,λb ps z=>⟨#[],by rw[am (aD z h1e),z];simp⟩⟩ (λb o z=>?_) I1.bare (λb z=>absurd z (by simp))
  by_cases hb:b=e
  ·subst hb
   rw[ac]at z;cases z;exact⟨⟨_,_,he0,rfl,rfl,rfl,rfl,rfl,rfl⟩,⟨_,he0⟩,sr⟩
  ·rw[am hb]at z
   exact(I1.hok b o z).stay (λc u _ y=>hx'.keeps c u y) (λc y=>by rw[am (aD y h1e)];exact y) λc xs y=>by rw[am (aD y h1e)];exact y
 have hsp:ml C fn [.ref e,v] (aA H1 e (xn e (.ref C) none)) (λr H3=>r=.non/\∃d,H3 e=some (xn e (.ref C) (some d))/\E (.ref C) (some d) (ug H3 e)) (λ_ _ _=>False):=by
  refine⟨e,v,rfl,ac,λd hd'=>⟨rfl,d,ac,?_⟩⟩;have hde:d≠e:=λy=>by rw[y,ac]at hd';cases hd'
  rw[am hde]at hd';have ee:ug (aA (aA (aA H1 e (xn e (.ref C) none)) d (.xd [(fn,v)])) e (xn e (.ref C) (some d))) e=aA H1 d (.xd [(fn,v)]):=by
   funext b
   by_cases hb:b=e
   ·rw[hb,kb,am (Ne.symm hde)];exact h1e.symm
   ·rw[fL hb,am hb]
    by_cases hbd:b=d
    ·rw[hbd,ac,ac]
    ·rw[am hbd,am hb,am hbd]
  rw[ee];exact q1 d hd'
 have hl:([Value.ref e,u]++[]).length=ps.length:=(F.len _ _ _ _ hsp:[V.ref e,v].length=ps.length);have r2:bj [V.ref e,v] [Value.ref e,u]:=.cons rfl (.cons ru .nil);refine wpAny_call (codeAny_mono (F.run _ X.stack _ _ ⟨[.ref e,u],[]⟩ [.ref e,u] _ _ _ (hr.make C [u] []) (Im.env0.make C [u] []) (hb _ [Value.ref e,u] Im.kIn hl) r2 hsp) λr s' hq'=>?_);cases r with
 |error ev=>exact False.elim hq'
 |ok fl=>
  cases fl with
  |ret u'=>
   obtain⟨v',H3,os3,bare3,un3,hok3,rv,ev,d,he3,qE⟩:=hq';subst ev;have I3:=Im.call' (ch:=[]) os3 un3 hok3 bare3 (λb z=>absurd z (by simp));obtain⟨⟨oe,ws,g1,g2,g3,g4,g5⟩,_,_⟩:=(show bU X.prog X.w H3 s'.heap e (xn e (.ref C) (some d)) from I3.hok e _ he3);exact⟨rv,oe,ws,I3.bk _ _ hC,g1,g2,g4,g5.1,hx pins σ H1 s₂ h' H3 s' e C (some d) I1 I3 hx'.new hx'.keeps un3 os3 he3 qE⟩
  |next=>exact False.elim hq'
  |brk=>exact False.elim hq'
  |cont=>exact False.elim hq'
end
section
variable {X:Cx}{P:KW}{w:K0}{e tg:Expr}{tx:TX}{g:TG}{i:Nat}{n x:Str}{D:Addr}{bmD:KQ}{nD:String}{b₀:Stmt}{suite:List Stmt}{apos pos hpos np:Pos}{ts:Addr->TS}
end
section
variable {X:Cx}{pins:KN}{σ:St}{H:Hp}{s:KP}
end
end L2
namespace PySem.W
open PySem PySem.Spec PySem.Calls PyProof.Rows
section
variable {prog:KW}{w:K0}{A:KZ}{E:KL}{s:KP}{K:Frag}{x D:Addr}{ox:Obj}{odo:Option Obj}{name:Str}
end
end PySem.W
namespace L2
open PySem PySem.Spec PyProof.Rows
section
variable {X:Cx}{e:Expr}{ta:TE}{f:Str}{pos:Pos}
end
end L2
namespace SpM
open PySem
noncomputable def step(c:Nat)(rows:List (List Nat))(d:Nat):List (List Nat):=if d=c then rows++[[]] else rows.dropLast++[rows.getLastD []++[d]]
noncomputable def Bd(c:Nat)(x:KO):List (List Nat):=x.foldl (step c) [[]]
theorem pY(c:Nat){n:Nat}{rows:List (List Nat)}(h:∀r∈rows,r.length<=n)(d:Nat):∀r∈step c rows d,r.length<=n+1:=by
 intro r hr;unfold step at hr
 split at hr
 ·rcases J6.mp hr with q | q
  ·exact Nat.le_succ_of_le (h r q)
  ·rw[JV.mp q];simp
 ·rcases J6.mp hr with q | q
  ·exact Nat.le_succ_of_le (h r (List.dropLast_subset _ q))
  ·rw[JV.mp q,Kd]
   have:(rows.getLastD []).length<=n:=by
    by_cases e:rows=[]
    ·rw[e];simp
    ·have hl:rows.getLastD []∈rows:=by
      rw[List.getLastD_eq_getLast?,List.getLast?_eq_some_getLast e];exact List.getLast_mem e
     exact h _ hl
   simpa using this
theorem zL(c:Nat)(rows:List (List Nat))(d:Nat):(step c rows d).length<=rows.length+1:=by
 unfold step
 split
 ·simp
 ·rw[Kd,List.length_dropLast];simp
theorem l7(c:Nat):∀(x:KO) (rows:List (List Nat)) (n:Nat),(∀r∈rows,r.length<=n)->(∀r∈x.foldl (step c) rows,r.length<=n+x.length)/\(x.foldl (step c) rows).length<=rows.length+x.length
 | [],rows,n,h=>⟨by simpa using h,by simp⟩
 |d::x,rows,n,h=>by
  obtain⟨h1,h2⟩:=l7 c x (step c rows d) (n+1) (pY c h d);have h3:=zL c rows d;refine⟨λr hr=>?_,?_⟩
  ·have:=h1 r hr;simp only[J4];omega
  ·rw[List.foldl_cons];simp only[J4];omega
theorem ki(c:Nat)(x:KO):(∀r∈Bd c x,r.length<=x.length)/\(Bd c x).length<=1+x.length:=by
 have:=l7 c x [[]] 0 (by simp);unfold Bd;simpa using this
end SpM
namespace PyProof.Rows
open PySem PySem.Spec PySem.Builtin PySem.Builtin.Str
section
variable {prog:KW}{w:K0}{A:KZ}{E:KL}{s:KP}{x y:Str}{t u:Tok}{Q:KL}
end
end PyProof.Rows
namespace L2
open PySem PySem.Spec PyProof.Rows QL
section
variable {X:Cx}
end
structure Da(K:KM)(C:Addr)(m:Str)(f:Addr):Prop where
 sp:PySem.W.specialIn K (.ref C) "__getattribute__"=some (some (.builtin "type.__getattribute__"))
 rd:PySem.W.readsIn K C (.type "type")=true
 fi:PySem.W.findCls K (.ref C) (.type "type") m=some (.val (.ref f))
 kp:PySem.W.keepIn K (.ref f)=true
section
variable {X:Cx}{CX:k7}{k:Nat}{f C:Addr}{fd:KU}{ps:KY}{sp:Sp}{E:XK}{x m:Str}{p pos apos:Pos}{e:Expr}{es:K2}{t:TA}
theorem B_{pl:Sem Bool}(c:Da X.K C m f)(F:aQ X.prog X.w X.K X.mg X.base CX k f fd ps sp)(hr:df k X.A)(hg:Gl X x)(hm:X.mg x=some (.ref C))(hb:b7 X.K fd ps [])(hx:cX CX X E)(ha:PA X (e::es) t)
  (hdb:autoParam ((x==("__debug__":Str))=false) zzK._auto_1) (hst:autoParam (starEach (e::es) X.env=(false,eval e X.env)::starEach es X.env) zzR._auto_1) (hpl:autoParam ((backTo pos (starEach es X.env)).any (·.1)=false) zzR._auto_1)
  (ht:autoParam (eval (.Call (.Attribute (.Name x p) m apos) (e::es) [] pos) X.env=(do
   let ov <- eval (.Name x p) X.env
   standAt apos.atName
   let (f,first) <- holding [ov] (getMethod ov m pl)
   callWith pos f first (backTo pos (starEach (e::es) X.env)) (backToKw pos (keywordEach [] X.env)))) zzR._auto_1) :
  PE X (.Call (.Attribute (.Name x p) m apos) (e::es) [] pos) (n6 sp [] E t):=by
 intro pins s σ H Q I h;refine PySem.W.methodCall_KW (pl:=pl) (ke I hg hm ?_ hdb) ht;refine PySem.W.method_cls I.kIn c.sp (PySem.W.cls_value I.kIn c.rd c.fi rfl ?_);have I1:=I.tok (s.toks+1);refine PySem.W.callWith_K (first:=[]) (h₀:=X.base) I.ok.mod.kin c.kp (bX (ha pos pins _ σ H _ I1 h) λus s2 ⟨vs,H2,I2,r,q2⟩=>⟨I2.kIn,?_⟩) hst hpl;exact nJ F hr hb .nil hx I2 r q2
end
section
variable (P:KW)(w:K0)(K:KM)(mg:KS)(base:Heap)(CX:k7)
structure At(k:Nat)(x m:Str)(ps:KY)(sp:Sp):Prop where
 ex:∃(C f:Addr) (fd:KU),aQ P w K mg base CX k f fd ps sp/\mg x=some (.ref C)/\Da K C m f/\b7 K fd ps []
structure lC(k:Nat)(x:Str)(C:Addr)(ps:KY)(sp:Sp):Prop where
 ex:∃(f:Addr) (fd:KU),aQ P w K mg base CX k f fd ps sp/\mg x=some (.ref C)/\Mk K C f/\b7 K fd ps []
structure b6(k:Nat)(C:Addr)(m:Str)(ps:KY)(sp:Sp):Prop where
 ex:∃(f:Addr) (fd:KU),aQ P w K mg base CX k f fd ps sp/\lT K C/\cQ K C m f/\b7 K fd ps []
end
section
variable {X:Cx}{CX:k7}{k:Nat}{C:Addr}{ps:KY}{sp:Sp}{E:XK}{x m:Str}{p pos apos:Pos}{e o:Expr}{es:K2}{t:TA}{ta:TE}
theorem oQ{pl:Sem Bool}(c:At X.prog X.w X.K X.mg X.base CX k x m ps sp)(hr:df k X.A)(hg:Gl X x)(hx:cX CX X E)(ha:PA X (e::es) t)
  (hdb:autoParam ((x==("__debug__":Str))=false) zzK._auto_1) (hst:autoParam (starEach (e::es) X.env=(false,eval e X.env)::starEach es X.env) zzR._auto_1) (hpl:autoParam ((backTo pos (starEach es X.env)).any (·.1)=false) zzR._auto_1)
  (ht:autoParam (eval (.Call (.Attribute (.Name x p) m apos) (e::es) [] pos) X.env=(do
   let ov <- eval (.Name x p) X.env
   standAt apos.atName
   let (f,first) <- holding [ov] (getMethod ov m pl)
   callWith pos f first (backTo pos (starEach (e::es) X.env)) (backToKw pos (keywordEach [] X.env)))) zzR._auto_1) :
  PE X (.Call (.Attribute (.Name x p) m apos) (e::es) [] pos) (n6 sp [] E t):=by
 obtain⟨C,f,fd,F,hm,cf,hb⟩:=c.ex;exact B_ cf F hr hg hm hb hx ha hdb hst hpl ht
theorem gD(c:lC X.prog X.w X.K X.mg X.base CX k x C ps sp)(hr:df (k+1) X.A)(hg:Gl X x)(hx:cX CX X E)(ha:PA X (e::es) t)
  (hdb:autoParam ((x==("__debug__":Str))=false) zzK._auto_1) (hst:autoParam (starEach (e::es) X.env=(false,eval e X.env)::starEach es X.env) zzR._auto_1) (hpl:autoParam ((backTo pos (starEach es X.env)).any (·.1)=false) zzR._auto_1) :
  PE X (.Call (.Name x p) (e::es) [] pos) (yG C sp [] E t):=by
 obtain⟨f,fd,F,hm,M,hb⟩:=c.ex;exact Dw M F hr hg hm hb .nil hx ha hdb hst hpl
theorem bV{pl:Sem Bool}(c:b6 X.prog X.w X.K X.mg X.base CX k C m ps sp)(hr:df k X.A)(hx:cX CX X E)(he:PE X o ta)(ha:PA X (e::es) t)
  (hst:autoParam (starEach (e::es) X.env=(false,eval e X.env)::starEach es X.env) zzR._auto_1) (hpl:autoParam ((backTo pos (starEach es X.env)).any (·.1)=false) zzR._auto_1)
  (ht:autoParam (eval (.Call (.Attribute o m apos) (e::es) [] pos) X.env=(do
   let ov <- eval o X.env
   standAt apos.atName
   let (f,first) <- holding [ov] (getMethod ov m pl)
   callWith pos f first (backTo pos (starEach (e::es) X.env)) (backToKw pos (keywordEach [] X.env)))) zzR._auto_1) :
  PE X (.Call (.Attribute o m apos) (e::es) [] pos) (r8 C m sp [] E ta t):=by
 obtain⟨f,fd,F,cl,hm,hb⟩:=c.ex;exact DB he cl hm F hr hb .nil hx ha hst hpl ht
theorem Bb{pl:Sem Bool}(c:b6 X.prog X.w X.K X.mg X.base CX k C m ps sp)(hr:df k X.A)(hx:cX CX X E)(he:PE X o ta)
  (ht:autoParam (eval (.Call (.Attribute o m apos) [] [] pos) X.env=(do
   let ov <- eval o X.env
   standAt apos.atName
   let (f,first) <- holding [ov] (getMethod ov m pl)
   callWith pos f first (backTo pos (starEach [] X.env)) (backToKw pos (keywordEach [] X.env)))) zzR._auto_1) :
  PE X (.Call (.Attribute o m apos) [] [] pos) (r8 C m sp [] E ta rh):=by
 obtain⟨f,fd,F,cl,hm,hb⟩:=c.ex;exact C8 he cl hm F hr hb .nil hx ht
end
section
variable {g:TG}{ti:TT}{te:TE}{σ:St}{H:Hp}{Q:List V->Hp->Prop}
theorem Bk{x:Str}(Pv:Nat->List V->St->Hp->Prop)(h0:Pv 0 [] σ H)(hz:∀i acc σ H,Pv i acc σ H->acc.length<sizeLine)(hi:∀i acc σ H,Pv i acc σ H->i<=x.cps.size)
  (hs:∀i c acc σ H,x.cps[i]?=some c->Pv i acc σ H->g (.str ⟨#[c]⟩) σ H λσ2 H3=>ti σ2 H3 λb H4=>if b=true then te σ2 H4 λv H5=>Pv (i+1) (acc++[v]) σ2 H5 else Pv (i+1) acc σ2 H4)
  (he:∀acc σ H,Pv x.cps.size acc σ H->Q acc H):i7 (FP x) g ti te σ H Q:=by
 exact kj (J:=FP x) (g:=g) (ti:=ti) (te:=te) (Q:=Q) (n:=x.cps.size) Pv h0 hz hi (λacc σ H w=>Ke _) (λi acc σ H hlt w=>hlt)
  (λi v acc σ H H2 hlt w y=>by obtain⟨rfl,c,hc,rfl⟩:=y;exact hs i c acc σ H2 hc w) he
end
section
variable {X:Cx}{e:Expr}{tx:TX}{i:Nat}{n x:Str}{D:Addr}{bmD:KQ}{nD:String}{b₀:Stmt}{suite:List Stmt}{epos pos hpos np:Pos}{ts:Addr->TS}
end
section
variable (P:KW)(w:K0)(K:KM)(mg:KS)(base:Heap)(CX:k7)
structure oy(k:Nat)(m:Str)(os:List (Addr×Sp)):Prop where
 ex:∀o∈os,∃ps,b6 P w K mg base CX k o.1 m ps o.2
end
noncomputable def sI(m:Str)(os:List (Addr×Sp))(E:XK)(ta:TE)(t:TA):TE:=λσ H Q=>ta σ H λx H1=>∃o∈os,∃a dx fs,x=.ref a/\H1 a=some (.ins o.1 dx fs)/\fs.lookup m=none /\
 t σ H1 λvs H2=>o.2 (x::(vs++[])) H2 Q E
section
variable {X:Cx}{CX:k7}{k:Nat}{os:List (Addr×Sp)}{E:XK}{m:Str}{pos apos:Pos}{e o:Expr}{es:K2}{t:TA}{ta:TE}
theorem yH{pl:Sem Bool}(c:oy X.prog X.w X.K X.mg X.base CX k m os)(hr:df k X.A)(hx:cX CX X E)(he:PE X o ta)(ha:PA X (e::es) t)
  (hst:autoParam (starEach (e::es) X.env=(false,eval e X.env)::starEach es X.env) zzR._auto_1) (hpl:autoParam ((backTo pos (starEach es X.env)).any (·.1)=false) zzR._auto_1)
  (ht:autoParam (eval (.Call (.Attribute o m apos) (e::es) [] pos) X.env=(do
   let ov <- eval o X.env
   standAt apos.atName
   let (f,first) <- holding [ov] (getMethod ov m pl)
   callWith pos f first (backTo pos (starEach (e::es) X.env)) (backToKw pos (keywordEach [] X.env)))) zzR._auto_1) :
  PE X (.Call (.Attribute o m apos) (e::es) [] pos) (sI m os E ta t):=by
 intro pins s σ H Q I h;refine PySem.W.methodCall_KW (pl:=pl) (bX (he pins s σ H _ I h) λu s1 ⟨x,H1,I1,rx,oc,ho,a,dx,fs,ex,ea,l,q⟩=>?_) ht;subst ex;obtain rfl:u=Value.ref a:=rx;obtain⟨ps,cm⟩:=c.ex oc ho;obtain⟨f,fd,F,cl,hm,hb⟩:=cm.ex;refine gi I1 ea cl hm l ?_;refine PySem.W.callWith_K (first:=[.ref a]) (h₀:=X.base) I.ok.mod.kin hm.kp (bX (ha pos pins s1 σ H1 _ I1 q) λus s2 ⟨vs,H2,I2,r,q2⟩=>⟨I2.kIn,?_⟩) hst hpl;exact nJ (us:=.ref a::us) (vs:=.ref a::vs) F hr hb .nil hx I2 (.cons rfl r) q2
theorem u7{pl:Sem Bool}(c:oy X.prog X.w X.K X.mg X.base CX k m os)(hr:df k X.A)(hx:cX CX X E)(he:PE X o ta)
  (ht:autoParam (eval (.Call (.Attribute o m apos) [] [] pos) X.env=(do
   let ov <- eval o X.env
   standAt apos.atName
   let (f,first) <- holding [ov] (getMethod ov m pl)
   callWith pos f first (backTo pos (starEach [] X.env)) (backToKw pos (keywordEach [] X.env)))) zzR._auto_1) :
  PE X (.Call (.Attribute o m apos) [] [] pos) (sI m os E ta rh):=by
 intro pins s σ H Q I h;refine PySem.W.methodCall_KW (pl:=pl) (bX (he pins s σ H _ I h) λu s1 ⟨x,H1,I1,rx,oc,ho,a,dx,fs,ex,ea,l,q⟩=>?_) ht;subst ex;obtain rfl:u=Value.ref a:=rx;obtain⟨ps,cm⟩:=c.ex oc ho;obtain⟨f,fd,F,cl,hm,hb⟩:=cm.ex;refine gi I1 ea cl hm l ?_;exact PySem.W.callWith_K0 (first:=[.ref a]) I1.kIn hm.kp (nJ (us:=[.ref a]) (vs:=[.ref a]) F hr hb .nil hx I1 (.cons rfl .nil) q)
end
structure fz(K:KM)(C:Addr):Prop where
 cl:lT K C
 ha:PySem.W.findIn K (.ref C) "__class__"=some (some (.builtin "object.__class__"))
 hn:PySem.W.specialIn K (.builtin "object.__class__") "__get__"=some (some (.builtin "getset_descriptor.__get__"))
 htk:PySem.W.takesIn K (.builtin "object.__class__")=some true
 hm:PySem.W.mroIn K C (.type "object")=some true
theorem fz.ty{K:KM}{C a dx:Addr}{H:Hp}{fs:List (Str×V)}(i:fz K C)(e:H a=some (.ins C dx fs)):jl K H (.ref a) (.ref C):=.ins e i.cl i.ha i.hn i.htk i.hm
section
variable {X:Cx}{CX:k7}{k:Nat}{os:List (Addr×Sp)}{m:Str}{pos apos:Pos}{e o:Expr}{es:K2}{t:TA}{ta:TE}
end
section
variable {X:Cx}{es:K2}{t:TA}
theorem bP{x j p}(hr:PA X es t):PA X (.Constant (.str x) j p::es) (ld (tC (.str x)) t):=aa jX hr rfl
theorem bM{x j p}(hr:PA X es t):PA X (.Constant (.int x) j p::es) (ld (tC (.int x)) t):=aa aj hr rfl
end
end L2
namespace PyProof.Rows
open PySem PySem.Spec PySem.Builtin PySem.Builtin.Str
section
variable {prog:KW}{w:K0}{A:KZ}{E:KL}{s:KP}{x y:Str}{t u:Tok}{Q:KL}
end
end PyProof.Rows
namespace L2
open PySem PySem.Spec PyProof.Rows QL
section
variable {X:Cx}
end
section
variable {X:Cx}
end
section
variable {X:Cx}{pins:KN}{σ:St}{H:Hp}{s:KP}{a:Addr}{kvs:List (cS×V)}{k:cS}{u r:Value}{d:V}{A:KZ}{E:KL}
theorem BM{Q:KL}(I:Inv X pins σ H s)(e:H a=some (.dK kvs))(ry:bo (kV k) u)(rd:bo d r)(hl:kvs.length<sizeLine)
  (h1:∀v w' s',ce kvs k=some v->Inv X pins σ H s'->bo v w'->Q w' s') (h2:ce kvs k=none->∀s',Inv X pins σ (aA H a (.dK (cB kvs k d))) s'->Q r s') :
  wpAny (model X.prog X.w) A (call (.builtin "dict.setdefault") [.ref a,u,r]) Q E s:=by
 obtain⟨z,hd,vs,rel,dd⟩:=C6 I.hok e;have hz:vs.length<=sizeLine:=by rw[<- rel.length];exact z
 have hl':(cB kvs k d).length<=sizeLine:=by have:=gz kvs k d;omega
 refine call_meetsIn PySem.F.slot_dict_setdefault dd.typeIs PySem.F.entry_dict_setdefault (PySem.F.args_dict_setdefault_3 _ _ _) (kt_meets_setdefault (cG X.prog X.w) a (so ry) hd r) ⟨vs,dd,hz,λv hv=>?_,λhn h' dd' hs=>?_⟩
 ·have q:=rel.val k
  rw[hv]at q;cases hvv:ce kvs k with
  |none=>rw[hvv]at q;exact False.elim q
  |some v0=>rw[hvv]at q;exact h1 v0 v _ hvv (I.tok _) q
 ·have q:=rel.val k
  rw[hn]at q;have hvv:ce kvs k=none:=by
   cases hvv:ce kvs k with
   |none=>rfl
   |some v0=>rw[hvv]at q;exact False.elim q
  have he:∃q,h'.get? a=some q:=let ⟨q,_,_,hq,_⟩:=dd';⟨q,hq⟩
  exact h2 hvv _ (oP I (by rw[e];exact True.intro) hs he (wZ hl' hd (rel.put k rd) dd'))
end
noncomputable def vm(td ty tx:TE):TE:=λσ H Q=>td σ H λx H1=>∃a,x=.ref a/\Hd H1 a/\ty σ H1 λy H2=>tx σ H2 λz H3=>∃kvs k,H3 a=some (.dK kvs)/\y=kV k/\kvs.length<sizeLine /\
 (∀v,ce kvs k=some v->Q v H3)/\(ce kvs k=none->Q z (aA H3 a (.dK (cB kvs k z))))
section
variable {X:Cx}{o e f:Expr}{apos cpos:Pos}{td ty tx:TE}
theorem pi(ho:PE X o td)(he:PE X e ty)(hf:PE X f tx)(m:M2 X o "setdefault" apos e f cpos):PE X (.Call (.Attribute o "setdefault" apos) [e,f] [] cpos) (vm td ty tx):=by
 intro pins s σ H Q I h;refine wpAny_Call_method m.base m.few m.line PySem.F.plainAttrs_dict PySem.F.slot_dict_setdefault PySem.F.type_dict_setdefault (bX (ho pins s σ H _ I h) λu s1 ⟨x,H1,I1,rx,a,ex,d,q1⟩=>?_);subst ex;obtain rfl:u=Value.ref a:=rx;obtain⟨t1,t2,_⟩:=E6 I1 d;refine⟨t1,t2,?_⟩;rw[m.trees];refine Calls.callWith_builtin rfl (Calls.evalArgs_plain (Calls.spliced_cons (bX (he pins s1 σ H1 _ I1 q1) λiv s2 ⟨y,H2,I2,ry,q2⟩=>
  Calls.spliced_cons (bX (hf pins s2 σ H2 _ I2 q2) λfv s3 ⟨z,H3,I3,rz,kvs,k,hH,ey,hlen,g1,g2⟩=>Calls.spliced_nil ?_))))
 subst ey;exact BM I3 hH ry rz hlen (λv w' s4 hv I4 rv=>⟨v,H3,I4,rv,g1 v hv⟩) λhn s4 I4=>⟨z,_,I4,rz,g2 hn⟩
end
section
variable {X:Cx}
end
section
variable {K:Type}[DecidableEq K]
noncomputable def gx(σ:List K)(v:K):List K:=if v∈σ then σ else σ++[v]
noncomputable def met(l:List K):List K:=l.foldl gx []
theorem vK(σ:List K)(v k:K):decide (k∈gx σ v)=(decide (k∈σ)||decide (k=v)):=by
 unfold gx
 by_cases h:v∈σ
 ·rw[if_pos h]
  by_cases e:k=v
  ·subst e;simp[h]
  ·simp[e]
 ·rw[if_neg h]
  simp[J6]
theorem n8(σ:List K)(v:K):(gx σ v).length=if decide (v∈σ) then σ.length else σ.length+1:=by
 unfold gx
 by_cases h:v∈σ<;>simp[h]
theorem wg(l:List K)(v:K):met (l++[v])=gx (met l) v:=by unfold met;rw[List.foldl_append];rfl
theorem yA:∀(l σ:List K),(l.foldl gx σ).length<=σ.length+l.length
 | [],σ=>Ke _
 |v::l,σ=>by
  have h:=yA l (gx σ v);have e:=n8 σ v;rw[List.foldl_cons,J4]
  split at e<;>omega
theorem Ba(n:Nat)(l:List K)(h:l.length=n):(met l).length<=n:=by
 have:=yA l [];rw[<- h];unfold met;simpa using this
end
section
variable {prog:KW}{w:K0}{K:Type}[DecidableEq K]{knd:KeyKind prog w K}{A:KZ}{R:Result->Shared->Prop}{I:Addr}{fp wr:KR}{G:Array GenState->Array GenState->Prop}{n:Nat}{P:Nat->Value->Prop}{St:Nat->Shared->Prop}
theorem DI(W:WalksS prog w A.in1 I fp wr G n P St)(S:Addr)(hSf:S∉fp)(l:List K)(hl:l.length=n)
  (hval:∀i v,P i v->∃k,l[i]?=some k/\knd.is k v=true/\v.scannable=true) (hb:n+1<scanBound) :
  ∀(k i:Nat) (s:KP),n-i=k->i<=n->St i s ->
   s.heap.SetOf knd S (λk'=>decide (k'∈met (l.take i))) (met (l.take i)).length ->
   (∀s',Moved (S::wr) G s s'->s'.heap.SetOf knd S (λk'=>decide (k'∈met l)) (met l).length->R (.ok (.ret .none)) s') ->
   codeAny (model prog w) A (.builtin "set.update.loop" ⟨[.ref S,.ref I],[]⟩) R s:=by
 have hSw:S∉wr:=λh=>hSf (W.sub _ h);have hsub:∀b∈wr,b∈S::wr:=λb hb=>J9 _ hb;intro k
 induction k with
 |zero=>
  intro i s hk hi hst hS hR;have hin:i=n:=by omega
  subst hin;rw[<- hl,Kt]at hS;refine codeAny_builtin F.entry_set_update_loop ?_;rw[Around.under_plainId F.plain_set_update_loop _];show wpAny _ A.in1 (pyNext (.ref I) >>= _) _ _ s;refine wpAny_bind (W.done s _ _ hst λs' hm=>?_);show wpAny _ A.in1 (ret Value.none) _ _ s';refine wpAny_pure (hR s' (hm.mono hsub) ?_);obtain⟨o,es,ep,t,ho,cn⟩:=hS;exact⟨o,es,ep,t,hm.heap S _ hSw ho,cn⟩
 |succ k ih=>
  intro i s hk hi hst hS hR;have hlt:i<n:=by omega
  refine codeAny_builtin F.entry_set_update_loop ?_;rw[Around.under_plainId F.plain_set_update_loop _];show wpAny _ A.in1 (pyNext (.ref I) >>= _) _ _ s;refine wpAny_bind (W.item i s _ _ hlt hst λv s' hP hst' hm=>?_);obtain⟨key,hkey,his,hsc⟩:=hval i v hP;have hS':s'.heap.SetOf knd S (λk'=>decide (k'∈met (l.take i))) (met (l.take i)).length:=by
   obtain⟨o,es,ep,tb,ho,cn⟩:=hS;exact⟨o,es,ep,tb,hm.heap S _ hSw ho,cn⟩
  show wpAny _ A.in1 (holding [v] (setAdd S v) >>= _) _ _ s';refine wpAny_bind (wpAny_holding ?_);unfold setAdd;refine wpAny_holding ?_;refine wpAny_bind (knd.pyHash (k:=key) his ?_);have hroom:(met (l.take i)).length+1<scanBound:=by have:=Ba i (l.take i) (by rw[Ku];omega);omega
  refine wpAny_setAddHashed_of (knd:=knd) (s:={s' with toks:=s'.toks+1}) his hsc hS' hroom λh' hsb hS2=>?_;have ht:l.take (i+1)=l.take i++[key]:=by rw[List.take_add_one,hkey];rfl
  have hSi:h'.SetOf knd S (λk'=>decide (k'∈met (l.take (i+1)))) (met (l.take (i+1))).length:=
   SetOf_congr hS2 (λk'=>by rw[ht,wg,vK]) (by rw[ht,wg,n8])
  refine wpAny_pure ⟨plainId_quiet F.plain_set_update_loop _,ih (i+1) _ ⋯ hlt (W.frame _ s' _ _ hst' (Nat.le_succ _) λb hb o e=>?_) hSi λs'' hm'' hS''=>?_⟩
  ·rw[hsb.2 b (λh:b=S=>hSf (by rw[<- h];exact hb))];exact e
  ·refine hR s'' (Moved.trans W.gtrans ((hm.mono hsub).then_heap (Nat.le_succ _) λb o hb e=>?_) hm'') hS''
   rw[hsb.2 b (λh:b=S=>hb (by rw[h];exact List.mem_cons_self))];exact e
end
noncomputable def dn(z:Str):List Str:=z.cps.toList.map λc=>(⟨#[c]⟩:Str)
section
variable {prog:KW}{w:K0}{A:KZ}{E:KL}{s:KP}
set_option maxHeartbeats 3200000 in
theorem qR{x:Str}{t:Tok}{Q:KL}(hh:A.handled=none)(hb:x.cps.size+1<scanBound)
  (h:∀(h':Heap) (tk:Nat),h'.SetOf (strKind prog w) s.heap.objs.size (λk'=>decide (k'∈met (dn x))) (met (dn x)).length ->
   (∀b o,s.heap.get? b=some o->h'.get? b=some o)->Q (.ref s.heap.objs.size) {s with heap:=h',toks:=tk}) :
  wpAny (model prog w) A (call (.type "set") [.str x t]) Q E s:=by
 obtain⟨c,tl,hmro⟩:=PySem.F.called_set.mro;have hmade:=PySem.F.called_set.made;have hsub:=PySem.F.called_set.sub;refine wpAny_call (codeAny_of_tree ?_);show wpAny _ _ (callAny (.type "set") _) _ _ _;refine wpAny_pure ⟨Code.quiet_builtin _ (by decide +kernel),codeAny_builtin PySem.F.entry_type_call ?_⟩;rw[Around.under_plain (weight_type_call_type "set" [.str x t] []) rfl];have h1:=PySem.F.called_set.notType;have h2:=PySem.F.called_set.canCreate;have hct:=PySem.F.typeCall_set_1 (.str x t)
 repeat (any_goals (first | assumption | wp_step))
 refine codeAny_mono (code_set_new_1 (.str x t) (E:=E) (Q₁:=λobj s₁=>∃led:Bool,obj=.ref s.heap.objs.size/\s₁={s with heap:=s.heap.push {cls:=.type "set",dict:=none,data:=.set #[] 0 (.fresh 0 0 led)} }) λled=>⟨led,rfl,rfl⟩) λr s₁ hr=>?_;cases r with
 |error e=>exact hr
 |ok fl=>
  cases fl with
  |ret obj=>
   obtain⟨led,rfl,rfl⟩:=hr;have hS:(s.heap.push {cls:=.type "set",dict:=none,data:=.set #[] 0 (.fresh 0 0 led)}).get? s.heap.objs.size=some {cls:=.type "set",dict:=none,data:=.set #[] 0 (.fresh 0 0 led)}:=JZ _ rfl;have hT:Shared.TypeIs {s with heap:=s.heap.push {cls:=.type "set",dict:=none,data:=.set #[] 0 (.fresh 0 0 led)} } (.ref s.heap.objs.size) "set":=⟨_,hS,rfl⟩;have hli:=PySem.F.called_set.init.lookup;have hbi:=PySem.F.called_set.init.bind (.ref s.heap.objs.size)
   repeat (any_goals (first | assumption | wp_step))
   refine codeAny_mono (codeAny_call_builtin (R:=wants (λr s₂=>r=.none/\∃h' tk,s₂={s with heap:=h',toks:=tk} /\
     h'.SetOf (strKind prog w) s.heap.objs.size (λk'=>decide (k'∈met (dn x))) (met (dn x)).length /\
     (∀b o,s.heap.get? b=some o->h'.get? b=some o)) E) PySem.F.called_set.init.plain PySem.F.entry_set_init (check_set_init_1 hT ?_)) λr₂ s₂ hr₂=>?_
   ·have hsls:=PySem.F.sub_str_set
    have hslf:=PySem.F.sub_str_frozenset;have hne:(Value.type "str" == Value.type "dict")=false:=by decide
    unfold Builtin.«set.__init__» noKeywords Builtin.Frozenset.updateFrom;generalize hPI:pyIter=PI
    wp_walk
    subst hPI;refine wpAny_pyIter_str λo St W hst=>?_;refine wpAny_bind (wpAny_runValue ?_);have hSf:s.heap.objs.size∉[(s.heap.push {cls:=.type "set",dict:=none,data:=.set #[] 0 (.fresh 0 0 led)}).objs.size]:=by
     rw[Heap.size_push];simp only[JV]
     exact Ka (Ko _)
    refine DI (knd:=strKind prog w) ((W _ (by simp[hh])).toS) s.heap.objs.size hSf (dn x) (by simp[dn])
     (λi v ⟨c,u,hc,hv⟩=>⟨⟨#[c]⟩,by unfold dn;rw[JW,Array.getElem?_toList,hc];rfl,by rw[hv];exact strKind_is _ _ _ _,by rw[hv];rfl⟩) hb (x.cps.size-0) 0 _ ⋯ (Kf _) hst ?hS0 ?hR
    case hS0=>
     exact SetOf_congr ((setObjOf_fresh (knd:=strKind prog w) led).setOf (JT _ hS) (by unfold scanBound;omega)) (λ_=>rfl) rfl
    case hR=>
     intro s' hm hS';obtain⟨h',g',d',tk',os'⟩:=s';have eg:g'=s.gens:=hm.gens;have ed:d'=s.drawn:=hm.drawn;have eo:os'=s.os:=hm.os;subst eg;subst ed;subst eo
     show wpAny _ _ _ _ _ _;refine wpAny_pure ?_;show wpAny _ _ (ret Value.none) _ _ _;refine wpAny_pure ⟨rfl,h',tk',rfl,hS',λb o' e=>?_⟩;have hb:=Kh e;refine hm.heap b o' ?_ (JT _ (JT _ e));simp only[J8,List.not_mem_nil,or_false,not_or,Heap.size_push];exact⟨Ka hb,Ka (Nat.lt_succ_of_lt hb)⟩
   ·cases r₂ with
    |error e=>exact hr₂
    |ok fl₂=>
     cases fl₂ with
     |ret r=>
      obtain⟨rfl,h',tk,rfl,hS',hk'⟩:=hr₂
      repeat (any_goals (first | assumption | wp_step))
      exact h _ _ hS' hk'
     |_=>exact hr₂.elim
  |_=>exact hr.elim
end
noncomputable def tJ(t:TE):TE:=λσ H Q=>t σ H λx H1=>∃z,x=.str z/\z.cps.size+1<scanBound/\Q (.int (met (dn z)).length) H1
section
variable {X:Cx}{e:Expr}{t:TE}{p p2 pos pos2:Pos}
theorem yY(hc:X.calm=true)(ha:PE X e t)(g1:Gl X "len")(m1:X.mg "len"=none)(g2:Gl X "set")(m2:X.mg "set"=none)
  (he1:autoParam (starEach [.Call (.Name "set" p2) [e] [] pos2] X.env=[(false,eval (.Call (.Name "set" p2) [e] [] pos2) X.env)]) zzR._auto_1)
  (he2:autoParam (starEach [e] X.env=[(false,eval e X.env)]) zzR._auto_1) :
  PE X (.Call (.Name "len" p) [.Call (.Name "set" p2) [e] [] pos2] [] pos) (tJ t):=by
 intro pins s σ H Q I h;have hl:bootBuiltins "len"=some (.builtin "len"):=by decide +kernel
 have hs:bootBuiltins "set"=some (.type "set"):=by decide +kernel
 refine wpAny_Call_Name_kw (eV I g1 m1 hl ?_);refine PyProof.Rows.callWith_builtin1 ?_ he1 rfl;rw[he1];show wpAny _ _ (spliced [(false,eval (.Call (.Name "set" p2) [e] [] pos2) X.env)]) _ _ _;refine Calls.spliced_cons ?_;refine wpAny_Call_Name_kw (eV (I.tok _) g2 m2 hs ?_);refine PyProof.Rows.callWith_type1 ?_ he2 rfl;rw[he2];show wpAny _ _ (spliced [(false,eval e X.env)]) _ _ _;refine Calls.spliced_cons (bX (ha pins _ σ H _ (I.tok _) h) λu s1 ⟨x,H1,I1,rx,z,ex,hz,q⟩=>Calls.spliced_nil ?_);subst ex;obtain⟨tk,rfl⟩:=rx;refine qR (I.ok.hd hc) hz λh' tk' hS hk=>Calls.spliced_nil ?_;obtain⟨o,ho,hex,es,ep,tb,hd,_,_,hn,hf⟩:=hS.objOf;have hle:=Ba z.cps.size (dn z) (by simp[dn]);have hb:z.cps.size<4096:=by unfold scanBound at hz;omega
 refine call_len_set ho hex hd hf (by rw[hn];have:((4096:Nat):Int)<2^63:=nofun;omega) ?_;rw[hn];exact⟨.int _,H1,(I1.kept (t':=_) hk),⟨_,rfl⟩,q⟩
end
noncomputable abbrev NT:=List (Str×Addr×List Nat)
noncomputable def wt(t:NT):List (cS×V):=t.map λx=>(Sum.inr x.1,V.ref x.2.1)
noncomputable def wu(ns:KO):List V:=ns.map fun(n:Nat)=>V.int (n:Int)
structure c7(H:Hp)(p:Addr)(t:NT):Prop where
 dict:H p=some (.dK (wt t))
 list:∀x∈t,H x.2.1=some (.lst (wu x.2.2))
 apart:(t.map (·.2.1)).Nodup
theorem c7.grow{H H':Hp}{p:Addr}{t:NT}(N:c7 H p t)(k:∀a o,H a=some o->H' a=some o):c7 H' p t:=⟨k _ _ N.dict,λx hx=>k _ _ (N.list x hx),N.apart⟩
theorem ye(z:Str):∀t:NT,ce (wt t) (.inr z)=(t.find? λx=>decide (x.1=z)).map λx=>V.ref x.2.1
 | []=>rfl
 |x::t=>by
  have ih:=ye z t;unfold wt at ih ⊢;rw[Kl,List.find?_cons]
  by_cases e:x.1=z
  ·rw[cP (by rw[e])];simp[e]
  ·rw[cN (λh=>e (Sum.inr.inj h)),ih];simp[e]
theorem c7.new{H:Hp}{p l:Addr}{t:NT}{z:Str}(N:c7 H p t)(hl:H l=none)(hz:ce (wt t) (.inr z)=none) :
  c7 (aA (aA H l (.lst [])) p (.dK (cB (wt t) (.inr z) (.ref l)))) p (t++[(z,l,[])]):=by
 have hpl:p≠l:=λe=>by have:=N.dict;rw[e,hl]at this;exact nomatch this
 have hx:∀x∈t,x.2.1≠l/\x.2.1≠p:=λx hx=>by
  have q:=N.list x hx
  constructor
  ·intro e;rw[e,hl]at q;exact nomatch q
  ·intro e;rw[e,N.dict]at q;exact nomatch q
 refine⟨?_,λx h=>?_,?_⟩
 ·rw[ac,pz _ hz];unfold wt;rw[J5];rfl
 ·rcases J6.mp h with h | h
  ·rw[am (hx x h).2,am (hx x h).1];exact N.list x h
  ·rw[JV.mp h,am (Ne.symm hpl),ac];rfl
 ·rw[J5]
  refine List.nodup_append.mpr ⟨N.apart,by simp,λa ha b hb=>?_⟩;obtain⟨x,h1,rfl⟩:=Ky.mp ha;rw[List.map_singleton]at hb;rw[JV.mp hb];exact(hx x h1).1
theorem c7.put{H:Hp}{p:Addr}{t:NT}{i k:Nat}{x:Str×Addr×List Nat}(N:c7 H p t)(hi:t[i]?=some x) :
  c7 (aA H x.2.1 (.lst (wu (x.2.2++[k])))) p (t.set i (x.1,x.2.1,x.2.2++[k])):=by
 have hm:x∈t:=JX hi;have hp:p≠x.2.1:=λe=>by have:=N.list x hm;rw[<- e,N.dict]at this;exact nomatch this
 have hlt:i<t.length:=(JS.mp hi).1;have hk:wt (t.set i (x.1,x.2.1,x.2.2++[k]))=wt t:=by
  unfold wt;apply List.ext_getElem?;intro j;rw[JW,JW,List.getElem?_set]
  by_cases e:i=j
  ·subst e;rw[if_pos rfl,if_pos hlt,hi];rfl
  ·rw[if_neg e]
 have ha:(t.set i (x.1,x.2.1,x.2.2++[k])).map (·.2.1)=t.map (·.2.1):=by
  apply List.ext_getElem?;intro j;rw[JW,JW,List.getElem?_set]
  by_cases e:i=j
  ·subst e;rw[if_pos rfl,if_pos hlt,hi];rfl
  ·rw[if_neg e]
 refine⟨by rw[am hp,hk];exact N.dict,λy hy=>?_,by rw[ha];exact N.apart⟩;obtain⟨j,hj⟩:=List.mem_iff_getElem?.mp hy;rw[List.getElem?_set]at hj
 by_cases e:i=j
 ·rw[if_pos e,if_pos hlt]at hj
  cases hj;exact ac
 ·rw[if_neg e]at hj
  have hne:y.2.1≠x.2.1:=by
   intro q;have h1:(t.map (·.2.1))[i]?=some x.2.1:=by rw[JW,hi];rfl
   have h2:(t.map (·.2.1))[j]?=some x.2.1:=by rw[JW,hj];simp[q]
   exact e ((List.getElem?_inj (JS.mp h1).1 N.apart).mp (h1.trans h2.symm))
  rw[am hne];exact N.list y (JX hj)
noncomputable def jE(t:NT):List (Str×List Nat):=t.map λx=>(x.1,x.2.2)
noncomputable def bW(m:List (Str×List Nat))(z:Str):List (Str×List Nat):=if z∈m.map (·.1) then m else m++[(z,[])]
theorem Cl{t:NT}{z:Str}{v:V}(h:ce (wt t) (.inr z)=some v):∃(i:Nat) (x:Str×Addr×List Nat),t[i]?=some x/\x.1=z/\v=.ref x.2.1:=by
 rw[ye]at h;cases hf:t.find? (λx=>decide (x.1=z)) with
 |none=>rw[hf]at h;exact nomatch h
 |some x=>
  rw[hf]at h;have hv:V.ref x.2.1=v:=Option.some.inj h;obtain⟨i,hi⟩:=List.mem_iff_getElem?.mp (List.mem_of_find?_eq_some hf);have hz:=List.find?_some hf;exact⟨i,x,hi,of_decide_eq_true hz,hv.symm⟩
theorem yI(t:NT):(jE t).map (·.1)=t.map (·.1):=by unfold jE;rw[J7];rfl
theorem ER{t:NT}{z:Str}(h:ce (wt t) (.inr z)=none):¬ z∈(jE t).map (·.1):=by
 intro m;rw[yI]at m;obtain⟨x,hx,e⟩:=Ky.mp m;refine vN h (Ky.mpr ⟨(.inr x.1,.ref x.2.1),Ky.mpr ⟨x,hx,rfl⟩,?_⟩);show(Sum.inr x.1:cS)=Sum.inr z;rw[e]
theorem c7.setdef{H:Hp}{p l:Addr}{t:NT}{z:Str}{Q:VK}(N:c7 H p t)(hl:H l=none)(hn:t.length<sizeLine)
  (h:∀(H':Hp) (t':NT) (i:Nat) (x:Str×Addr×List Nat),c7 H' p t'->t'[i]?=some x->x.1=z->jE t'=bW (jE t) z->(∀y∈t',y∈t\/y.2.1=l)->(∀a o,a≠p->H a=some o->H' a=some o)->Q (.ref x.2.1) H') :
  ∃kvs k,aA H l (.lst []) p=some (.dK kvs)/\V.str z=kV k/\kvs.length<sizeLine/\(∀v,ce kvs k=some v->Q v (aA H l (.lst []))) /\
   (ce kvs k=none->Q (.ref l) (aA (aA H l (.lst [])) p (.dK (cB kvs k (.ref l))))):=by
 have hpl:p≠l:=λe=>by have:=N.dict;rw[e,hl]at this;exact nomatch this
 have gr:∀a o,H a=some o->aA H l (.lst []) a=some o:=λa o e=>by
  rw[am (λq=>by rw[q,hl]at e;exact nomatch e)];exact e
 refine⟨wt t,.inr z,gr _ _ N.dict,rfl,by unfold wt;rw[JU];exact hn,λv hv=>?_,λhz=>?_⟩
 ·obtain⟨i,x,hi,hx,rfl⟩:=Cl hv
  refine h _ t i x (N.grow gr) hi hx ?_ (λy hy=>.inl hy) λa o _ e=>gr a o e;have hm:z∈(jE t).map (·.1):=by rw[yI];exact Ky.mpr ⟨x,JX hi,hx⟩
  unfold bW;rw[if_pos hm]
 ·refine h _ (t++[(z,l,[])]) t.length (z,l,[]) (N.new hl hz) (by simp) rfl ?_ (λy hy=>(J6.mp hy).imp id λq=>by rw[JV.mp q]) λa o ha e=>by rw[am ha];exact gr a o e
  unfold bW;rw[if_neg (ER hz)];unfold jE;rw[J5];rfl
theorem DY{t:NT}{i:Nat}{x:Str×Addr×List Nat}(k:Nat):jE (t.set i (x.1,x.2.1,x.2.2++[k]))=(jE t).set i (x.1,x.2.2++[k]):=by
 unfold jE;rw[List.map_set]
theorem l6{m:List (Str×List Nat)}{z:Str}(h:(m.map (·.1)).Nodup):((bW m z).map (·.1)).Nodup:=by
 unfold bW
 by_cases e:z∈m.map (·.1)
 ·rw[if_pos e];exact h
 ·rw[if_neg e,J5]
  refine List.nodup_append.mpr ⟨h,by simp,λa ha b hb=>?_⟩;rw[List.map_singleton]at hb;rw[JV.mp hb];exact λq=>e ((show a=z from q)▸ha)
section
variable {X:Cx}{K:KM}{tg:Expr}
end
end L2
namespace QL
open PySem PySem.Spec PyProof.Rows
theorem Ft:bootBuiltins "max"=some (.builtin "max"):=by decide +kernel
end QL
namespace L2
open PySem PySem.Spec PyProof.Rows
section
variable {X:Cx}{CX:k7}{k:Nat}{C:Addr}{ps:KY}{sp:Sp}{x:Str}{p pos:Pos}{e:Expr}{es:K2}{t:TA}
end
section
variable {X:Cx}{e:Expr}{tx:TX}{i:Nat}{n x:Str}{D:Addr}{bmD:KQ}{nD:String}{b₀:Stmt}{suite:List Stmt}{epos pos hpos np:Pos}{ts:Addr->TS}
end
section
variable {X:Cx}{CX:k7}{k:Nat}{C:Addr}{ps:KY}{sp:Sp}{m:Str}{pos apos:Pos}{e o:Expr}{es:K2}{t:TA}{ta:TE}
end
section
variable {X:Cx}
end
end L2
namespace CtM
open PySem PySem.Builtin PySem.Builtin.Str QL SpM
theorem pY(c:Nat):∀(x:KO) (rows:List (List Nat)),rows≠[]->(x.foldl (SpM.step c) rows).length=rows.length+x.count c
 | [],rows,_=>by simp
 |d::x,rows,h=>by
  have h1:SpM.step c rows d≠[]:=by unfold SpM.step;split<;>simp
  rw[List.foldl_cons,pY c x _ h1,List.count_cons];unfold SpM.step
  by_cases e:d=c
  ·rw[if_pos e];subst e;simp;omega
  ·rw[if_neg e]
   have:0<rows.length:=List.length_pos_iff.mpr h;simp[e];omega
end CtM
namespace L2
open PySem PySem.Spec PyProof.Rows QL
section
variable {K:KM}{g:TG}{ti:TT}{te:TE}{σ:St}{H:Hp}{Q:List V->Hp->Prop}{α:Type}
theorem yM{as:List α}{f:α->Option V}{i:Nat}{x:α}(hx:as[i]?=some x):(as.take (i+1)).filterMap f=(as.take i).filterMap f++(f x).toList:=by
 rw[List.take_add_one,hx,List.filterMap_append];show _++List.filterMap f [x]=_;cases h:f x<;>simp[h]
theorem EO{as:List α}{f:α->Option V}(i:Nat):((as.take i).filterMap f).length<=as.length:=Km (List.length_filterMap_le _ _) (by rw[Ku];omega)
theorem j0{as:List α}(f:α->V):as.filterMap (λx=>some (f x))=as.map f:=by induction as with | nil=>rfl | cons x xs ih=>simp
theorem gl{a:Addr}{as:List α}{emb:α->V}{f:α->Option V}(S:St->Prop)(h0:S σ)(hl:∀H',aC H H'->aU K H' a (as.map emb))(hn:as.length<=1000000)
  (hs:∀(i:Nat) x,as[i]?=some x->∀σ H' (N1:V->St->Hp->Prop) (N0:St->Hp->Prop),S σ->aC H H'->(∀v σ2 H2,f x=some v->aC H H2->S σ2->N1 v σ2 H2)->(∀σ2 H2,f x=none->aC H H2->S σ2->N0 σ2 H2) ->
   g (emb x) σ H' λσ2 H3=>ti σ2 H3 λb H4=>if b=true then te σ2 H4 λv H5=>N1 v σ2 H5 else N0 σ2 H4)
  (he:∀H',aC H H'->Q (as.filterMap f) H'):i7 (Dk K a) g ti te σ H Q:=by
 refine ny (xs:=as.map emb) (λi acc σ H'=>aC H H'/\acc=(as.take i).filterMap f/\i<=as.length/\S σ) ⟨λ_ _ e=>e,rfl,Kf _,h0⟩ ?_ ?_ ?_ ?_ ?_
 ·rintro i acc σ H' ⟨_,rfl,_⟩
  have:=EO (as:=as) (f:=f) i;exact bd ⋯
 ·rintro i acc σ H' ⟨_,_,h,_⟩
  rw[JU];exact h
 ·rintro i acc σ H' ⟨sm,_⟩
  exact hl _ sm
 ·rintro i x acc σ H' hx ⟨sm,rfl,hi,hS⟩
  have hlt:i<as.length:=by have:=(JS.mp hx).1;rwa [JU]at this
  rw[JW,JR hlt]at hx;cases hx;have hg:as[i]?=some as[i]:=JR hlt;refine hs i as[i] hg σ H' (λv σ2 H5=>_) (λσ2 H4=>_) hS sm (λv σ2 H2 hf s2 hS2=>⟨s2,?_,hlt,hS2⟩) (λσ2 H2 hf s2 hS2=>⟨s2,?_,hlt,hS2⟩)
  ·rw[yM hg,hf];rfl
  ·rw[yM hg,hf];simp
 ·rintro acc σ H' ⟨sm,rfl,_⟩
  have e:(as.take (as.map emb).length).filterMap f=as.filterMap f:=by rw[JU,Kt]
  rw[e];exact he _ sm
theorem nV{n:Nat}{f:Nat->Option V}(S:St->Prop)(h0:S σ)(hn:n<=1000000)
  (hs:∀i,i<n->∀σ H' (N1:V->St->Hp->Prop) (N0:St->Hp->Prop),S σ->aC H H'->(∀v σ2 H2,f i=some v->aC H H2->S σ2->N1 v σ2 H2)->(∀σ2 H2,f i=none->aC H H2->S σ2->N0 σ2 H2) ->
   g (.int (0+(i:Int))) σ H' λσ2 H3=>ti σ2 H3 λb H4=>if b=true then te σ2 H4 λv H5=>N1 v σ2 H5 else N0 σ2 H4)
  (he:∀H',aC H H'->Q ((List.range n).filterMap f) H'):i7 (AZ 0 n) g ti te σ H Q:=by
 refine eW (lo:=0) (n:=n) (λi acc σ H'=>aC H H'/\acc=(List.range i).filterMap f/\i<=n/\S σ) ⟨λ_ _ e=>e,rfl,Kf _,h0⟩ ?_ ?_ ?_ ?_
 ·rintro i acc σ H' ⟨_,rfl,hi,_⟩
  have:=List.length_filterMap_le f (List.range i);rw[List.length_range]at this;exact bd ⋯
 ·rintro i acc σ H' ⟨_,_,h,_⟩
  exact h
 ·rintro i acc σ H' hi ⟨sm,rfl,_,hS⟩
  refine hs i hi σ H' (λv σ2 H5=>_) (λσ2 H4=>_) hS sm (λv σ2 H2 hf s2 hS2=>⟨s2,?_,hi,hS2⟩) (λσ2 H2 hf s2 hS2=>⟨s2,?_,hi,hS2⟩)
  ·rw[List.range_succ,List.filterMap_append];simp[hf]
  ·rw[List.range_succ,List.filterMap_append];simp[hf]
 ·rintro acc σ H' ⟨sm,rfl,_⟩
  exact he _ sm
end
section
variable {X:Cx}
end
end L2
namespace ThM
open PySem L2
noncomputable def c5(ks:KY)(z:Str):List Str:=if z∈ks then ks else ks++[z]
theorem mem_addNew{ks:KY}{z y:Str}:y∈c5 ks z↔y∈ks\/y=z:=by
 unfold c5
 split
 ·rename_i h
  exact⟨.inl,λq=>q.elim id λe=>e▸h⟩
 ·rw[J6,JV]
section
variable {α:Type}(f:List α->List α)
noncomputable def GD:Nat->List α->List α
 |0,s=>s
 |n+1,s=>f (GD n s)
variable {f}
end
noncomputable abbrev NR:=Str×List Str
noncomputable def DA(ks:KY)(r:NR):List Str:=if(∀z∈r.2,z∈ks) then c5 ks r.1 else ks
noncomputable def CB(rs:List NR)(ks:KY):List Str:=rs.foldl DA ks
theorem nd_len{ks ms:KY}(hn:ks.Nodup)(h:∀z∈ks,z∈ms):ks.length<=ms.length:=by
 induction ks generalizing ms with
 |nil=>exact Kf _
 |cons k ks ih=>
  rw[List.nodup_cons]at hn;have hk:=h k List.mem_cons_self;have h1:=ih (ms:=ms.erase k) hn.2 λz hz=>by
   have hne:z≠k:=λe=>hn.1 (e▸hz);exact(List.mem_erase_of_ne hne).mpr (h z (J9 _ hz))
  have h2:=List.length_erase_of_mem hk;have h3:=List.length_pos_of_mem hk;rw[J4];omega
noncomputable def Fq(rs:List NR):List Str:=GD (CB rs) rs.length []
end ThM
namespace L2
open PySem PySem.Spec PyProof.Rows QL
section
variable {X:Cx}
end
end L2
namespace ThM
open PySem L2
section
variable {α:Type}{f:List α->List α}(μ:List α->Nat)
end
theorem lU{y:Str}:∀(zs ks:KY),y∈zs.foldl c5 ks↔y∈ks\/y∈zs
 | [],ks=>by simp
 |z::zs,ks=>by
  rw[List.foldl_cons,lU zs,mem_addNew,J8];exact⟨λh=>h.elim (λh=>h.elim .inl λe=>.inr (.inl e)) λh=>.inr (.inr h),λh=>h.elim (λh=>.inl (.inl h)) λh=>h.elim (λe=>.inl (.inr e)) .inr⟩
noncomputable def Ck(ks:KY)(r:NR):List Str:=if r.1∈ks then r.2.foldl c5 ks else ks
noncomputable def zK(rs:List NR)(ks:KY):List Str:=rs.foldl Ck ks
noncomputable def Gf(ks:KY)(r:NR):Prop:=r.1∈ks/\∀z∈r.2,z∈ks
instance (ks:KY)(r:NR):Decidable (Gf ks r):=by unfold Gf;infer_instance
noncomputable def FE(st:Str)(rs:List NR):List Str:=GD (zK rs) rs.length [st]
noncomputable def Ex(rs:List NR)(r:NR):Bool:=decide (∀z∈r.2,z∈Fq rs)
noncomputable def GB(rs:List NR):List NR:=rs.filter (Ex rs)
noncomputable def GQ(st:Str)(rs:List NR):List Str:=FE st (GB rs)
noncomputable def keep(st:Str)(rs:List NR)(r:NR):Bool:=decide (r.1∈GQ st rs)&&Ex rs r
end ThM
namespace L2
open PySem PySem.Spec PyProof.Rows
section
variable {X:Cx}{body:List Stmt}{h₀:ExceptHandler}{hs:List ExceptHandler}{tb:TS}{pos:Pos}
theorem wo(hb:vU X.nox body tb):PS X (.Try body (h₀::hs) [] [] pos) tb:=by
 intro pins s σ H De I h;refine wpAny_Try_except ?_;refine wpAny_mono (hb pins s σ H De (I.wish _) h) (λfl s1 q=>?_) λ_ _ f=>f.elim;have q':=SP.unwish q;cases fl with
 |next=>exact wpAny_execs_nil q'
 |brk=>exact q'
 |cont=>exact q'
 |ret u=>exact q'
theorem yh{e:Expr}{ta:TE}{f:Str}{K:KM}(hK:X.K=K)(he:PE X e ta)(hb:attributeBase e f X.env (eval e X.env)=eval e X.env):PE X (.Attribute e f pos) (DK K ta f):=hK▸bz he hb
theorem BS{es' es:K2}{x1:Nat}{p:Pos}{te:TE}{t:TA}(ha:PE X (.Tuple es' x1 p) te)(hr:PA X es t):PA X (.Tuple es' x1 p::es) (ld te t):=aa ha hr rfl
noncomputable def jn(xs ys:List V):Bool:=(List.range (min xs.length ys.length)).all (λj=>match xs[j]?,ys[j]? with | some x,some y=>vz x y | _,_=>true)&&xs.length==ys.length
noncomputable def Fh(K:KM):R2:=λx y H Q=>∃a b xs ys,x=.ref a/\y=.ref b/\ba K H a xs/\ba K H b ys/\xs.all i_=true/\ys.all i_=true/\Q (.bl (jn xs ys)) H
theorem Bm(hu:X.A.units+64<cLine):bf X (compareOp .Eq) (Fh X.K):=by
 intro pins s σ H x y v u Q I rx ry h;obtain⟨a,b,xs,ys,rfl,rfl,ha,hb,fx,fy,q⟩:=h;cases rx;cases ry
 obtain⟨its,ra,pa,_⟩:=I.tuple ha;obtain⟨its2,rb,pb,_⟩:=I.tuple hb;have l1:=ra.length;have l2:=rb.length
 have q':=SeqAt.RcAt.tuples (A:=X.A) (s:=s) (e:=λj=>match xs[j]?,ys[j]? with | some x,some y=>vz x y | _,_=>true) (show s.heap.IsTuple a its.toArray from pa) (show s.heap.IsTuple b its2.toArray from pb) ⋯ (λj g1 g2=>by
  have g1':j<its.length:=by simpa using g1
  have g2':j<its2.length:=by simpa using g2
  have x1:xs[j]?=some xs[j]:=JR ⋯;have y1:ys[j]?=some ys[j]:=JR ⋯;obtain⟨w1,f1,rr1⟩:=ra.get x1;obtain⟨w2,f2,rr2⟩:=rb.get y1;rw[JR g1']at f1;rw[JR g2']at f2;cases f1;cases f2
  simp only[KB,x1,y1];exact yf rr1 rr2 (Kz.mp fx _ (JX x1)) (Kz.mp fy _ (JX y1)))
 refine q' _ _ _ _ ⟨.bl _,H,I,rfl,?_⟩;rw[J0,J0,<- l1,<- l2];exact q
end
section
variable {X:Cx}{es:K2}{t:TA}{te:TE}
structure WA(X:Cx)(es:K2)(t:TA):Prop where
 out:PA X es t
structure WE(X:Cx)(e:Expr)(t:TE):Prop where
 out:PE X e t
structure WB(X:Cx)(b:List Stmt)(t:TS):Prop where
 out:vU X b t
theorem ud:WA X [] rh:=⟨ad⟩
theorem um{x:Int}{j:Nat}{p:Pos}(hr:WA X es t):WA X (.Constant (.int x) j p::es) (ld (tC (.int x)) t):=⟨bM hr.out⟩
theorem EN{es':K2}{x1:Nat}{p:Pos}(ha:WE X (.Tuple es' x1 p) te)(hr:WA X es t):WA X (.Tuple es' x1 p::es) (ld te t):=⟨BS ha.out hr.out⟩
theorem w9{x1:Nat}{p:Pos}(h:WA X es t):WE X (.Tuple es x1 p) (Dr t):=⟨aL h.out⟩
theorem Fu{p:Pos}(h:WA X es t):WE X (.List es p) (B0 t):=⟨bB h.out⟩
structure WS(X:Cx)(s:Stmt)(t:TS):Prop where
 out:PS X s t
theorem DC{st:Stmt}{cn:List Stmt}{u v:TS}(h1:WS X st u)(h2:vU X cn v):WB X (st::cn) (xF u v):=⟨af h1.out h2⟩
end
end L2
namespace L2
open PySem PySem.Spec PyProof.Rows QL
section
variable {X:Cx}
end
end L2
namespace PySem
open PySem.Calls PyProof.Rows
section
variable {prog:KW}{w:K0}{A:KZ}{E:KL}{env:Env}
variable {nm q:Str}{C N:Addr}{bs bm:KQ}{hdct:Bool}{sn:KY}{sub:KQ}{ab:Bool}{col:Option Bool}{dd:K1}{k0 k1 k2 k3 k5:Option Value}{newId:String}
variable {bmB bmN:KQ}{B Bn nid initId inN:String}{K:KM}
end
section
variable {cp:Value->Prop}{M:Model}{A:KZ}{E:KL}{s:KP}{base:Heap}{env:Env}{outer:List Env}{L e:Addr}{Q:Unit->Shared->Prop}
end
end PySem
namespace L2
open PySem PySem.Spec PyProof.Rows
section
variable {P:KW}{w:K0}{K:KM}{mg:KS}{base:Heap}{N:KY}{qual:Str}{scope:Scope}{f:Addr}{cd:Value}{A:KZ}{outer:List Env}{s:KP}{H:Hp}{E E1:XK}{CX:k7}
end
section
variable {X:Cx}{e e₀:Expr}{cn:K2}{tx:TX}{t:TA}{x y:Str}{C D:Addr}{bmD:KQ}{nD:String}{rpos pos pos2 hpos np np2 cpos npos:Pos}{kd:Nat}{E:XK}
end
end L2
namespace PySem
open PySem.Calls PyProof.Rows
section
variable {prog:KW}{w:K0}{A:KZ}{E:KL}{env:Env}
variable {nm q:Str}{C N:Addr}{bs bm bmB bmN:KQ}{hdct:Bool}{sn:KY}{sub:KQ}{ab:Bool}{col:Option Bool}{dd:K1}{k0 k1 k2 k3 k5:Option Value}{newId B Bn nid initId inN:String}{K:KM}
end
end PySem
namespace L2
open PySem PySem.Spec PyProof.Rows
section
variable {P:KW}{w:K0}{K:KM}{mg:KS}{base:Heap}{N:KY}{qual:Str}{scope:Scope}{f:Addr}{cd:Value}{A:KZ}{outer:List Env}{s:KP}{H:Hp}{E E1:XK}
end
structure F9(k:Nat)(A:KZ):Prop where
 dp:A.depth+3*k+5<recursionLimit
 un:A.units+16*k+200<cLine
structure FX(P:KW)(w:K0)(K:KM)(mg:KS)(base:Heap)(CX:k7)(k:Nat)(f:Addr)(fd:KU)(ps:KY)(sp:Sp):Prop where
 len:∀vs H Q E,sp vs H Q E->vs.length=ps.length
 run:∀(A:KZ) (outer:List Env) (s:KP) (H:Hp) (args:Args) (us:KQ) (vs:List V) (Q:VK) (E:XK),F9 k A->wb P w K mg base A outer s H->BindsTo s fd args (ps.zip us)->bj vs us->sp vs H Q E ->
  codeAny (model P w) A (.call (.ref f) args) (CR CX outer P w H s Q E) s
structure JQ(P:KW)(w:K0)(K:KM)(mg:KS)(base:Heap)(k:Nat)(C:Addr)(fn:Str):Prop where
 ex:∃(bm bmN:KQ) (newId Bn inN B nid initId:String) (fI:Addr) (fd:KU) (ps:KY),zN K C bm newId/\ExcBaseFacts Bn newId inN bmN/\bm.contains (.type Bn)=true/\ExcBaseFacts B nid initId bm /\
  PySem.W.findIn K (.ref C) "__init__"=some (some (.ref fI))/\PySem.W.typeIn K (.ref fI)=some (.type "function")/\FX P w K mg base bC k fI fd ps (ml C fn)/\b7 K fd ps []
section
variable {X:Cx}{e e₀:Expr}{tx:TX}{t:TA}{x y:Str}{C D:Addr}{fn:Str}{k:Nat}{bmD:KQ}{nD:String}{rpos pos pos2 hpos np np2 cpos npos:Pos}{kd:Nat}{E:XK}
end
end L2
namespace PySem
section
variable {cp:Value->Prop}{M:Model}{A:KZ}{E:KL}{s:KP}{base:Heap}{env:Env}{outer:List Env}{L e:Addr}{Q:Unit->Shared->Prop}
end
end PySem
namespace L2
open PySem PySem.Spec PyProof.Rows
section
variable {P:KW}{w:K0}{K:KM}{mg:KS}{base:Heap}{N:KY}{qual:Str}{scope:Scope}{f:Addr}{cd:Value}{A:KZ}{outer:List Env}{s:KP}{H:Hp}{E E1:XK}
end
section
variable {X:Cx}
end
section
variable {P:KW}{w:K0}{K:KM}{mg:KS}{base:Heap}{N:KY}{qual:Str}{scope:Scope}{f:Addr}{cd:Value}{A:KZ}{outer:List Env}{s:KP}{H:Hp}{E E1:XK}
end
open QL
section
variable {X:Cx}
end
section
variable {prog:KW}{w:K0}{A:KZ}{E:KL}{s:KP}
end
section
variable {X:Cx}{e:Expr}{t:TE}{p p2 pos pos2:Pos}
end
end L2
namespace L2
open PySem PySem.Spec PyProof.Rows QL
section
variable {X:Cx}
end
theorem aC.sqT{K:KM}{H H':Hp}{a:Addr}{xs:List V}(e:aC H H')(h:ba K H a xs):ba K H' a xs:=by
 rcases h with(h | ⟨o,h⟩) | h
 ·exact .inl (.inl (e _ _ h))
 ·exact .inl (.inr ⟨o,e _ _ h⟩)
 ·exact .inr h
section
variable {K:KM}{g:TG}{tb:TS}{D:iP}{σ:St}{H:Hp}
theorem CV{a:Addr}{xs:List V}(Pv:Nat->St->Hp->Prop)(h0:Pv 0 σ H)(hl:∀i σ H,i<=xs.length->Pv i σ H->aU K H a xs)
  (hs:∀i x σ H,i<xs.length->xs[xs.length-1-i]?=some x->Pv i σ H->g x σ H λσ2 H2=>tb {D with nx:=Pv (i+1),ct:=Pv (i+1),bk:=D.nx} σ2 H2) (hd:∀σ H,Pv xs.length σ H->D.nx σ H):tf (Gd K a xs.length) g tb D σ H:=by
 refine⟨λi m σ H=>Pv i σ H/\i<=xs.length/\m=xs.length+1-i,⟨_,h0,Kf _,rfl⟩,?_⟩;rintro i m σ' H' ⟨w,hi,rfl⟩;rcases Nat.lt_or_ge i xs.length with hlt | hge
 ·refine .inr ⟨⟨xs,xs[xs.length-1-i]'⋯,hl _ _ _ hi w,hlt,JR ⋯⟩,Pv (i+1),λσ2 H2 w2=>⟨xs.length+1-(i+1),⋯,w2,hlt,rfl⟩,λx H2 y=>?_⟩
  obtain⟨rfl,hx⟩:=y;exact hs i x σ' H2 hlt (hx xs (hl _ _ _ hi w)) w
 ·have e:i=xs.length:=by omega
  subst e;exact .inl ⟨rfl,hd _ _ w⟩
end
noncomputable def gu(H H':Hp):Prop:=∀b xs,H b=some (.tup xs)->H' b=some (.tup xs)
theorem gu.of{H H':Hp}(s:aC H H'):gu H H':=λb xs h=>s b _ h
mutual
noncomputable def cJ(H:Hp):Dt->V->Prop
 | .int i,v=>v=.int i
 | .tup ds,v=>∃a xs,v=.ref a/\H a=some (.tup xs)/\bD H ds xs
 |_,_=>False
noncomputable def bD(H:Hp):List Dt->List V->Prop
 | [],xs=>xs=[]
 |d::ds,xs=>∃x r,xs=x::r/\cJ H d x/\bD H ds r
end
mutual
theorem cJ.up{H H':Hp}(e:gu H H'):∀(d:Dt) {v:V},cJ H d v->cJ H' d v
 | .int i,v,h=>by unfold cJ at h ⊢;exact h
 | .tup ds,v,h=>by unfold cJ at h ⊢;obtain⟨a,xs,r,hs,hd⟩:=h;exact⟨a,xs,r,e _ _ hs,bD.up e ds hd⟩
 | .non,v,h=>by unfold cJ at h;exact h.elim
 | .bl b,v,h=>by unfold cJ at h;exact h.elim
 | .str x,v,h=>by unfold cJ at h;exact h.elim
 | .lst ds,v,h=>by unfold cJ at h;exact h.elim
theorem bD.up{H H':Hp}(e:gu H H'):∀(ds:List Dt) {xs:List V},bD H ds xs->bD H' ds xs
 | [],xs,h=>by unfold bD at h ⊢;exact h
 |d::ds,xs,h=>by unfold bD at h ⊢;obtain⟨x,r,e0,h1,h2⟩:=h;exact⟨x,r,e0,cJ.up e d h1,bD.up e ds h2⟩
end
theorem bD.cons{H:Hp}{d:Dt}{ds:List Dt}{x:V}{xs:List V}(h:cJ H d x)(t:bD H ds xs):bD H (d::ds) (x::xs):=by unfold bD;exact⟨x,xs,rfl,h,t⟩
theorem bD.uncons{H:Hp}{d:Dt}{ds:List Dt}{xs:List V}(h:bD H (d::ds) xs):∃x r,xs=x::r/\cJ H d x/\bD H ds r:=by unfold bD at h;exact h
theorem bD.length{H:Hp}:∀{ds:List Dt} {xs:List V},bD H ds xs->xs.length=ds.length
 | [],_,h=>by unfold bD at h;rw[h];rfl
 |d::ds,xs,h=>by
  obtain⟨x,r,rfl,_,h2⟩:=h.uncons;simp[bD.length h2]
theorem cJ.node{H:Hp}{a:Addr}{i:Int}{ds:List Dt}{xs:List V}(h:H a=some (.tup (V.int i::xs)))(t:bD H ds xs):cJ H (.tup (.int i::ds)) (.ref a):=by
 unfold cJ;exact⟨a,_,rfl,h,bD.cons (by unfold cJ;rfl) t⟩
section
variable {np:Nat->Nat}{num:Str->Option Nat}
end
theorem vx:∀{ns:List Int} {us:KQ},bj (ns.map V.int) us->∃ps:List (Int×Tok),us.toArray=intItems ps.toArray/\ps.map (·.1)=ns
 | [],us,r=>⟨[],by have:=r.zero;subst this;simp[intItems],rfl⟩
 |n::ns,us,r=>by
  cases r with
  |cons h t=>
   obtain⟨tk,rfl⟩:=h;obtain⟨ps,e1,e2⟩:=vx t;refine⟨(n,tk)::ps,?_,by rw[Kl,e2]⟩;have:=congrArg Array.toList e1;unfold intItems at this ⊢;simp at this ⊢;exact this
section
variable {X:Cx}
theorem mK(hc:X.calm=true):im X (.builtin "sum") (λxs H Q=>∃(p:Addr) (ns:List Int),xs=[.ref p]/\aU X.K H p (ns.map V.int)/\Q (.int ns.sum) H):=by
 intro pins s σ H xs us Q I r h;obtain⟨p,ns,rfl,hs,q⟩:=h;obtain⟨u,rfl,ru⟩:=r.one;cases ru;obtain⟨its,rv,pl,_⟩:=I.list hs;obtain⟨ps,e1,e2⟩:=vx rv;refine sum_intListG (xs:=ps.toArray) (I.ok.hd hc) (by rw[<- e1];exact pl.isList) λh' tk t' hk=>?_;have e3:preSum (numAt ps.toArray) ps.toArray.size=ns.sum:=by
  rw[preSum_eq,List.take_of_length_le (by simp),<- e2]
 rw[e3];exact⟨.int _,H,I.kept (t':=tk) hk,⟨_,rfl⟩,q⟩
theorem xk:bootBuiltins "sum"=some (.builtin "sum"):=by decide +kernel
end
section
variable {prog:KW}{w:K0}{A:KZ}{R:Result->Shared->Prop}{I:Addr}{fp wr:KR}{n:Nat}{P:Nat->Value->Prop}{St:Nat->Heap->Prop}
end
section
variable {prog:KW}{w:K0}{A:KZ}{E:KL}{s:KP}
end
section
variable {X:Cx}{e:Expr}{t tk:TA}{p pos kpos:Pos}{de:Expr}
end
end L2
namespace L2
open PySem PySem.Spec PyProof.Rows QL bG
theorem B2{α β:Type}{g:α->β}:∀(l:List α) (f':α->Option β),(∀k∈l,f' k=some (g k))->l.filterMap f'=l.map g
 | [],_,_=>rfl
 |a::l,f',h=>by
  rw[List.filterMap_cons,h a List.mem_cons_self,Kl,B2 l f' λk hk=>h k (J9 _ hk)]
section
variable {X:Cx}
noncomputable def Br(K:KM):R2:=λx y H Q=>∃a b xs ys,x=.ref a/\y=.ref b/\ba K H a xs/\ba K H b ys/\xs.length+ys.length<=sizeLine/\∀p H',ba K H' p (xs++ys)->aC H H'->Q (.ref p) H'
theorem yy:bf X (binaryOp .Add) (Br X.K):=by
 intro pins s σ H x y v u Q I rx ry h;obtain⟨a,b,xs,ys,rfl,rfl,ha,hb,hz,q⟩:=h
 by_cases hx:xs=[]
 ·subst hx
  cases rx;cases ry;obtain⟨its,r1,p1,_⟩:=I.tuple ha;obtain⟨its2,r2,p2,_⟩:=I.tuple hb;have e1:its=[]:=r1.zero;subst e1;obtain⟨⟨cls,dd,data,sl⟩,ho,hc,n,hd⟩:=id p1;obtain⟨⟨cls2,dd2,data2,sl2⟩,ho2,hc2,n2,hd2⟩:=id p2;simp only at hc hd hc2 hd2;subst hc hd hc2 hd2;exact concat_meets ⟨_,ho,rfl⟩ ⟨_,ho2,rfl⟩ noFill_tuple_add seq_tuple_add PySem.F.slot_tuple_add PySem.F.entry_tuple_add (PySem.F.args_tuple_add_2 _ _)
   (tuple_addW0 a b _ _ n n2 dd dd2 sl sl2 (by rfl)) ⟨ho,ho2,⟨.ref b,H,I,rfl,q b H (by rw[KC];exact hb) (aC.refl _)⟩⟩
 ·refine dC pins s σ H _ _ v u Q I rx ry ⟨a,b,xs,ys,rfl,rfl,ha,hb,hx,hz,λe=>?_,λ_ p hp=>q p _ (ba.of ac) (ae hp)⟩
  refine q a H ?_ (aC.refl _);rw[e,Kq];exact ha
variable {e st:Expr}{te ts:TE}{p2 pos:Pos}
end
noncomputable abbrev mx(a:Addr):Obj:={cls:=.type "tuple_iterator",data:=.fields #[.ref a,.int 0 0]}
noncomputable abbrev sW(a:Addr):Obj:={cls:=.type "enumerate",data:=.fields #[.none,.bool false,.ref a,rawInt 0,.none,.none]}
theorem AR(a:Addr)(us:Array Value)(n:Nat)(dd:K1)(ss:Array (Option Value)) :
  Meets (Builtin.«enumerate.__new__» ⟨[.type "enumerate",.ref a],[]⟩) (λ_ R s=>s.heap.get? a=some {cls:=.type "tuple",dict:=dd,data:=.seq us n,slots:=ss} /\
   R (.ok (.ret (.ref (s.heap.push (mx a)).objs.size))) {s with heap:=(s.heap.push (mx a)).push (sW s.heap.objs.size)}):=
 .of_wp λprog w A R s h=>by
  obtain⟨h0,g0,d0,t0,o0⟩:=s;obtain⟨ea,h⟩:=h;have sb:=sub_enumerate;have isT:Heap.IsTuple (Shared.heap ⟨h0,g0,d0,t0,o0⟩) a us:=⟨_,ea,rfl,n,rfl⟩
  wp_walk using AutoSeq1.wpAny_loadPart' ea
  refine wpAny_stack_any λ_=>wpAny_pure ?_
  split
  ·rename_i cc _ _ _ _ _
   cases(cc==Value.type "enumerate")
   ·wp_walk using AutoSeq1.wpAny_loadPart' ea,wpAny_pyIter_tuple isT
    exact⟨_,rfl,h⟩
   ·wp_walk using AutoSeq1.wpAny_loadPart' ea,wpAny_pyIter_tuple isT
    exact⟨_,rfl,h⟩
  ·wp_walk using AutoSeq1.wpAny_loadPart' ea,wpAny_pyIter_tuple isT
   exact⟨_,rfl,h⟩
section
variable {prog:KW}{w:K0}{A:KZ}{E:KL}{s:KP}
theorem ya{a:Addr}{us:Array Value}{Q:KL}(ha:s.heap.IsTuple a us)
  (h:∀h',IsEnum h' (s.heap.objs.size+1) s.heap.objs.size 0 .none->h'.IsTupleIter s.heap.objs.size a 0->(∀b o,s.heap.get? b=some o->h'.get? b=some o)->Q (.ref (s.heap.objs.size+1)) {s with heap:=h' }) :
  wpAny (model prog w) A (call (.type "enumerate") [.ref a]) Q E s:=by
 obtain⟨⟨c,dd,dt,ss⟩,ea,ec,n,ed⟩:=ha;simp only at ec ed;subst ec ed;refine callType_new F.called_enumerate nofun (F.typeCall_enumerate_1 _) (F.newCall_enumerate_1 _) (λob=>F.args_object_init_2 ob _) F.entry_enumerate_new (AR a us n dd ss) ⟨ea,?_⟩;have sz:(s.heap.push (mx a)).objs.size=s.heap.objs.size+1:=Heap.size_push ..;show _/\_;rw[sz];have ie:IsEnum ((s.heap.push (mx a)).push (sW s.heap.objs.size)) (s.heap.objs.size+1) s.heap.objs.size 0 .none:=by
  have q:=JZ (s.heap.push (mx a)) (o:=sW s.heap.objs.size) rfl;rw[sz]at q;exact q
 exact⟨⟨_,ie,rfl⟩,h _ ie ⟨_,JT _ (JZ _ rfl),rfl,rfl⟩ λb o q=>JT _ (JT _ q)⟩
theorem wv{i0 a:Addr}{i:Nat}{us:Array Value}{x:Value}{Q:KL}(ii:s.heap.IsTupleIter i0 a i)(ha:s.heap.IsTuple a us)(hx:us[i]?=some x)
  (q:∀h',h'.IsTupleIter i0 a (i+1)->Heap.SameBut i0 s.heap h'->Q x {s with heap:=h' }):wpAny (model prog w) A (Builtin.SmallTypes.nextOf (.ref i0)) Q E s:=by
 obtain⟨oi,ei,ci,di⟩:=id ii;obtain⟨oa,ea,_,na,da⟩:=ha;unfold Builtin.SmallTypes.nextOf;refine wpAny_bind (wpAny_callSpecial?_slot (name:=Str.ofString "__next__") ii.typeIs F.slot_tuple_iterator_next (wpAny_call_entry F.slot_tuple_iterator_next ii.typeIs F.entry_tuple_iterator_next ?_ (F.args_tuple_iterator_next_1 _)));show wpAny _ _ (field (.ref i0) 0 >>= _) _ _ s;refine wpAny_bind (wpAny_field ei di (x:=.ref a) rfl ?_);show wpAny _ _ (if(Value.ref a==Value.none)=true then _ else _) _ _ s;rw[if_neg (show ¬ ((Value.ref a==Value.none)=true) from Kg)];show wpAny _ _ (field (.ref i0) 1 >>= _) _ _ s;refine wpAny_bind (wpAny_field ei di (x:=.int i 0) rfl ?_);show wpAny _ _ (seqItems? (.ref a) >>= _) _ _ s;refine wpAny_bind (wpAny_seqItems ea da ?_);simp only[J2,hx];refine wpAny_bind (wpAny_setField ei di (by simp) (wpAny_pure ⟨x,rfl,wpAny_pure (q _ ?_ (Heap.SameBut.update ..))⟩));exact⟨_,J3 _ ei (Obj.isFreed_of_fields (Obj.data_mapFields di _)),(Obj.cls_mapFields ..).trans ci,by rw[Obj.data_mapFields di];simp[rawInt]⟩
theorem yS{i0 a:Addr}{i:Nat}{us:Array Value}{Q:KL}(hh:A.handled=none)(ii:s.heap.IsTupleIter i0 a i)(ha:s.heap.IsTuple a us)(hx:us[i]?=none)
  (q:∀h' e,Heap.ExtBut i0 s.heap h'->(∃o,h'.get? e=some o/\o.cls=.type "StopIteration")->E (.ref e) {s with heap:=h' }):wpAny (model prog w) A (Builtin.SmallTypes.nextOf (.ref i0)) Q E s:=by
 obtain⟨oi,ei,ci,di⟩:=id ii;obtain⟨oa,ea,_,na,da⟩:=ha;unfold Builtin.SmallTypes.nextOf;refine wpAny_bind (wpAny_callSpecial?_slot (name:=Str.ofString "__next__") ii.typeIs F.slot_tuple_iterator_next (wpAny_call_entry F.slot_tuple_iterator_next ii.typeIs F.entry_tuple_iterator_next ?_ (F.args_tuple_iterator_next_1 _)));show wpAny _ _ (field (.ref i0) 0 >>= _) _ _ s;refine wpAny_bind (wpAny_field ei di (x:=.ref a) rfl ?_);show wpAny _ _ (if(Value.ref a==Value.none)=true then _ else _) _ _ s;rw[if_neg (show ¬ ((Value.ref a==Value.none)=true) from Kg)];show wpAny _ _ (field (.ref i0) 1 >>= _) _ _ s;refine wpAny_bind (wpAny_field ei di (x:=.int i 0) rfl ?_);show wpAny _ _ (seqItems? (.ref a) >>= _) _ _ s;refine wpAny_bind (wpAny_seqItems ea da ?_);simp only[J2,hx];refine wpAny_bind (wpAny_rule (wpAny_bind (wpAny_setField ei di (by simp) ?_)));show wpAny _ _ (newExc (.type "StopIteration") [] >>= _) _ _ _;refine wpAny_bind ?_;simp only[newExc,newTuple];refine wpAny_bind (wpAny_newObj_type ?_ (by size_fits));refine wpAny_bind (m:=firstArgMember _ _) (wpAny_of_eq (a:=Value.none) (by first | rfl | (simp only[firstArgMember];rfl)) ?_);refine wpAny_newObj_type ?_ (by size_fits);simp only[raiseNew];refine wpAny_bind (wpAny_handled ?_)
 first | rw[show A.in1.handled=none from hh] | rw[hh]
 refine wpAny_bind (wpAny_pure (wpAny_throw ?_));exact q _ _ (((Heap.SameBut.update ..).extBut.push _).push _) ⟨_,JZ _ rfl,rfl⟩
end
theorem CP{prog:KW}{w:K0}{A:KZ}(hh:A.handled=none)(i0 a:Addr)(hne:a≠i0)(us:Array Value) :
  Draws prog w A i0 [i0,a] us.size (λi v=>us[i]?=some v) (λi h=>h.IsTupleIter i0 a i/\h.IsTuple a us) where
 live:=λ_ _ st=>let ⟨o,ho,_⟩:=st.1;⟨o,ho⟩
 frame:=λ_ _ _ st kp=>⟨by obtain⟨o,ho,r⟩:=st.1;exact⟨o,kp i0 (by simp) o ho,r⟩,by obtain⟨o,ho,r⟩:=st.2;exact⟨o,kp a (by simp) o ho,r⟩⟩
 item:=λi s Q E hi st q=>by
  refine wv st.1 st.2 (x:=us[i]) (by simp[hi]) λh' i1 sb=>?_;refine q _ h' s.toks (by simp[hi]) ⟨i1,?_⟩ sb;obtain⟨o,ho,r⟩:=st.2;exact⟨o,(sb.2 a hne).trans ho,r⟩
 done:=λs Q E st q=>yS hh st.1 st.2 (by simp) q
noncomputable def EW(K:KM)(a:Addr):It:=
 ⟨λi H=>∃xs x,ba K H a xs/\xs[i]?=some x,λi H v H'=>∃T x,v=.ref T/\H T=none/\H'=aA H T (.tup [.int (i:Int),x])/\∀xs,ba K H a xs->xs[i]?=some x,λi H=>∃xs,ba K H a xs/\xs.length=i⟩
theorem wK{P:KW}{w:K0}{K:KM}{elts:K2}{x1:Nat}{tp:Pos}{e it l:Addr}(hei:e≠it)(hel:l≠e)(hil:l≠it) :
  qy P w K (.Tuple elts x1 tp) (EW K l) [e,it] e (λi h=>(∃old,IsEnum h e it i old)/\h.IsTupleIter it l i) where
 mem:=by simp
 obj:=λi h st b hb=>by
  obtain⟨⟨old,he⟩,⟨o1,e1,c1,d1⟩⟩:=st;simp only[J8,List.not_mem_nil,or_false]at hb;rcases hb with rfl | rfl
  ·exact⟨_,he,λv q=>by cases q⟩
  ·exact⟨_,e1,λv q=>by rw[d1]at q;cases q⟩
 keep:=λi h h' st hk=>by
  obtain⟨⟨old,he⟩,⟨o1,e1,r⟩⟩:=st;exact⟨⟨old,hk e (by simp) _ he⟩,⟨o1,hk it (by simp) _ e1,r⟩⟩
 item:=by
  intro X hP hw hK hc i pins s σ H E I hf st hg;subst hP hw hK;obtain⟨xs,x,hq,hx⟩:=hg;obtain⟨its,rv,p,hz⟩:=I.tuple hq;obtain⟨u,hu,ru⟩:=rv.get hx;obtain⟨⟨old,he⟩,h1⟩:=st;obtain⟨o1,e1,_⟩:=id h1;have D:=CP (prog:=X.prog) (w:=X.w) (A:=X.A.in1) (I.ok.hd hc) it l hil its.toArray;have hlt:i<its.toArray.size:=by rw[J0];exact(JS.mp hu).1
  refine wpAny_pyNext_enum_itemD D he ⟨h1,p⟩ hlt hei (by simp[hei,Ne.symm hel]) λv h' tk hv a1 a2 a3 a4 hk=>?_;have ev:v=u:=by
   have:its[i]?=some v:=by simpa using hv
   rw[hu]at this;exact(Option.some.inj this).symm
  subst ev;refine⟨_,rfl,wpAny_letOwnedTupleGo_enum a1 λh2 he2 hs2=>?_⟩;have hfree:H s.heap.objs.size=none:=I.hok.fresh (Ke _);have lt:∀{c o},s.heap.get? c=some o->s.heap.objs.size≠c:=λe=>Nat.ne_of_gt (Kh e);have kk:∀c o,c∉[e,it]->s.heap.get? c=some o->h2.get? c=some o:=λc o hc q=>
   hs2.extBut _ _ (λz=>hc (by simp[z])) (hk c o (λz=>hc (by simp[z])) (λz=>hc (by simp[z])) q)
  have hT:h2.get? s.heap.objs.size=some {cls:=.type "tuple",data:=.seq #[.int i tk,v]}:=hs2.extBut _ _ (lt he) a3;refine⟨.ref s.heap.objs.size,aA H s.heap.objs.size (.tup [.int i,x]),I.movedT (tk:=tk+1) hf kk (Ke _) ⟨show 2<=sizeLine from by decide +kernel,[.int i tk,v],.cons ⟨_,rfl⟩ (.cons ru .nil),_,hT,rfl,_,rfl⟩,rfl,
   ⟨_,x,rfl,hfree,rfl,λzs hzs=>by rw[I.tuple_inj hzs hq];exact hx⟩,⟨⟨v,by simpa using he2⟩,?_⟩,λb hb=>?_⟩
  ·obtain⟨o2,e2,r⟩:=a2.1
   exact⟨o2,hs2.extBut _ _ (Ne.symm hei) e2,r⟩
  have hlt:b≠s.heap.objs.size:=by
   simp only[J8,List.not_mem_nil,or_false]at hb;rcases hb with rfl | rfl
   ·exact(lt he).symm
   ·exact(lt e1).symm
  rw[am hlt];exact(hf b hb).1
 done:=by
  intro X hP hw hK hc i pins s σ H E I hf st hg;subst hP hw hK;obtain⟨xs,hq,hx⟩:=hg;obtain⟨its,rv,p,hz⟩:=I.tuple hq;obtain⟨⟨old,he⟩,h1⟩:=st;have l1:=rv.length;have D:=CP (prog:=X.prog) (w:=X.w) (A:=X.A.in1) (I.ok.hd hc) it l hil its.toArray;have ei:i=its.toArray.size:=by rw[J0];omega
  subst ei;exact wpAny_pyNext_enum_endD D he ⟨h1,p⟩ λh' hk=>⟨rfl,I.moved (tk:=s.toks) hf λc o hc e=>hk c o (λq=>hc (by simp[q])) e⟩
 self:=λ_ _ _ _ _ st h=>let ⟨⟨_,he⟩,_⟩:=st;wpAny_pyIter_enum he h
noncomputable def xu(K:KM)(ta:TA):TI:=λσ H R=>ta σ H λvs H1=>∃a xs,vs=[.ref a]/\ba K H1 a xs/\R (EW K a) H1
section
variable {X:Cx}{elts:K2}{x1:Nat}{tp:Pos}
theorem CJ{a:Expr}{ta:TA}{p pos:Pos}(hg:Gl X "enumerate")(hm:X.mg "enumerate"=none)(ha:PA X [a] ta)(hs:autoParam (starEach [a] X.env=[(false,eval a X.env)]) zzR._auto_1):PI X (.Tuple elts x1 tp) (.Call (.Name "enumerate" p) [a] [] pos) (xu X.K ta):=by
 intro pins s σ H R I h;refine Call_ (eV I hg hm boot_enumerate (PyProof.Rows.callWith_type1 (bX (ha pos pins s σ H _ I h) λus s1 ⟨vs,H1,I1,r1,q1⟩=>?_) (by rw[hs];rfl) (by rfl)));obtain⟨l,xs,rfl,hq,q⟩:=q1;obtain⟨u,rfl,ru⟩:=r1.one;cases ru;obtain⟨its,rv,p1,_⟩:=I1.tuple hq;have hll:l<s1.heap.objs.size:=by obtain⟨o,e,_⟩:=p1;exact Kh e
 refine ya p1 λh' z1 z2 hk=>?_;have I2:Inv X pins σ H1 {s1 with heap:=h' }:=I1.kept (t':=s1.toks) hk;refine wpAny_pyIter_enum z1 ?_;refine⟨s1.heap.objs.size+1,[s1.heap.objs.size+1,s1.heap.objs.size],_,_,H1,rfl,I2,wK (l:=l) (Nat.ne_of_gt (Ko _)) (Ka (Nat.lt_succ_of_lt hll)) (Ka hll),⟨⟨_,z1⟩,z2⟩,λb hb=>?_,q⟩;have hb':s1.heap.objs.size<=b:=by
  simp only[J8,List.not_mem_nil,or_false]at hb;rcases hb with e | e<;>(rw[e];first | exact Ke _ | exact Nat.le_add_right _ _)
 exact I1.fpOk hb' (I1.hok.fresh hb')
end
section
variable {K:KM}{g:TG}{tb:TS}{D:iP}{σ:St}{H:Hp}
theorem xm{a:Addr}{xs:List V}(Pv:Nat->St->Hp->Prop)(h0:Pv 0 σ H)(hl:∀i σ H,i<=xs.length->Pv i σ H->ba K H a xs)
  (hs:∀(i:Nat) x σ H T,xs[i]?=some x->Pv i σ H->H T=none->g (.ref T) σ (aA H T (.tup [.int (i:Int),x])) λσ2 H2=>tb {D with nx:=Pv (i+1),ct:=Pv (i+1),bk:=D.nx} σ2 H2) (hd:∀σ H,Pv xs.length σ H->D.nx σ H):tf (EW K a) g tb D σ H:=by
 refine⟨λi m σ H=>m=xs.length-i/\i<=xs.length/\Pv i σ H,⟨xs.length,by simp,Kf _,h0⟩,?_⟩;rintro i m σ H ⟨rfl,hi,p⟩;have q:=hl i σ H hi p
 by_cases hlt:i<xs.length
 ·refine .inr ⟨⟨xs,xs[i],q,by simp[hlt]⟩,Pv (i+1),λσ' H' p'=>⟨xs.length-(i+1),⋯,rfl,hlt,p'⟩,λx H' y=>?_⟩
  obtain⟨T,x,rfl,hT,rfl,y⟩:=y;exact hs i x σ _ T (y xs q) p hT
 ·have e:i=xs.length:=by omega
  subst e;exact .inl ⟨⟨xs,q,rfl⟩,hd σ H p⟩
end
section
variable {prog:KW}{w:K0}{A:KZ}{E:KL}{s:KP}
end
section
variable {prog:KW}{w:K0}{A:KZ}{E:KL}{s:KP}
end
section
variable {X:Cx}{e:Expr}{t:TE}{p p2 pos pos2:Pos}
end
section
variable {prog:KW}{w:K0}{A:KZ}{E:KL}
end
section
variable {prog:KW}{w:K0}{A:KZ}{E:KL}{s:KP}
end
section
variable {X:Cx}{tg:Expr}
end
section
variable {prog:KW}{w:K0}{A:KZ}{E:KL}{s:KP}
open HT in
theorem kQ{t sl:Addr}{items:Array Value}{vl vu:Value}{lo hi:Option Int}{Q:KL}(ht:IsTup s.heap t items)(hs:s.heap.IsSliceOf sl vl vu .none)(pl:IsPart vl lo)(pu:IsPart vu hi)
  (hw:sIx items.size 0 lo=0/\sIx items.size items.size hi=items.size) (h:Q (.ref t) s):wpAny (model prog w) A (getItem (.ref t) (.ref sl)) Q E s:=by
 obtain⟨os,hos,hcs,hds⟩:=id hs;have hTs:s.TypeIs (.ref sl) "slice":=⟨os,hos,hcs⟩;unfold getItem
 try with_reducible refine wpAny_holding ?_
 first | refine wpAny_bind (wpAny_pure ?_) | skip
 refine wpAny_bind (wpAny_sequenceKey ht.typeIs nofun ?_);refine wpAny_bind (wpAny_callSpecial?_slot (name:=Str.ofString "__getitem__") ht.typeIs PyProof.Rows.slot_tuple_getitem
  (wpAny_call_entry PyProof.Rows.slot_tuple_getitem ht.typeIs entry_tuple_getitem ?_ (args_tuple_getitem _ _)))
 show wpAny _ _ (Builtin.Tuple.tupleItemsOf (.ref t) >>= _) _ _ s;refine wpAny_bind (tupleItemsOf_ ht ?_);refine wpAny_bind (wpAny_typeOf hTs ?_);rw[if_pos nofun];refine wpAny_bind (ik hs pl pu ?_);have hyes:(((sIx items.size 0 lo:Nat):Int)==0&&(1:Int)==1&&(sIx items.size items.size hi-sIx items.size 0 lo)==items.size)=true:=by
  rw[hw.1,hw.2];simp
 show wpAny _ _ (if(((sIx items.size 0 lo:Nat):Int)==0&&(1:Int)==1&&(sIx items.size items.size hi-sIx items.size 0 lo)==items.size)=true then _ else _) _ _ s;rw[if_pos hyes];refine wpAny_bind ?_;unfold Builtin.Tuple.tupleIsExact;refine wpAny_bind (wpAny_typeOf ht.typeIs ?_);refine wpAny_pure ?_;rw[if_pos nofun];refine wpAny_bind (wpAny_rule ?_);exact wpAny_pure ⟨_,rfl,wpAny_pure h⟩
end
noncomputable def E4(K:KM):V->Option Int->Option Int->Hp->VK->Prop:=λx lo hi H Q=>∃a xs,x=.ref a/\ba K H a xs/\∀p H',ba K H' p (nA xs lo hi)->aC H H'->Q (.ref p) H'
section
variable {X:Cx}
theorem Ej:FY X (E4 X.K):=by
 intro pins s σ H x v vl vu lo hi sl Q I rx hs pl pu h;obtain⟨a,xs,rfl,ha,q⟩:=h;cases rx;obtain⟨its,r,ht,hz⟩:=I.tuple ha;have hlen:its.toArray.size=xs.length:=by rw[J0];exact r.length.symm
 refine⟨"tuple",_,PyProof.Rows.slot_tuple_getitem.lookup,ht.typeIs,?_⟩
 by_cases hw:HT.sIx xs.length 0 lo=0/\HT.sIx xs.length xs.length hi=xs.length
 ·refine kQ ht hs pl pu (by rw[hlen];exact hw) ?_
  refine⟨.ref a,H,I,rfl,q a H ?_ (aC.refl _)⟩;have e:nA xs lo hi=xs:=by unfold nA;rw[hw.1,hw.2,KJ,Nat.sub_zero,Kt]
  rw[e];exact ha
 ·refine HT.getItem_tuple_cut ht hs pl pu (by rw[hlen];exact hw) ?_ (by rw[hlen];exact hz)
  rw[hlen];refine⟨.ref s.heap.objs.size,_,I.laid (t':=s.toks) (o:=.tup (nA xs lo hi)) (λb ob q=>JT _ q) (Ke _) ?_,rfl,q _ _ (ba.of ac) (ae (I.hok.fresh (Ke _)))⟩;exact⟨Km (jQ xs lo hi) hz,_,(r.drop (HT.sIx xs.length 0 lo)).take (HT.sIx xs.length xs.length hi-HT.sIx xs.length 0 lo),IsTup.new _ _⟩
end
section
variable {X:Cx}
end
section
variable {X:Cx}
end
theorem GL{a:Addr}{P:Addr->Prop}:(∃p,V.ref a=V.ref p/\P p)=P a:=by simp
theorem GP{a:Int}{P:Int->Prop}:(∃p,V.int a=V.int p/\P p)=P a:=by simp
theorem GG{a:Bool}{P:Bool->Prop}:(∃p,V.bl a=V.bl p/\P p)=P a:=by simp
theorem GF{a:Str}{P:Str->Prop}:(∃p,V.str a=V.str p/\P p)=P a:=by simp
theorem G2{α:Type}{a:Addr}{P:Addr->α->Prop}:(∃p,∃x,V.ref a=V.ref p/\P p x) = ∃x,P a x:=by simp
theorem GT{α:Type}{a:Addr}{P:Addr->α->Prop}:(∃p,∃x,[V.ref a]=[V.ref p]/\P p x) = ∃x,P a x:=by simp
theorem GH{α:Type}{a:Addr}{v:V}{P:Addr->α->V->Prop}:(∃p,∃x,∃y,V.ref a=V.ref p/\[v]=[y]/\P p x y) = ∃x,P a x v:=by simp
theorem GX{α β:Type}{a b:Addr}{P:Addr->Addr->α->β->Prop}:(∃p,∃q,∃x,∃y,V.ref a=V.ref p/\V.ref b=V.ref q/\P p q x y) = ∃x,∃y,P a b x y:=by simp
noncomputable def Gu(i:Nat):TE:=λσ H Q=>match σ[i]? with
 |some (some v)=>Q v H
 |_=>False
noncomputable def Ed(g:Int->Int->V):R2
 | .int i,.int j,H,Q=>Q (g i j) H
 |x,y,H,Q=>Ab g x y H Q
noncomputable def Gv(C:Int->Int->Prop)(g:Int->Int->V):R2
 | .int i,.int j,H,Q=>C i j/\Q (g i j) H
 |x,y,H,Q=>rI C g x y H Q
noncomputable def yi(K:KM):R2
 | .ref p,.int i,H,Q=>∃xs,aU K H p xs/\∃v,h_ xs i=some v/\Q v H
 |x,y,H,Q=>zH K x y H Q
noncomputable def yJ(K:KM):R2
 | .ref p,.int i,H,Q=>∃xs,ba K H p xs/\∃v,h_ xs i=some v/\Q v H
 |x,y,H,Q=>ze K x y H Q
theorem Cd{g:Int->Int->V}{x y:V}{H:Hp}{Q:VK}:Ed g x y H Q=Ab g x y H Q:=by
 unfold Ed;split
 ·simp[Ab]
 ·rfl
theorem Ep{C:Int->Int->Prop}{g:Int->Int->V}{x y:V}{H:Hp}{Q:VK}:Gv C g x y H Q=rI C g x y H Q:=by
 unfold Gv;split
 ·simp[rI]
 ·rfl
theorem yC{K:KM}{x y:V}{H:Hp}{Q:VK}:yi K x y H Q=zH K x y H Q:=by
 unfold yi;split
 ·simp[zH]
 ·rfl
theorem yO{K:KM}{x y:V}{H:Hp}{Q:VK}:yJ K x y H Q=ze K x y H Q:=by
 unfold yJ;split
 ·simp[ze]
 ·rfl
theorem Ei{g:Int->Int->V}{i j:Int}{H:Hp}{Q:VK}:Ed g (.int i) (.int j) H Q=Q (g i j) H:=rfl
theorem EI{C:Int->Int->Prop}{g:Int->Int->V}{i j:Int}{H:Hp}{Q:VK}:Gv C g (.int i) (.int j) H Q=(C i j/\Q (g i j) H):=rfl
theorem Cw{K:KM}{p:Addr}{i:Int}{H:Hp}{Q:VK}:yi K (.ref p) (.int i) H Q = ∃xs,aU K H p xs/\∃v,h_ xs i=some v/\Q v H:=rfl
theorem CS{K:KM}{p:Addr}{i:Int}{H:Hp}{Q:VK}:yJ K (.ref p) (.int i) H Q = ∃xs,ba K H p xs/\∃v,h_ xs i=some v/\Q v H:=rfl
theorem Iz{α β:Type}{f:α->β}{a:α}{l:List α}:List.map f (a::l)=f a::List.map f l:=rfl
theorem HN{α β:Type}{f:α->β}:List.map f []=[]:=rfl
theorem II{α:Type}{a:α}{l m:List α}:(a::l)++m=a::(l++m):=rfl
theorem IH{α:Type}{m:List α}:[]++m=m:=rfl
theorem Jx{α:Type}{a:α}{l:List α}:(a::l)[0]?=some a:=rfl
theorem Ij{α:Type}{a:α}{l:List α}{n:Nat}:(a::l)[n+1]?=l[n]?:=rfl
theorem FU{α:Type}{a b:α}{l:List α}:(a::l).set 0 b=b::l:=rfl
theorem IK{α:Type}{a b:α}{l:List α}{n:Nat}:(a::l).set (n+1) b=a::l.set n b:=rfl
section
variable {X:Cx}
theorem al(i:Nat){x:Str}{pos:Pos}(hN:autoParam (X.N[i]?=some x) zzR._auto_1)(hv:Gn X.env.scope x:=by first | exact Or.inl rfl | exact Or.inr (Or.inl rfl) | exact Or.inr (Or.inr rfl))(hd:autoParam ((x==("__debug__":Str))=false) zzD._auto_1)
  (hc:autoParam ((x==("__classdict__":Str))=false) zzD._auto_1):PE X (.Name x pos) (Gu i):=λpins s σ H Q I h=>pv i hN hv hd hc pins s σ H Q I (by
 unfold Gu at h
 split at h
 ·exact⟨_,‹_›,h⟩
 ·exact h.elim)
theorem bf.m0{f:Value->Value->Sem Value}{g:Int->Int->V}(h:bf X f (Ab g)):bf X f (Ed g):=λpins s σ H x y v u Q I a b c=>h pins s σ H x y v u Q I a b (Cd▸c)
theorem bf.m1{f:Value->Value->Sem Value}{C:Int->Int->Prop}{g:Int->Int->V}(h:bf X f (rI C g)):bf X f (Gv C g):=λpins s σ H x y v u Q I a b c=>h pins s σ H x y v u Q I a b (Ep▸c)
theorem aZ:Fs X (yi X.K):=λe sl pins s σ H x y v u Q I a b c d=>tG e sl pins s σ H x y v u Q I a b (yC▸c) d
theorem aJ:Fs X (yJ X.K):=λe sl pins s σ H x y v u Q I a b c d=>Cf e sl pins s σ H x y v u Q I a b (yO▸c) d
end
section
variable {prog:KW}{w:K0}{A:KZ}{E:KL}{s:KP}
theorem qS{l:Addr}{a b:Int}{t u:Tok}{Q:KL}(hh:A.handled=none)(hl:s.heap.IsTuple l (intItems #[(a,t),(b,u)]))
  (h:∀h' tk,(∀c o,s.heap.get? c=some o->h'.get? c=some o)->Q (if b>a then .int b u else .int a t) {s with heap:=h',toks:=tk}) :
  wpAny (model prog w) A (call (.builtin "max") [.ref l]) Q E s:=by
 have hlt:l<s.heap.objs.size:=by obtain⟨_,e,_⟩:=hl;exact Kh e
 refine call_max_walk (wpAny_pyIter_tuple hl ?_);refine⟨_,[_,l],[_],_,_,_,_,rfl,Walks.tuple (A:=A.in1) hh _ l (Ka hlt) (intItems #[(a,t),(b,u)]),
  ⟨⟨_,JZ _ rfl,rfl,rfl⟩,hl.push _⟩,λc hc=>?_,by simp[intItems],CmpOf.ints_gt (numAt #[(a,t),(b,u)]) (λ_ _=>intItems_at),λv h' tk hP hk=>?_⟩
 ·show c<(s.heap.push _).objs.size
  rw[Heap.size_push];rcases J8.mp hc with rfl | hc
  ·exact Ko _
  ·rcases J8.mp hc with rfl | hc
   ·exact Nat.lt_succ_of_lt hlt
   ·cases hc
 ·have hold:∀c o,s.heap.get? c=some o->h'.get? c=some o:=λc o e=>by
   refine hk c o (λhm=>?_) (JT _ e);rcases J8.mp hm with e1 | hm
   ·have:=Kh e;rw[e1]at this;exact Kn _ this
   ·cases hm
  have:=h h' tk hold;have hv:v=if b>a then Value.int b u else Value.int a t:=by
   have hP':(intItems #[(a,t),(b,u)])[argBest (λi j=>decide (numAt #[(a,t),(b,u)] i>numAt #[(a,t),(b,u)] j)) 1]?=some v:=by
    have hsz2:(intItems #[(a,t),(b,u)]).size-1=1:=by simp[intItems]
    rw[<- hsz2];exact hP
   by_cases hba:b>a
   ·have e:argBest (λi j=>decide (numAt #[(a,t),(b,u)] i>numAt #[(a,t),(b,u)] j)) 1=1:=by simp[argBest,numAt,hba]
    rw[e]at hP'
    simpa[intItems,hba]using hP'.symm
   ·have e:argBest (λi j=>decide (numAt #[(a,t),(b,u)] i>numAt #[(a,t),(b,u)] j)) 1=0:=by simp[argBest,numAt,hba]
    rw[e]at hP'
    simpa[intItems,hba]using hP'.symm
  rw[hv];exact this
end
noncomputable def BP(K:KM):List V->Hp->VK->Prop:=λxs H Q=>∃p i j,xs=[.ref p]/\ba K H p [.int i,.int j]/\Q (.int (if j>i then j else i)) H
section
variable {X:Cx}
theorem Ar(hc:X.calm=true):im X (.builtin "max") (BP X.K):=by
 intro pins s σ H xs us Q I r h;obtain⟨p,i,j,rfl,hs,q⟩:=h;obtain⟨u,rfl,ru⟩:=r.one;cases ru;obtain⟨its,rv,⟨o,e,hcl,n,hd⟩,_⟩:=I.tuple hs;obtain⟨v,v',rfl,⟨t,rfl⟩,⟨t',rfl⟩⟩:=F' rv;refine qS (l:=p) (a:=i) (b:=j) (t:=t) (u:=t') (I.ok.hd hc) ⟨o,e,hcl,n,by rw[hd];simp[intItems]⟩ λh' tk k=>⟨_,H,I.kept k,?_,q⟩
 by_cases hj:j>i
 ·rw[if_pos hj,if_pos hj];exact⟨_,rfl⟩
 ·rw[if_neg hj,if_neg hj];exact⟨_,rfl⟩
end
section
variable {g:TG}{ti:TT}{te:TE}{σ:St}{H:Hp}{Q:List V->Hp->Prop}
end
section
variable {X:Cx}{tg:Expr}
end
section
variable {g:TG}{tb:TS}{D:iP}{σ:St}{H:Hp}
end
noncomputable def FH(o:Obj):Option HO->Option HO
 |some (.lst xs)=>some (.frz o (.lst xs))
 |u=>u
noncomputable def cL(H:Hp)(ls:KR)(os:Addr->Obj):Hp:=λb=>if b∈ls then FH (os b) (H b) else H b
theorem fO{H:Hp}{ls:KR}{os:Addr->Obj}{b:Addr}{u:HO}(h:H b=some u)(hn:b∉ls\/∀xs,u≠.lst xs):cL H ls os b=some u:=by
 unfold cL
 split
 ·rename_i hb
  rcases hn with hn | hn
  ·exact absurd hb hn
  ·rw[h]
   cases u<;>first | rfl | exact absurd rfl (hn _)
 ·exact h
theorem Bz{H:Hp}{ls:KR}{os:Addr->Obj}{b:Addr}:cL H ls os b=none↔H b=none:=by
 unfold cL
 split
 ·cases h:H b with
  |none=>exact⟨λ_=>rfl,λ_=>rfl⟩
  |some u=>cases u<;>simp[FH]
 ·exact Iff.rfl
theorem wD{H:Hp}{ls:KR}{os:Addr->Obj}{b:Addr}{xs:List V}(h:H b=some (.lst xs))(hb:b∈ls):cL H ls os b=some (.frz (os b) (.lst xs)):=by
 unfold cL;rw[if_pos hb,h];rfl
section
variable {X:Cx}{pins:KN}{σ:St}{H:Hp}{s:KP}
theorem Inv.freeze(I:Inv X pins σ H s){ls:KR}(hl:∀l∈ls,∃xs,H l=some (.lst xs)):∃os,Inv X pins σ (cL H ls os) s:=by
 refine⟨λb=>(s.heap.get? b).getD default,?_⟩;generalize hos:(λb=>(s.heap.get? b).getD default:Addr->Obj)=os;have old:∀b u,H b=some u->(∀xs,u≠.lst xs)->cL H ls os b=some u:=λb u h hn=>fO h (.inr hn);have hok:j5 X.prog X.w (cL H ls os) s.heap:=λb u e=>by
  by_cases hb:b∈ls
  ·obtain⟨xs,hx⟩:=hl b hb
   rw[wD hx hb]at e;cases e;have ho:=I.hok b _ hx;obtain⟨z,its,n,r,g⟩:=ho;refine⟨?_,z,its,n,r,g⟩;rw[<- hos];show s.heap.get? b=some ((s.heap.get? b).getD default);rw[g];rfl
  ·unfold cL at e
   rw[if_neg hb]at e;exact(I.hok b u e).stay (λc v _ q=>q) (λc q=>old c _ q (by intro xs z;cases z)) λc xs q=>old c _ q (by intro xs z;cases z)
 have un:Un X.fs [] H (cL H ls os) s.heap s.heap:=⟨λb o e _ _ _=>e,λb o e _ _ _=>⟨o.slots,e⟩,λb o _ n _=>Bz.mpr n,λb o e _=>⟨o,e⟩,λb xs e=>old b _ e (by intro xs z;cases z),λb o u e=>old b _ e (by intro xs z;cases z),λb ps e=>⟨#[],by rw[old b _ e (by intro xs z;cases z)];simp⟩⟩;exact I.un (h':=s.heap) (t':=s.toks) un hok
noncomputable def Ey(t:TS):TS:=λD σ H=>t {D with nx:=λσ' H'=>∃ls:List Addr,(∀l∈ls,∃xs,H' l=some (.lst xs))/\∀os,D.nx σ' (cL H' ls os)} σ H
theorem Fi{st:Stmt}{t:TS}(h:PS X st t):PS X st (Ey t):=by
 intro pins s σ H D I q;refine bX (h pins s σ H _ I q) λf s' hf=>?_;cases f with
 |next=>
  obtain⟨σ',H',I',ls,hl,q'⟩:=hf;obtain⟨os,I2⟩:=I'.freeze hl;exact⟨σ',_,I2,q' os⟩
 |brk=>exact hf
 |cont=>exact hf
 |ret u=>exact hf
end
noncomputable def F6(_ j:Int):Prop:=0<j/\j.natAbs.log2<9000
section
variable {X:Cx}
theorem B1:bf X (binaryOp .FloorDiv) (rI F6 λi j=>.int (i/j)):=Gh λi j _ _ _ _ _ hc q=>by
 have h1:(0:Int)<j:=hc.1;exact floordiv_int ⋯ (by rw[Int.fdiv_eq_ediv_of_nonneg i ⋯];exact q) (.inl (PyProof.noPylong_of_log2 hc.2))
end
noncomputable def oH(rss tss:List (List V)):Bool:=if rss.length=tss.length then(List.range rss.length).all (λj=>match rss[j]?,tss[j]? with | some x,some y=>jn x y | _,_=>true) else false
noncomputable def FF(K:KM)(H:Hp)(l:Addr)(rss:List (List V)):Prop:=∃bs:List Addr,aU K H l (bs.map V.ref)/\bs.length=rss.length/\∀(i:Nat) b r,bs[i]?=some b->rss[i]?=some r->ba K H b r/\r.all i_=true
theorem rH{xs:List V}(h:xs.all i_=true):jn xs xs=true:=by
 unfold jn;rw[Bool.and_eq_true,Kz];refine⟨λj hj=>?_,by simp⟩;have hj:=List.mem_range.mp hj;rw[JR ⋯];dsimp only;have hf:=Kz.mp h _ (J1 (show j<xs.length by omega));generalize xs[j]'⋯=x at hf;cases x<;>simp_all [i_,vz]
section
variable {X:Cx}{pins:KN}{σ:St}{H:Hp}{s:KP}{A:KZ}
theorem Eg(I:Inv X pins σ H s){a b:Addr}{xs ys:List V}(hu:A.units<cLine)(ha:ba X.K H a xs)(hb:ba X.K H b ys)(fx:xs.all i_=true)(fy:ys.all i_=true):SeqAt.EqAt A s (.ref a) (.ref b) (jn xs ys):=by
 by_cases hab:a=b
 ·subst hab
  rw[I.tuple_inj ha hb,rH fy];exact SeqAt.EqAt.same _
 obtain⟨its,ra,pa,_⟩:=I.tuple ha;obtain⟨its2,rb,pb,_⟩:=I.tuple hb;have l1:=ra.length;have l2:=rb.length
 have q':=SeqAt.RcAt.tuples (A:=A) (s:=s) (e:=λj=>match xs[j]?,ys[j]? with | some x,some y=>vz x y | _,_=>true) (show s.heap.IsTuple a its.toArray from pa) (show s.heap.IsTuple b its2.toArray from pb) hu (λj g1 g2=>by
  have g1':j<its.length:=by simpa using g1
  have g2':j<its2.length:=by simpa using g2
  have x1:xs[j]?=some xs[j]:=JR ⋯;have y1:ys[j]?=some ys[j]:=JR ⋯;obtain⟨w1,f1,rr1⟩:=ra.get x1;obtain⟨w2,f2,rr2⟩:=rb.get y1;rw[JR g1']at f1;rw[JR g2']at f2;cases f1;cases f2
  simp only[KB,x1,y1];exact yf rr1 rr2 (Kz.mp fx _ (JX x1)) (Kz.mp fy _ (JX y1)))
 rw[J0,J0,<- l1,<- l2]at q';exact SeqAt.EqAt.of_refs hab q'
theorem r_{rss:List (List V)}(h:∀r∈rss,r.all i_=true):oH rss rss=true:=by
 unfold oH;rw[if_pos rfl,Kz];intro j hj;have hj:=List.mem_range.mp hj;rw[JR hj];exact rH (h _ (J1 hj))
theorem F_(I:Inv X pins σ H s){a b:Addr}{rss tss:List (List V)}(hu:A.units+1<cLine)(ha:FF X.K H a rss)(hb:FF X.K H b tss):SeqAt.EqAt A s (.ref a) (.ref b) (oH rss tss):=by
 obtain⟨as,ha1,ha2,ha3⟩:=ha;obtain⟨bs,hb1,hb2,hb3⟩:=hb
 by_cases hab:a=b
 ·subst hab
  have e:=I.list_inj ha1 hb1;have e2:as=bs:=by
   have:as.map V.ref=bs.map V.ref:=e;clear e ha1 ha2 ha3 hb1 hb2 hb3
   induction as generalizing bs with
   |nil=>cases bs with
    |nil=>rfl
    |cons _ _=>cases this
   |cons x as ih=>cases bs with
    |nil=>cases this
    |cons y bs=>
     rw[Kl,Kl]at this
     injection this with h1 h2
     injection h1 with h1
     rw[h1,ih bs h2]
  subst e2;have e3:rss=tss:=by
   apply List.ext_getElem
   ·omega
   ·intro i i1 i2
    have h1:=ha3 i _ _ (JR (by omega:i<as.length)) (JR i1);have h2:=hb3 i _ _ (JR (by omega:i<as.length)) (JR i2);exact I.tuple_inj h1.1 h2.1
  subst e3;rw[r_ λr hr=>by
   obtain⟨i,hi⟩:=List.getElem?_of_mem hr;exact(ha3 i _ _ (JR (by rw[ha2];exact(JS.mp hi).1)) hi).2]
  exact SeqAt.EqAt.same _
 obtain⟨its,ra,pa,_⟩:=I.list ha1;obtain⟨its2,rb,pb,_⟩:=I.list hb1;have l1:=ra.length;have l2:=rb.length
 rw[JU]at l1 l2;unfold oH
 by_cases hl:rss.length=tss.length
 ·rw[if_pos hl]
  have q:=SeqAt.RcAt.lists (A:=A) (s:=s) (e:=λj=>match rss[j]?,tss[j]? with | some x,some y=>jn x y | _,_=>true) pa.isList pb.isList (by simp;omega) ⋯ λj g1 g2=>by
   have g1':j<its.length:=by simpa using g1
   have g2':j<its2.length:=by simpa using g2
   have x1:(as.map V.ref)[j]?=some (V.ref (as[j]'⋯)):=by rw[JW,JR ⋯];rfl
   have y1:(bs.map V.ref)[j]?=some (V.ref (bs[j]'⋯)):=by rw[JW,JR ⋯];rfl
   obtain⟨w1,f1,rr1⟩:=ra.get x1;obtain⟨w2,f2,rr2⟩:=rb.get y1;rw[JR g1']at f1;rw[JR g2']at f2;cases f1;cases f2
   have r1:rss[j]?=some (rss[j]'⋯):=JR _;have t1:tss[j]?=some (tss[j]'⋯):=JR _;obtain⟨h1,h2⟩:=ha3 j _ _ (JR ⋯) r1;obtain⟨h3,h4⟩:=hb3 j _ _ (JR ⋯) t1;simp only[KB];rw[show its[j]=Value.ref (as[j]'⋯) from rr1,show its2[j]=Value.ref (bs[j]'⋯) from rr2,r1,t1];exact Eg I (by show A.units+1<cLine;exact hu) h1 h3 h2 h4
  rw[J0,<- l1,ha2]at q;exact SeqAt.EqAt.of_refs hab q
 ·rw[if_neg hl]
  exact SeqAt.EqAt.of_refs hab (SeqAt.RcAt.lists_lengths (A:=A) (s:=s) pa.isList pb.isList (by simp;omega) ⋯)
end
section
variable {X:Cx}
noncomputable def EB(K:KM):R2:=λx y H Q=>∃a b i j la lb rss tss,x=.ref a/\y=.ref b/\ba K H a [.int i,.ref la]/\ba K H b [.int j,.ref lb]/\FF K H la rss/\FF K H lb tss/\Q (.bl (decide (i=j)&&oH rss tss)) H
theorem Fy(hu:X.A.units+64<cLine):bf X (compareOp .Eq) (EB X.K):=by
 intro pins s σ H x y v u Q I rx ry h;obtain⟨a,b,i,j,la,lb,rss,tss,rfl,rfl,ha,hb,hla,hlb,q⟩:=h;cases rx;cases ry
 obtain⟨its,ra,pa,_⟩:=I.tuple ha;obtain⟨its2,rb,pb,_⟩:=I.tuple hb;cases ra with
 |cons q1 ra=>
 cases ra with
 |cons q2 ra=>
 cases ra;cases rb with
 |cons p1 rb=>
 cases rb with
 |cons p2 rb=>
 cases rb;obtain⟨t1,rfl⟩:=q1;obtain⟨t2,rfl⟩:=p1;obtain rfl:=q2;obtain rfl:=p2;have q':=SeqAt.RcAt.tuples (A:=X.A) (s:=s) (e:=λk=>if k=0 then decide (i=j) else oH rss tss) (show s.heap.IsTuple a _ from pa) (show s.heap.IsTuple b _ from pb) ⋯ (λk g1 g2=>by
  have g1':k<2:=by simpa using g1
  match k,g1' with
  |0,_=>
   have h1:bo (V.int i) (.int i t1):=⟨t1,rfl⟩;have h2:bo (V.int j) (.int j t2):=⟨t2,rfl⟩;have:=yf (A:=X.A.in1) (s:=s) h1 h2 rfl rfl;rw[show vz (V.int i) (V.int j)=decide (i=j) by simp[vz];rfl]at this;exact this
  |1,_=>exact F_ I (by show X.A.units+1+1<cLine;omega) hla hlb)
 refine q' _ _ _ _ ⟨.bl _,H,I,rfl,?_⟩;have e:(((List.range (min [Value.int i t1,Value.ref la].toArray.size [Value.int j t2,Value.ref lb].toArray.size)).all λk=>if k=0 then decide (i=j) else oH rss tss)&&[Value.int i t1,Value.ref la].toArray.size==[Value.int j t2,Value.ref lb].toArray.size)=(decide (i=j)&&oH rss tss):=by
  show(([0,1].all λk=>if k=0 then decide (i=j) else oH rss tss)&&true)=_;simp
 rw[e];exact q
end
section
variable {prog:KW}{w:K0}{A:KZ}{E:KL}{s:KP}
theorem wL{j t:Addr}{n:Nat}{its}{x:Value}{Q:KL}(hj:s.heap.IsTupleIter j t n)(ht:s.heap.IsTuple t its)(hx:its[n]?=some x)
  (q:∀h',h'.IsTupleIter j t (n+1)->Heap.SameBut j s.heap h'->Q x {s with heap:=h' }):wpAny (model prog w) A (Builtin.SmallTypes.nextOf (.ref j)) Q E s:=by
 obtain⟨oj,ej,cj,dj⟩:=id hj;obtain⟨ot,et,_,m,dt⟩:=ht
 unfold Builtin.SmallTypes.nextOf;refine wpAny_bind (wpAny_callSpecial?_slot (name:=Str.ofString "__next__") hj.typeIs F.slot_tuple_iterator_next (wpAny_call_entry F.slot_tuple_iterator_next hj.typeIs F.entry_tuple_iterator_next ?_ (F.args_tuple_iterator_next_1 _)))
 show wpAny _ _ (field (.ref j) 0 >>= _) _ _ s;refine wpAny_bind (wpAny_field ej dj (x:=.ref t) rfl ?_)
 show wpAny _ _ (if(Value.ref t==Value.none)=true then _ else _) _ _ s;rw[if_neg (show ¬ ((Value.ref t==Value.none)=true) from Kg)]
 show wpAny _ _ (field (.ref j) 1 >>= _) _ _ s;refine wpAny_bind (wpAny_field ej dj (x:=.int n 0) rfl ?_)
 show wpAny _ _ (seqItems? (.ref t) >>= _) _ _ s;refine wpAny_bind (wpAny_seqItems et dt ?_)
 simp only[J2,hx];refine wpAny_bind (wpAny_setField ej dj (by simp) (wpAny_pure ⟨x,rfl,wpAny_pure (q _ ?_ (Heap.SameBut.update ..))⟩))
 exact⟨_,J3 _ ej (Obj.isFreed_of_fields (Obj.data_mapFields dj _)),(Obj.cls_mapFields ..).trans cj,by rw[Obj.data_mapFields dj];simp[rawInt]⟩
theorem xi{z TI TO i1 i2 l t:Addr}{k n:Nat}{xs ys:Array Value}{x y a b:Value}{Q:Option Value->Shared->Prop}(D:ZipApart z TI TO i1 i2 l t)(z0:IsZip s.heap z TI TO .none)(p0:IsPair s.heap TI (.ref i1) (.ref i2))(o0:IsPair s.heap TO a b)
  (j1:s.heap.IsListIter i1 l k) (j2:s.heap.IsTupleIter i2 t n) (hl:s.heap.IsList l xs) (ht:s.heap.IsTuple t ys) (hx:xs[k]?=some x) (hy:ys[n]?=some y)
  (q:∀h',IsZip h' z TI TO (rawInt s.heap.objs.size)->IsPair h' TO x y->h'.IsListIter i1 l (k+1)->h'.IsTupleIter i2 t (n+1)->IsPair h' s.heap.objs.size x y->(∀c o,c≠z->c≠TO->c≠i1->c≠i2->s.heap.get? c=some o->h'.get? c=some o)->Q (some (.ref s.heap.objs.size)) {s with heap:=h' }) :
  wpAny (model prog w) A (pyNext (.ref z)) Q E s:=by
 have ty:s.TypeIs (.ref z) "zip":=⟨_,z0,rfl⟩;unfold pyNext;refine wpAny_bind (wpAny_attempt (wpAny_callSpecial?_slot (name:=Str.ofString "__next__") ty F.slot_zip_next (wpAny_call_entry F.slot_zip_next ty F.entry_zip_next ?_ (F.args_zip_next_1 _))))
 show wpAny _ _ (field (.ref z) 2 >>= _) _ _ s;refine wpAny_bind (wpAny_field z0 rfl (x:=.bool false) rfl ?_)
 show wpAny _ _ (field (.ref z) 3 >>= _) _ _ s;refine wpAny_bind (wpAny_field z0 rfl (x:=.ref TI) rfl (wpAny_bind (wpAny_seqItems p0 rfl ?_)))
 show wpAny _ _ (Builtin.SmallTypes.ownedTupleIsFree (.ref z) >>= _) _ _ s;refine wpAny_bind ?_;unfold Builtin.SmallTypes.ownedTupleIsFree;refine wpAny_bind (wpAny_field z0 rfl (x:=.none) rfl (wpAny_pure ?_))
 simp only[if_true];refine wpAny_bind (wpAny_rule (wpAny_bind (wpAny_field z0 rfl (x:=.ref TO) rfl ?_)))
 refine wpAny_bind (wpAny_setField_rec z0 (by simp) λg1 z1 s1=>?_);replace z1:IsZip g1 z TI TO .ellipsis:=z1
 refine wpAny_bind ?_;simp only[List.zipIdx_cons,List.zipIdx_nil,List.forIn_cons,List.forIn_nil];refine wpAny_bind (wpAny_bind (wpAny_onRaise ?_))
 show wpAny _ _ (Builtin.SmallTypes.nextOf (.ref i1) >>= _) _ _ _;refine wpAny_bind (wpAny_nextOf_list_item (j1.extBut s1.extBut D.i1z) (hl.extBut s1.extBut D.l1z) hx λg2 j12 s2=>wpAny_pure ?_)
 have o2:IsPair g2 TO a b:=s2.extBut _ _ D.TOi1 (s1.extBut _ _ D.TOz o0);refine wpAny_bind (wpAny_seqItems o2 rfl (wpAny_bind (wpAny_updateSeq_pair o2 λg3 o3 s3=>?_)));replace o3:IsPair g3 TO x b:=o3
 refine wpAny_bind (wpAny_letGo (wpAny_pure (wpAny_bind (wpAny_bind (wpAny_onRaise ?_)))));show wpAny _ _ (Builtin.SmallTypes.nextOf (.ref i2) >>= _) _ _ _;refine wpAny_bind (wL (((j2.extBut s1.extBut D.i2z).extBut s2.extBut D.i12.symm).extBut s3.extBut D.TOi2.symm) (((ht.extBut s1.extBut D.l2z).extBut s2.extBut D.l2i1).extBut s3.extBut D.l2TO) hy λg4 j24 s4=>wpAny_pure ?_);have o4:IsPair g4 TO x b:=s4.extBut _ _ D.TOi2 o3;refine wpAny_bind (wpAny_seqItems o4 rfl (wpAny_bind (wpAny_updateSeq_pair o4 λg5 o5 s5=>?_)));replace o5:IsPair g5 TO x y:=o5
 refine wpAny_bind (wpAny_letGo (wpAny_pure (wpAny_pure (wpAny_bind (wpAny_seqItems o5 rfl (wpAny_bind (wpAny_newTuple ?_)))))));have sz:g5.objs.size=s.heap.objs.size:=by rw[s5.1,s4.1,s3.1,s2.1,s1.1]
 have z5:IsZip g5 z TI TO .ellipsis:=s5.extBut _ _ D.TOz.symm (s4.extBut _ _ D.i2z.symm (s3.extBut _ _ D.TOz.symm (s2.extBut _ _ D.i1z.symm z1)));have k5:∀c o,c≠z->c≠TO->c≠i1->c≠i2->s.heap.get? c=some o->g5.get? c=some o:=λc o c1 c2 c3 c4 e=>s5.extBut _ _ c2 (s4.extBut _ _ c4 (s3.extBut _ _ c2 (s2.extBut _ _ c3 (s1.extBut _ _ c1 e))));have j15:g5.IsListIter i1 l (k+1):=((j12.extBut s3.extBut D.TOi1.symm).extBut s4.extBut D.i12).extBut s5.extBut D.TOi1.symm;have j25:g5.IsTupleIter i2 t (n+1):=j24.extBut s5.extBut D.TOi2.symm;have zl:z<g5.objs.size:=Kh z5;show wpAny _ _ (Builtin.SmallTypes.ownedTupleHandOut (.ref z) (.ref g5.objs.size) >>= _) _ _ _;refine wpAny_bind ?_;unfold Builtin.SmallTypes.ownedTupleHandOut
 have z6:IsZip (g5.push {cls:=.type "tuple",data:=.seq #[x,y]}) z TI TO .ellipsis:=JT _ z5;refine wpAny_bind (wpAny_setField_rec z6 (by simp) λg7 z7 s7=>?_);replace z7:IsZip g7 z TI TO (rawInt g5.objs.size):=z7
 refine wpAny_setField_rec z7 (by simp) λg8 z8 s8=>?_;replace z8:IsZip g8 z TI TO (rawInt g5.objs.size):=z8
 have up:∀c o,c≠z->g5.get? c=some o->g8.get? c=some o:=λc o c1 e=>s8.extBut _ _ c1 (s7.extBut _ _ c1 (JT _ e));have t8:IsPair g8 g5.objs.size x y:=s8.extBut _ _ (Nat.ne_of_gt zl) (s7.extBut _ _ (Nat.ne_of_gt zl) (JZ _ rfl));rw[sz]at z8 t8;refine wpAny_pure ⟨_,rfl,wpAny_pure ?_⟩;show Q (some (.ref g5.objs.size)) _;rw[sz];exact q g8 z8 (up _ _ D.TOz o5) (j15.at λo e=>up _ o D.i1z e) (let ⟨o,e,r⟩:=j25;⟨o,up _ o D.i2z e,r⟩) t8 λc o c1 c2 c3 c4 e=>up c o c1 (k5 c o c1 c2 c3 c4 e)
theorem AE{z TI TO i1 i2 l:Addr}{k:Nat}{xs:Array Value}{a b:Value}{Q:Option Value->Shared->Prop}(hh:A.handled=none)(n1:i1≠z)(n2:l≠z)(n3:TO≠z)(z0:IsZip s.heap z TI TO .none)(p0:IsPair s.heap TI (.ref i1) (.ref i2))(o0:IsPair s.heap TO a b)
  (j1:s.heap.IsListIter i1 l k) (hl:s.heap.IsList l xs) (hx:xs[k]?=none) (q:∀h',(∀c o,c≠z->c≠TO->c≠i1->c≠i2->s.heap.get? c=some o->h'.get? c=some o)->Q none {s with heap:=h' }):wpAny (model prog w) A (pyNext (.ref z)) Q E s:=by
 have ty:s.TypeIs (.ref z) "zip":=⟨_,z0,rfl⟩;unfold pyNext;refine wpAny_bind (wpAny_attempt (wpAny_callSpecial?_slot (name:=Str.ofString "__next__") ty F.slot_zip_next (wpAny_call_entry F.slot_zip_next ty F.entry_zip_next ?_ (F.args_zip_next_1 _))))
 show wpAny _ _ (field (.ref z) 2 >>= _) _ _ s;refine wpAny_bind (wpAny_field z0 rfl (x:=.bool false) rfl ?_)
 show wpAny _ _ (field (.ref z) 3 >>= _) _ _ s;refine wpAny_bind (wpAny_field z0 rfl (x:=.ref TI) rfl (wpAny_bind (wpAny_seqItems p0 rfl ?_)))
 show wpAny _ _ (Builtin.SmallTypes.ownedTupleIsFree (.ref z) >>= _) _ _ s;refine wpAny_bind ?_;unfold Builtin.SmallTypes.ownedTupleIsFree;refine wpAny_bind (wpAny_field z0 rfl (x:=.none) rfl (wpAny_pure ?_))
 simp only[if_true];refine wpAny_bind (wpAny_rule (wpAny_bind (wpAny_field z0 rfl (x:=.ref TO) rfl ?_)))
 refine wpAny_bind (wpAny_setField_rec z0 (by simp) λg1 z1 s1=>?_);replace z1:IsZip g1 z TI TO .ellipsis:=z1
 refine wpAny_bind ?_;simp only[List.zipIdx_cons,List.zipIdx_nil,List.forIn_cons,List.forIn_nil];refine wpAny_bind (wpAny_bind (wpAny_onRaise ?_))
 show wpAny _ _ (Builtin.SmallTypes.nextOf (.ref i1) >>= _) _ _ _;refine wpAny_bind (wpAny_nextOf_list_end hh (j1.extBut s1.extBut n1) (hl.extBut s1.extBut n2) hx λg2 e s2 he=>?_)
 obtain⟨oe,hoe,hce⟩:=he;have z2:IsZip g2 z TI TO .ellipsis:=s2 _ _ n1.symm z1;have ez:e≠z:=λu=>by subst u;rw[z2]at hoe;cases hoe;simp at hce
 refine wpAny_setField_rec z2 (by simp) λg3 _ s3=>?_;have he3:g3.get? e=some oe:=s3.extBut _ _ ez hoe;refine wpAny_bind (wpAny_isInstance (T:="StopIteration") (b:=true) ⟨oe,he3,hce⟩ isSubtype_stop (wpAny_pure (q _ λc o c1 _ c3 _ u=>s3.extBut _ _ c1 (s2 _ _ c3 (s1.extBut _ _ c1 u)))))
noncomputable def y9(h:Heap)(l t:Addr):Heap:=((((h.push {cls:=.type "list_iterator",data:=.fields #[.ref l,.int 0 0]}).push {cls:=.type "tuple_iterator",data:=.fields #[.ref t,.int 0 0]}).push {cls:=.type "tuple",data:=.seq #[.ref h.objs.size,.ref (h.objs.size+1)]}).push {cls:=.type "tuple",data:=.seq #[.none,.none]}).push {cls:=.type "zip",data:=.fields #[.none,.bool false,.bool false,.ref (h.objs.size+2),.ref (h.objs.size+3)]}
theorem vX(l t:Addr)(xs ys:Array Value):Meets (Builtin.«zip.__new__» ⟨[.type "zip",.ref l,.ref t],[]⟩) (λ_ R s=>s.heap.IsList l xs/\s.heap.IsTuple t ys/\R (.ok (.ret (.ref (s.heap.objs.size+4)))) {s with heap:=y9 s.heap l t}):=
 .of_wp λprog w A R s h=>by
  obtain⟨hp,g,d,tk,os⟩:=s;obtain⟨h1,h2,h⟩:=h
  have hsub:isSubtype (.type "zip") (.type "zip")=pure true:=by rw[isSubtype_type];kernel_rfl
  have e1:Heap.IsList (Shared.heap ⟨hp,g,d,tk,os⟩) l xs:=h1;have e2:Heap.IsTuple (Shared.heap ⟨hp.push {cls:=.type "list_iterator",data:=.fields #[.ref l,.int 0 0]},g,d,tk,os⟩) t ys:=Heap.IsTuple.push h2 _
  wp_walk using wpAny_pyIter_list e1,wpAny_pyIter_tuple e2
  refine⟨_,rfl,?_⟩;simp only[Heap.size_push]at *;exact h
theorem wF{l t:Addr}{xs ys:Array Value}{Q:KL}(hl:s.heap.IsList l xs)(ht:s.heap.IsTuple t ys)
  (q:∀h',IsZip h' (s.heap.objs.size+4) (s.heap.objs.size+2) (s.heap.objs.size+3) .none->IsPair h' (s.heap.objs.size+2) (.ref s.heap.objs.size) (.ref (s.heap.objs.size+1))->IsPair h' (s.heap.objs.size+3) .none .none->h'.IsListIter s.heap.objs.size l 0->h'.IsTupleIter (s.heap.objs.size+1) t 0->(∀c o,s.heap.get? c=some o->h'.get? c=some o)->Q (.ref (s.heap.objs.size+4)) {s with heap:=h' }) :
  wpAny (model prog w) A (call (.type "zip") [.ref l,.ref t]) Q E s:=by
 refine callType_new F.called_zip nofun (F.typeCall_zip_2 _ _) (F.newCall_zip_2 _ _) (λobj=>F.args_object_init_3 obj _ _) F.entry_zip_new (vX l t xs ys) ⟨hl,ht,?_⟩;have at0:∀{h:Heap} {n:Nat} {o:Obj},h.objs.size=n->o.isFreed=false->(h.push o).get? n=some o:=λe f=>by rw[<- e];exact JZ _ f
 have up:=fun{h:Heap} {c:Addr} {u:Obj} (o:Obj) (e:h.get? c=some u)=>JT o e;have g5:(y9 s.heap l t).get? (s.heap.objs.size+4)=some _:=at0 (by simp only[Heap.size_push]) rfl;have g4:(y9 s.heap l t).get? (s.heap.objs.size+3)=some _:=up _ (at0 (by simp only[Heap.size_push]) rfl);have g3:(y9 s.heap l t).get? (s.heap.objs.size+2)=some _:=up _ (up _ (at0 (by simp only[Heap.size_push]) rfl));have g2:(y9 s.heap l t).get? (s.heap.objs.size+1)=some _:=up _ (up _ (up _ (at0 (by simp only[Heap.size_push]) rfl)));have g1:(y9 s.heap l t).get? s.heap.objs.size=some _:=up _ (up _ (up _ (up _ (at0 rfl rfl))));exact⟨⟨_,g5,rfl⟩,q _ g5 g3 g4 ⟨_,g1,rfl,rfl⟩ ⟨_,g2,rfl,rfl⟩ λc o u=>up _ (up _ (up _ (up _ (up _ u))))⟩
end
noncomputable def EH(K:KM)(a b:Addr):It:=
 ⟨λi H=>∃xs ys x y,aU K H a xs/\ba K H b ys/\xs[i]?=some x/\ys[i]?=some y,λi H v H'=>∃T x y,v=.ref T/\H T=none/\H'=aA H T (.tup [x,y])/\(∀xs,aU K H a xs->xs[i]?=some x)/\∀ys,ba K H b ys->ys[i]?=some y,
  λi H=>∃xs,aU K H a xs/\xs.length<=i⟩
theorem zj{P:KW}{w:K0}{K:KM}{elts:K2}{x1:Nat}{tp:Pos}{z TI TO i1 i2 l1 l2:Addr}(D:ZipApart z TI TO i1 i2 l1 l2) :
  qy P w K (.Tuple elts x1 tp) (EH K l1 l2) [z,TI,TO,i1,i2] z (λi h=>IsZip h z TI TO .none/\IsPair h TI (.ref i1) (.ref i2)/\(∃a b,IsPair h TO a b)/\h.IsListIter i1 l1 i/\h.IsTupleIter i2 l2 i) where
 mem:=by simp
 obj:=λi h st b hb=>by
  obtain⟨hz,hTI,⟨a,c,hTO⟩,⟨o1,e1,c1,d1⟩,⟨o2,e2,c2,d2⟩⟩:=st;simp only[J8,List.not_mem_nil,or_false]at hb;rcases hb with rfl | rfl | rfl | rfl | rfl
  ·exact⟨_,hz,λv q=>by cases q⟩
  ·exact⟨_,hTI,λv q=>by cases q⟩
  ·exact⟨_,hTO,λv q=>by cases q⟩
  ·exact⟨_,e1,λv q=>by rw[d1]at q;cases q⟩
  ·exact⟨_,e2,λv q=>by rw[d2]at q;cases q⟩
 keep:=λi h h' st hk=>by
  obtain⟨hz,hTI,⟨a,b,hTO⟩,h1,⟨o2,e2,r2⟩⟩:=st;exact⟨hk z (by simp) _ hz,hk TI (by simp) _ hTI,⟨a,b,hk TO (by simp) _ hTO⟩,h1.at λo e=>hk i1 (by simp) o e,⟨o2,hk i2 (by simp) o2 e2,r2⟩⟩
 item:=by
  intro X hP hw hK hc i pins s σ H E I hf st hg;subst hP hw hK;obtain⟨xs,ys,x,y,hq1,hq2,hx,hy⟩:=hg;obtain⟨its1,rv1,p1,hz1⟩:=I.list hq1;obtain⟨its2,rv2,p2,hz2⟩:=I.tuple hq2;obtain⟨u1,hu1,ru1⟩:=rv1.get hx;obtain⟨u2,hu2,ru2⟩:=rv2.get hy;obtain⟨hz,hTI,⟨a,b,hTO⟩,h1,h2⟩:=st;refine xi D hz hTI hTO h1 h2 p1.isList (show s.heap.IsTuple l2 its2.toArray from p2) (x:=u1) (y:=u2) (by simpa using hu1) (by simpa using hu2) λh' a1 a2 a3 a4 a5 hk=>?_;refine⟨_,rfl,wpAny_letOwnedTupleGo_zip a1 λh2' hz' hs'=>?_⟩;have hfree:H s.heap.objs.size=none:=I.hok.fresh (Ke _);have lt:∀{c o},s.heap.get? c=some o->s.heap.objs.size≠c:=λe=>Nat.ne_of_gt (Kh e);have kk:∀c o,c∉[z,TI,TO,i1,i2]->s.heap.get? c=some o->h2'.get? c=some o:=λc o hc e=>
   hs'.extBut _ _ (λq=>hc (by simp[q])) (hk c o (λq=>hc (by simp[q])) (λq=>hc (by simp[q])) (λq=>hc (by simp[q])) (λq=>hc (by simp[q])) e)
  have hT:h2'.get? s.heap.objs.size=some {cls:=.type "tuple",data:=.seq #[u1,u2]}:=hs'.extBut _ _ (lt hz) a5;refine⟨.ref s.heap.objs.size,aA H s.heap.objs.size (.tup [x,y]),I.movedT (tk:=s.toks) hf kk (Ke _) ⟨show 2<=sizeLine from by decide +kernel,[u1,u2],.cons ru1 (.cons ru2 .nil),_,hT,rfl,_,rfl⟩,rfl,
   ⟨_,x,y,rfl,hfree,rfl,λzs hzs=>by rw[I.list_inj hzs hq1];exact hx,λzs hzs=>by rw[I.tuple_inj hzs hq2];exact hy⟩,
   ⟨hz',hs'.extBut _ _ D.TIz (hk _ _ D.TIz D.TITO D.TIi1 D.TIi2 hTI),⟨_,_,hs'.extBut _ _ D.TOz a2⟩,a3.extBut hs'.extBut D.i1z,a4.extBut hs'.extBut D.i2z⟩,λb hb=>?_⟩
  have hlt:b≠s.heap.objs.size:=by
   obtain⟨o1,e1,_⟩:=h1;obtain⟨o2,e2,_⟩:=h2;simp only[J8,List.not_mem_nil,or_false]at hb;rcases hb with rfl | rfl | rfl | rfl | rfl
   ·exact(lt hz).symm
   ·exact(lt hTI).symm
   ·exact(lt hTO).symm
   ·exact(lt e1).symm
   ·exact(lt e2).symm
  rw[am hlt];exact(hf b hb).1
 done:=by
  intro X hP hw hK hc i pins s σ H E I hf st hg;subst hP hw hK;obtain⟨xs,hq1,hx⟩:=hg;obtain⟨its1,rv1,p1,hz1⟩:=I.list hq1;obtain⟨hz,hTI,⟨a,b,hTO⟩,h1,h2⟩:=st;have l1':=rv1.length;exact AE (I.ok.hd hc) D.i1z D.l1z D.TOz hz hTI hTO h1 p1.isList (by simp;omega) λh' hk=>⟨rfl,I.moved (tk:=s.toks) hf λc o hc e=>hk c o (λq=>hc (by simp[q])) (λq=>hc (by simp[q])) (λq=>hc (by simp[q])) (λq=>hc (by simp[q])) e⟩
 self:=λ_ _ _ _ _ st h=>wpAny_pyIter_zip st.1 h
section
variable {X:Cx}{elts:K2}{x1:Nat}{tp:Pos}
noncomputable def BL(K:KM)(ta:TA):TI:=λσ H R=>ta σ H λvs H1=>∃a b xs ys,vs=[.ref a,.ref b]/\aU K H1 a xs/\ba K H1 b ys/\R (EH K a b) H1
theorem DM{a b:Expr}{ta:TA}{p pos:Pos}(hg:Gl X "zip")(hm:X.mg "zip"=none)(ha:PA X [a,b] ta)(hs:autoParam (starEach [a,b] X.env=[(false,eval a X.env),(false,eval b X.env)]) zzR._auto_1)(hs2:autoParam (starEach [b] X.env=[(false,eval b X.env)]) zzR._auto_1):PI X (.Tuple elts x1 tp) (.Call (.Name "zip" p) [a,b] [] pos) (BL X.K ta):=by
 intro pins s σ H R I h;refine Call_ (eV I hg hm boot_zip (PyProof.Rows.callWith_type1 (bX (ha pos pins s σ H _ I h) λus s1 ⟨vs,H1,I1,r1,q1⟩=>?_) (by rw[hs,hs2]) (by rw[hs2];rfl)));obtain⟨l1,l2,xs,ys,rfl,hq1,hq2,q⟩:=q1;obtain⟨u,v,rfl,ru,rv⟩:=r1.two;cases ru;cases rv;obtain⟨its1,rv1,p1,_⟩:=I1.list hq1;obtain⟨its2,rv2,p2,_⟩:=I1.tuple hq2;have pt:s1.heap.IsTuple l2 its2.toArray:=p2;refine wF p1.isList pt λh' z1 z2 z3 z4 z5 hk=>?_;have lt1:l1<s1.heap.objs.size:=by obtain⟨_,e,_⟩:=p1.isList;exact Kh e
 have lt2:l2<s1.heap.objs.size:=by obtain⟨_,e,_⟩:=pt;exact Kh e
 have I2:Inv X pins σ H1 {s1 with heap:=h' }:=I1.kept (t':=s1.toks) hk;refine wpAny_pyIter_zip z1 ?_;refine⟨s1.heap.objs.size+4,[s1.heap.objs.size+4,s1.heap.objs.size+2,s1.heap.objs.size+3,s1.heap.objs.size,s1.heap.objs.size+1],_,_,H1,rfl,I2,zj (l1:=l1) (l2:=l2) ?_,⟨z1,z2,⟨_,_,z3⟩,z4,z5⟩,λb hb=>?_,q⟩
 ·exact rN _ _ _ lt1 lt2
 ·have hb':s1.heap.objs.size<=b:=by
   simp only[J8,List.not_mem_nil,or_false]at hb;rcases hb with e | e | e | e | e<;>(rw[e];first | exact Ke _ | exact Nat.le_add_right _ _)
  exact I1.fpOk hb' (I1.hok.fresh hb')
end
section
variable {K:KM}{g:TG}{tb:TS}{D:iP}{σ:St}{H:Hp}
theorem Al{a b:Addr}{xs ys:List V}(hlen:xs.length<=ys.length)(Pv:Nat->St->Hp->Prop)(h0:Pv 0 σ H)(hl:∀i σ H,i<=xs.length->Pv i σ H->aU K H a xs/\ba K H b ys)
  (hs:∀i x y σ H T,xs[i]?=some x->ys[i]?=some y->Pv i σ H->H T=none->g (.ref T) σ (aA H T (.tup [x,y])) λσ2 H2=>tb {D with nx:=Pv (i+1),ct:=Pv (i+1),bk:=D.nx} σ2 H2) (hd:∀σ H,Pv xs.length σ H->D.nx σ H):tf (EH K a b) g tb D σ H:=by
 refine⟨λi m σ H=>Pv i σ H/\i<=xs.length/\m=xs.length+1-i,⟨_,h0,Kf _,rfl⟩,?_⟩;rintro i m σ' H' ⟨w,hi,rfl⟩;obtain⟨q1,q2⟩:=hl _ _ _ hi w;rcases Nat.lt_or_ge i xs.length with hlt | hge
 ·refine .inr ⟨⟨xs,ys,xs[i],ys[i]'⋯,q1,q2,JR hlt,JR ⋯⟩,Pv (i+1),λσ2 H2 w2=>⟨xs.length+1-(i+1),⋯,w2,hlt,rfl⟩,λx H2 y=>?_⟩
  obtain⟨T,x',y',rfl,hT,rfl,hx,hy⟩:=y;exact hs i x' y' σ' H' T (hx xs q1) (hy ys q2) w hT
 ·have:i=xs.length:=by omega
  subst this;exact .inl ⟨⟨xs,q1,Ke _⟩,hd _ _ w⟩
end
section
variable {X:Cx}{es:K2}{te:TE}
theorem DQ{tgs:K2}{x1:Nat}{tp:Pos}{b:Expr}{tb:TE}{g:TG}{pos p lp:Pos}(he:WE X (.List es lp) te)(hb:PE X b tb)(hs:yq b)(hg:PG X (.Tuple tgs x1 tp) g):WS X (.Assign [.Tuple tgs x1 tp] (.Subscript (.List es lp) b p) pos) (xX (Fj (zH X.K) te tb) g):=⟨tP (aH tG he.out hb hs) hg⟩
end
end L2
set_option maxHeartbeats 4000000
namespace Q33
open PySem L2 bG QL
local macro_rules|`(tactic|walk_at "a")=>`(tactic|with_reducible assumption)

local macro_rules|`(tactic|omega)=>`(tactic|first|walk_at "a"|with_reducible decide|exact Nat.le_of_lt (by walk_at "a")|exact Nat.le_trans (by walk_at "a") (by with_reducible decide)|exact Nat.lt_of_lt_of_le (by walk_at "a") (by with_reducible decide)|exact Nat.lt_of_le_of_lt (by walk_at "a") (by with_reducible decide)|exact Nat.lt_of_lt_of_le (by walk_at "a") (by walk_at "a")|exact Nat.lt_of_le_of_lt (by walk_at "a") (by walk_at "a")|exact Nat.le_trans (by walk_at "a") (by walk_at "a")|exact Nat.succ_le_of_lt (by walk_at "a")|with_reducible exact Nat.le_trans (Nat.le_of_eq (by walk_at "a")) (by walk_at "a")|with_reducible exact Nat.le_trans (Nat.le_of_eq (Eq.symm (by walk_at "a"))) (by walk_at "a")|with_reducible exact Int.natCast_nonneg _|with_reducible exact Nat.zero_le _|omega +splitDisjunctions)
local macro_rules|`(tactic|walk_at "wp")=>do
 let f(s:String):Lean.MacroM _:=(s.splitOn ",").toArray.mapM λx=>let i:=Lean.mkIdent (x.splitOn "."|>.foldl .mkStr .anonymous);`(Lean.Parser.Tactic.simpLemma|$i:term)
 let g(s:String):Lean.MacroM _:=(s.splitOn ",").toArray.mapM λx=>let i:=Lean.mkIdent (x.splitOn "."|>.foldl .mkStr .anonymous);`(Lean.Parser.Tactic.simpLemma|↓$i:term)
 let c:="xF,tB,CL,Cy,EA,Cu,CY,xJ,xX,Bt,yw,D5,tC,Fj,GZ,vC,Fl,Fm,GC,Cr,CQ,ue,sR,uV,Br,E4,Fh,xu,tD,BC,wH,Ey,EB,BL,BP,Fg,DK,yG,r8,sI,Bv,Bx,Fb,EU,tJ,Cc,qi,Cz,tR,E5,E7,Gw,ld,rh,n6,GV,B0,Dr,rU,GJ,GK,FC,G3,tE,BV,EV,GR,GO,C5,ux,E9,BJ,Bw,Bh,Ff,EX,FD,yo,BU,sf,yK,L2.start,Kl,List.map_nil,J4,List.length_nil,List.replicate,List.cons_append,KC,Nat.reduceAdd,Nat.reduceSub,List.getElem?_cons_zero,Kk,List.set_cons_zero,List.set_cons_succ,fU,Cx.blk,sX,D8,C4,Cv,Cx.wish,Cx.nox,Gu,k9";let d<-f (c++",Iz,HN,II,IH,Jx,Ij,FU,IK,Ei,EI,Cw,CS");let e<-f (c++",Kq,Option.some.injEq,V.int.injEq,V.str.injEq,V.ref.injEq,V.bl.injEq,List.cons.injEq,and_true,true_and,exists_and_left,exists_eq_left',exists_eq_left,decide_eq_true_eq,Bool.not_eq_true',decide_eq_false_iff_not,DT,Option.join_some,Nat.succ_eq_add_one,Nat.zero_add,exists_const,and_assoc,exists_eq,exists_eq',Int.reducePow,Int.reduceNeg,Int.reduceLT,or_true,true_or,reduceCtorEq,Int.zero_add,Bool.false_eq_true,Bool.not_true,Bool.not_false,Cd,Ep,yC,yO,zJ,zH,ze,Ab,rI");let h<-g "reduceIte,GL,GP,GG,GF,G2,GT,GH,GX";let e:=e++h
 `(tactic|((try dsimp only[$d,*]);(try simp only[$e,*])))
set_option hygiene false in
local macro_rules|`(tactic|walk_at "nc")=>`(tactic|(clear h1;refine ar λN1 h1=>?_;walk_at "wp"))
set_option hygiene false in
local macro_rules|`(tactic|walk_at "n")=>`(tactic|(refine ar λN1 h1=>?_;walk_at "wp"))
set_option hygiene false in
local macro_rules|`(tactic|walk_at "o")=>`(tactic|(refine ar λN2 h2=>?_;walk_at "wp"))
set_option hygiene false in
local macro_rules|`(tactic|walk_at "f")=>`(tactic|refine F.ok sc (λvs H Q E h=>?_) (λcdv A outer s H vs Q E hr h=>?_))
set_option hygiene false in
local macro_rules|`(tactic|walk_at "x")=>`(tactic|refine F.okX sc (λvs H Q E h=>?_) (λcdv A outer s H vs Q E hr h=>?_))
set_option hygiene false in
local macro_rules|`(tactic|walk_at "c")=>`(tactic|exact⟨rfl,rfl,rfl,by decide +kernel,rfl,by decide +kernel,by decide +kernel⟩)
noncomputable def iO(i:Nat):Stmt:=PySem.Challenge.pw_quiltlaw_k33_grown_trees_numbered.main.body.getD i (.Pass ⟨0,0,0,0⟩)
noncomputable def DZ:Stmt->List Stmt
 | .ClassDef (body:=b) ..=>b
 |_=>[]
noncomputable def eQ(i j:Nat):Stmt:=(DZ (iO i)).getD j (.Pass ⟨0,0,0,0⟩)
section
variable {P:KW}{w:K0}{K:W.Frag}{mg:KS}{base:Heap}
noncomputable abbrev FS(z:Str)(c:Nat):Bool:=!(Builtin.Str.occurrences z ⟨#[c]⟩ 0 z.length 1).isEmpty
noncomputable abbrev ni:Stmt:=iO 24
noncomputable def ir(r:KO)(z:Str):Bool:=r.all (FS z)
noncomputable def iS:Sp:=λvs H Q _=>∃(r:KO) (z:Str),vs=[.str (tx r),.str z]/\r.length<=100000/\∀H',aC H H'->Q (.bl (ir r z)) H'
theorem xh:az ["text","letters"] ["text","letters"] (ah ni):=by walk_at "c"
theorem Iy{r:KO}{i c:Nat}(h:(tx r).cps[i]?=some c):r[i]?=some c:=by
 rw[<- h];show r[i]?=r.toArray[i]?;simp
theorem GU(r:KO):(tx r).cps.size=r.length:=by show r.toArray.size=_;simp
theorem xq{f:Addr}{fd:KU}(F:cw K "only_of" "only_of" ni f fd)(nb:NB mg):aQ P w K mg base bC 1 f fd ["text","letters"] iS:=by
 have sc:=xh;walk_at "f"
 ·obtain⟨r,z,rfl,_⟩:=h;rfl
 ·obtain⟨r,z,rfl,hr',q⟩:=h
  refine⟨_,(ai (aI (aB (vw rfl) rfl nb.all CW (aa (cC ["sign"] [1] rfl (bw.of (by kernel_rfl)) (by kernel_rfl) (EZ (al 0))
    (λ_ _ _ _=>(aw (i:=0) (by show(["sign","letters"]:List Str).Nodup;decide +kernel) rfl (Or.inl rfl))) (λ_ _ _ _=>bT) (λ_ _ _ _=>(lZ AN (al 0) (al 1) (by with_unfolding_all rfl)))) ad)))),?_⟩
  walk_at "wp";refine Bk (x:=tx r) (λi acc σ H'=>H'=H/\acc=((r.take i).map (FS z)).map V.bl/\i<=r.length/\∃x,σ=[x,some (.str z)]) ⟨rfl,rfl,Kf _,_,rfl⟩ ?_ ?_ ?_ ?_
  ·rintro i acc σ H' ⟨_,rfl,hi,_⟩
   rw[JU,JU,Ku];exact bd ⋯
  ·rintro i acc σ H' ⟨_,_,h,_⟩
   rw[GU];exact h
  ·rintro i c acc σ H' hc ⟨rfl,rfl,hi,y,rfl⟩
   have hc':=Iy hc;have hi':=(JS.mp hc').1;walk_at "wp";refine⟨?_,hi'⟩;rw[List.take_add_one,hc'];simp
  ·rintro acc σ H' ⟨rfl,rfl,_⟩ l hl
   refine⟨_,aU.of ac,?_⟩;rw[GU,Kt];have e:(r.map (FS z)).all id=ir r z:=by unfold ir;rw[List.all_map];rfl
   rw[e];exact q _ (ae hl)
noncomputable abbrev mQ:Stmt:=iO 25
noncomputable abbrev ET:Str:="ABCDEFGHIJKLMNOPQRSTUVWXYZ"
noncomputable def dw(r:KO):Bool:=decide (1<=r.length)&&decide (r.length<=4)&&ir r ET
noncomputable def lJ:Sp:=λvs H Q _=>∃(r:KO),vs=[.str (tx r)]/\r.length<=100000/\∀H',aC H H'->Q (.bl (dw r)) H'
theorem wC:az ["text"] ["text"] (ah mQ):=by walk_at "c"
theorem x6{f:Addr}{fd:KU}{t1 t2:Tok}(F:cw K "is_name" "is_name" mQ f fd)(nb:NB mg)(ybk:mg "LONGEST_NAME"=some (.int 4 t1))(ya2:mg "CAPITALS"=some (.str "ABCDEFGHIJKLMNOPQRSTUVWXYZ" t2))(yap:eO P w K mg base bC 1 "only_of" ["text","letters"] iS):aQ P w K mg base bC 2 f fd ["text"] lJ:=by
 have sc:=wC;walk_at "f"
 ·obtain⟨r,rfl,_⟩:=h;rfl
 ·obtain⟨r,rfl,hr',q⟩:=h
  refine⟨_,(ai (aI (uf (u5 (bf.m0 lW) (bf.m0 lW) aj (aB aV rfl nb.len aW (aa (al 0) ad)) (eJ (v:=.int 4) rfl ybk ⟨_,rfl⟩)) (wW (aK yap (hr.mono nofun) rfl aY (aa (al 0) (aa (eJ (v:=.str "ABCDEFGHIJKLMNOPQRSTUVWXYZ") rfl ya2 ⟨_,rfl⟩) ad))))))),?_⟩;walk_at "wp";refine⟨by rw[ax];exact ak ⋯,?_⟩;rw[ax];unfold dw at q
  by_cases h1:1<=r.length
  ·rw[if_pos ⋯]
   by_cases h2:r.length<=4
   ·rw[if_pos ⋯]
    refine⟨r,_,rfl,hr',λH' sm=>?_⟩;have z:=q H' sm;rw[decide_eq_true h1,decide_eq_true h2]at z;exact z
   ·rw[if_neg ⋯]
    have z:=q H (λ_ _ e=>e);rw[decide_eq_true h1,decide_eq_false h2]at z;exact z
  ·rw[if_neg ⋯]
   have z:=q H (λ_ _ e=>e);rw[decide_eq_false h1]at z;exact z
noncomputable abbrev dO:Stmt:=eQ 26 0
noncomputable def dm(K:W.Frag)(CF:Addr):Sp:=λvs H Q E=>∃(a C dx l:Addr) (n:KO) (c:Int) (ps:bG),vs=[.ref a,.str (tx n),.int c,.ref l]/\H a=some (.ins C dx [])/\lT K C/\au K C "name"/\au K C "cost"/\au K C "part_names"/\H l=some (.lst (aE ps)) /\
 ps.length<=1000/\(∀r∈n::ps,r.length<=100000) /\
 ((∀r∈n::ps,dw r=true)/\1<=c/\c<=9->∀H',aC H H'->Q .non (aA H' a (.ins C dx [("name",.str (tx n)),("cost",.int c),("part_names",.ref l)]))) /\
 (¬ ((∀r∈n::ps,dw r=true)/\1<=c/\c<=9)->∀H',aC H H'->E (.ref CF) none H')
theorem uK:az ["self","name","cost","part_names","text"] ["self","name","cost","part_names"] (ah dO):=by walk_at "c"
theorem s_{f zfa:Addr}{fd:KU}(F:cw K "__init__" "Rule.__init__" dO f fd)(nb:NB mg)(zCa:mg "NoRule"=some (.ref zfa))(zxa:XR K zfa)(yaB:eO P w K mg base bC 2 "is_name" ["text"] lJ):aQ P w K mg base (bE P w) 3 f fd ["self","name","cost","part_names"] (dm K zfa):=by
 have sc:=uK;walk_at "x"
 ·obtain⟨a,C,dx,l,n,c,ps,rfl,_⟩:=h;rfl
 ·obtain⟨a,C,dx,l,n,c,ps,rfl,ha,cl,n1,n2,n3,hl,hpl,hrl,good,bad⟩:=h
  refine⟨_,(af (bu PassesOwn.leaving rfl (cD (ay wY (bB (aa (al 1) ad)) (al 3))) (aw (i:=4) sc.nd rfl (Or.inl rfl))
   (ai (bF (gH (ja (aK (CX:=bE P w) yaB.lift (hr.mono nofun) rfl bg (aa (al 4) ad)) λ_=>rfl))
   (ai (dN zxa rfl rfl zCa (fq λ_ _ _ h=>h) (bP ad)))
   aO)))
   (af (bF (PW.pt (i6 (aM (bf.m0 pX) (al 2) aj (aS _)) (gZ (aM (bf.m0 k8) (al 2) aj (aS _)))))
   (ai (dN zxa rfl rfl zCa (fq λ_ _ _ h=>h) (bP ad)))
   aO)
   (af (cY (al 0) (al 1) rfl)
   (af (cY (al 0) (al 2) rfl)
   (ai (cY (al 0) (al 3) rfl)))))),?_⟩
  walk_at "wp";refine⟨ak ⋯,λp hp=>?_⟩;have m1:aC H (aA H p (.lst [V.str (tx n)])):=ae hp;have e1:aA H p (.lst [V.str (tx n)]) p=some (.lst [V.str (tx n)]):=ac;generalize aA H p (.lst [V.str (tx n)])=H1 at m1 e1 ⊢;refine⟨_,e1,_,m1 _ _ hl,by rw[av];exact ak (by simp;omega),λp2 hp2=>?_⟩;have e12:[V.str (tx n)]++aE ps=aE (n::ps):=rfl;rw[e12];have m2:aC H1 (aA H1 p2 (.lst (aE (n::ps)))):=ae hp2;have e2:aA H1 p2 (.lst (aE (n::ps))) p2=some (.lst (aE (n::ps))):=ac;generalize aA H1 p2 (.lst (aE (n::ps)))=H2 at m2 e2 ⊢;generalize hqs:n::ps=qs at hrl good bad e2 ⊢;have m02:=m1.trans m2;refine⟨⟨_,aU.of e2⟩,dh (xs:=aE qs) (λi σ H'=>aC H2 H'/\(∀r∈qs.take i,dw r=true)/\∃x,σ=[some (.ref a),some (.str (tx n)),some (.int c),some (.ref l),x]) ⟨λ_ _ e=>e,by simp,_,rfl⟩ (λi σ H' _ h=>aU.of (h.1 _ _ e2)) ?_ ?_⟩
  ·rintro i v σ H' hv ⟨sm,hok,x,rfl⟩
   have hi:i<qs.length:=by have:=(JS.mp hv).1;rwa [av]at this
   rw[bc hi]at hv;cases hv;walk_at "wp";refine⟨_,rfl,hrl _ (J1 hi),λH3 sm3=>⟨_,rfl,?_⟩⟩
   by_cases hb:dw qs[i]=true
   ·rw[if_neg (by rw[hb];decide)]
    refine⟨sm.trans sm3,λr hr=>?_⟩;rw[List.take_add_one,JR hi]at hr;rcases J6.mp hr with h | h
    ·exact hok r h
    ·rw[show r=qs[i] by simpa using h];exact hb
   ·rw[if_pos (by simpa using hb)]
    exact⟨ak ⋯,bad (λh=>hb (h.1 _ (J1 hi))) _ ((m02.trans sm).trans sm3)⟩
  ·rintro σ H' ⟨sm,hok,x,rfl⟩
   rw[av,Kt]at hok;have smH:=m02.trans sm;walk_at "wp"
   by_cases c1:c<1
   ·rw[if_pos c1]
    exact⟨ak ⋯,bad (λh=>by omega) _ smH⟩
   ·rw[if_neg c1]
    by_cases c9:9<c
    ·rw[if_pos c9]
     exact⟨ak ⋯,bad (λh=>by omega) _ smH⟩
    ·rw[if_neg c9]
     have g:=good ⟨hok,⋯,⋯⟩ H' smH;have l1:(cI "name" (V.str (tx n)) []).length<=1:=c8 _ _ _;have l2:(cI "cost" (V.int c) (cI "name" (V.str (tx n)) [])).length<=2:=Km (c8 _ _ _) ⋯;have d1:¬ (("name":Str)="cost"):=by decide +kernel
     have d2:¬ (("name":Str)="part_names"):=by decide +kernel
     have d3:¬ (("cost":Str)="part_names"):=by decide +kernel
     have e:cI "part_names" (V.ref l) (cI "cost" (V.int c) (cI "name" (V.str (tx n)) []))=[(("name":Str),V.str (tx n)),(("cost":Str),V.int c),(("part_names":Str),V.ref l)]:=by
      simp only[cI,if_neg d1,if_neg d2,if_neg d3]
     refine⟨C,dx,[],smH _ _ ha,cl,n1,by simp,C,dx,_,ac,cl,n2,⋯,C,dx,_,ac,cl,n3,⋯,?_⟩;rw[l_,l_,e];exact g
noncomputable def bQ(a:Addr)(H H':Hp):Prop:=∀b o,b≠a->H b=some o->H' b=some o
theorem bQ.of{a:Addr}{H H':Hp}(s:aC H H'):bQ a H H':=λb o _ e=>s b o e
theorem bQ.put{a:Addr}{H H':Hp}{o:HO}(s:bQ a H H'):bQ a H (aA H' a o):=λb u hb e=>by rw[am hb];exact s b u hb e
theorem bQ.then{a:Addr}{H H' H2:Hp}(s:bQ a H H')(t:aC H' H2):bQ a H H2:=λb u hb e=>t b u (s b u hb e)
noncomputable abbrev Fe:Str:="abcdefghijklmnopqrstuvwxyz"
noncomputable def jo(r:KO):Bool:=decide (r.length=1)&&ir r Fe
noncomputable def gU(n:KO)(ps:bG)(c:Int):Prop:=(∀r∈n::ps,dw r=true)/\1<=c/\c<=9
noncomputable abbrev dU:Stmt:=eQ 27 0
noncomputable def iX(K:W.Frag)(CF:Addr):Sp:=λvs H Q E=>∃(a C dx:Addr) (n sg:KO) (c:Int),vs=[.ref a,.str (tx n),.int c,.str (tx sg)]/\H a=some (.ins C dx [])/\lT K C/\(au K C "name"/\au K C "cost"/\au K C "part_names"/\au K C "sign")/\n.length<=100000/\sg.length<=100000 /\
 (gU n [] c/\jo sg=true->∀(l:Addr) (H':Hp),bQ a H H'->H l=none->H' l=some (.lst [])->H' a=some (.ins C dx [("name",.str (tx n)),("cost",.int c),("part_names",.ref l),("sign",.str (tx sg))])->Q .non H') /\
 (¬ (gU n [] c/\jo sg=true)->∀H',bQ a H H'->E (.ref CF) none H')
theorem tO:az ["self","name","cost","sign"] ["self","name","cost","sign"] (ah dU):=by walk_at "c"
theorem ur{f zfa:Addr}{fd:KU}{t3:Tok}(F:cw K "__init__" "CellRule.__init__" dU f fd)(nb:NB mg)(yaA:mg "SMALLS"=some (.str "abcdefghijklmnopqrstuvwxyz" t3))(zCa:mg "NoRule"=some (.ref zfa))(zxa:XR K zfa)
  (yap:eO P w K mg base bC 1 "only_of" ["text","letters"] iS) (zha:At P w K mg base (bE P w) 3 "Rule" "__init__" ["self","name","cost","part_names"] (dm K zfa)):aQ P w K mg base (bE P w) 4 f fd ["self","name","cost","sign"] (iX K zfa):=by
 have sc:=tO;walk_at "x"
 ·obtain⟨a,C,dx,n,sg,c,rfl,_⟩:=h;rfl
 ·obtain⟨a,C,dx,n,sg,c,rfl,ha,cl,⟨n1,n2,n3,n4⟩,hn,hsg,good,bad⟩:=h
  refine⟨_,(af (bv (oQ (E:=E) zha (hr.mono nofun) rfl (aX λ_ _ _ h=>h) (aa (al 0) (aa (al 1) (aa (al 2) (aa (bB ad) ad))))))
   (af (bF (PW.pt (i6 (aM pT (aB aV rfl nb.len aW (aa (al 3) ad)) aj (aS _)) (gZ (gH (ja (aK (CX:=bE P w) yap.lift (hr.mono nofun) rfl bg (aa (al 3) (aa (eJ (v:=.str "abcdefghijklmnopqrstuvwxyz") rfl yaA ⟨_,rfl⟩) ad))) λ_=>rfl)))))
   (ai (dN zxa rfl rfl zCa (fq λ_ _ _ h=>h) (bP ad)))
   aO)
   (ai (cY (al 0) (al 3) rfl)))),?_⟩
  walk_at "wp";refine⟨Kf _,λl hl=>?_⟩;have m1:aC H (aA H l (.lst [])):=ae hl;have e1:aA H l (.lst []) l=some (.lst []):=ac;generalize aA H l (.lst [])=H1 at m1 e1 ⊢;have hla:l≠a:=λe=>by rw[e,ha]at hl;cases hl
  refine⟨a,C,dx,l,n,c,[],rfl,m1 _ _ ha,cl,n1,n2,n3,e1,by simp,λr hr=>by rw[show r=n by simpa using hr];exact hn,λok H2 sm2=>?_,λnok H2 sm2=>bad (λh=>nok h.1) _ (.of (m1.trans sm2))⟩;have sx:bQ a H (aA H2 a (.ins C dx [("name",.str (tx n)),("cost",.int c),("part_names",.ref l)])):=(bQ.of (m1.trans sm2)).put;have ea:aA H2 a (.ins C dx [("name",.str (tx n)),("cost",.int c),("part_names",.ref l)]) a=some (.ins C dx [("name",.str (tx n)),("cost",.int c),("part_names",.ref l)]):=ac;have el:aA H2 a (.ins C dx [("name",.str (tx n)),("cost",.int c),("part_names",.ref l)]) l=some (.lst []):=by rw[am hla];exact sm2 _ _ e1
  generalize aA H2 a (.ins C dx [("name",.str (tx n)),("cost",.int c),("part_names",.ref l)])=H3 at sx ea el ⊢;dsimp only;have sgl:jo sg=true->sg.length=1/\ir sg Fe=true:=λh=>by
   unfold jo at h;rw[Bool.and_eq_true,decide_eq_true_eq]at h;exact h
  refine⟨by rw[ax];exact ak ⋯,?_⟩;rw[ax]
  by_cases h1:(sg.length:Int)=1
  ·rw[if_neg (λh=>h h1)]
   refine⟨sg,_,rfl,hsg,λH4 sm4=>⟨_,rfl,?_⟩⟩
   by_cases hb:ir sg Fe=true
   ·rw[if_neg (by rw[hb];decide)]
    have d1:¬ (("name":Str)="sign"):=by decide +kernel
    have d2:¬ (("cost":Str)="sign"):=by decide +kernel
    have d3:¬ (("part_names":Str)="sign"):=by decide +kernel
    have e:cI "sign" (V.str (tx sg)) [(("name":Str),V.str (tx n)),(("cost":Str),V.int c),(("part_names":Str),V.ref l)]=[(("name":Str),V.str (tx n)),(("cost":Str),V.int c),(("part_names":Str),V.ref l),(("sign":Str),V.str (tx sg))]:=by
     simp only[cI,if_neg d1,if_neg d2,if_neg d3]
    refine⟨C,dx,_,sm4 _ _ ea,cl,n4,by simp,?_⟩;rw[e];exact good ⟨ok,by unfold jo;rw[decide_eq_true ⋯,hb];rfl⟩ l _ (sx.then sm4).put hl (by rw[am hla];exact sm4 _ _ el) ac
   ·rw[if_pos (by simpa using hb)]
    exact⟨ak ⋯,bad (λh=>hb (sgl h.2).2) _ (sx.then sm4)⟩
  ·rw[if_pos h1]
   exact⟨ak ⋯,bad (λh=>h1 (by have:=(sgl h.2).1;omega)) _ sx⟩
noncomputable def dr(K:W.Frag)(CF:Addr):Sp:=λvs H Q E=>∃(a C dx:Addr) (n o1 o2:KO) (c:Int),vs=[.ref a,.str (tx n),.int c,.str (tx o1),.str (tx o2)]/\H a=some (.ins C dx [])/\lT K C/\(au K C "name"/\au K C "cost"/\au K C "part_names"/\au K C "one"/\au K C "other")/\n.length<=100000/\o1.length<=100000/\o2.length<=100000 /\
 (gU n [o1,o2] c->∀(l:Addr) (H':Hp),bQ a H H'->H l=none->H' l=some (.lst (aE [o1,o2]))->H' a=some (.ins C dx [("name",.str (tx n)),("cost",.int c),("part_names",.ref l),("one",.str (tx o1)),("other",.str (tx o2))])->Q .non H') /\
 (¬ gU n [o1,o2] c->∀H',bQ a H H'->E (.ref CF) none H')
theorem vv{n o1 o2:KO}{c:Int}{l:Addr}:cI "other" (V.str (tx o2)) (cI "one" (V.str (tx o1)) [(("name":Str),V.str (tx n)),(("cost":Str),V.int c),(("part_names":Str),V.ref l)])=[(("name":Str),V.str (tx n)),(("cost":Str),V.int c),(("part_names":Str),V.ref l),(("one":Str),V.str (tx o1)),(("other":Str),V.str (tx o2))]:=by
 have d1:¬ (("name":Str)="one"):=by decide +kernel
 have d2:¬ (("cost":Str)="one"):=by decide +kernel
 have d3:¬ (("part_names":Str)="one"):=by decide +kernel
 have d4:¬ (("name":Str)="other"):=by decide +kernel
 have d5:¬ (("cost":Str)="other"):=by decide +kernel
 have d6:¬ (("part_names":Str)="other"):=by decide +kernel
 have d7:¬ (("one":Str)="other"):=by decide +kernel
 simp only[cI,if_neg d1,if_neg d2,if_neg d3,if_neg d4,if_neg d5,if_neg d6,if_neg d7]
noncomputable abbrev cR:Stmt:=eQ 28 0
theorem qL:az ["self","name","cost","one","other"] ["self","name","cost","one","other"] (ah cR):=by walk_at "c"
theorem pP{f zfa:Addr}{fd:KU}(F:cw K "__init__" "BesideRule.__init__" cR f fd)(nb:NB mg)
  (zha:At P w K mg base (bE P w) 3 "Rule" "__init__" ["self","name","cost","part_names"] (dm K zfa)):aQ P w K mg base (bE P w) 4 f fd ["self","name","cost","one","other"] (dr K zfa):=by
 have sc:=qL;walk_at "x"
 ·obtain⟨a,C,dx,n,o1,o2,c,rfl,_⟩:=h;rfl
 ·obtain⟨a,C,dx,n,o1,o2,c,rfl,ha,cl,⟨n1,n2,n3,n4,n5⟩,hn,ho1,ho2,good,bad⟩:=h
  refine⟨_,(af (bv (oQ (E:=E) zha (hr.mono nofun) rfl (aX λ_ _ _ h=>h) (aa (al 0) (aa (al 1) (aa (al 2) (aa (bB (aa (al 3) (aa (al 4) ad))) ad))))))
   (af (cY (al 0) (al 3) rfl)
   (ai (cY (al 0) (al 4) rfl)))),?_⟩
  walk_at "wp";refine⟨ak ⋯,λl hl=>?_⟩;have m1:aC H (aA H l (.lst [V.str (tx o1),V.str (tx o2)])):=ae hl;have e1:aA H l (.lst [V.str (tx o1),V.str (tx o2)]) l=some (.lst (aE [o1,o2])):=ac;generalize aA H l (.lst [V.str (tx o1),V.str (tx o2)])=H1 at m1 e1 ⊢;have hla:l≠a:=λe=>by rw[e,ha]at hl;cases hl
  refine⟨a,C,dx,l,n,c,[o1,o2],rfl,m1 _ _ ha,cl,n1,n2,n3,e1,by simp,λr hr=>?_,λok H2 sm2=>?_,λnok H2 sm2=>bad (λh=>nok h) _ (.of (m1.trans sm2))⟩
  ·have h3:r=n\/r=o1\/r=o2:=by simpa using hr
   rcases h3 with rfl | rfl | rfl
   ·exact hn
   ·exact ho1
   ·exact ho2
  ·have sx:bQ a H (aA H2 a (.ins C dx [("name",.str (tx n)),("cost",.int c),("part_names",.ref l)])):=(bQ.of (m1.trans sm2)).put
   have ea:aA H2 a (.ins C dx [("name",.str (tx n)),("cost",.int c),("part_names",.ref l)]) a=some (.ins C dx [("name",.str (tx n)),("cost",.int c),("part_names",.ref l)]):=ac;have el:aA H2 a (.ins C dx [("name",.str (tx n)),("cost",.int c),("part_names",.ref l)]) l=some (.lst (aE [o1,o2])):=by rw[am hla];exact sm2 _ _ e1
   generalize aA H2 a (.ins C dx [("name",.str (tx n)),("cost",.int c),("part_names",.ref l)])=H3 at sx ea el ⊢;dsimp only;refine⟨C,dx,_,ea,cl,n4,by simp,C,dx,_,ac,cl,n5,?_,?_⟩
   ·exact Kw (c8 _ _ _) (by simp)
   ·rw[l_,vv]
    exact good ok l _ sx.put hl (by rw[am hla];exact el) ac
noncomputable abbrev dc:Stmt:=eQ 29 0
theorem rq:az ["self","name","cost","one","other"] ["self","name","cost","one","other"] (ah dc):=by walk_at "c"
theorem ri{f zfa:Addr}{fd:KU}(F:cw K "__init__" "AboveRule.__init__" dc f fd)(nb:NB mg)
  (zha:At P w K mg base (bE P w) 3 "Rule" "__init__" ["self","name","cost","part_names"] (dm K zfa)):aQ P w K mg base (bE P w) 4 f fd ["self","name","cost","one","other"] (dr K zfa):=by
 have sc:=rq;walk_at "x"
 ·obtain⟨a,C,dx,n,o1,o2,c,rfl,_⟩:=h;rfl
 ·obtain⟨a,C,dx,n,o1,o2,c,rfl,ha,cl,⟨n1,n2,n3,n4,n5⟩,hn,ho1,ho2,good,bad⟩:=h
  refine⟨_,(af (bv (oQ (E:=E) zha (hr.mono nofun) rfl (aX λ_ _ _ h=>h) (aa (al 0) (aa (al 1) (aa (al 2) (aa (bB (aa (al 3) (aa (al 4) ad))) ad))))))
   (af (cY (al 0) (al 3) rfl)
   (ai (cY (al 0) (al 4) rfl)))),?_⟩
  walk_at "wp";refine⟨ak ⋯,λl hl=>?_⟩;have m1:aC H (aA H l (.lst [V.str (tx o1),V.str (tx o2)])):=ae hl;have e1:aA H l (.lst [V.str (tx o1),V.str (tx o2)]) l=some (.lst (aE [o1,o2])):=ac;generalize aA H l (.lst [V.str (tx o1),V.str (tx o2)])=H1 at m1 e1 ⊢;have hla:l≠a:=λe=>by rw[e,ha]at hl;cases hl
  refine⟨a,C,dx,l,n,c,[o1,o2],rfl,m1 _ _ ha,cl,n1,n2,n3,e1,by simp,λr hr=>?_,λok H2 sm2=>?_,λnok H2 sm2=>bad (λh=>nok h) _ (.of (m1.trans sm2))⟩
  ·have h3:r=n\/r=o1\/r=o2:=by simpa using hr
   rcases h3 with rfl | rfl | rfl
   ·exact hn
   ·exact ho1
   ·exact ho2
  ·have sx:bQ a H (aA H2 a (.ins C dx [("name",.str (tx n)),("cost",.int c),("part_names",.ref l)])):=(bQ.of (m1.trans sm2)).put
   have ea:aA H2 a (.ins C dx [("name",.str (tx n)),("cost",.int c),("part_names",.ref l)]) a=some (.ins C dx [("name",.str (tx n)),("cost",.int c),("part_names",.ref l)]):=ac;have el:aA H2 a (.ins C dx [("name",.str (tx n)),("cost",.int c),("part_names",.ref l)]) l=some (.lst (aE [o1,o2])):=by rw[am hla];exact sm2 _ _ e1
   generalize aA H2 a (.ins C dx [("name",.str (tx n)),("cost",.int c),("part_names",.ref l)])=H3 at sx ea el ⊢;dsimp only;refine⟨C,dx,_,ea,cl,n4,by simp,C,dx,_,ac,cl,n5,?_,?_⟩
   ·exact Kw (c8 _ _ _) (by simp)
   ·rw[l_,vv]
    exact good ok l _ sx.put hl (by rw[am hla];exact el) ac
noncomputable def iW(K:W.Frag)(CF:Addr):Sp:=λvs H Q E=>∃(a C dx:Addr) (n o1:KO) (c t:Int),vs=[.ref a,.str (tx n),.int c,.str (tx o1),.int t]/\H a=some (.ins C dx [])/\lT K C/\(au K C "name"/\au K C "cost"/\au K C "part_names"/\au K C "part"/\au K C "turning")/\n.length<=100000/\o1.length<=100000 /\
 (gU n [o1] c/\0<=t/\t<=7->∀(l:Addr) (H':Hp),bQ a H H'->H l=none->H' l=some (.lst (aE [o1]))->H' a=some (.ins C dx [("name",.str (tx n)),("cost",.int c),("part_names",.ref l),("part",.str (tx o1)),("turning",.int t)])->Q .non H') /\
 (¬ (gU n [o1] c/\0<=t/\t<=7)->∀H',bQ a H H'->E (.ref CF) none H')
theorem CH{n o1:KO}{c t:Int}{l:Addr}:cI "turning" (V.int t) (cI "part" (V.str (tx o1)) [(("name":Str),V.str (tx n)),(("cost":Str),V.int c),(("part_names":Str),V.ref l)])=[(("name":Str),V.str (tx n)),(("cost":Str),V.int c),(("part_names":Str),V.ref l),(("part":Str),V.str (tx o1)),(("turning":Str),V.int t)]:=by
 have d1:¬ (("name":Str)="part"):=by decide +kernel
 have d2:¬ (("cost":Str)="part"):=by decide +kernel
 have d3:¬ (("part_names":Str)="part"):=by decide +kernel
 have d4:¬ (("name":Str)="turning"):=by decide +kernel
 have d5:¬ (("cost":Str)="turning"):=by decide +kernel
 have d6:¬ (("part_names":Str)="turning"):=by decide +kernel
 have d7:¬ (("part":Str)="turning"):=by decide +kernel
 simp only[cI,if_neg d1,if_neg d2,if_neg d3,if_neg d4,if_neg d5,if_neg d6,if_neg d7]
noncomputable abbrev dX:Stmt:=eQ 30 0
theorem t_:az ["self","name","cost","part","turning"] ["self","name","cost","part","turning"] (ah dX):=by walk_at "c"
theorem uO{f zfa:Addr}{fd:KU}(F:cw K "__init__" "TurnRule.__init__" dX f fd)(nb:NB mg)(zCa:mg "NoRule"=some (.ref zfa))(zxa:XR K zfa)
  (zha:At P w K mg base (bE P w) 3 "Rule" "__init__" ["self","name","cost","part_names"] (dm K zfa)):aQ P w K mg base (bE P w) 4 f fd ["self","name","cost","part","turning"] (iW K zfa):=by
 have sc:=t_;walk_at "x"
 ·obtain⟨a,C,dx,n,o1,c,t,rfl,_⟩:=h;rfl
 ·obtain⟨a,C,dx,n,o1,c,t,rfl,ha,cl,⟨n1,n2,n3,n4,n5⟩,hn,ho1,good,bad⟩:=h
  refine⟨_,(af (bv (oQ (E:=E) zha (hr.mono nofun) rfl (aX λ_ _ _ h=>h) (aa (al 0) (aa (al 1) (aa (al 2) (aa (bB (aa (al 3) ad)) ad))))))
   (af (bF (PW.pt (i6 (aM (bf.m0 pX) (al 4) aj (aS _)) (gZ (aM (bf.m0 k8) (al 4) aj (aS _)))))
   (ai (dN zxa rfl rfl zCa (fq λ_ _ _ h=>h) (bP ad)))
   aO)
   (af (cY (al 0) (al 3) rfl)
   (ai (cY (al 0) (al 4) rfl))))),?_⟩
  walk_at "wp";refine⟨ak ⋯,λl hl=>?_⟩;have m1:aC H (aA H l (.lst [V.str (tx o1)])):=ae hl;have e1:aA H l (.lst [V.str (tx o1)]) l=some (.lst (aE [o1])):=ac;generalize aA H l (.lst [V.str (tx o1)])=H1 at m1 e1 ⊢;have hla:l≠a:=λe=>by rw[e,ha]at hl;cases hl
  refine⟨a,C,dx,l,n,c,[o1],rfl,m1 _ _ ha,cl,n1,n2,n3,e1,by simp,λr hr=>?_,λok H2 sm2=>?_,λnok H2 sm2=>bad (λh=>nok h.1) _ (.of (m1.trans sm2))⟩
  ·have h3:r=n\/r=o1:=by simpa using hr
   rcases h3 with rfl | rfl
   ·exact hn
   ·exact ho1
  ·have sx:bQ a H (aA H2 a (.ins C dx [("name",.str (tx n)),("cost",.int c),("part_names",.ref l)])):=(bQ.of (m1.trans sm2)).put
   have ea:aA H2 a (.ins C dx [("name",.str (tx n)),("cost",.int c),("part_names",.ref l)]) a=some (.ins C dx [("name",.str (tx n)),("cost",.int c),("part_names",.ref l)]):=ac;have el:aA H2 a (.ins C dx [("name",.str (tx n)),("cost",.int c),("part_names",.ref l)]) l=some (.lst (aE [o1])):=by rw[am hla];exact sm2 _ _ e1
   generalize aA H2 a (.ins C dx [("name",.str (tx n)),("cost",.int c),("part_names",.ref l)])=H3 at sx ea el ⊢;dsimp only
   by_cases t0:t<0
   ·rw[if_pos t0]
    exact⟨ak ⋯,bad (λh=>by omega) _ sx⟩
   ·rw[if_neg t0]
    by_cases t7:7<t
    ·rw[if_pos t7]
     exact⟨ak ⋯,bad (λh=>by omega) _ sx⟩
    ·rw[if_neg t7]
     refine⟨C,dx,_,ea,cl,n4,by simp,C,dx,_,ac,cl,n5,?_,?_⟩
     ·exact Kw (c8 _ _ _) (by simp)
     ·rw[l_,CH]
      exact good ⟨ok,⋯,⋯⟩ l _ sx.put hl (by rw[am hla];exact el) ac
noncomputable abbrev du:Stmt:=eQ 26 1
noncomputable def cA(K:W.Frag):Sp:=λvs H Q _=>∃(a C dx l:Addr) (fs:List (Str×V)) (ps:bG),vs=[.ref a]/\H a=some (.ins C dx fs)/\lT K C/\au K C "part_names"/\fs.lookup ("part_names":Str)=some (V.ref l)/\H l=some (.lst (aE ps))/\cO H ps Q
theorem qV:az ["self"] ["self"] (ah du):=by walk_at "c"
theorem fg{f:Addr}{fd:KU}(F:cw K "parts" "Rule.parts" du f fd)(nb:NB mg):aQ P w K mg base bC 1 f fd ["self"] (cA K):=by
 have sc:=qV;walk_at "f"
 ·obtain⟨a,C,dx,l,fs,ps,rfl,_⟩:=h;rfl
 ·obtain⟨a,C,dx,l,fs,ps,rfl,ha,cl,n1,lk,hl,q⟩:=h
  refine⟨_,(ai (aI (dH cM rfl nb.list iJ (aa (bz (al 0) rfl) ad)))),?_⟩;walk_at "wp";refine⟨C,dx,fs,ha,cl,n1,V.ref l,lk,l,rfl,_,.inl (aU.of hl),λl' hl'=>q l' _ hl' ac (ae hl')⟩
noncomputable abbrev Ev(n:KO)(c:Int)(l:Addr)(sg:KO):List (Str×V):=[("name",.str (tx n)),("cost",.int c),("part_names",.ref l),("sign",.str (tx sg))]
noncomputable abbrev B9(n:KO)(c:Int)(l:Addr)(o1 o2:KO):List (Str×V):=[("name",.str (tx n)),("cost",.int c),("part_names",.ref l),("one",.str (tx o1)),("other",.str (tx o2))]
noncomputable abbrev Ew(n:KO)(c:Int)(l:Addr)(o1:KO)(t:Int):List (Str×V):=[("name",.str (tx n)),("cost",.int c),("part_names",.ref l),("part",.str (tx o1)),("turning",.int t)]
theorem hV{r:KO}(h:dw r=true):1<=r.length/\r.length<=4:=by
 unfold dw at h;rw[Bool.and_eq_true,Bool.and_eq_true,decide_eq_true_eq,decide_eq_true_eq]at h;exact h.1
theorem m4{r:KO}(h:jo r=true):r.length=1:=by
 unfold jo at h;rw[Bool.and_eq_true,decide_eq_true_eq]at h;exact h.1
theorem ar{a b:TS}{D:iP}{σ:St}{H:Hp}(h:∀N:St->Hp->Prop,(∀σ2 H2,b D σ2 H2->N σ2 H2)->a {D with nx:=N} σ H):xF a b D σ H:=h (b D) λ_ _ z=>z
noncomputable abbrev nk:Stmt:=iO 56
noncomputable def lm:Sp:=λvs H Q _=>∃(i:Int),vs=[.int i]/\Q (.bl true) H
theorem xW:az ["_law_x"] ["_law_x"] (ah nk):=by walk_at "c"
theorem x4{f:Addr}{fd:KU}(F:cw K "_law_whole" "_law_whole" nk f fd)(nb:NB mg):aQ P w K mg base bC 1 f fd ["_law_x"] lm:=by
 have sc:=xW;walk_at "f"
 ·obtain⟨i,rfl,_⟩:=h;rfl
 ·obtain⟨i,rfl,q⟩:=h
  refine⟨_,(ai (aI (uf (aB dB rfl nb.isinstance eZ (aa (al 0) (aa (uc (v:=.ty "int") rfl nb.int EF rfl) ad))) (wW (EM (aB dB rfl nb.isinstance eZ (aa (al 0) (aa (uc (v:=.ty "bool") rfl nb.bool Dy rfl) ad)))))))),?_⟩;walk_at "wp";refine⟨_,jl.int i,_,wa K _,?_⟩;walk_at "wp";refine⟨_,jl.int i,_,ua K,?_⟩;exact q
structure RV where
 n:List Nat
 c:Int
 o1:List Nat
 o2:List Nat
 sg:List Nat
 t:Int
noncomputable abbrev Yaa:=List (Nat×RV)
structure RC where
 rr:Addr
 cc:Addr
 cb:Addr
 ca:Addr
 ct:Addr
noncomputable def RC.at(R:RC)(k:Nat):Addr:=match k with | 0=>R.cc | 1=>R.cb | 2=>R.ca | _=>R.ct
noncomputable def vW(k:Nat)(l:Addr)(v:RV):List (Str×V):=match k with | 0=>Ev v.n v.c l v.sg | 1=>B9 v.n v.c l v.o1 v.o2 | 2=>B9 v.n v.c l v.o1 v.o2 | _=>Ew v.n v.c l v.o1 v.t
noncomputable def bi(k:Nat)(v:RV):bG:=match k with | 0=>[] | 1=>[v.o1,v.o2] | 2=>[v.o1,v.o2] | _=>[v.o1]
noncomputable def G5(k:Nat)(v:RV):Prop:=match k with | 0=>gU v.n [] v.c/\jo v.sg=true | 1=>gU v.n [v.o1,v.o2] v.c | 2=>gU v.n [v.o1,v.o2] v.c | _=>gU v.n [v.o1] v.c/\0<=v.t/\v.t<=7
structure RV.small(v:RV):Prop where
 n:v.n.length<=1000
 o1:v.o1.length<=1000
 o2:v.o2.length<=1000
 sg:v.sg.length<=1000
structure RV.good(v:RV):Prop where
 n:dw v.n=true
 c1:1<=v.c
 c9:v.c<=9
 o1:dw v.o1=true
 o2:dw v.o2=true
 sg:jo v.sg=true
 t0:0<=v.t
 t7:v.t<=7
theorem RV.good.small{v:RV}(g:v.good):v.small:=⟨by have:=hV g.n;omega,by have:=hV g.o1;omega,by have:=hV g.o2;omega,by have:=m4 g.sg;omega⟩
theorem RV.good.ok{v:RV}(g:v.good):∀k,G5 k v
 |0=>⟨⟨λr hr=>by rw[show r=v.n by simpa using hr];exact g.n,g.c1,g.c9⟩,g.sg⟩
 |1=>⟨λr hr=>by rcases(show r=v.n\/r=v.o1\/r=v.o2 by simpa using hr) with rfl | rfl | rfl<;>first | exact g.n | exact g.o1 | exact g.o2,g.c1,g.c9⟩
 |2=>⟨λr hr=>by rcases(show r=v.n\/r=v.o1\/r=v.o2 by simpa using hr) with rfl | rfl | rfl<;>first | exact g.n | exact g.o1 | exact g.o2,g.c1,g.c9⟩
 |_+3=>⟨⟨λr hr=>by rcases(show r=v.n\/r=v.o1 by simpa using hr) with rfl | rfl<;>first | exact g.n | exact g.o1,g.c1,g.c9⟩,g.t0,g.t7⟩
noncomputable def iU(R:RC)(H:Hp)(k:Nat)(a:Addr)(v:RV):Prop:=∃dx l,H a=some (.ins (R.at k) dx (vW k l v))/\H l=some (.lst (aE (bi k v)))
theorem iU.up{R:RC}{H H':Hp}{k:Nat}{a:Addr}{v:RV}(r:iU R H k a v)(s:aC H H'):iU R H' k a v:=by
 obtain⟨dx,l,h1,h2⟩:=r;exact⟨dx,l,s _ _ h1,s _ _ h2⟩
structure ow(K:W.Frag)(R:RC):Prop where
 i0:fz K R.cc
 i1:fz K R.cb
 i2:fz K R.ca
 i3:fz K R.ct
 a0:au K R.cc "name"/\au K R.cc "cost"/\au K R.cc "part_names"/\au K R.cc "sign"
 a1:au K R.cb "name"/\au K R.cb "cost"/\au K R.cb "part_names"/\au K R.cb "one"/\au K R.cb "other"
 a2:au K R.ca "name"/\au K R.ca "cost"/\au K R.ca "part_names"/\au K R.ca "one"/\au K R.ca "other"
 a3:au K R.ct "name"/\au K R.ct "cost"/\au K R.ct "part_names"/\au K R.ct "part"/\au K R.ct "turning"
 r0:W.kitOne K (.ref R.cc) (.ref R.rr)=some true
 r1:W.kitOne K (.ref R.cb) (.ref R.rr)=some true
 r2:W.kitOne K (.ref R.ca) (.ref R.rr)=some true
 r3:W.kitOne K (.ref R.ct) (.ref R.rr)=some true
 s0:W.kitOne K (.ref R.cc) (.ref R.cc)=some true
 s1:W.kitOne K (.ref R.cb) (.ref R.cb)=some true
 s2:W.kitOne K (.ref R.ca) (.ref R.ca)=some true
 s3:W.kitOne K (.ref R.ct) (.ref R.ct)=some true
theorem ow.icls{R:RC}(rk:ow K R):∀k,fz K (R.at k)
 |0=>rk.i0
 |1=>rk.i1
 |2=>rk.i2
 |_+3=>rk.i3
theorem ow.name{R:RC}(rk:ow K R):∀k,au K (R.at k) "name"/\au K (R.at k) "cost"/\au K (R.at k) "part_names"
 |0=>⟨rk.a0.1,rk.a0.2.1,rk.a0.2.2.1⟩
 |1=>⟨rk.a1.1,rk.a1.2.1,rk.a1.2.2.1⟩
 |2=>⟨rk.a2.1,rk.a2.2.1,rk.a2.2.2.1⟩
 |_+3=>⟨rk.a3.1,rk.a3.2.1,rk.a3.2.2.1⟩
theorem iT(l:Addr)(v:RV):∀k,(vW k l v).lookup ("name":Str)=some (V.str (tx v.n))/\(vW k l v).lookup ("cost":Str)=some (V.int v.c)/\(vW k l v).lookup ("part_names":Str)=some (V.ref l)/\(vW k l v).lookup ("parts":Str)=none/\(vW k l v).lookup ("told":Str)=none
 |0=>⟨rfl,rfl,rfl,rfl,rfl⟩
 |1=>⟨rfl,rfl,rfl,rfl,rfl⟩
 |2=>⟨rfl,rfl,rfl,rfl,rfl⟩
 |_+3=>⟨rfl,rfl,rfl,rfl,rfl⟩
theorem j3{H1 H2:Hp}{x dx:Addr}{o o':HO}(hx:H1 x=none)(hd:H1 dx=none)(s:bQ x (aA (aA H1 dx o) x o') H2):aC H1 H2:=
 λb u e=>s b u (aD e hx) (by rw[am (aD e hx),am (aD e hd)];exact e)
theorem CD{CX:k7}{k:Nat}{m:Str}{C0 C1 C2 C3:Addr}{s0 s1 s2 s3:Sp}(h0:∃ps,b6 P w K mg base CX k C0 m ps s0)(h1:∃ps,b6 P w K mg base CX k C1 m ps s1)(h2:∃ps,b6 P w K mg base CX k C2 m ps s2)(h3:∃ps,b6 P w K mg base CX k C3 m ps s3) :
  oy P w K mg base CX k m [(C0,s0),(C1,s1),(C2,s2),(C3,s3)]:=⟨λo ho=>by
 simp only[J8,List.not_mem_nil,or_false]at ho;rcases ho with rfl | rfl | rfl | rfl
 ·exact h0
 ·exact h1
 ·exact h2
 ·exact h3⟩
noncomputable def nw(K:W.Frag)(R:RC):List (Addr×Sp):=[(R.cc,cA K),(R.cb,cA K),(R.ca,cA K),(R.ct,cA K)]
theorem sy{R:RC}{H:Hp}{k a}{v:RV}{Q:VK}{E:XK}(rk:ow K R)(r:iU R H k a v)(q:cO H (bi k v) Q) :
  ∃o∈nw K R,∃dx fs,H a=some (.ins o.1 dx fs)/\fs.lookup ("parts":Str)=none/\o.2 [.ref a] H Q E:=by
 obtain⟨dx,l,h1,h2⟩:=r;have key:cA K [.ref a] H Q E:=⟨a,R.at k,dx,l,_,_,rfl,h1,(rk.icls k).cl,(rk.name k).2.2,(iT l v k).2.2.1,h2,q⟩;have mem:(R.at k,cA K)∈nw K R:=by
  unfold nw
  match k with
  |0=>simp[RC.at]
  |1=>simp[RC.at]
  |2=>simp[RC.at]
  |_+3=>simp[RC.at]
 exact⟨_,mem,dx,_,h1,(iT l v k).2.2.2.1,key⟩
noncomputable abbrev jk:Stmt:=iO 51
noncomputable abbrev pL:Str:="abcdefghijklmnopqrstuvwxyz"
noncomputable def eD(r:KO):Bool:=decide (1<=r.length)&&decide (r.length<=4)&&ir r pL&&decide ((met (dn (tx r))).length=r.length)
noncomputable def l5:Sp:=λvs H Q _=>∃(r:KO),vs=[.str (tx r)]/\r.length<=1000/\∀H',aC H H'->Q (.bl (eD r)) H'
theorem uP:az ["text"] ["text"] (ah jk):=by walk_at "c"
theorem ul{f:Addr}{fd:KU}{t1 t2:Tok}(F:cw K "are_signs" "are_signs" jk f fd)(nb:NB mg)(ybe:mg "MOST_SIGNS"=some (.int 4 t1))(yaA:mg "SMALLS"=some (.str "abcdefghijklmnopqrstuvwxyz" t2))(yap:eO P w K mg base bC 1 "only_of" ["text","letters"] iS):aQ P w K mg base bC 2 f fd ["text"] l5:=by
 have sc:=uP;walk_at "f"
 ·obtain⟨r,rfl,_⟩:=h;rfl
 ·obtain⟨r,rfl,hr',q⟩:=h
  refine⟨_,(ai (aI (uf (u5 (bf.m0 lW) (bf.m0 lW) aj (aB aV rfl nb.len aW (aa (al 0) ad)) (eJ (v:=.int 4) rfl ybe ⟨_,rfl⟩)) (uf (aK yap (hr.mono nofun) rfl aY (aa (al 0) (aa (eJ (v:=.str "abcdefghijklmnopqrstuvwxyz") rfl yaA ⟨_,rfl⟩) ad))) (wW (lZ ij (yY rfl (al 0) rfl nb.len rfl nb.set) (aB aV rfl nb.len aW (aa (al 0) ad)) (aS _))))))),?_⟩;walk_at "wp";refine⟨by rw[ax];exact ak ⋯,?_⟩;rw[ax];unfold eD at q
  by_cases h1:1<=r.length
  ·rw[if_pos ⋯]
   by_cases h2:r.length<=4
   ·rw[if_pos ⋯]
    refine⟨r,_,rfl,⋯,λH' sm=>⟨_,rfl,?_⟩⟩;have z:=q H' sm;rw[decide_eq_true h1,decide_eq_true h2]at z;cases ho:ir r pL with
    |false=>
     rw[ho]at z;rw[if_neg (by simp)];exact z
    |true=>
     rw[ho]at z;rw[if_pos rfl];refine⟨by rw[GU];unfold scanBound;omega,by exact ak ⋯,?_⟩;have e:decide (((met (dn (tx r))).length:Int)=(r.length:Int))=decide ((met (dn (tx r))).length=r.length):=by
      apply decide_eq_decide.mpr
      constructor<;>intro h<;>omega
     rw[e];exact z
   ·rw[if_neg ⋯]
    have z:=q H (λ_ _ e=>e);rw[decide_eq_true h1,decide_eq_false h2]at z;exact z
  ·rw[if_neg ⋯]
   have z:=q H (λ_ _ e=>e);rw[decide_eq_false h1]at z;exact z
noncomputable def FG(y:Str×List Int):List V:=.str y.1::y.2.map V.int
theorem BA{α:Type}{l:List α}{i:Nat}{x:α}(h:l[i]?=some x):l.drop i=x::l.drop (i+1):=by
 obtain⟨hi,e⟩:=JS.mp h;rw[List.drop_eq_getElem_cons hi,e]
noncomputable def wx(C:Addr)(H:Hp)(y:Str×List Int)(E:XK):Prop:=∀(t d:Addr) (H':Hp),aC H H'->H' t=some (.tup (FG y))->H' d=some (.xd [("why",.ref t)])->E (.ref C) (some d) H'
theorem wx.made{C:Addr}{H H':Hp}{y:Str×List Int}{E:XK}(b:wx C H y E)(sm:aC H H'){p d:Addr}(hp:H' p=none)(hd:aA H' p (.tup (FG y)) d=none):E (.ref C) (some d) (aA (aA H' p (.tup (FG y))) d (.xd [("why",.ref p)])):=by
 have hdp:p≠d:=λx=>by rw[<- x,ac]at hd;cases hd
 exact b p d _ ((sm.trans (ae hp)).trans (ae hd)) (by rw[am hdp,ac]) ac
structure Eu(K:W.Frag)(R:RC):Prop where
 kit:∀i j,i<4->j<4->W.kitOne K (.ref (R.at i)) (.ref (R.at j))=some (decide (i=j))
noncomputable abbrev j9:Stmt:=eQ 5 0
theorem Cg:az ["self","why"] ["self","why"] (ah j9):=by walk_at "c"
theorem Bf{f C:Addr}{fd:KU}(F:cw K "__init__" "NoGrammar.__init__" j9 f fd)(xs:W.XSt K C "why"):aQ P w K mg base bC 1 f fd ["self","why"] (ml C "why"):=by
 have sc:=Cg;walk_at "f"
 ·obtain⟨a,v,rfl,_⟩:=h;rfl
 ·obtain⟨a,v,rfl,ha,q⟩:=h
  refine⟨_,(ai (yk (pv 0) (pv 1) rfl)),?_⟩;walk_at "wp";exact⟨C,ha,xs,λd hd=>q d hd⟩
noncomputable abbrev Gx(z x:Str):Bool:=!(Builtin.Str.occurrences z x 0 z.length 1).isEmpty
noncomputable def gw(sg:Str):Yaa->Nat->Option Nat
 | [],_=>none
 |r::rs,j=>if r.1=0/\Gx sg (tx r.2.sg)=false then some j else gw sg rs (j+1)
noncomputable def iD(sg st:KO)(rs:Yaa):Option (Str×List Int):=
 if eD sg=false then some ("signs",[]) else if dw st=false then some ("start",[]) else if 24<rs.length then some ("rules",[(rs.length:Int)]) else
  match gw (tx sg) rs 0 with
  |some k=>some ("sign",[(k:Int)])
  |none=>none
noncomputable abbrev fu:Stmt:=iO 50
noncomputable def cF(R:RC)(H:Hp)(as:KR)(rs:Yaa):Prop:=as.length=rs.length/\∀(i:Nat) a r,as[i]?=some a->rs[i]?=some r->iU R H r.1 a r.2
theorem cF.up{R:RC}{H H':Hp}{as:KR}{rs:Yaa}(h:cF R H as rs)(s:aC H H'):cF R H' as rs:=⟨h.1,λi a r e1 e2=>(h.2 i a r e1 e2).up s⟩
noncomputable def ib(R:RC)(C:Addr):Sp:=λvs H Q E=>∃(sg st:KO) (a:Addr) (as:KR) (rs:Yaa),vs=[.str (tx sg),.str (tx st),.ref a]/\sg.length<=1000/\st.length<=1000/\H a=some (.lst (as.map V.ref))/\cF R H as rs/\(∀r∈rs,r.1<4)/\rs.length<=100 /\
 (iD sg st rs=none->∀H',aC H H'->Q .non H')/\∀y,iD sg st rs=some y->wx C H y E
theorem m7:az ["signs","start","rules","k","rule"] ["signs","start","rules"] (ah fu):=by walk_at "c"
theorem nh{R:RC}{f zda:Addr}{fd:KU}{t1:Tok}(F:cw K "check_made_of" "check_made_of" fu f fd)(nb:NB mg)(rk:ow K R)(rk4:Eu K R)(yaZ:mg "MOST_RULES"=some (.int 24 t1))(zxb:mg "CellRule"=some (.ref R.cc))
  (zua:mg "NoGrammar"=some (.ref zda)) (zna:XI P w K mg base 1 zda "why") (ya5:eO P w K mg base bC 2 "are_signs" ["text"] l5) (yaB:eO P w K mg base bC 2 "is_name" ["text"] lJ):aQ P w K mg base (bE P w) 3 f fd ["signs","start","rules"] (ib R zda):=by
 have sc:=m7;walk_at "x"
 ·obtain⟨sg,st,a,as,rs,rfl,_⟩:=h;rfl
 ·obtain⟨sg,st,a,as,rs,rfl,hsg,hst,ha,hrs,hk4,hn,good,bad⟩:=h
  refine⟨_,(af (bF (gH (ja (aK (CX:=bE P w) ya5.lift (hr.mono nofun) rfl bg (aa (al 0) ad)) λ_=>rfl))
   (ai (dJ zna (hr.mono nofun) rfl rfl zua (dI λ_ _ _ h=>h) (aa (aL (bP ad)) ad)))
   aO)
   (af (bF (gH (ja (aK (CX:=bE P w) yaB.lift (hr.mono nofun) rfl bg (aa (al 1) ad)) λ_=>rfl))
   (ai (dJ zna (hr.mono nofun) rfl rfl zua (dI λ_ _ _ h=>h) (aa (aL (bP ad)) ad)))
   aO)
   (af (bF (aM (bf.m0 k8) (aB bb rfl nb.len aW (aa (al 2) ad)) (eJ (v:=.int 24) rfl yaZ ⟨_,rfl⟩) (aS _))
   (ai (dJ zna (hr.mono nofun) rfl rfl zua (dI λ_ _ _ h=>h) (aa (aL (bP (aa (aB bb rfl nb.len aW (aa (al 2) ad)) ad))) ad)))
   aO)
   (ai (bu PassesOwn.leaving rfl (oS rfl nb.enumerate (aa (al 2) ad)) (dE (n:=2) rfl (aG (aw (i:=3) sc.nd rfl (Or.inl rfl)) (aG (aw (i:=4) sc.nd rfl (Or.inl rfl)) cq)))
   (ai (bF (PW.pt (mL (ja (aB dB rfl nb.isinstance eZ (aa (al 4) (aa (eJ (v:=.ref _) rfl zxb rfl) ad))) λ_=>rfl) (oX (aM uT (bz (al 4) rfl) (al 0) (by with_unfolding_all rfl)))))
   (ai (dJ zna (hr.mono nofun) rfl rfl zua (dI λ_ _ _ h=>h) (aa (aL (bP (aa (al 3) ad))) ad)))
   aO))))))),?_⟩
  have tupw:∀(H':Hp) (y:Str×List Int),aC H H'->iD sg st rs=some y->∀p,H' p=none->1<=sizeLine/\∀d,aA H' p (.tup (FG y)) d=none->E (.ref zda) (some d) (aA (aA H' p (.tup (FG y))) d (.xd [("why",.ref p)])):=
   λH' y sm hy p hp=>⟨ak ⋯,λd hd=>(bad y hy).made sm hp hd⟩
  walk_at "n";refine⟨sg,rfl,hsg,λH1 sm1=>⟨_,rfl,?_⟩⟩;unfold iD at good tupw;cases e1:eD sg with
  |false=>
   rw[if_pos rfl];rw[if_pos e1]at tupw;exact⟨ak ⋯,tupw H1 _ sm1 rfl⟩
  |true=>
  rw[if_neg nofun];rw[if_neg (by rw[e1];decide)]at good tupw;refine h1 _ _ ?_;clear h1;walk_at "o";refine⟨st,rfl,⋯,λH2 sm2=>⟨_,rfl,?_⟩⟩;have sm12:=sm1.trans sm2;cases e2:dw st with
  |false=>
   rw[if_pos rfl];rw[if_pos e2]at tupw;exact⟨ak ⋯,tupw H2 _ sm12 rfl⟩
  |true=>
  rw[if_neg nofun];rw[if_neg (by rw[e2];decide)]at good tupw;refine h2 _ _ ?_;clear h2;have ha2:=sm12 _ _ ha;have hal:(as.map V.ref).length=rs.length:=by rw[JU];exact hrs.1
  refine ar λN3 h3=>?_;walk_at "wp";refine⟨_,aU.of ha2,?_⟩;rw[hal]
  by_cases h24:24<rs.length
  ·rw[if_pos ⋯]
   rw[if_pos h24]at tupw;refine⟨_,aU.of ha2,ak ⋯,?_⟩;rw[hal];exact tupw H2 _ sm12 rfl
  rw[if_neg ⋯];rw[if_neg h24]at good tupw;refine h3 _ _ ?_;clear h3;walk_at "wp";refine⟨_,aU.of ha2,?_⟩;refine j8 (xs:=as.map V.ref) (λi σ H'=>aC H H'/\gw (tx sg) (rs.drop i) i=gw (tx sg) rs 0/\∃x y,σ=[some (.str (tx sg)),some (.str (tx st)),some (.ref a),x,y]) ⟨sm12,rfl,_,_,rfl⟩ ?_ ?_ ?_
  ·rintro i σ H' _ ⟨sm,_⟩
   exact aU.of (sm _ _ ha)
  ·rintro i x σ H3 T hx ⟨sm,hb,x1,y1,rfl⟩ hT
   have hlt:i<rs.length:=by have:=(JS.mp hx).1;rw[hal]at this;exact this
   obtain⟨ra,hra,rfl⟩:∃ra,as[i]?=some ra/\V.ref ra=x:=by
    rw[JW]at hx;cases e:as[i]? with
    |none=>rw[e]at hx;cases hx
    |some ra=>rw[e]at hx;exact⟨ra,rfl,Option.some.inj hx⟩
   have hrr:rs[i]?=some rs[i]:=JR hlt;have hr4:=hk4 _ (J1 hlt);generalize rs[i]=r at hrr hr4;rw[BA hrr]at hb;have smT:aC H (aA H3 T (.tup [V.int (i:Int),V.ref ra])):=sm.trans (ae hT);have eT:aA H3 T (.tup [V.int (i:Int),V.ref ra]) T=some (.tup [V.int (i:Int),V.ref ra]):=ac;generalize aA H3 T (.tup [V.int (i:Int),V.ref ra])=H4 at smT eT ⊢;have rr:=(hrs.2 i ra r hra hrr).up smT;obtain⟨dx,pl,hra4,_⟩:=id rr;walk_at "wp";refine⟨_,ba.of eT,rfl,_,_,rfl,_,_,rfl,rfl,?_⟩;refine⟨_,(rk.icls r.1).ty hra4,_,rk4.kit r.1 0 hr4 nofun,?_⟩;have hb':(if r.1=0/\Gx (tx sg) (tx r.2.sg)=false then some i else gw (tx sg) (rs.drop (i+1)) (i+1))=gw (tx sg) rs 0:=hb
   by_cases e0:r.1=0
   ·rw[if_pos (by simp[e0])]
    obtain⟨r0,v⟩:=r;have e0':r0=0:=e0;subst e0';refine⟨ra,rfl,_,_,_,hra4,rk.i0.cl,rk.a0.2.2.2,_,rfl,_,rfl,?_⟩;cases hin:Gx (tx sg) (tx v.sg) with
    |false=>
     rw[if_pos hin];rw[if_pos ⟨rfl,hin⟩]at hb';rw[<- hb']at tupw;exact⟨ak ⋯,tupw H4 _ smT rfl⟩
    |true=>
     rw[if_neg (by rw[show(!(Builtin.Str.occurrences (tx sg) (tx v.sg) 0 (tx sg).length 1).isEmpty)=true from hin];decide)];rw[if_neg (λz=>by rw[hin]at z;exact absurd z.2 nofun)]at hb';exact⟨smT,hb'⟩
   ·rw[if_neg (by simp[e0])]
    rw[if_neg (λz=>e0 z.1)]at hb';exact⟨smT,hb'⟩
  ·rintro σ H' ⟨sm,hb,x,y,rfl⟩
   walk_at "wp";rw[hal,List.drop_of_length_le (Ke _)]at hb;refine good ?_ H' sm;rw[<- hb];rfl
noncomputable def i'(m:List (Str×List Nat))(z:Str)(i:Nat):List (Str×List Nat):=m.map λq=>if q.1=z then(q.1,q.2++[i]) else q
structure sY(H0:Hp)(p:Addr)(t:NT)(H:Hp):Prop where
 same:aC H0 H
 at_:c7 H p t
 fresh:∀x∈t,H0 x.2.1=none
 nodup:((jE t).map (·.1)).Nodup
theorem pA(t:NT):(jE t).length=t.length:=by unfold jE;rw[JU]
theorem rn(m:List (Str×List Nat))(z:Str):(bW m z).length<=m.length+1:=by
 unfold bW;split
 ·omega
 ·rw[Kd];simp
theorem iI(m:List (Str×List Nat))(z:Str)(i:Nat):(i' m z i).map (·.1)=m.map (·.1):=by
 unfold i';rw[J7]
 apply List.map_congr_left;intro q _;simp only[Function.comp]
 split<;>rfl
theorem zB{m:List (Str×List Nat)}{j i:Nat}{q:Str×List Nat}(nd:(m.map (·.1)).Nodup)(hj:m[j]?=some q):m.set j (q.1,q.2++[i])=i' m q.1 i:=by
 unfold i';apply List.ext_getElem?;intro k;rw[JW,List.getElem?_set];have hlt:j<m.length:=(JS.mp hj).1
 by_cases e:j=k
 ·subst e
  rw[if_pos rfl,if_pos hlt,hj];simp
 ·rw[if_neg e]
  cases hk:m[k]? with
  |none=>rfl
  |some y=>
   have hne:y.1≠q.1:=by
    intro h;have h1:(m.map (·.1))[j]?=some q.1:=by rw[JW,hj];rfl
    have h2:(m.map (·.1))[k]?=some q.1:=by rw[JW,hk];simp[h]
    exact e ((List.getElem?_inj (JS.mp h1).1 nd).mp (h1.trans h2.symm))
   simp[hne]
theorem sY.free{H0 H:Hp}{p:Addr}{t:NT}(N:sY H0 p t H){l:Addr}(h:H l=none):H0 l=none:=N.same.free h
theorem n_{te:TE}{σ:St}{H0 H:Hp}{p:Addr}{t:NT}{z:Str}{i:Nat}{Q:VK}(hp:H0 p=none)(hv:σ[i]?=some (some (.ref p)))(hte:∀R:VK,R (.str z) H->te σ H R)(N:sY H0 p t H)(hn:t.length<sizeLine)
  (h:∀(H':Hp) (t':NT) (j:Nat) (x:Str×Addr×List Nat),sY H0 p t' H'->t'[j]?=some x->x.1=z->jE t'=bW (jE t) z->t'.length<=t.length+1->(∀a o,a≠p->H a=some o->H' a=some o)->Q (.ref x.2.1) H'):vm (zJ i) te (B0 rh) σ H Q:=by
 refine⟨.ref p,hv,p,rfl,.inl ⟨_,.inl N.at_.dict⟩,hte _ ⟨Kf _,λl hl=>?_⟩⟩;have hl0:=N.free hl;refine N.at_.setdef hl hn λH' t' j x N' hj hx hm hy hk=>h H' t' j x ⟨λb o e=>hk b o (λq=>by rw[q,hp]at e;exact nomatch e) (N.same b o e),N',λy hyy=>?_,?_⟩ hj hx hm ?_ hk
 ·rcases hy y hyy with q | q
  ·exact N.fresh y q
  ·rw[q];exact hl0
 ·rw[hm];exact l6 N.nodup
 ·have:=rn (jE t) z
  rw[<- hm,pA,pA]at this;exact this
theorem sY.put{H0 H:Hp}{p:Addr}{t:NT}{j k:Nat}{x:Str×Addr×List Nat}(N:sY H0 p t H)(hj:t[j]?=some x) :
  sY H0 p (t.set j (x.1,x.2.1,x.2.2++[k])) (aA H x.2.1 (.lst (wu (x.2.2++[k]))))/\jE (t.set j (x.1,x.2.1,x.2.2++[k]))=i' (jE t) x.1 k:=by
 have hm:=JX hj;have e:jE (t.set j (x.1,x.2.1,x.2.2++[k]))=i' (jE t) x.1 k:=by
  rw[DY];exact zB (q:=(x.1,x.2.2)) N.nodup (by unfold jE;rw[JW,hj];rfl)
 refine⟨⟨fP N.same (N.fresh x hm),N.at_.put hj,λy hy=>?_,?_⟩,e⟩
 ·rcases List.mem_or_eq_of_mem_set hy with q | q
  ·exact N.fresh y q
  ·rw[q];exact N.fresh x hm
 ·rw[e,iI];exact N.nodup
noncomputable abbrev d8:Stmt:=iO 52
theorem lF:az ["start","rules","numbers","k","rule","part"] ["start","rules"] (ah d8):=by walk_at "c"
noncomputable def eY(m:List (Str×List Nat))(i:Nat)(r:Nat×RV):List (Str×List Nat):=((bi r.1 r.2).map tx).foldl bW (i' (bW m (tx r.2.n)) (tx r.2.n) i)
noncomputable def gg:Nat->Yaa->List (Str×List Nat)->List (Str×List Nat)
 |_,[],m=>m
 |i,r::rs,m=>gg (i+1) rs (eY m i r)
theorem lL{m:List (Str×List Nat)}{z:Str}{n:Nat}(h:∀q∈m,q.2.length<=n):∀q∈bW m z,q.2.length<=n:=by
 unfold bW;split
 ·exact h
 ·intro q hq
  rcases J6.mp hq with z1 | z1
  ·exact h q z1
  ·rw[JV.mp z1];exact Kf _
theorem nQ:∀{zs:KY} {m:List (Str×List Nat)} {n:Nat},(∀q∈m,q.2.length<=n)->∀q∈zs.foldl bW m,q.2.length<=n
 | [],_,_,h=>h
 |z::zs,_,_,h=>nQ (zs:=zs) (lL h)
theorem vF{m:List (Str×List Nat)}{i n:Nat}{r:Nat×RV}(h:∀q∈m,q.2.length<=n):∀q∈eY m i r,q.2.length<=n+1:=by
 unfold eY;refine nQ λq hq=>?_;unfold i' at hq;obtain⟨q0,hq0,rfl⟩:=Ky.mp hq;have:=lL h q0 hq0
 split
 ·rw[Kd];simp;exact this
 ·omega
theorem pw:∀{rs:Yaa} {i n:Nat} {m:List (Str×List Nat)},(∀q∈m,q.2.length<=n)->∀q∈gg i rs m,q.2.length<=n+rs.length
 | [],_,_,_,h=>h
 |r::rs,i,n,m,h=>λq hq=>by
  have:=pw (rs:=rs) (i:=i+1) (vF (i:=i) (r:=r) h) q hq;rw[J4];omega
theorem gB:∀{rs:Yaa} {i:Nat} {m:List (Str×List Nat)} {r:Nat×RV},gg i (rs++[r]) m=eY (gg i rs m) (i+rs.length) r
 | [],i,m,r=>rfl
 |r0::rs,i,m,r=>by
  show gg (i+1) (rs++[r]) (eY m i r0)=eY (gg (i+1) rs (eY m i r0)) (i+(rs.length+1)) r;rw[gB,show i+1+rs.length=i+(rs.length+1) by omega]
theorem xr(k:Nat)(v:RV):(bi k v).length<=2:=by
 match k with
 |0=>simp[bi]
 |1=>simp[bi]
 |2=>simp[bi]
 |_+3=>simp[bi]
noncomputable def a_(z:Str)(rs:Yaa):List (Str×List Nat):=gg 0 rs [(z,[])]
noncomputable def fY(K:W.Frag)(R:RC):Sp:=λvs H Q _=>∃(z:Str) (a:Addr) (as:KR) (rs:Yaa),vs=[.str z,.ref a]/\H a=some (.lst (as.map V.ref))/\cF R H as rs/\rs.length<=100 /\
 ∀p H' t,H p=none->c7 H' p t->jE t=a_ z rs->(∀x∈t,H x.2.1=none)->aC H H'->Q (.ref p) H'
theorem ly{R:RC}{f:Addr}{fd:KU}(F:cw K "numbers_by_name" "numbers_by_name" d8 f fd)(nb:NB mg)(rk:ow K R)(yav:oy P w K mg base bC 1 "parts" (nw K R)):aQ P w K mg base bC 2 f fd ["start","rules"] (fY K R):=by
 have sc:=lF;walk_at "f"
 ·obtain⟨r,a,_,_,rfl,_⟩:=h;rfl
 ·obtain⟨z,a,as,rs,rfl,ha,hrs,hn,q⟩:=h
  refine⟨_,(af (aF (i:=2) sc.nd rfl (Or.inl rfl) (Dx (Ca (pv 0) (bB ad) Dm) rfl rfl (by simp) nofun))
   (af (bu PassesOwn.never rfl (oS rfl nb.enumerate (aa (pv 1) ad)) (dE (n:=2) rfl (aG (aw (i:=3) sc.nd rfl (Or.inl rfl)) (aG (aw (i:=4) sc.nd rfl (Or.inl rfl)) cq)))
   (af (bv (hU PySem.F.plainAttrs_list PySem.F.slot_list_append PySem.F.type_list_append dS (pi (pv 2) (bz (pv 4) rfl) (bB ad) ⟨rfl,rfl,rfl,rfl⟩) (aa (pv 3) ad)))
   (ai (bu PassesOwn.never rfl (cD (u7 yav (hr.mono nofun) aY (pv 4))) (aw (i:=5) sc.nd rfl (Or.inl rfl))
   (ai (bv (pi (pv 2) (pv 5) (bB ad) ⟨rfl,rfl,rfl,rfl⟩)))))))
   (ai (aI (pv 2))))),?_⟩
  walk_at "wp";intro p hp;refine⟨Kf _,λl hl=>?_⟩;have hlp:l≠p:=λe=>by rw[e,ac]at hl;exact nomatch hl
  have hl0:H l=none:=by rw[am hlp]at hl;exact hl
  have hap:a≠p:=λe=>by rw[e,hp]at ha;exact nomatch ha
  have hal:a≠l:=λe=>by rw[e,hl0]at ha;exact nomatch ha
  refine⟨by rw[am (Ne.symm hlp),ac],[(.inr z,.ref l)],rfl,by simp,as.map V.ref,aU.of (by rw[am hap,am hal,am hap];exact ha),?_⟩;refine j8 (xs:=as.map V.ref) (λi σ H'=>aC H H'/\∃t,c7 H' p t/\(∀x∈t,H x.2.1=none)/\((jE t).map (·.1)).Nodup/\jE t=gg 0 (rs.take i) [(z,[])]/\t.length<=1+3*i/\∃x y u,σ=[some (.str z),some (.ref a),some (.ref p),x,y,u]) ?_ ?_ ?_ ?_
  ·refine⟨λb o e=>?_,[(z,l,[])],⟨by rw[ac];rfl,λx hx=>?_,by simp⟩,λx hx=>?_,by simp[jE],rfl,by simp,_,_,_,rfl⟩
   ·have h1:b≠p:=λq=>by rw[q,hp]at e;exact nomatch e
    have h2:b≠l:=λq=>by rw[q,hl0]at e;exact nomatch e
    rw[am h1,am h2,am h1];exact e
   ·rw[JV.mp hx,am hlp,ac];rfl
   ·rw[JV.mp hx];exact hl0
  ·rintro i σ H' _ ⟨sm,_⟩
   exact aU.of (sm _ _ ha)
  ·rintro i x σ H1 T hx ⟨sm,t,N,fr,nd,em,hlen,x1,y1,u1,rfl⟩ hT
   have hlt:i<rs.length:=by have:=(JS.mp hx).1;rw[JU,hrs.1]at this;exact this
   obtain⟨ra,hra,rfl⟩:∃ra,as[i]?=some ra/\V.ref ra=x:=by
    rw[JW]at hx;cases e:as[i]? with
    |none=>rw[e]at hx;cases hx
    |some ra=>rw[e]at hx;exact⟨ra,rfl,Option.some.inj hx⟩
   have hrr:rs[i]?=some rs[i]:=JR hlt;generalize rs[i]=r at hrr;have rr:=hrs.2 i ra r hra hrr;have smT:aC H (aA H1 T (.tup [V.int (i:Int),V.ref ra])):=sm.trans (ae hT);have gT:∀b o,H1 b=some o->aA H1 T (.tup [V.int (i:Int),V.ref ra]) b=some o:=ae hT;have eT:ba K (aA H1 T (.tup [V.int (i:Int),V.ref ra])) T [V.int (i:Int),V.ref ra]:=ba.of ac;have N2:=N.grow gT;generalize aA H1 T (.tup [V.int (i:Int),V.ref ra])=H2 at smT gT eT N2 ⊢;clear gT N hT sm H1;simp only[Bt,yw,k9,D5];refine⟨_,_,rfl,eT,rfl,_,_,rfl,_,_,rfl,rfl,?_⟩;refine ar λN1 h1=>?_;have rr2:=rr.up smT;have NI:sY H p t H2:=⟨smT,N2,fr,nd⟩;have hz:sizeLine>1000:=bd nofun;obtain⟨dx,pl,hra2,_⟩:=id rr2;walk_at "wp";refine n_ (z:=tx r.2.n) hp rfl (λS hS=>⟨_,rfl,ra,_,dx,_,_,rfl,hra2,(rk.icls r.1).cl,(rk.name r.1).1,(iT pl r.2 r.1).1,hS⟩) NI ⋯ λH3 t3 j x N3 hj hx hm hl3 hk=>?_;have hxl:=N3.at_.list x (JX hj);refine⟨.inl ⟨rfl,_,aU.of hxl⟩,_,rfl,_,hxl,?_,h1 _ _ ?_⟩
   ·have h2:(x.1,x.2.2)∈bW (jE t) (tx r.2.n):=by rw[<- hm];exact Ky.mpr ⟨x,JX hj,rfl⟩
    have h3:=lL (pw (rs:=rs.take i) (i:=0) (n:=0) (m:=[(z,[])]) (λq hq=>by rw[JV.mp hq];exact Kf _)) (z:=tx r.2.n) (x.1,x.2.2) (by rw[<- em];exact h2);rw[Ku]at h3;unfold wu;rw[JU];have h4:x.2.2.length<=100:=by simp at h3;omega
    omega
   clear h1;obtain⟨N4,hm4⟩:=N3.put (k:=i) hj;have hl4:(t3.set j (x.1,x.2.1,x.2.2++[i])).length<=t.length+1:=by rw[List.length_set];exact hl3
   have hm4:jE (t3.set j (x.1,x.2.1,x.2.2++[i]))=i' (bW (jE t) (tx r.2.n)) (tx r.2.n) i:=by rw[hm4,hm,hx]
   have eI:wu (x.2.2++[i])=wu x.2.2++[V.int (i:Int)]:=by unfold wu;rw[J5];rfl
   rw[eI]at N4;generalize t3.set j (x.1,x.2.1,x.2.2++[i])=t4 at N4 hm4 hl4;generalize aA H3 x.2.1 (.lst (wu x.2.2++[V.int (i:Int)]))=H4 at N4 ⊢;clear hk hxl hj N3 hm hl3 hx NI N2 hra2 rr2;have rr4:=rr.up N4.same;have hpk:=xr r.1 r.2;walk_at "wp";refine sy rk rr4 λlp H5 hlp hH5 sm5=>⟨lp,rfl,⟨_,aU.of hH5⟩,?_⟩;have hpp:lp≠p:=λe=>by rw[e,N4.at_.dict]at hlp;exact nomatch hlp
   refine dh (xs:=aE (bi r.1 r.2)) (λn σ H'=>n<=(bi r.1 r.2).length/\∃t',sY H p t' H'/\jE t'=(((bi r.1 r.2).take n).map tx).foldl bW (i' (bW (jE t) (tx r.2.n)) (tx r.2.n) i)/\t'.length<=t.length+1+n/\H' lp=some (.lst (aE (bi r.1 r.2)))/\∃u,σ=[some (.str z),some (.ref a),some (.ref p),some (.int (i:Int)),some (.ref ra),u])
    ⟨Kf _,t4,⟨N4.same.trans sm5,N4.at_.grow sm5,N4.fresh,N4.nodup⟩,hm4,hl4,hH5,_,rfl⟩ ?_ ?_ ?_
   ·rintro n σ H' _ ⟨_,t',_,_,_,hH',_⟩
    exact aU.of hH'
   ·rintro n v σ H' hv ⟨hn1,t',N',hm',hl',hH',u,rfl⟩
    have hnl:n<(bi r.1 r.2).length:=by have:=(JS.mp hv).1;rwa [av]at this
    rw[bc hnl]at hv;cases hv;walk_at "wp";refine n_ (z:=tx (bi r.1 r.2)[n]) hp rfl (λS hS=>⟨_,rfl,hS⟩) N' ⋯ λH6 t6 j x N6 hj hx hm6 hl6 hk=>?_;refine⟨hnl,t6,N6,?_,⋯,hk _ _ hpp hH'⟩;rw[hm6,hm',List.take_add_one,JR hnl,J5,List.foldl_append]
    rfl
   ·rintro σ H' ⟨_,t',N',hm',hl',hH',u,rfl⟩
    rw[av,Kt]at hm';refine⟨N'.same,t',N'.at_,N'.fresh,N'.nodup,?_,?_,_,_,_,rfl⟩
    ·rw[hm',List.take_add_one,hrr,em]
     show _=gg 0 (rs.take i++[r]) _;rw[gB,Ku,KH (Nat.le_of_lt hlt),Nat.zero_add]
     rfl
    ·rw[av]at hl';omega
  ·rintro σ H' ⟨sm,t,N,fr,_,em,_,x,y,u,rfl⟩
   walk_at "wp";refine q p H' t hp N ?_ fr sm;rw[em,JU,hrs.1,Kt];rfl
noncomputable def gM(sg st:KO)(rs:Yaa):Option (Str×List Int):=
 match iD sg st rs with
 |some y=>some y
 |none=>if 8<(a_ (tx st) rs).length then some ("names",[((a_ (tx st) rs).length:Int)]) else none
noncomputable def gW(sg st:KO)(lk pn:Addr):List (Str×V):=[("signs",.str (tx sg)),("start",.str (tx st)),("kept",.ref lk),("numbers",.ref pn)]
noncomputable def dA(R:RC)(H:Hp)(C dx a:Addr)(sg st:KO)(as:KR)(rs:Yaa):Prop:=
 ∃lk pn t,H a=some (.ins C dx (gW sg st lk pn))/\H lk=some (.lst (as.map V.ref))/\cF R H as rs/\c7 H pn t/\jE t=a_ (tx st) rs
noncomputable def sQ(R:RC)(H:Hp)(C dx a:Addr)(sg st:KO)(as:KR)(rs:Yaa)(lk pn:Addr)(t:NT):Prop:=
 H a=some (.ins C dx (gW sg st lk pn))/\H lk=some (.lst (as.map V.ref))/\cF R H as rs/\c7 H pn t/\jE t=a_ (tx st) rs
theorem sQ.f{R:RC}{H:Hp}{C dx a:Addr}{sg st:KO}{as:KR}{rs:Yaa}{lk pn:Addr}{t:NT}(g:sQ R H C dx a sg st as rs lk pn t):dA R H C dx a sg st as rs:=⟨lk,pn,t,g⟩
theorem dA.up{R:RC}{H H':Hp}{C dx a:Addr}{sg st:KO}{as:KR}{rs:Yaa}(g:dA R H C dx a sg st as rs)(s:aC H H'):dA R H' C dx a sg st as rs:=by
 obtain⟨lk,pn,t,h1,h2,h3,h4,h5⟩:=g;exact⟨lk,pn,t,s _ _ h1,s _ _ h2,h3.up s,h4.grow s,h5⟩
noncomputable def D2(a C:Addr)(H:Hp)(y:Str×List Int)(E:XK):Prop:=∀(t d:Addr) (H':Hp),bQ a H H'->H' t=some (.tup (FG y))->H' d=some (.xd [("why",.ref t)])->E (.ref C) (some d) H'
theorem D9(k:Nat)(l:Addr)(v:RV):vW k l v≠[]:=λe=>by
 have:=(iT l v k).1;rw[e]at this;exact nomatch this
theorem cF.upX{R:RC}{H H':Hp}{a C dx:Addr}{as:KR}{rs:Yaa}(h:cF R H as rs)(ha:H a=some (.ins C dx []))(s:bQ a H H'):cF R H' as rs:=by
 refine⟨h.1,λi b r e1 e2=>?_⟩;obtain⟨d,l,h1,h2⟩:=h.2 i b r e1 e2;refine⟨d,l,s _ _ (λe=>?_) h1,s _ _ (λe=>?_) h2⟩
 ·rw[e,ha]at h1
  have:=Option.some.inj h1;exact absurd (HO.ins.inj this).2.2.symm (D9 _ _ _)
 ·rw[e,ha]at h2;cases h2
noncomputable abbrev dR:Stmt:=eQ 49 0
noncomputable def i5(K:W.Frag)(R:RC)(CF:Addr):Sp:=λvs H Q E=>∃(a C dx l:Addr) (sg st:KO) (as:KR) (rs:Yaa),vs=[.ref a,.str (tx sg),.str (tx st),.ref l]/\H a=some (.ins C dx [])/\lT K C/\(au K C "signs"/\au K C "start"/\au K C "kept"/\au K C "numbers") /\
 sg.length<=1000/\st.length<=1000/\H l=some (.lst (as.map V.ref))/\cF R H as rs/\(∀r∈rs,r.1<4)/\rs.length<=100 /\
 (gM sg st rs=none->∀H' lk pn t,bQ a H H'->sQ R H' C dx a sg st as rs lk pn t->H lk=none->H pn=none->(∀x∈t,H x.2.1=none)->Q .non H')/\∀y,gM sg st rs=some y->D2 a CF H y E
theorem uo:az ["self","signs","start","rules"] ["self","signs","start","rules"] (ah dR):=by walk_at "c"
theorem uq{R:RC}{f zda:Addr}{fd:KU}{t1:Tok}(F:cw K "__init__" "Grammar.__init__" dR f fd)(nb:NB mg)(ya4:mg "MOST_NAMES"=some (.int 8 t1))
  (zua:mg "NoGrammar"=some (.ref zda)) (zna:XI P w K mg base 1 zda "why") (ybf:eO P w K mg base (bE P w) 3 "check_made_of" ["signs","start","rules"] (ib R zda)) (ybh:eO P w K mg base bC 2 "numbers_by_name" ["start","rules"] (fY K R)) :
  aQ P w K mg base (bE P w) 4 f fd ["self","signs","start","rules"] (i5 K R zda):=by
 have sc:=uo;walk_at "x"
 ·obtain⟨a,C,dx,l,sg,st,as,rs,rfl,_⟩:=h;rfl
 ·obtain⟨a,C,dx,l,sg,st,as,rs,rfl,ha,cl,⟨n1,n2,n3,n4⟩,hsg,hst,hl,hrs,hk4,hn,good,bad⟩:=h
  refine⟨_,(af (bv (aK (E:=E) ybf (hr.mono nofun) rfl (aX λ_ _ _ h=>h) (aa (al 1) (aa (al 2) (aa (al 3) ad)))))
   (af (cY (al 0) (al 1) rfl)
   (af (cY (al 0) (al 2) rfl)
   (af (cY (al 0) (dH cM rfl nb.list iJ (aa (al 3) ad)) rfl)
   (af (cY (al 0) (aK (CX:=bE P w) ybh.lift (hr.mono nofun) rfl bg (aa (al 2) (aa (al 3) ad))) rfl)
   (ai (bF (aM (bf.m0 k8) (aB sF rfl nb.len aW (aa (bz (al 0) rfl) ad)) (eJ (v:=.int 8) rfl ya4 ⟨_,rfl⟩) (aS _))
   (ai (dJ zna (hr.mono nofun) rfl rfl zua (dI λ_ _ _ h=>h) (aa (aL (bP (aa (aB sF rfl nb.len aW (aa (bz (al 0) rfl) ad)) ad))) ad)))
   aO))))))),?_⟩
  walk_at "n";refine⟨sg,st,l,as,rs,rfl,hsg,hst,hl,hrs,hk4,hn,λg0 H1 sm1=>h1 _ _ ?_,λy hy t d H' sm ht hd=>bad y (by unfold gM;rw[hy]) t d H' (.of sm) ht hd⟩;clear h1;have ha1:=sm1 _ _ ha;have hla:l≠a:=λe=>by rw[e,ha]at hl;cases hl
  walk_at "o";refine⟨C,dx,_,ha1,cl,n1,by simp,h2 _ _ ?_⟩;clear h2;have sx2:bQ a H (aA H1 a (.ins C dx [("signs",.str (tx sg))])):=(bQ.of sm1).put;have ea2:aA H1 a (.ins C dx [("signs",.str (tx sg))]) a=some (.ins C dx [("signs",.str (tx sg))]):=ac;show _;change xF _ _ _ _ (aA H1 a (.ins C dx [("signs",.str (tx sg))]));generalize aA H1 a (.ins C dx [("signs",.str (tx sg))])=H2 at sx2 ea2 ⊢;clear sm1 ha1;refine ar λN3 h3=>?_;walk_at "wp";have d1:¬ (("signs":Str)="start"):=by decide +kernel
  have e3:cI "start" (V.str (tx st)) [(("signs":Str),V.str (tx sg))]=[(("signs":Str),V.str (tx sg)),(("start":Str),V.str (tx st))]:=by simp only[cI,if_neg d1]
  refine⟨C,dx,_,ea2,cl,n2,by simp,?_⟩;rw[e3];refine h3 _ _ ?_;clear h3;have sx3:bQ a H (aA H2 a (.ins C dx [(("signs":Str),V.str (tx sg)),(("start":Str),V.str (tx st))])):=sx2.put;have ea3:aA H2 a (.ins C dx [(("signs":Str),V.str (tx sg)),(("start":Str),V.str (tx st))]) a=some (.ins C dx [(("signs":Str),V.str (tx sg)),(("start":Str),V.str (tx st))]):=ac;generalize aA H2 a (.ins C dx [(("signs":Str),V.str (tx sg)),(("start":Str),V.str (tx st))])=H3 at sx3 ea3 ⊢;clear sx2 ea2;have hl3:=sx3 _ _ hla hl;refine ar λN4 h4=>?_;walk_at "wp";refine⟨_,.inl (aU.of hl3),λlk hlk=>?_⟩;have hka:lk≠a:=λe=>by rw[e,ea3]at hlk;cases hlk
  have hlk0:lk≠l:=λe=>by rw[e,hl3]at hlk;cases hlk
  have sk:aC H3 (aA H3 lk (.lst (as.map V.ref))):=ae hlk;have ek:aA H3 lk (.lst (as.map V.ref)) lk=some (.lst (as.map V.ref)):=ac;have fr1:H lk=none:=by
   cases e:H lk with
   |none=>rfl
   |some u=>rw[sx3 _ _ hka e]at hlk;cases hlk
  generalize aA H3 lk (.lst (as.map V.ref))=H4 at sk ek ⊢;have d2:¬ (("signs":Str)="kept"):=by decide +kernel
  have d3:¬ (("start":Str)="kept"):=by decide +kernel
  have e4:cI "kept" (V.ref lk) [(("signs":Str),V.str (tx sg)),(("start":Str),V.str (tx st))]=[(("signs":Str),V.str (tx sg)),(("start":Str),V.str (tx st)),(("kept":Str),V.ref lk)]:=by simp only[cI,if_neg d2,if_neg d3]
  refine⟨C,dx,_,sk _ _ ea3,cl,n3,by simp,?_⟩;rw[e4];refine h4 _ _ ?_;clear h4;have sx5:bQ a H (aA H4 a (.ins C dx [(("signs":Str),V.str (tx sg)),(("start":Str),V.str (tx st)),(("kept":Str),V.ref lk)])):=(sx3.then sk).put;have ea5:aA H4 a (.ins C dx [(("signs":Str),V.str (tx sg)),(("start":Str),V.str (tx st)),(("kept":Str),V.ref lk)]) a=some (.ins C dx [(("signs":Str),V.str (tx sg)),(("start":Str),V.str (tx st)),(("kept":Str),V.ref lk)]):=ac;have ek5:aA H4 a (.ins C dx [(("signs":Str),V.str (tx sg)),(("start":Str),V.str (tx st)),(("kept":Str),V.ref lk)]) lk=some (.lst (as.map V.ref)):=by rw[am hka];exact ek
  generalize aA H4 a (.ins C dx [(("signs":Str),V.str (tx sg)),(("start":Str),V.str (tx st)),(("kept":Str),V.ref lk)])=H5 at sx5 ea5 ek5 ⊢;refine ar λN5 h5=>?_;walk_at "wp";refine⟨tx st,l,as,rs,rfl,sx5 _ _ hla hl,hrs.upX ha sx5,hn,λpn H6 t hpn hN hm hfr sm6=>?_⟩;have hpa:pn≠a:=λe=>by rw[e,ea5]at hpn;cases hpn
  have hpk:pn≠lk:=λe=>by rw[e,ek5]at hpn;cases hpn
  have fr2:H pn=none:=by
   cases e:H pn with
   |none=>rfl
   |some u=>rw[sx5 _ _ hpa e]at hpn;cases hpn
  have fr3:∀x∈t,H x.2.1=none:=λx hx=>by
   have h5x:=hfr x hx;cases e:H x.2.1 with
   |none=>rfl
   |some u=>rw[sx5 _ _ (λz=>by rw[z,ea5]at h5x;cases h5x) e]at h5x;cases h5x
  have d4:¬ (("signs":Str)="numbers"):=by decide +kernel
  have d5:¬ (("start":Str)="numbers"):=by decide +kernel
  have d6:¬ (("kept":Str)="numbers"):=by decide +kernel
  have e6:cI "numbers" (V.ref pn) [(("signs":Str),V.str (tx sg)),(("start":Str),V.str (tx st)),(("kept":Str),V.ref lk)]=gW sg st lk pn:=by unfold gW;simp only[cI,if_neg d4,if_neg d5,if_neg d6]
  have ea6:=sm6 _ _ ea5;refine⟨C,dx,_,ea6,cl,n4,by simp,?_⟩;rw[e6];refine h5 _ _ ?_;clear h5;have sx7:bQ a H (aA H6 a (.ins C dx (gW sg st lk pn))):=(sx5.then sm6).put;have gf:sQ R (aA H6 a (.ins C dx (gW sg st lk pn))) C dx a sg st as rs lk pn t:=by
   refine⟨ac,by rw[am hka];exact sm6 _ _ ek5,hrs.upX ha sx7,⟨by rw[am hpa];exact hN.dict,λx hx=>?_,hN.apart⟩,hm⟩;have hq:=hN.list x hx;rw[am (λe=>by rw[e,ea6]at hq;cases hq)];exact hq
  have ea7:aA H6 a (.ins C dx (gW sg st lk pn)) a=some (.ins C dx (gW sg st lk pn)):=ac;have ed7:aA H6 a (.ins C dx (gW sg st lk pn)) pn=some (.dK (wt t)):=by rw[am hpa];exact hN.dict
  generalize aA H6 a (.ins C dx (gW sg st lk pn))=H7 at sx7 gf ea7 ed7 ⊢;have hlen:(wt t).length=(a_ (tx st) rs).length:=by rw[<- hm];unfold wt jE;rw[JU,JU]
  walk_at "wp";refine⟨C,dx,_,ea7,cl,n4,_,rfl,pn,rfl,_,ed7,?_⟩;rw[hlen]
  by_cases h8:8<(a_ (tx st) rs).length
  ·rw[if_pos ⋯]
   refine⟨C,dx,_,ea7,cl,n4,_,rfl,pn,rfl,_,ed7,ak ⋯,λp hp=>⟨ak ⋯,λd hd=>?_⟩⟩;rw[hlen]at hd ⊢;have hdp:p≠d:=λx=>by rw[<- x,ac]at hd;cases hd
   refine bad ("names",[((a_ (tx st) rs).length:Int)]) (by unfold gM;rw[g0];simp only[];rw[if_pos h8]) p d _ (((sx7.then (ae hp))).then (ae hd)) (by rw[am hdp,ac];rfl) ac
  ·rw[if_neg ⋯]
   exact good (by unfold gM;rw[g0];simp only[];rw[if_neg h8]) H7 lk pn t sx7 gf fr1 fr2 fr3
noncomputable abbrev dW:Stmt:=eQ 49 2
noncomputable def b5(R:RC)(C:Addr):Sp:=λvs H Q _=>∃(a dx:Addr) (sg st:KO) (as:KR) (rs:Yaa) (k:Nat) (b:Addr),vs=[.ref a,.int (k:Int)]/\dA R H C dx a sg st as rs/\as[k]?=some b/\Q (.ref b) H
theorem uX:az ["self","k"] ["self","k"] (ah dW):=by walk_at "c"
theorem uy{R:RC}{f C:Addr}{fd:KU}(F:cw K "rule" "Grammar.rule" dW f fd)(nb:NB mg)(cl:lT K C)(na:au K C "signs"/\au K C "start"/\au K C "kept"/\au K C "numbers"):aQ P w K mg base bC 1 f fd ["self","k"] (b5 R C):=by
 have sc:=uX;walk_at "f"
 ·obtain⟨a,dx,sg,st,as,rs,k,b,rfl,_⟩:=h;rfl
 ·obtain⟨a,dx,sg,st,as,rs,k,b,rfl,g,hb,q⟩:=h
  obtain⟨lk,pn,t,ha,hk,hrs,hN,hm⟩:=id g;have hu:=hr.units;refine⟨_,(ai (aI (aH aZ (bz (al 0) rfl) (al 1) (λ_ _=>rfl)))),?_⟩;walk_at "wp";exact⟨C,dx,_,ha,cl,na.2.2.1,_,rfl,lk,rfl,_,aU.of hk,_,bt (by rw[JW,hb];rfl),q⟩
noncomputable abbrev dF:Stmt:=eQ 49 3
noncomputable def iM(R:RC)(C:Addr):Sp:=λvs H Q _=>∃(a dx:Addr) (sg st:KO) (as:KR) (rs:Yaa),vs=[.ref a]/\dA R H C dx a sg st as rs/\Q (.int (rs.length:Int)) H
theorem sP:az ["self"] ["self"] (ah dF):=by walk_at "c"
theorem tz{R:RC}{f C:Addr}{fd:KU}(F:cw K "many" "Grammar.many" dF f fd)(nb:NB mg)(cl:lT K C)(na:au K C "signs"/\au K C "start"/\au K C "kept"/\au K C "numbers"):aQ P w K mg base bC 1 f fd ["self"] (iM R C):=by
 have sc:=sP;walk_at "f"
 ·obtain⟨a,dx,sg,st,as,rs,rfl,_⟩:=h;rfl
 ·obtain⟨a,dx,sg,st,as,rs,rfl,g,q⟩:=h
  obtain⟨lk,pn,t,ha,hk,hrs,hN,hm⟩:=id g;have hu:=hr.units;refine⟨_,(ai (aI (aB bb rfl nb.len aW (aa (bz (al 0) rfl) ad)))),?_⟩;walk_at "wp";refine⟨C,dx,_,ha,cl,na.2.2.1,_,rfl,lk,rfl,_,aU.of hk,?_⟩;rw[JU,hrs.1];exact q
theorem rK(z:Str):∀t:NT,(jE t).lookup z=(t.find? λx=>decide (x.1=z)).map (·.2.2)
 | []=>rfl
 |x::t=>by
  have ih:=rK z t;unfold jE at ih ⊢;rw[Kl,List.lookup_cons,List.find?_cons]
  by_cases e:x.1=z
  ·simp[e]
  ·have e':(z==x.1)=false:=by simpa using λh=>e h.symm
   rw[e',ih];simp[e]
noncomputable abbrev bS:Stmt:=eQ 49 5
noncomputable def ck(R:RC)(C CN:Addr):Sp:=λvs H Q E=>∃(a dx:Addr) (sg st:KO) (as:KR) (rs:Yaa) (z:Str),vs=[.ref a,.str z]/\dA R H C dx a sg st as rs/\(∀ns,(a_ (tx st) rs).lookup z=some ns->∀l H',H l=none->H' l=some (.lst (wu ns))->aC H H'->Q (.ref l) H')/\((a_ (tx st) rs).lookup z=none->E (.ref CN) none H)
theorem lO:az ["self","name"] ["self","name"] (ah bS):=by walk_at "c"
theorem lE{R:RC}{f C yaa:Addr}{fd:KU}(F:cw K "numbers_of" "Grammar.numbers_of" bS f fd)(nb:NB mg)(cl:lT K C)(na:au K C "signs"/\au K C "start"/\au K C "kept"/\au K C "numbers")(ya7:mg "NoName"=some (.ref yaa))(ya0:XR K yaa):aQ P w K mg base (bE P w) 1 f fd ["self","name"] (ck R C yaa):=by
 have sc:=lO;walk_at "x"
 ·obtain⟨a,dx,sg,st,as,rs,z,rfl,_⟩:=h;rfl
 ·obtain⟨a,dx,sg,st,as,rs,z,rfl,g,q,x⟩:=h
  obtain⟨lk,pn,t,ha,hk,hrs,hN,hm⟩:=id g;have hu:=hr.units;refine⟨_,(af (bF (CC (su (Kw (KA (by decide:1<=64) _) hu) (al 1) (bz (al 0) rfl)) (by with_unfolding_all rfl))
   (ai (dN ya0 rfl rfl ya7 (fq λ_ _ _ h=>h) (bP ad)))
   aO)
   (ai (aI (dH cM rfl nb.list iJ (aa (uw (Kw (KA (by decide:1<=64) _) hu) (bz (al 0) rfl) (al 1) (λ_ _=>rfl)) ad))))),?_⟩
  walk_at "wp";have key:=rK z t;have val:=ye z t;rw[hm]at key;refine⟨C,dx,_,ha,cl,na.2.2.2,_,rfl,pn,rfl,?_⟩;refine⟨_,.inl ⟨_,.inr z,.inl hN.dict,rfl,rfl⟩,?_⟩;cases hf:t.find? (λx=>decide (x.1=z)) with
  |none=>
   rw[hf]at key val;rw[val];rw[if_pos (by simp)];exact⟨ak ⋯,x key⟩
  |some y=>
   rw[hf]at key val;rw[val];rw[if_neg (by simp)];have hy:=hN.list y (List.mem_of_find?_eq_some hf);exact⟨C,dx,_,ha,cl,na.2.2.2,_,rfl,pn,rfl,_,.inl ⟨_,.inr z,.inl hN.dict,rfl,val.symm⟩,_,rfl,_,.inl (aU.of hy),λl hl=>q _ key l _ hl ac (ae hl)⟩
noncomputable abbrev uC:Stmt:=iO 13
noncomputable def jJ(K:W.Frag)(CF:Addr):Sp:=λvs H Q E=>∃(a b:Addr) (p q:bG) (r c r' c':Nat),vs=[.ref a,.ref b]/\H a=some (.lst (aE p))/\H b=some (.lst (aE q))/\eR p r c/\eR q r' c'/\0<r/\r<=6/\c<=6/\0<r'/\r'<=6/\c'<=6 /\
 (c=c'/\r+r'<=6->cO H (p++q) Q)/\(¬ (c=c'/\r+r'<=6)->E (.ref CF) none H)
theorem Bl:az ["one","other"] ["one","other"] (ah uC):=by walk_at "c"
theorem CZ{f zia:Addr}{fd:KU}{tk:Tok}(F:cw K "above" "above" uC f fd)(nb:NB mg)(yag:mg "MOST"=some (.int 6 tk))(zyb:mg "NoFit"=some (.ref zia))(zob:XR K zia):aQ P w K mg base (bE P w) 1 f fd ["one","other"] (jJ K zia):=by
 have sc:=Bl;walk_at "x"
 ·obtain⟨a,b,p,q,r,c,r',c',rfl,_⟩:=h;rfl
 ·obtain⟨a,b,p,q,r,c,r',c',rfl,ha,hb,hp,hq,hr0,hr1,hc1,hr0',hr1',hc1',fit,yan⟩:=h
  refine⟨_,(af (bF (PW.pt (i6 (aM pT (aB aV rfl nb.len aW (aa (aH aZ (al 0) aj (λ_ _=>rfl)) ad)) (aB aV rfl nb.len aW (aa (aH aZ (al 1) aj (λ_ _=>rfl)) ad)) (aS _)) (gZ (aM (bf.m0 k8) (ay (bf.m0 bL) (aB bb rfl nb.len aW (aa (al 0) ad)) (aB bb rfl nb.len aW (aa (al 1) ad))) (eJ (v:=.int 6) rfl yag ⟨_,rfl⟩) (aS _)))))
   (ai (dN zob rfl rfl zyb (fq λ_ _ _ h=>h) (bP ad)))
   aO)
   (ai (aI (ay wY (al 0) (al 1))))),?_⟩
  walk_at "wp";obtain⟨hl0,hc0⟩:=fo hp hr0;obtain⟨hl0',hc0'⟩:=fo hq hr0';refine⟨_,aU.of ha,_,bt (bc hl0),_,rfl,by rw[ax];exact ak ⋯,_,aU.of hb,_,bt (bc hl0'),_,rfl,by rw[ax];exact ak ⋯,?_⟩;rw[ax,ax,hc0,hc0']
  by_cases h1:(c:Int)=(c':Int)
  ·rw[if_neg (λh=>h h1)]
   refine⟨_,aU.of ha,_,aU.of hb,?_⟩;rw[av,av,hp.1,hq.1]
   by_cases h2:6<(r:Int)+(r':Int)
   ·rw[if_pos h2]
    exact⟨ak ⋯,yan ⋯⟩
   ·rw[if_neg h2]
    refine⟨_,ha,_,hb,by rw[av,av,hp.1,hq.1];exact ak ⋯,λl hl=>?_⟩;refine fit ⟨⋯,⋯⟩ l _ hl ?_ (ae hl);rw[ac];unfold aE;rw[J5]
  ·rw[if_pos h1]
   exact⟨ak ⋯,yan ⋯⟩
noncomputable abbrev qm:Stmt:=iO 12
noncomputable def put2(p q:bG):bG:=(p.zip q).map λx=>x.1++x.2
noncomputable def il(K:W.Frag)(CF:Addr):Sp:=λvs H Q E=>∃(a b:Addr) (p q:bG) (r c r' c':Nat),vs=[.ref a,.ref b]/\H a=some (.lst (aE p))/\H b=some (.lst (aE q))/\eR p r c/\eR q r' c'/\0<r/\r<=6/\c<=6/\0<r'/\r'<=6/\c'<=6 /\
 (r=r'/\c+c'<=6->cO H (put2 p q) Q)/\(¬ (r=r'/\c+c'<=6)->E (.ref CF) none H)
theorem Ak:az ["one","other"] ["one","other"] (ah qm):=by walk_at "c"
theorem AX{f zia:Addr}{fd:KU}{tk:Tok}(F:cw K "beside" "beside" qm f fd)(nb:NB mg)(yag:mg "MOST"=some (.int 6 tk))(zyb:mg "NoFit"=some (.ref zia))(zob:XR K zia):aQ P w K mg base (bE P w) 1 f fd ["one","other"] (il K zia):=by
 have sc:=Ak;walk_at "x"
 ·obtain⟨a,b,p,q,r,c,r',c',rfl,_⟩:=h;rfl
 ·obtain⟨a,b,p,q,r,c,r',c',rfl,ha,hb,hp,hq,hr0,hr1,hc1,hr0',hr1',hc1',fit,yan⟩:=h
  refine⟨_,(af (bF (PW.pt (i6 (aM pT (aB bb rfl nb.len aW (aa (al 0) ad)) (aB bb rfl nb.len aW (aa (al 1) ad)) (aS _)) (gZ (aM (bf.m0 k8) (ay (bf.m0 bL) (aB aV rfl nb.len aW (aa (aH aZ (al 0) aj (λ_ _=>rfl)) ad)) (aB aV rfl nb.len aW (aa (aH aZ (al 1) aj (λ_ _=>rfl)) ad))) (eJ (v:=.int 6) rfl yag ⟨_,rfl⟩) (aS _)))))
   (ai (dN zob rfl rfl zyb (fq λ_ _ _ h=>h) (bP ad)))
   aO)
   (ai (aI (cC ["first","second"] [] rfl (bw.of (by kernel_rfl)) (by kernel_rfl) (Dc rfl nb.zip (aa (al 0) (aa (al 1) ad)))
    (λ_ _ _ _=>(uM (K:=K) (n:=2) rfl rfl (aG (aw (i:=0) (by show(["first","second"]:List Str).Nodup;decide +kernel) rfl (Or.inl rfl)) (aG (aw (i:=1) (by show(["first","second"]:List Str).Nodup;decide +kernel) rfl (Or.inl rfl)) cq)))) (λ_ _ _ _=>bT) (λ_ _ _ _=>(ay iz (al 0) (al 1))))))),?_⟩
  walk_at "wp";obtain⟨hl0,hc0⟩:=fo hp hr0;obtain⟨hl0',hc0'⟩:=fo hq hr0';refine⟨_,aU.of ha,_,aU.of hb,?_⟩;rw[av,av,hp.1,hq.1]
  by_cases h1:(r:Int)=(r':Int)
  ·rw[if_neg (λh=>h h1)]
   refine⟨_,aU.of ha,_,bt (bc hl0),_,rfl,by rw[ax];exact ak ⋯,_,aU.of hb,_,bt (bc hl0'),_,rfl,by rw[ax];exact ak ⋯,?_⟩;rw[ax,ax,hc0,hc0']
   by_cases h2:6<(c:Int)+(c':Int)
   ·rw[if_pos h2]
    exact⟨ak ⋯,yan ⋯⟩
   ·rw[if_neg h2]
    refine⟨_,aU.of ha,_,aU.of hb,?_⟩;have yau:p.length=r:=hp.1;have yaR:q.length=r:=by rw[hq.1];omega
    have hput:(put2 p q).length=r:=by unfold put2;rw[JU,List.length_zip,yau,yaR,Nat.min_self]
    refine wn (xs:=aE p) (ys:=aE q) (n:=r) (by rw[av,av,yau,yaR,Nat.min_self]) (λi acc σ H'=>aC H H'/\acc=aE ((put2 p q).take i)/\i<=r/\∃y z,σ=[y,z]) ⟨λ_ _ e=>e,rfl,Kf _,_,_,rfl⟩ ?_ ?_ ?_ ?_ ?_
    ·rintro i acc σ H' ⟨_,rfl,hi,_⟩
     rw[av,Ku];exact bd ⋯
    ·rintro i acc σ H' ⟨_,_,h,_⟩
     exact h
    ·rintro i acc σ H' ⟨sm,_⟩
     exact⟨aU.of (sm _ _ ha),aU.of (sm _ _ hb)⟩
    ·rintro i x y acc σ H' T hx hy ⟨sm,rfl,_,y1,z1,rfl⟩ hT
     have hi:i<p.length:=by have:=(JS.mp hx).1;rwa [av]at this
     have hi':i<q.length:=by omega
     rw[bc hi]at hx;rw[bc hi']at hy;cases hx;cases hy;have hrow:=hp.2 _ (J1 hi);have ydj:=hq.2 _ (J1 hi');walk_at "wp";refine⟨_,ba.of ac,rfl,_,_,rfl,_,_,rfl,rfl,?_⟩;have e:(put2 p q)[i]?=some (p[i]++q[i]):=by
      unfold put2;simp[List.getElem?_zip_eq_some,hi,hi'];exact⟨_,_,⟨rfl,rfl⟩,rfl⟩
     have et:tx p[i]++tx q[i]=tx (p[i]++q[i]):=by
      show(⟨_++_⟩:Str)=⟨_⟩;simp[tx]
     refine⟨_,rfl,_,rfl,by rw[ax,ax];exact ak ⋯,sm.trans (ae hT),?_,⋯⟩;rw[et,List.take_add_one,e];exact(eF _ _).symm
    ·rintro acc σ H' ⟨sm,rfl,_⟩ l hl
     refine fit ⟨⋯,⋯⟩ l _ (sm.free hl) ?_ (sm.trans (ae hl));rw[ac,<- hput,Kt]
  ·rw[if_pos h1]
   exact⟨ak ⋯,yan ⋯⟩
noncomputable abbrev pZ:Stmt:=iO 16
noncomputable def sj(K:W.Frag):Sp:=λvs H Q _=>∃(a:Addr) (p:bG),vs=[.ref a]/\aU K H a (aE p)/\rV p/\cO H (fB p) Q
theorem AJ:az ["picture"] ["picture"] (ah pZ):=by walk_at "c"
theorem zy{f:Addr}{fd:KU}(F:cw K "mirror" "mirror" pZ f fd)(nb:NB mg):aQ P w K mg base bC 1 f fd ["picture"] (sj K):=by
 have sc:=AJ;walk_at "f"
 ·obtain⟨a,p,rfl,_⟩:=h;rfl
 ·obtain⟨a,p,rfl,hS,hp,q⟩:=h
  refine⟨_,(ai (aI (cC ["row"] [] rfl (bw.of (by kernel_rfl)) (by kernel_rfl) (cD (al 0))
    (λ_ _ _ _=>(aw (i:=0) (by show(["row"]:List Str).Nodup;decide +kernel) rfl (Or.inl rfl))) (λ_ _ _ _=>bT) (λ_ _ _ _=>(qO rfl rfl nb.reversed (aa (al 0) ad)))))),?_⟩
  walk_at "wp";refine⟨⟨_,hS⟩,ny (xs:=aE p) (λi acc σ H'=>H'=H/\acc=aE (fB (p.take i))/\i<=p.length/\∃x,σ=[x]) ⟨rfl,rfl,Kf _,_,rfl⟩ ?_ ?_ ?_ ?_ ?_⟩
  ·rintro i acc σ H' ⟨_,rfl,_⟩
   refine bd ?_;rw[av];unfold fB;rw[JU,Ku];have:=hp.1;omega
  ·rintro i acc σ H' ⟨_,_,h,_⟩
   rw[av];exact h
  ·rintro i acc σ H' ⟨rfl,_⟩
   exact hS
  ·rintro i x acc σ H' hx ⟨rfl,rfl,hi,y,rfl⟩
   have hl:i<p.length:=by have:=(JS.mp hx).1;rwa [av]at this
   rw[bc hl]at hx;cases hx;have hr:=hp.2 _ (J1 hl);walk_at "wp";refine⟨by rw[ax];omega,nofun,?_,hl⟩;rw[gF,fS,List.take_add_one,JR hl];unfold fB;rw[J5];exact(eF _ _).symm
  ·rintro acc σ H' ⟨rfl,rfl,_⟩ l hl
   rw[av,Kt];exact q l _ hl ac (ae hl)
noncomputable abbrev dy:Stmt:=iO 18
noncomputable def rF(K:W.Frag):Sp:=λvs H Q _=>∃(a:Addr) (p:bG) (i:Nat),vs=[.ref a,.int (i:Int)]/\aU K H a (aE p)/\rV p/\(∀r∈p,i<r.length)/\∀H',aC H H'->Q (.str (tx (col p i))) H'
theorem AA:az ["picture","i"] ["picture","i"] (ah dy):=by walk_at "c"
theorem zo{f:Addr}{fd:KU}(F:cw K "column_from_below" "column_from_below" dy f fd)(nb:NB mg):aQ P w K mg base bC 1 f fd ["picture","i"] (rF K):=by
 have sc:=AA;walk_at "f"
 ·obtain⟨a,p,i,rfl,_⟩:=h;rfl
 ·obtain⟨a,p,i,rfl,hS,hp,hi,q⟩:=h
  refine⟨_,(ai (aI (hU PySem.F.plainAttrs_str PySem.F.slot_str_join PySem.F.type_str_join oR jX (aa (cC ["row"] [1] rfl (bw.of (by kernel_rfl)) (by kernel_rfl) (xl rfl nb.reversed (aa (al 0) ad))
    (λ_ _ _ _=>(aw (i:=0) (by show(["row","i"]:List Str).Nodup;decide +kernel) rfl (Or.inl rfl))) (λ_ _ _ _=>bT) (λ_ _ _ _=>(aH m5 (al 0) (al 1) (λ_ _=>rfl)))) ad)))),?_⟩
  walk_at "wp";have hd:∀n,((p.reverse.take n).map λr=>V.str ⟨#[r.getD i 0]⟩)=(((p.reverse.take n).map λr=>r.getD i 0).map λc=>(⟨#[c]⟩:Str)).map V.str:=λn=>by rw[J7,J7];rfl
  refine⟨rfl,_,hS,vI (xs:=aE p) (λn acc σ H'=>H'=H/\acc=((p.reverse.take n).map λr=>V.str ⟨#[r.getD i 0]⟩)/\n<=p.length/\∃x,σ=[x,some (.int (i:Int))]) ⟨rfl,rfl,Kf _,_,rfl⟩ ?_ ?_ ?_ ?_ ?_⟩
  ·rintro n acc σ H' ⟨_,rfl,_⟩
   refine bd ?_;rw[JU,Ku];have:=hp.1;rw[J_];omega
  ·rintro n acc σ H' ⟨_,_,h,_⟩
   rw[av];exact h
  ·rintro n acc σ H' ⟨rfl,_⟩
   exact hS
  ·rintro n x acc σ H' hx ⟨rfl,rfl,hn,y,rfl⟩
   have hl:n<p.reverse.length:=by
    have:=(JS.mp hx).1
    rwa [J_,av,<- J_ (as:=p)]at this
   have hx':(aE p.reverse)[n]?=some x:=by unfold aE at hx ⊢;rwa [List.map_reverse]
   rw[bc hl]at hx';cases hx';have hm:p.reverse[n]∈p:=List.mem_reverse.mp (J1 hl);have hr:=hp.2 _ hm;have hri:=hi _ hm;walk_at "wp";have hc:(tx p.reverse[n]).cps.toList[i]?=some (p.reverse[n].getD i 0):=by rw[gF,List.getD_eq_getElem?_getD,JR hri];rfl
   refine⟨by rw[ax];exact ak ⋯,_,bt hc,?_,by rw[J_]at hl;exact hl⟩;rw[List.take_add_one,JR hl,J5]
   rfl
  ·rintro acc σ H' ⟨rfl,rfl,_⟩ l hl
   rw[av,<- J_ (as:=p),Kt]at *;refine⟨(col p i).map λc=>(⟨#[c]⟩:Str),.inl (aU.of ?_),?_,?_⟩
   ·rw[ac];unfold col;rw[J7,J7];rfl
   ·rw[J7]
    have e:((λy:Str=>y.length)∘λc=>(⟨#[c]⟩:Str))=λ_=>1:=by funext c;rfl
    rw[e,List.map_const',List.sum_replicate_nat,JU];have e0:(Str.ofString "").length=0:=rfl;rw[e0];have:=hp.1;unfold col;rw[JU,J_];omega
   ·rw[fS];exact q _ (ae hl)
noncomputable abbrev mR:Stmt:=iO 17
noncomputable def iB(K:W.Frag):Sp:=λvs H Q _=>∃(a:Addr) (p:bG) (r c:Nat),vs=[.ref a]/\aU K H a (aE p)/\eR p r c/\0<r/\r<=64/\c<=64/\cO H (fK p) Q
theorem w_:az ["picture"] ["picture"] (ah mR):=by walk_at "c"
theorem wR{f:Addr}{fd:KU}(F:cw K "quarter" "quarter" mR f fd)(nb:NB mg)(ybg:eO P w K mg base bC 1 "column_from_below" ["picture","i"] (rF K)):aQ P w K mg base bC 2 f fd ["picture"] (iB K):=by
 have sc:=w_;walk_at "f"
 ·obtain⟨a,p,r,c,rfl,_⟩:=h;rfl
 ·obtain⟨a,p,r,c,rfl,hS,hp,hr0,hr1,hc1,q⟩:=h
  refine⟨_,(ai (aI (cC ["i"] [0] rfl (bw.of (by kernel_rfl)) (by kernel_rfl) (eS rfl nb.range (aa (aB aV rfl nb.len aW (aa (aH aZ (al 0) aj (λ_ _=>rfl)) ad)) ad))
    (λ_ _ _ _=>(aw (i:=0) (by show(["i","picture"]:List Str).Nodup;decide +kernel) rfl (Or.inl rfl))) (λ_ _ _ _=>bT) (λ_ _ _ _=>(aK ybg (hr.mono nofun) rfl aY (aa (al 1) (aa (al 0) ad))))))),?_⟩
  walk_at "wp";have hl0:0<p.length:=by rw[hp.1];exact hr0
  have hc0:(p[0]).length=c:=hp.2 _ (J1 hl0);have hh:(p.headD []).length=c:=bI hp hr0;refine⟨_,hS,_,bt (bc hl0),_,rfl,by rw[ax];exact ak ⋯,by rw[ax];omega,by rw[ax];omega,?_⟩;rw[ax,hc0,J2];refine eW (lo:=0) (n:=c) (λi acc σ H'=>aC H H'/\acc=aE ((List.range i).map (col p))/\i<=c/\∃x,σ=[x,some (.ref a)]) ⟨aC.refl _,rfl,Kf _,_,rfl⟩ ?_ ?_ ?_ ?_
  ·rintro i acc σ H' ⟨_,rfl,_⟩
   refine bd ?_;rw[av,JU,List.length_range];omega
  ·rintro i acc σ H' ⟨_,_,h,_⟩
   exact h
  ·rintro i acc σ H' hi ⟨sm,rfl,_,y,rfl⟩
   walk_at "wp";refine⟨a,p,i,by simp,sm.seq hS,rV.of hp hr1 hc1,λx hx=>by rw[hp.2 x hx];exact hi,λH2 sm2=>⟨sm.trans sm2,?_,hi⟩⟩;rw[List.range_succ,J5];exact(eF _ _).symm
  ·rintro acc σ H' ⟨sm,rfl,_⟩ l hl
   refine q l _ (sm.free hl) ?_ (sm.trans (ae hl));rw[ac];unfold fK;rw[hh]
noncomputable abbrev qH:Stmt:=iO 15
noncomputable def nK(K:W.Frag):Sp:=λvs H Q _=>∃(a:Addr) (p:bG) (r c t:Nat),vs=[.ref a,.int (t:Int)]/\aU K H a (aE p)/\eR p r c/\0<r/\0<c/\r<=64/\c<=64/\t<8/\cO H (turned p t) Q
theorem Am:az ["picture","t","result","step"] ["picture","t"] (ah qH):=by walk_at "c"
theorem AS{f:Addr}{fd:KU}(F:cw K "turned" "turned" qH f fd)(nb:NB mg)(ya9:eO P w K mg base bC 1 "mirror" ["picture"] (sj K))(ybd:eO P w K mg base bC 2 "quarter" ["picture"] (iB K)):aQ P w K mg base bC 3 f fd ["picture","t"] (nK K):=by
 have sc:=Am;walk_at "f"
 ·obtain⟨a,p,r,c,t,rfl,_⟩:=h;rfl
 ·obtain⟨a,p,r,c,t,rfl,hS,hp,hr0,hc0,hr1,hc1,ht,q⟩:=h
  refine⟨_,(af (aF (i:=2) sc.nd rfl (Or.inl rfl) (dH cM rfl nb.list iJ (aa (pv 0) ad)))
   (af (bF (aM En (pv 1) aj (aS _))
   (ai (aF (i:=2) sc.nd rfl (Or.inl rfl) (aK ya9 (hr.mono nofun) rfl aY (aa (pv 2) ad))))
   aO)
   (af (bu PassesOwn.never rfl (eS rfl nb.range (aa (ay bH (pv 1) aj) ad)) (aw (i:=3) sc.nd rfl (Or.inl rfl))
   (ai (aF (i:=2) sc.nd rfl (Or.inl rfl) (aK ybd (hr.mono nofun) rfl aY (aa (pv 2) ad)))))
   (ai (aI (pv 2)))))),?_⟩
  walk_at "wp"
  -- the br,from the list at l
  have loop:∀(l:Addr) (p':bG) (H1:Hp),H l=none->H1 l=some (.lst (aE p'))->aC H H1->eR p' r c->turned p t=br (t%4) p' ->
    ∀(g:TG) (tb:TS) (D:iP),g=k9 3->tb=xX (n6 (iB K) [] E0 (ld (zJ 2) rh)) (k9 2)->(∀σ' H' v,σ'[2]?=some (some v)->Q v H'->D.nx σ' H')->tf (AZ 0 ((t:Int)%4).toNat) g tb D [some (V.ref a),some (V.int t),some (V.ref l),none] H1:=by
   intro l p' H1 hl h1 sm hp' et g tb D hg htb hD;subst hg htb;have e4:((t:Int)%4).toNat=t%4:=by omega
   rw[e4];refine fX (λi σ H2=>∃(l2:Addr) (x:Option V),σ=[some (V.ref a),some (V.int t),some (V.ref l2),x]/\H l2=none/\H2 l2=some (.lst (aE (br i p')))/\aC H H2) ⟨l,none,rfl,hl,h1,sm⟩ ?_ ?_
   ·rintro i σ H2 hi ⟨l2,x,rfl,h2,h3,sm2⟩
    walk_at "wp";have hq:=cV i hp' hr0 hc0;have gp:∀r' c',eR (br i p') r' c'->0<r'->r'<=64->c'<=64->iB K [V.ref l2] H2 (λx_1 H1=>∃l2,x_1=V.ref l2/\H l2=none/\H1 l2=some (HO.lst (aE (br (i+1) p')))/\aC H H1) E0:=λr' c' h4 h5 h6 h7=>
     ⟨l2,br i p',r',c',rfl,aU.of h3,h4,h5,h6,h7,λl3 H3 h8 h9 sm3=>⟨l3,rfl,sm2.free h8,by rw[h9,<- mw 1 i p'];rfl,sm2.trans sm3⟩⟩
    by_cases hi2:i%2=0
    ·rw[if_pos hi2,if_pos hi2]at hq
     exact gp r c hq hr0 hr1 hc1
    ·rw[if_neg hi2,if_neg hi2]at hq
     exact gp c r hq hc0 hc1 hr1
   ·rintro σ H2 ⟨l2,x,rfl,h2,h3,sm2⟩
    exact hD _ _ _ rfl (q l2 H2 h2 (by rw[h3,et]) sm2)
  refine⟨_,.inl hS,λl hl=>?_⟩
  split
  ·rename_i h4
   refine⟨l,p,rfl,aU.of ac,rV.of hp hr1 hc1,λl2 H2 h2 h3 sm2=>⟨⋯,⋯,?_⟩⟩;refine loop l2 (fB p) H2 ((ae hl).free h2) h3 ((ae hl).trans sm2) (gG hp) (by unfold turned;rw[if_pos ⋯]) _ _ _ rfl rfl ?_;intro σ' H' v e hq;exact⟨v,e,hq⟩
  ·rename_i h4
   refine⟨⋯,⋯,?_⟩;refine loop l p _ hl ac (ae hl) hp (by unfold turned;rw[if_neg ⋯]) _ _ _ rfl rfl ?_;intro σ' H' v e hq;exact⟨v,e,hq⟩
noncomputable abbrev dG:Stmt:=eQ 27 1
noncomputable def iH(C:Addr):Sp:=λvs H Q _=>∃(a dx l b:Addr) (n sg:KO) (c:Int),vs=[.ref a,.ref b]/\H a=some (.ins C dx (Ev n c l sg))/\cO H [sg] Q
theorem uQ:az ["self","pictures"] ["self","pictures"] (ah dG):=by walk_at "c"
theorem sZ{f C:Addr}{fd:KU}(F:cw K "made" "CellRule.made" dG f fd)(cl:lT K C)(na:au K C "sign"):aQ P w K mg base bC 1 f fd ["self","pictures"] (iH C):=by
 have sc:=uQ;walk_at "f"
 ·obtain⟨a,dx,l,b,n,sg,c,rfl,_⟩:=h;rfl
 ·obtain⟨a,dx,l,b,n,sg,c,rfl,ha,q⟩:=h
  refine⟨_,(ai (aI (bB (aa (bz (al 0) rfl) ad)))),?_⟩;walk_at "wp";exact⟨C,dx,_,ha,cl,na,_,rfl,ak nofun,λp hp=>q p _ hp ac (ae hp)⟩
noncomputable def dq(spf:Sp):Sp:=λvs H Q E=>∃(a b a1 a2:Addr),vs=[.ref a,.ref b]/\H b=some (.lst [.ref a1,.ref a2])/\spf [.ref a1,.ref a2] H Q E
noncomputable abbrev cU:Stmt:=eQ 28 1
theorem pe:az ["self","pictures"] ["self","pictures"] (ah cU):=by walk_at "c"
theorem pI{f zia:Addr}{fd:KU}(F:cw K "made" "BesideRule.made" cU f fd)(yba:eO P w K mg base (bE P w) 1 "beside" ["one","other"] (il K zia)):aQ P w K mg base (bE P w) 2 f fd ["self","pictures"] (dq (il K zia)):=by
 have sc:=pe;walk_at "x"
 ·obtain⟨a,b,a1,a2,rfl,_⟩:=h;rfl
 ·obtain⟨a,b,a1,a2,rfl,hb,q⟩:=h
  refine⟨_,(ai (aI (aK (E:=E) yba (hr.mono nofun) rfl (aX λ_ _ _ h=>h) (aa (aH aZ (al 1) aj (λ_ _=>rfl)) (aa (aH aZ (al 1) aj (λ_ _=>rfl)) ad))))),?_⟩;walk_at "wp";exact⟨_,aU.of hb,_,rfl,_,aU.of hb,_,rfl,q⟩
noncomputable abbrev c_:Stmt:=eQ 29 1
theorem qQ:az ["self","pictures"] ["self","pictures"] (ah c_):=by walk_at "c"
theorem qZ{f zia:Addr}{fd:KU}(F:cw K "made" "AboveRule.made" c_ f fd)(ybc:eO P w K mg base (bE P w) 1 "above" ["one","other"] (jJ K zia)):aQ P w K mg base (bE P w) 2 f fd ["self","pictures"] (dq (jJ K zia)):=by
 have sc:=qQ;walk_at "x"
 ·obtain⟨a,b,a1,a2,rfl,_⟩:=h;rfl
 ·obtain⟨a,b,a1,a2,rfl,hb,q⟩:=h
  refine⟨_,(ai (aI (aK (E:=E) ybc (hr.mono nofun) rfl (aX λ_ _ _ h=>h) (aa (aH aZ (al 1) aj (λ_ _=>rfl)) (aa (aH aZ (al 1) aj (λ_ _=>rfl)) ad))))),?_⟩;walk_at "wp";exact⟨_,aU.of hb,_,rfl,_,aU.of hb,_,rfl,q⟩
noncomputable def i4(K:W.Frag)(C:Addr):Sp:=λvs H Q E=>∃(a dx l b a1:Addr) (n o1:KO) (c t:Int),vs=[.ref a,.ref b]/\H a=some (.ins C dx (Ew n c l o1 t))/\H b=some (.lst [.ref a1])/\nK K [.ref a1,.int t] H Q E0
noncomputable abbrev dP:Stmt:=eQ 30 1
theorem tL:az ["self","pictures"] ["self","pictures"] (ah dP):=by walk_at "c"
theorem uD{f C:Addr}{fd:KU}(F:cw K "made" "TurnRule.made" dP f fd)(cl:lT K C)(na:au K C "turning")(zBe:eO P w K mg base bC 3 "turned" ["picture","t"] (nK K)):aQ P w K mg base bC 4 f fd ["self","pictures"] (i4 K C):=by
 have sc:=tL;walk_at "f"
 ·obtain⟨a,dx,l,b,a1,n,o1,c,t,rfl,_⟩:=h;rfl
 ·obtain⟨a,dx,l,b,a1,n,o1,c,t,rfl,ha,hb,q⟩:=h
  refine⟨_,(ai (aI (aK zBe (hr.mono nofun) rfl aY (aa (aH aZ (al 1) aj (λ_ _=>rfl)) (aa (bz (al 0) rfl) ad))))),?_⟩;walk_at "wp";exact⟨_,aU.of hb,_,rfl,C,dx,_,ha,cl,na,_,rfl,q⟩
structure fA(p:bG)(r c:Nat):Prop where
 rc:eR p r c
 r0:0<r
 r6:r<=6
 c0:0<c
 c6:c<=6
inductive Af:Nat->List bG->Prop
 |cell:Af 0 []
 |beside {p q:bG} {r c r' c':Nat}:fA p r c->fA q r' c'->Af 1 [p,q]
 |above {p q:bG} {r c r' c':Nat}:fA p r c->fA q r' c'->Af 2 [p,q]
 |turn {p:bG} {r c:Nat}:fA p r c->Af 3 [p]
noncomputable def A7(H:Hp)(l:Addr)(as:KR)(ps:List bG):Prop:=H l=some (.lst (as.map V.ref))/\as.length=ps.length/\∀i (h1:i<as.length) (h2:i<ps.length),H as[i]=some (.lst (aE ps[i]))
noncomputable def hJ(k:Nat)(v:RV)(ps:List bG):Option bG:=
 match k,ps with
 |0,_=>some [v.sg]
 |1,[p,q]=>if p.length=q.length/\(p.headD []).length+(q.headD []).length<=6 then some (put2 p q) else none
 |2,[p,q]=>if(p.headD []).length=(q.headD []).length/\p.length+q.length<=6 then some (p++q) else none
 |_,[p]=>some (turned p v.t.toNat)
 |_,_=>none
noncomputable def qq(K:W.Frag)(R:RC)(CF:Addr):List (Addr×Sp):=[(R.cc,iH R.cc),(R.cb,dq (il K CF)),(R.ca,dq (jJ K CF)),(R.ct,i4 K R.ct)]
theorem CK{R:RC}{CF:Addr}{H:Hp}{k a b}{v:RV}{as:KR}{ps:List bG}{Q:VK}{E:XK}(r:iU R H k a v)(ok:G5 k v)(pa:A7 H b as ps)(ft:Af k ps)
  (q:∀p,hJ k v ps=some p->cO H p Q) (x:hJ k v ps=none->E (.ref CF) none H) :
  ∃o∈qq K R CF,∃dx fs,H a=some (.ins o.1 dx fs)/\fs.lookup ("made":Str)=none/\o.2 [.ref a,.ref b] H Q E:=by
 obtain⟨dx,l,h1,_⟩:=r;obtain⟨hb,hl,hat⟩:=pa;cases ft with
 |cell=>exact⟨(R.cc,iH R.cc),by simp[qq],dx,_,h1,rfl,a,dx,l,b,v.n,v.sg,v.c,rfl,h1,q _ rfl⟩
 | @beside p q' r c r' c' hp hq=>
  obtain⟨a1,a2,rfl⟩:∃a1 a2,as=[a1,a2]:=by match as,hl with | [a1,a2],_=>exact⟨a1,a2,rfl⟩
  have e1:=hat 0 (by simp) (by simp);have e2:=hat 1 (by simp) (by simp);have hh1:=bI hp.rc hp.r0;have hh2:=bI hq.rc hq.r0;have hl1:=hp.rc.1;have hl2:=hq.rc.1;refine⟨(R.cb,dq (il K CF)),by simp[qq],dx,_,h1,rfl,a,b,a1,a2,rfl,hb,a1,a2,p,q',r,c,r',c',rfl,e1,e2,hp.rc,hq.rc,hp.r0,hp.r6,hp.c6,hq.r0,hq.r6,hq.c6,λfit=>q _ ?_,λyan=>x ?_⟩
  ·show(if _ then _ else _)=_
   rw[if_pos (by rw[hl1,hl2,hh1,hh2];exact fit)]
  ·show(if _ then _ else _)=_
   rw[if_neg (by rw[hl1,hl2,hh1,hh2];exact yan)]
 | @above p q' r c r' c' hp hq=>
  obtain⟨a1,a2,rfl⟩:∃a1 a2,as=[a1,a2]:=by match as,hl with | [a1,a2],_=>exact⟨a1,a2,rfl⟩
  have e1:=hat 0 (by simp) (by simp);have e2:=hat 1 (by simp) (by simp);have hh1:=bI hp.rc hp.r0;have hh2:=bI hq.rc hq.r0;have hl1:=hp.rc.1;have hl2:=hq.rc.1;refine⟨(R.ca,dq (jJ K CF)),by simp[qq],dx,_,h1,rfl,a,b,a1,a2,rfl,hb,a1,a2,p,q',r,c,r',c',rfl,e1,e2,hp.rc,hq.rc,hp.r0,hp.r6,hp.c6,hq.r0,hq.r6,hq.c6,λfit=>q _ ?_,λyan=>x ?_⟩
  ·show(if _ then _ else _)=_
   rw[if_pos (by rw[hl1,hl2,hh1,hh2];exact fit)]
  ·show(if _ then _ else _)=_
   rw[if_neg (by rw[hl1,hl2,hh1,hh2];exact yan)]
 | @turn p r c hp=>
  obtain⟨a1,rfl⟩:∃a1,as=[a1]:=by match as,hl with | [a1],_=>exact⟨a1,rfl⟩
  have e1:=hat 0 (by simp) (by simp);have t0:0<=v.t:=ok.2.1;have t7:v.t<=7:=ok.2.2;refine⟨(R.ct,i4 K R.ct),by simp[qq],dx,_,h1,rfl,a,dx,l,b,a1,v.n,v.o1,v.c,v.t,rfl,h1,hb,a1,p,r,c,v.t.toNat,by rw[KG t0],aU.of e1,hp.rc,hp.r0,hp.c0,by have:=hp.r6;omega,by have:=hp.c6;omega,⋯,q _ rfl⟩
noncomputable abbrev qJ:Stmt:=iO 54
noncomputable def nq(K:W.Frag):Sp:=λvs H Q _=>∃(a:Addr) (ns:List Int) (k:Nat),vs=[.ref a,.int (k:Int)]/\aU K H a (ns.map V.int)/\k<=1000/\∀c:Int,Q (.int c) H
theorem As:az ["_law_script","_law_k","_law_cell_here","_law_mixed"] ["_law_script","_law_k"] (ah qJ):=by walk_at "c"
theorem Ap{f:Addr}{fd:KU}(F:cw K "_law_cell" "_law_cell" qJ f fd)(nb:NB mg):aQ P w K mg base bC 1 f fd ["_law_script","_law_k"] (nq K):=by
 have sc:=As;walk_at "f"
 ·obtain⟨a,ns,k,rfl,_⟩:=h;rfl
 ·obtain⟨a,ns,k,rfl,hS,hk,q⟩:=h
  refine⟨_,(af (aF (i:=2) sc.nd rfl (Or.inl rfl) aj)
   (af (bF (aM pX (pv 1) (aB bb rfl nb.len aW (aa (pv 0) ad)) (aS _))
   (ai (aF (i:=2) sc.nd rfl (Or.inl rfl) (aH tG (pv 0) (pv 1) (λ_ _=>rfl))))
   aO)
   (af (aF (i:=3) sc.nd rfl (Or.inl rfl) (ay bH (ay eX (ay bL (ay bL (ay bH (pv 2) aj) (ay eX aj (pv 1))) aj) aj) aj))
   (ai (aI (ay bL (ay eX (ay bZ (pv 2) aj) aj) (ay bH (ay bL (ay eX (pv 3) aj) (pv 1)) aj))))))),?_⟩
  walk_at "wp";refine⟨_,hS,?_⟩;rw[JU]
  split
  ·rename_i hlt
   have hlt':k<ns.length:=by omega
   refine⟨_,hS,V.int ns[k],bt (by rw[JW,JR hlt'];rfl),?_⟩;walk_at "wp";exact q _
  ·exact q _
noncomputable def EG(d s m:Nat):List Nat:=(List.range (1+m)).map λi=>97+(d+(1+2*s)*i)%26
theorem Dz:∀d,d<26->∀s,s<6->∀m,m<4->eD (EG d s m)=true:=by decide +kernel
theorem Di:∀n,n<26->(Str.ofString "abcdefghijklmnopqrstuvwxyz").cps.toList[n]?=some (97+n):=by decide +kernel
theorem lI{r:KO}(h:eD r=true):1<=r.length/\r.length<=4:=by
 unfold eD at h;simp only[Bool.and_eq_true,decide_eq_true_eq]at h;exact⟨h.1.1.1,h.1.1.2⟩
noncomputable abbrev mS:Stmt:=iO 57
noncomputable def pC:Sp:=λvs H Q _=>∃(c:Int),vs=[.int c,.int 4]/\∀(r:KO) (H':Hp),eD r=true->aC H H'->Q (.str (tx r)) H'
theorem wE:az ["_law_cell_here","_law_most","_law_letters","_law_step_here"] ["_law_cell_here","_law_most"] (ah mS):=by walk_at "c"
theorem xj{f:Addr}{fd:KU}(F:cw K "_law_signs" "_law_signs" mS f fd)(nb:NB mg):aQ P w K mg base bC 1 f fd ["_law_cell_here","_law_most"] pC:=by
 have sc:=wE;walk_at "f"
 ·obtain⟨c,rfl,_⟩:=h;rfl
 ·obtain⟨c,rfl,q⟩:=h
  refine⟨_,(af (aF (i:=2) sc.nd rfl (Or.inr rfl) jX)
   (af (aF (i:=3) sc.nd rfl (Or.inr rfl) (ay (bf.m0 bL) aj (ay (bf.m1 eX) aj (ay (bf.m1 bH) (ay (bf.m1 bZ) (al 0) aj) aj))))
   (ai (aI (hU PySem.F.plainAttrs_str PySem.F.slot_str_join PySem.F.type_str_join oR jX (aa (cC ["_law_k"] [2,0,3] rfl (bw.of (by kernel_rfl)) (by kernel_rfl) (eS rfl nb.range (aa (ay (bf.m0 bL) aj (ay (bf.m1 bH) (ay (bf.m1 bH) (al 0) aj) (al 1))) ad))
    (λ_ _ _ _=>(aw (i:=0) (by show(["_law_k","_law_letters","_law_cell_here","_law_step_here"]:List Str).Nodup;decide +kernel) rfl (Or.inl rfl))) (λ_ _ _ _=>bT) (λ_ _ _ _=>(aH m5 (al 1) (ay (bf.m1 bH) (ay (bf.m0 bL) (ay (bf.m1 bZ) (al 2) aj) (ay (bf.m1 eX) (al 3) (al 0))) aj) (λ_ _=>rfl)))) ad)))))),?_⟩
  obtain⟨m,hm⟩:∃m:Nat,c%4%4=(m:Int):=⟨_,(KG (KD _ ⋯)).symm⟩;obtain⟨s6,hs6⟩:∃m:Nat,c/104%6=(m:Int):=⟨_,(KG (KD _ ⋯)).symm⟩;obtain⟨d,hd⟩:∃m:Nat,c/4%26=(m:Int):=⟨_,(KG (KD _ ⋯)).symm⟩;have m2:m<4:=by omega
  have s2:s6<6:=by omega
  have d2:d<26:=by omega
  walk_at "n";refine h1 _ _ ?_;walk_at "nc";rw[hs6];refine h1 _ _ ?_;clear h1;walk_at "wp";rw[hm];have en:(1+(m:Int)).toNat=1+m:=by omega
  rw[en];refine⟨rfl,⋯,⋯,?_⟩;have chr:∀i:Nat,(c/4+(1+2*(s6:Int))*(i:Int))%26=(((d+(1+2*s6)*i)%26:Nat):Int):=λi=>by
   rw[Int.add_emod,hd]
   push_cast
   rw[Int.add_emod (d:Int) ((1+2*(s6:Int))*(i:Int)),Int.emod_eq_of_lt (a:=(d:Int)) ⋯ ⋯]
  refine nV (n:=1+m) (f:=λi=>some (V.str ⟨#[97+(d+(1+2*s6)*i)%26]⟩)) (λσ=>∃x,σ=[x,some (.str "abcdefghijklmnopqrstuvwxyz"),some (.int c),some (.int (1+2*(s6:Int)))]) ⟨_,rfl⟩ ⋯ ?_ ?_
  ·rintro i hi σ H' N1 N0 ⟨y,rfl⟩ sm k1 k0
   walk_at "wp";refine⟨.inl ⟨⋯,⋯⟩,nofun,97+(d+(1+2*s6)*i)%26,?_,k1 _ _ _ rfl sm ⟨_,rfl⟩⟩;rw[chr i];exact bt (Di _ (Nat.mod_lt _ ⋯))
  ·intro H' sm l hl
   rw[j0];have e0:(List.range (1+m)).map (λi=>V.str ⟨#[97+(d+(1+2*s6)*i)%26]⟩)=((EG d s6 m).map λc=>(⟨#[c]⟩:Str)).map V.str:=by
    unfold EG;rw[J7,J7];rfl
   rw[e0];have hg:=Dz d d2 s6 s2 m m2;have hgl:=lI hg;refine⟨_,.inl (aU.of ac),?_,?_⟩
   ·rw[J7]
    have e1:((λy:Str=>y.length)∘λc=>(⟨#[c]⟩:Str))=λ_=>1:=by funext c;rfl
    have e0:(Str.ofString "").length=0:=rfl;rw[e1,List.map_const',List.sum_replicate_nat,JU,e0];omega
   ·rw[fS]
    exact q _ _ hg (sm.trans (ae hl))
theorem wI(r s:KO):tx r++tx s=tx (r++s):=by
 show(⟨r.toArray++s.toArray⟩:Str)=⟨(r++s).toArray⟩;simp
theorem BE{row:KO}{n:Nat}(h:n<=row.length):Txt.slice (tx row) none (some (n:Int))=tx (row.take n):=by
 rw[rM,HT.sIx_nat,KH h];show tx ((row.drop 0).take (n-0))=_;rw[KJ,Nat.sub_zero]
theorem xZ{row:KO}{n:Nat}(h:n<=row.length):Txt.slice (tx row) (some (n:Int)) none=tx (row.drop n):=by
 rw[rM,HT.sIx_nat,KH h];show tx ((row.drop n).take (row.length-n))=_;rw[List.take_of_length_le (by rw[Kv];omega)]
theorem BD:∀n,n<26->(Str.ofString "ABCDEFGHIJKLMNOPQRSTUVWXYZ").cps.toList[n]?=some (65+n):=by decide +kernel
noncomputable def Dl(c:Nat):Bool:=FS ET c
theorem Cs:∀n,n<26->Dl (65+n)=true:=by decide +kernel
theorem ED(x:Int):∃n:Nat,n<26/\x%26=(n:Int):=⟨(x%26).toNat,⋯,⋯⟩
theorem Ea{r:KO}(h:∀x∈r,Dl x=true)(h1:1<=r.length)(h4:r.length<=4):dw r=true:=by
 have hall:r.all (FS ET)=true:=Kz.mpr h;unfold dw ir;rw[hall];simp;omega
noncomputable abbrev mM:Stmt:=iO 58
noncomputable def qp:Sp:=λvs H Q _=>∃(c:Int),vs=[.int c]/\∀(l:Addr) (p:bG) (H':Hp),H l=none->H' l=some (.lst (aE p))->p.length=4->(∀r∈p,dw r=true)->aC H H'->Q (.ref l) H'
theorem wG:az ["_law_cell_here","_law_letters","_law_size","_law_at","_law_step_here","_law_base","_law_names_here","_law_k","_law_letter"] ["_law_cell_here"] (ah mM):=by walk_at "c"
theorem xM{f:Addr}{fd:KU}(F:cw K "_law_names" "_law_names" mM f fd)(nb:NB mg):aQ P w K mg base bC 1 f fd ["_law_cell_here"] qp:=by
 have sc:=wG;walk_at "f"
 ·obtain⟨c,rfl,_⟩:=h;rfl
 ·obtain⟨c,rfl,q⟩:=h
  refine⟨_,(af (aF (i:=1) sc.nd rfl (Or.inr rfl) jX)
   (af (aF (i:=2) sc.nd rfl (Or.inl rfl) (ay (bf.m0 bL) aj (ay (bf.m1 bH) (al 0) aj)))
   (af (aF (i:=3) sc.nd rfl (Or.inl rfl) (ay (bf.m1 bH) (ay (bf.m1 bZ) (al 0) aj) (al 2)))
   (af (aF (i:=4) sc.nd rfl (Or.inl rfl) (ay (bf.m0 bL) aj (ay (bf.m1 eX) aj (ay (bf.m1 bH) (ay (bf.m1 bZ) (al 0) aj) aj))))
   (af (aF (i:=5) sc.nd rfl (Or.inl rfl) (hU PySem.F.plainAttrs_str PySem.F.slot_str_join PySem.F.type_str_join oR jX (aa (cC ["_law_k"] [1,0] rfl (bw.of (by kernel_rfl)) (by kernel_rfl) (eS rfl nb.range (aa (al 2) ad))
    (λ_ _ _ _=>(aw (i:=0) (by show(["_law_k","_law_letters","_law_cell_here"]:List Str).Nodup;decide +kernel) rfl (Or.inl rfl))) (λ_ _ _ _=>bT) (λ_ _ _ _=>(aH m5 (al 1) (ay (bf.m1 bH) (ay (bf.m0 bL) (ay (bf.m1 bZ) (al 2) aj) (ay (bf.m1 eX) aj (al 0))) aj) (λ_ _=>rfl)))) ad)))
   (af (aF (i:=6) sc.nd rfl (Or.inl rfl) (bB ad))
   (af (bu PassesOwn.never rfl (eS rfl nb.range (bM ad)) (aw (i:=7) sc.nd rfl (Or.inl rfl))
   (af (aF (i:=8) sc.nd rfl (Or.inl rfl) (aH m5 (al 1) (ay (bf.m1 bH) (ay (bf.m0 bL) (ay (bf.m1 bZ) (al 0) aj) (ay (bf.m1 eX) (al 4) (al 7))) aj) (λ_ _=>rfl)))
   (ai (bv (hU PySem.F.plainAttrs_list PySem.F.slot_list_append PySem.F.type_list_append dS (al 6) (aa (ay iz (ay iz (eG BH (al 5) gE (e_ (al 3))) (al 8)) (eG BH (al 5) (e_ (ay (bf.m0 bL) (al 3) aj)) gE)) ad))))))
   (ai (aI (al 6)))))))))),?_⟩
  obtain⟨m,hm⟩:∃m:Nat,c%4=(m:Int):=⟨_,(KG (KD _ ⋯)).symm⟩;have m2:m<4:=by omega
  walk_at "n";refine h1 _ _ ?_;walk_at "nc";refine h1 _ _ ?_;clear h1;rw[hm];walk_at "n";refine⟨⋯,h1 _ _ ?_⟩;clear h1;obtain⟨at_,hat⟩:∃k:Nat,c/4%(1+(m:Int))=(k:Int):=⟨_,(KG (KD _ ⋯)).symm⟩;have hat2:at_<1+m:=by have:=KF (c/4) (b:=1+(m:Int)) ⋯;omega
  rw[hat];walk_at "n";refine h1 _ _ ?_;clear h1;generalize 1+2*(c/16%6)=st;walk_at "n";have en:(1+(m:Int)).toNat=1+m:=by omega
  rw[en];refine⟨rfl,⋯,⋯,?_⟩
  let fc:Nat->Nat:=λi=>65+((c/96+5*(i:Int))%26).toNat
  refine nV (n:=1+m) (f:=λi=>some (V.str ⟨#[fc i]⟩)) (λσ=>∃x,σ=[x,some (.str "ABCDEFGHIJKLMNOPQRSTUVWXYZ"),some (.int c)]) ⟨_,rfl⟩ ⋯ ?_ ?_
  ·rintro i hi σ H' N1 N0 ⟨y,rfl⟩ sm k1 k0
   walk_at "wp";obtain⟨n,h1,h2⟩:=ED (c/96+5*(i:Int));refine⟨nofun,fc i,?_,k1 _ _ _ rfl sm ⟨_,rfl⟩⟩;show h_ _ _=some (65+((c/96+5*(i:Int))%26).toNat);rw[h2];exact bt (BD n h1)
  ·intro H' sm l hl
   rw[j0];have e0:(List.range (1+m)).map (λi=>V.str ⟨#[fc i]⟩)=(((List.range (1+m)).map fc).map λc=>(⟨#[c]⟩:Str)).map V.str:=by rw[J7,J7];rfl
   rw[e0];have hcs:∀x∈(List.range (1+m)).map fc,Dl x=true:=λx hx=>by
    obtain⟨i,_,rfl⟩:=Ky.mp hx;obtain⟨n,h1,h2⟩:=ED (c/96+5*(i:Int));show Dl (65+((c/96+5*(i:Int))%26).toNat)=true;rw[h2];exact Cs n h1
   have hcl:((List.range (1+m)).map fc).length=1+m:=by simp
   generalize(List.range (1+m)).map fc=cs at hcs hcl ⊢;refine⟨_,.inl (aU.of ac),?_,?_⟩
   ·rw[J7]
    have e1:((λy:Str=>y.length)∘λc=>(⟨#[c]⟩:Str))=λ_=>1:=by funext c;rfl
    have e0:(Str.ofString "").length=0:=rfl;rw[e1,List.map_const',List.sum_replicate_nat,JU,e0];omega
   rw[fS];refine h1 _ _ ?_;clear h1;have s1:=sm.trans (ae (o:=.lst ((cs.map λc=>(⟨#[c]⟩:Str)).map V.str)) hl);generalize aA H' l (.lst ((cs.map λc=>(⟨#[c]⟩:Str)).map V.str))=H1 at s1 ⊢;walk_at "n";refine⟨ak nofun,λln hln=>h1 _ _ ?_⟩;clear h1;have frn:=s1.free hln;have s2:=s1.trans (ae (o:=.lst []) hln);have e2:aA H1 ln (.lst []) ln=some (.lst []):=ac;generalize aA H1 ln (.lst [])=H2 at s2 e2 ⊢;walk_at "n";refine⟨nofun,?_⟩;refine fX (n:=4) (λi σ H'=>aC H H'/\(∃p:bG,H' ln=some (.lst (aE p))/\p.length=i/\∀r∈p,dw r=true)/\∃x y,σ=[some (V.int c),some (V.str (Str.ofString "ABCDEFGHIJKLMNOPQRSTUVWXYZ")),some (V.int (1+(m:Int))),some (V.int (at_:Int)),some (V.int st),some (V.str (tx cs)),some (V.ref ln),x,y]) ⟨s2,⟨[],e2,rfl,λr hr=>nomatch hr⟩,_,_,rfl⟩ ?_ ?_
   ·rintro i σ H' hi ⟨sm',⟨p,hp,pl,pn⟩,x,y,rfl⟩
    walk_at "wp";obtain⟨n,hn1,hn2⟩:=ED (c/2496+st*(i:Int));have nm:dw (cs.take at_++[65+n]++cs.drop (at_+1))=true:=by
     refine Ea (λx hx=>?_) (by simp;omega) (by simp;omega);rcases J6.mp hx with h | h
     ·rcases J6.mp h with h | h
      ·exact hcs x (List.mem_of_mem_take h)
      ·rw[JV.mp h];exact Cs n hn1
     ·exact hcs x (List.mem_of_mem_drop h)
    have at1:((at_:Int)+1)=((at_+1:Nat):Int):=by push_cast;rfl
    rw[BE ⋯,at1,xZ ⋯];have lt1:(cs.take at_).length<=4:=by rw[Ku];omega
    have lt2:(cs.drop (at_+1)).length<=4:=by rw[Kv];omega
    have ez:tx (cs.take at_)++(⟨#[65+n]⟩:Str)++tx (cs.drop (at_+1))=tx (cs.take at_++[65+n]++cs.drop (at_+1)):=by rw[show(⟨#[65+n]⟩:Str)=tx [65+n] from rfl,wI,wI]
    refine⟨.inr ⟨⋯,⋯⟩,nofun,65+n,by rw[hn2];exact bt (BD n hn1),.inl ⟨rfl,_,aU.of hp⟩,by rw[ax];exact ak ⋯,?_,by rw[ax];exact ak ⋯,?_,_,hp,by rw[av,pl];exact bd ⋯,?_⟩
    ·rw[ax];exact ak (by show _+1<=_;omega)
    ·rw[show(⟨#[65+n]⟩:Str)=tx [65+n] from rfl,wI,ax,ax];exact ak (by simp;omega)
    ·rw[ez]
     refine⟨fP sm' frn,p++[cs.take at_++[65+n]++cs.drop (at_+1)],?_,by rw[Kd,pl];rfl,λr hr=>?_⟩
     ·rw[ac];unfold aE;rw[J5];rfl
     ·rcases J6.mp hr with h | h
      ·exact pn r h
      ·rw[JV.mp h];exact nm
   ·rintro σ H' ⟨sm',⟨p,hp,pl,pn⟩,x,y,rfl⟩
    refine h1 _ _ ?_;walk_at "wp";exact q ln p H' frn hp pl pn sm'
noncomputable def iA(r:Nat×RV):List V:=match r.1 with
 |0=>[.str (tx r.2.n),.int r.2.c,.int 0,.str (tx r.2.sg),.str ""]
 |1=>[.str (tx r.2.n),.int r.2.c,.int 1,.str (tx r.2.o1),.str (tx r.2.o2)]
 |2=>[.str (tx r.2.n),.int r.2.c,.int 2,.str (tx r.2.o1),.str (tx r.2.o2)]
 |_=>[.str (tx r.2.n),.int r.2.c,.int 3,.str (tx r.2.o1),.int r.2.t]
noncomputable def gK(H:Hp)(l:Addr)(ts:KR)(rs:Yaa):Prop:=H l=some (.lst (ts.map V.ref))/\ts.length=rs.length/\∀(i:Nat) t r,ts[i]?=some t->rs[i]?=some r->H t=some (.tup (iA r))
theorem gK.up{H H':Hp}{l:Addr}{ts:KR}{rs:Yaa}(h:gK H l ts rs)(s:aC H H'):gK H' l ts rs:=⟨s _ _ h.1,h.2.1,λi t r e1 e2=>s _ _ (h.2.2 i t r e1 e2)⟩
theorem kg{k:Nat}(h:k<4):k=0\/k=1\/k=2\/k=3:=by omega
structure fG(r:Nat×RV):Prop where
 k4:r.1<4
 good:r.2.good
 small:r.2.small
noncomputable abbrev o6:Stmt:=iO 59
noncomputable def mP(R:RC):Sp:=λvs H Q _=>∃(t:Addr) (r:Nat×RV),vs=[.ref t]/\H t=some (.tup (iA r))/\fG r/\∀b H',iU R H' r.1 b r.2->aC H H'->Q (.ref b) H'
theorem AL:az ["_law_rule_here"] ["_law_rule_here"] (ah o6):=by walk_at "c"
theorem zP{R:RC}{f CF:Addr}{fd:KU}(F:cw K "_law_rule" "_law_rule" o6 f fd)(nb:NB mg)(rk:ow K R)
  (zOb:lC P w K mg base (bE P w) 4 "CellRule" R.cc ["self","name","cost","sign"] (iX K CF)) (ztb:lC P w K mg base (bE P w) 4 "BesideRule" R.cb ["self","name","cost","one","other"] (dr K CF))
  (zzb:lC P w K mg base (bE P w) 4 "AboveRule" R.ca ["self","name","cost","one","other"] (dr K CF)) (zPb:lC P w K mg base (bE P w) 4 "TurnRule" R.ct ["self","name","cost","part","turning"] (iW K CF)):aQ P w K mg base bC 6 f fd ["_law_rule_here"] (mP R):=by
 have sc:=AL;walk_at "f"
 ·obtain⟨t,r,rfl,_⟩:=h;rfl
 ·obtain⟨t,⟨k,v⟩,rfl,ht,⟨hk,g,sm⟩,good⟩:=h
  refine⟨_,(af (bF (aM ij (aH aJ (al 0) aj (λ_ _=>rfl)) aj (aS _))
   (ai (aI (gD (CX:=bE P w) zOb (hr.mono nofun) rfl bg (aa (aH aJ (al 0) aj (λ_ _=>rfl)) (aa (aH aJ (al 0) aj (λ_ _=>rfl)) (aa (aH aJ (al 0) aj (λ_ _=>rfl)) ad))))))
   aO)
   (af (bF (aM ij (aH aJ (al 0) aj (λ_ _=>rfl)) aj (aS _))
   (ai (aI (gD (CX:=bE P w) ztb (hr.mono nofun) rfl bg (aa (aH aJ (al 0) aj (λ_ _=>rfl)) (aa (aH aJ (al 0) aj (λ_ _=>rfl)) (aa (aH aJ (al 0) aj (λ_ _=>rfl)) (aa (aH aJ (al 0) aj (λ_ _=>rfl)) ad)))))))
   aO)
   (af (bF (aM ij (aH aJ (al 0) aj (λ_ _=>rfl)) aj (aS _))
   (ai (aI (gD (CX:=bE P w) zzb (hr.mono nofun) rfl bg (aa (aH aJ (al 0) aj (λ_ _=>rfl)) (aa (aH aJ (al 0) aj (λ_ _=>rfl)) (aa (aH aJ (al 0) aj (λ_ _=>rfl)) (aa (aH aJ (al 0) aj (λ_ _=>rfl)) ad)))))))
   aO)
   (ai (aI (gD (CX:=bE P w) zPb (hr.mono nofun) rfl bg (aa (aH aJ (al 0) aj (λ_ _=>rfl)) (aa (aH aJ (al 0) aj (λ_ _=>rfl)) (aa (aH aJ (al 0) aj (λ_ _=>rfl)) (aa (aH aJ (al 0) aj (λ_ _=>rfl)) ad)))))))))),?_⟩
  have sq:=ba.of (K:=K) ht;have g:v.good:=g;have sm:v.small:=g.small;have bn:v.n.length<=100000:=by have:=sm.n;omega
  have b1:v.o1.length<=100000:=by have:=sm.o1;omega
  have b2:v.o2.length<=100000:=by have:=sm.o2;omega
  have bs:v.sg.length<=100000:=by have:=sm.sg;omega
  walk_at "wp";rcases kg hk with rfl | rfl | rfl | rfl
  ·change ba K H t [.str (tx v.n),.int v.c,.int 0,.str (tx v.sg),.str ""]at sq
   refine⟨_,sq,_,rfl,rfl,?_⟩;rw[if_pos rfl];refine⟨_,sq,_,rfl,_,sq,_,rfl,_,sq,_,rfl,λx dx hx hd hne=>?_⟩;exact⟨x,R.cc,dx,v.n,v.sg,v.c,rfl,ac,rk.i0.cl,rk.a0,bn,bs,λok pl H' sx hpl hl' ha=>⟨rfl,good x H' ⟨dx,pl,ha,hl'⟩ (j3 hx hd sx)⟩,λnok=>absurd (g.ok 0) nok⟩
  ·change ba K H t [.str (tx v.n),.int v.c,.int 1,.str (tx v.o1),.str (tx v.o2)]at sq
   refine⟨_,sq,_,rfl,rfl,?_⟩;rw[if_neg nofun];refine⟨_,sq,_,rfl,rfl,?_⟩;rw[if_pos rfl];refine⟨_,sq,_,rfl,_,sq,_,rfl,_,sq,_,rfl,_,sq,_,rfl,λx dx hx hd hne=>?_⟩;exact⟨x,R.cb,dx,v.n,v.o1,v.o2,v.c,rfl,ac,rk.i1.cl,rk.a1,bn,b1,b2,λok pl H' sx hpl hl' ha=>⟨rfl,good x H' ⟨dx,pl,ha,hl'⟩ (j3 hx hd sx)⟩,λnok=>absurd (g.ok 1) nok⟩
  ·change ba K H t [.str (tx v.n),.int v.c,.int 2,.str (tx v.o1),.str (tx v.o2)]at sq
   refine⟨_,sq,_,rfl,rfl,?_⟩;rw[if_neg nofun];refine⟨_,sq,_,rfl,rfl,?_⟩;rw[if_neg nofun];refine⟨_,sq,_,rfl,rfl,?_⟩;rw[if_pos rfl];refine⟨_,sq,_,rfl,_,sq,_,rfl,_,sq,_,rfl,_,sq,_,rfl,λx dx hx hd hne=>?_⟩;exact⟨x,R.ca,dx,v.n,v.o1,v.o2,v.c,rfl,ac,rk.i2.cl,rk.a2,bn,b1,b2,λok pl H' sx hpl hl' ha=>⟨rfl,good x H' ⟨dx,pl,ha,hl'⟩ (j3 hx hd sx)⟩,λnok=>absurd (g.ok 2) nok⟩
  ·change ba K H t [.str (tx v.n),.int v.c,.int 3,.str (tx v.o1),.int v.t]at sq
   refine⟨_,sq,_,rfl,rfl,?_⟩;rw[if_neg nofun];refine⟨_,sq,_,rfl,rfl,?_⟩;rw[if_neg nofun];refine⟨_,sq,_,rfl,rfl,?_⟩;rw[if_neg nofun];refine⟨_,sq,_,rfl,_,sq,_,rfl,_,sq,_,rfl,_,sq,_,rfl,λx dx hx hd hne=>?_⟩;exact⟨x,R.ct,dx,v.n,v.o1,v.c,v.t,rfl,ac,rk.i3.cl,rk.a3,bn,b1,λok pl H' sx hpl hl' ha=>⟨rfl,good x H' ⟨dx,pl,ha,hl'⟩ (j3 hx hd sx)⟩,λnok=>absurd (g.ok 3) nok⟩
structure qF(p:bG)(sg:KO)(r:Nat×RV):Prop where
 good:fG r
 n:r.2.n∈p
 o1:r.2.o1∈p
 o2:r.2.o2∈p
 sg:∃c∈sg,r.2.sg=[c]
theorem gK.app{H:Hp}{l t:Addr}{ts:KR}{rs:Yaa}{r:Nat×RV}(h:gK H l ts rs)(ht:H t=some (.tup (iA r))):gK (aA H l (.lst (ts.map V.ref++[V.ref t]))) l (ts++[t]) (rs++[r]):=by
 obtain⟨h1,h2,h3⟩:=h;refine⟨by rw[ac,J5];rfl,by rw[Kd,Kd,h2];rfl,λi t' r' e1 e2=>?_⟩;have hold:∀t' r',H t'=some (.tup (iA r'))->aA H l (.lst (ts.map V.ref++[V.ref t])) t'=some (.tup (iA r')):=λt' r' e=>by
  rw[am (λz=>by rw[z,h1]at e;cases e)];exact e
 by_cases hi:i<ts.length
 ·rw[Kc hi]at e1
  rw[Kc ⋯]at e2;exact hold _ _ (h3 i t' r' e1 e2)
 ·rw[Kb ⋯]at e1
  rw[Kb ⋯]at e2;have hi2:i=ts.length:=by
   have:=(JS.mp e1).1;simp at this;omega
  subst hi2;rw[Nat.sub_self]at e1;rw[h2,Nat.sub_self]at e2;cases e1;cases e2
  exact hold _ _ ht
theorem u_{r:KO}(h:eD r=true):ir r pL=true:=by
 unfold eD at h;simp only[Bool.and_eq_true,decide_eq_true_eq]at h;exact h.1.2
theorem DS{r:KO}{c:Nat}(h:eD r=true)(hc:c∈r):jo [c]=true:=by
 have:=u_ h;unfold ir at this;rw[Kz]at this;unfold jo ir;rw[List.all_cons,this c hc]
 rfl
noncomputable def c5(ks:KY)(z:Str):List Str:=if z∈ks then ks else ks++[z]
theorem rA(m:List (Str×List Nat))(z:Str):(bW m z).map (·.1)=c5 (m.map (·.1)) z:=by
 unfold bW c5
 split
 ·rfl
 ·rw[J5];rfl
theorem qx:∀(zs:KY) (m:List (Str×List Nat)),(zs.foldl bW m).map (·.1)=zs.foldl c5 (m.map (·.1))
 | [],_=>rfl
 |z::zs,m=>by rw[List.foldl_cons,List.foldl_cons,qx zs,rA]
theorem y8(m:List (Str×List Nat))(i:Nat)(r:Nat×RV):(eY m i r).map (·.1)=(tx r.2.n::(bi r.1 r.2).map tx).foldl c5 (m.map (·.1)):=by
 unfold eY;rw[qx,iI,rA,List.foldl_cons]
theorem wN(ks:KY)(z:Str):(c5 ks z).length<=ks.length+1:=by
 unfold c5;split
 ·omega
 ·simp
noncomputable def bR(z:Str)(rs:Yaa):List Nat:=rs.zipIdx.filterMap λx=>if tx x.1.2.n=z then some x.2 else none
theorem qv(z:Str)(rs:Yaa)(r:Nat×RV):bR z (rs++[r])=bR z rs++if tx r.2.n=z then[rs.length] else[]:=by
 unfold bR;rw[List.zipIdx_append,List.filterMap_append]
 congr 1
 simp
 split<;>rename_i h<;>simp[h]
theorem xT{z:Str}:∀{rs:Yaa},(∀r∈rs,tx r.2.n≠z)->bR z rs=[]:=by
 intro rs h;unfold bR;rw[List.filterMap_eq_nil_iff];intro x hx;rw[if_neg (h x.1 (List.fst_mem_of_mem_zipIdx hx))]
structure NI(rs:Yaa)(m:List (Str×List Nat)):Prop where
 nd:(m.map (·.1)).Nodup
 ix:∀q∈m,q.2=bR q.1 rs
 all:∀r∈rs,tx r.2.n∈m.map (·.1)
theorem qo{m:List (Str×List Nat)}{z y:Str}:y∈(bW m z).map (·.1)↔y∈m.map (·.1)\/y=z:=by
 unfold bW
 split
 ·rename_i h
  exact⟨λq=>.inl q,λq=>q.elim id λe=>e▸h⟩
 ·rw[J5,J6];simp
theorem NI.name{rs:Yaa}{m:List (Str×List Nat)}(h:NI rs m)(z:Str):NI rs (bW m z):=by
 refine⟨l6 h.nd,λq hq=>?_,λr hr=>qo.mpr (.inl (h.all r hr))⟩;unfold bW at hq
 split at hq
 ·exact h.ix q hq
 ·rename_i hz
  rcases J6.mp hq with q1 | q1
  ·exact h.ix q q1
  ·rw[JV.mp q1]
   exact(xT (z:=z) λr hr e=>hz (by rw[<- e];exact h.all r hr)).symm
theorem NI.names{rs:Yaa}:∀(zs:KY) {m:List (Str×List Nat)},NI rs m->NI rs (zs.foldl bW m)
 | [],_,h=>h
 |z::zs,m,h=>NI.names zs (h.name z)
theorem NI.put{rs:Yaa}{m:List (Str×List Nat)}{r:Nat×RV}(h:NI rs m)(hn:tx r.2.n∈m.map (·.1)):NI (rs++[r]) (i' m (tx r.2.n) rs.length):=by
 refine⟨by rw[iI];exact h.nd,λq hq=>?_,λr' hr'=>?_⟩
 ·unfold i' at hq
  obtain⟨p,hp,rfl⟩:=Ky.mp hq;rw[qv]
  by_cases e:p.1=tx r.2.n
  ·rw[if_pos e]
   show p.2++[rs.length]=bR p.1 rs++_;rw[if_pos e.symm,h.ix p hp]
  ·rw[if_neg e,if_neg (λz=>e z.symm),Kq]
   exact h.ix p hp
 ·rw[iI]
  rcases J6.mp hr' with q | q
  ·exact h.all r' q
  ·rw[JV.mp q];exact hn
theorem nC(z:Str):∀(n:Nat) (rs:Yaa),rs.length=n->NI rs (a_ z rs)
 |0,rs,h=>by
  rw[Kx.mp h];exact⟨by simp[a_,gg],λq hq=>by rw[show q=(z,[]) by simpa[a_,gg]using hq];rfl,λr hr=>nomatch hr⟩
 |n+1,rs,h=>by
  obtain⟨rs',r,rfl⟩:∃rs' r,rs=rs'++[r]:=⟨rs.dropLast,rs.getLast (by intro e;rw[e]at h;cases h),(List.dropLast_concat_getLast _).symm⟩;have hl:rs'.length=n:=by rw[Kd,List.length_singleton]at h;omega
  have ih:=nC z n rs' hl;unfold a_ at ih ⊢;rw[gB,Nat.zero_add];unfold eY;exact((ih.name (tx r.2.n)).put (qo.mpr (.inr rfl))).names _
theorem rQ:∀{m:List (Str×List Nat)} {q:Str×List Nat},(m.map (·.1)).Nodup->q∈m->m.lookup q.1=some q.2
 |p::m,q,hnd,hq=>by
  rw[Kl,List.nodup_cons]at hnd;rw[List.lookup_cons];rcases J8.mp hq with e | e
  ·rw[e];simp
  ·have hne:q.1≠p.1:=λz=>hnd.1 (z▸List.mem_map_of_mem e)
   have:(q.1==p.1)=false:=beq_eq_false_iff_ne.mpr hne;rw[this];exact rQ hnd.2 e
theorem yr{z:Str}{rs:Yaa}{q:Str×List Nat}(h:q∈a_ z rs):(a_ z rs).lookup q.1=some (bR q.1 rs)/\q.2=bR q.1 rs:=by
 have N:=nC z _ rs rfl;have e:=N.ix q h;exact⟨by rw[rQ N.nd h,e],e⟩
theorem rJ(z:Str)(rs:Yaa):(bR z rs).length<=rs.length:=by
 unfold bR;exact Km (List.length_filterMap_le _ _) (by rw[List.length_zipIdx];exact Ke _)
theorem xH{R:RC}{H:Hp}{l:Addr}{ts:KR}{rs:Yaa}{Q:List V->Hp->Prop}(hR:gK H l ts rs)(hg:∀r∈rs,fG r)(hn:rs.length<=100)(q:∀(as:KR) H',aC H H'->cF R H' as rs->Q (as.map V.ref) H') :
  i7 (Dk K l) (k9 0) yK (n6 (mP R) [] E0 (ld (zJ 0) rh)) [none] H Q:=by
 obtain⟨hl,htl,hat⟩:=hR;refine ny (xs:=ts.map V.ref) (λi acc σ H'=>aC H H'/\(∃as:List Addr,acc=as.map V.ref/\cF R H' as (rs.take i))/\i<=ts.length/\∃x,σ=[x]) ⟨aC.refl _,⟨[],rfl,rfl,λi a r e=>by simp at e⟩,Kf _,_,rfl⟩ ?_ ?_ ?_ ?_ ?_
 ·rintro i acc σ H' ⟨_,⟨as,rfl,h,_⟩,hi,_⟩
  rw[JU,h,Ku];exact bd ⋯
 ·rintro i acc σ H' ⟨_,_,h,_⟩
  rw[JU];exact h
 ·rintro i acc σ H' ⟨sm,_⟩
  exact aU.of (sm _ _ hl)
 ·rintro i x acc σ H' hx ⟨sm,⟨as,rfl,hA⟩,hi,y,rfl⟩
  have hlt:i<ts.length:=by have:=(JS.mp hx).1;rwa [JU]at this
  rw[JW,JR hlt]at hx;cases hx;have hlr:i<rs.length:=by omega
  have hrr:rs[i]?=some rs[i]:=JR hlr;have ht:=sm _ _ (hat i ts[i] rs[i] (JR hlt) hrr);walk_at "wp";refine⟨ts[i],rs[i],rfl,ht,hg _ (J1 hlr),λb H2 hb s2=>⟨sm.trans s2,⟨as++[b],by rw[J5];rfl,?_⟩,hlt⟩⟩;have hal:as.length=i:=by have:=hA.1;rw[Ku]at this;omega
  rw[List.take_add_one,hrr];refine⟨by rw[Kd,Kd,hA.1];rfl,λj a r e1 e2=>?_⟩
  by_cases hj:j<as.length
  ·rw[Kc hj]at e1
   rw[Kc (by rw[<- hA.1];exact hj)]at e2;exact(hA.2 j a r e1 e2).up s2
  ·rw[Kb ⋯]at e1
   rw[Kb (by rw[<- hA.1];omega)]at e2;have:j-as.length=0:=by
    have:=(JS.mp e1).1;simp at this;omega
   rw[this]at e1;rw[<- hA.1,this]at e2;cases e1;cases e2
   exact hb
 ·rintro acc σ H' ⟨sm,⟨as,rfl,hA⟩,_⟩
  rw[JU,htl,Kt]at hA;exact q as H' sm hA
noncomputable def Fz(rs:Yaa):List ThM.NR:=rs.map λr=>(tx r.2.n,(bi r.1 r.2).map tx)
theorem x9{ks:KY}{z y:Str}:y∈c5 ks z↔y∈ks\/y=z:=ThM.mem_addNew
theorem lU{y:Str}:∀(zs ks:KY),y∈zs.foldl c5 ks↔y∈ks\/y∈zs
 | [],ks=>by simp
 |z::zs,ks=>by
  rw[List.foldl_cons,lU zs,x9,J8];exact⟨λh=>h.elim (λh=>h.elim .inl λe=>.inr (.inl e)) λh=>.inr (.inr h),λh=>h.elim (λh=>.inl (.inl h)) λh=>h.elim (λe=>.inl (.inr e)) .inr⟩
theorem l7:∀(zs ks:KY),(zs.foldl c5 ks).length<=ks.length+zs.length
 | [],ks=>Ke _
 |z::zs,ks=>by
  have h1:=l7 zs (c5 ks z);have h2:=wN ks z;rw[List.foldl_cons,J4];omega
theorem Av(z:Str)(rs:Yaa)(r:Nat×RV):(a_ z (rs++[r])).map (·.1)=(tx r.2.n::(bi r.1 r.2).map tx).foldl c5 ((a_ z rs).map (·.1)):=by
 unfold a_;rw[gB,y8]
theorem BO{α:Type}{P:List α->Prop}(h0:P [])(h1:∀rs r,P rs->P (rs++[r]))(rs:List α):P rs:=by
 have:∀(n:Nat) (rs:List α),rs.length=n->P rs:=by
  intro n
  induction n with
  |zero=>intro rs h;rw[Kx.mp h];exact h0
  |succ n ih=>
   intro rs h;have hne:rs≠[]:=by intro e;rw[e]at h;cases h
   rw[<- List.dropLast_concat_getLast hne];exact h1 _ _ (ih _ (by rw[List.length_dropLast];omega))
 exact this _ rs rfl
theorem pr(z:Str)(rs:Yaa):∀y,y∈(a_ z rs).map (·.1)↔y=z\/∃r∈Fz rs,y=r.1\/y∈r.2:=by
 refine BO (P:=λrs=>∀y,y∈(a_ z rs).map (·.1)↔y=z\/∃r∈Fz rs,y=r.1\/y∈r.2) ?_ ?_ rs
 ·intro y
  have e:(a_ z []).map (·.1)=[z]:=rfl;rw[e];unfold Fz;simp
 ·intro rs r ih y
  rw[Av,lU,ih y,J8];unfold Fz;rw[J5]
  constructor
  ·rintro((h | ⟨q,hq,h⟩) | h)
   ·exact .inl h
   ·exact .inr ⟨q,J6.mpr (.inl hq),h⟩
   ·exact .inr ⟨_,J6.mpr (.inr (JV.mpr rfl)),h⟩
  ·rintro(h | ⟨q,hq,h⟩)
   ·exact .inl (.inl h)
   ·rcases J6.mp hq with hq | hq
    ·exact .inl (.inr ⟨q,hq,h⟩)
    ·rw[JV.mp hq]at h
     exact .inr h
theorem Dp{sg:KO}{c:Nat}(h:c∈sg):Gx (tx sg) (tx [c])=true:=by
 have:=StrLaws.found_one (tx sg) c;show(!(Builtin.Str.occurrences (tx sg) ⟨#[c]⟩ 0 (tx sg).length 1).isEmpty)=true;rw[this,gF,decide_eq_true h]
theorem mD{sg:KO}:∀{rs:Yaa} {j:Nat},(∀r∈rs,∃c∈sg,r.2.sg=[c])->gw (tx sg) rs j=none
 | [],_,_=>rfl
 |r::rs,j,h=>by
  obtain⟨c,hc,e⟩:=h r List.mem_cons_self;unfold gw;rw[if_neg (λz=>by rw[e,Dp hc]at z;exact absurd z.2 nofun)];exact mD λr' hr'=>h r' (J9 _ hr')
theorem zF{p:bG}{sg st:KO}{rs:Yaa}(hsg:eD sg=true)(hst:st∈p)(hpn:∀r∈p,dw r=true)(hp:p.length<=8)(hn:rs.length<=24)(hr:∀r∈rs,qF p sg r):gM sg st rs=none:=by
 have h0:iD sg st rs=none:=by
  unfold iD;rw[if_neg (by rw[hsg];decide),if_neg (by rw[hpn _ hst];decide),if_neg ⋯,mD λr h=>(hr r h).sg]
 unfold gM;rw[h0];simp only[];rw[if_neg];have hk:∀z∈(a_ (tx st) rs).map (·.1),z∈p.map tx:=λz hz=>by
  rcases(pr _ _ _).mp hz with e | ⟨q,hq,e⟩
  ·rw[e];exact List.mem_map_of_mem hst
  ·unfold Fz at hq
   obtain⟨r,hr',rfl⟩:=Ky.mp hq;have R:=hr r hr';rcases e with e | e
   ·rw[e];exact List.mem_map_of_mem R.n
   ·obtain⟨y,hy,rfl⟩:=Ky.mp e
    refine List.mem_map_of_mem ?_;obtain⟨k,v⟩:=r;rcases kg R.good.k4 with rfl | rfl | rfl | rfl
    ·exact absurd hy List.not_mem_nil
    ·rcases(show y=v.o1\/y=v.o2 by simpa[bi]using hy) with rfl | rfl
     ·exact R.o1
     ·exact R.o2
    ·rcases(show y=v.o1\/y=v.o2 by simpa[bi]using hy) with rfl | rfl
     ·exact R.o1
     ·exact R.o2
    ·rw[show y=v.o1 by simpa[bi]using hy];exact R.o1
 have:=ThM.nd_len (nC (tx st) _ rs rfl).nd hk;rw[JU,JU]at this;omega
structure Hj(K:W.Frag)(C:Addr):Prop where
 cl:fz K C
 na:au K C "signs"/\au K C "start"/\au K C "kept"/\au K C "numbers"
noncomputable abbrev TR:=List Nat×Nat×Nat×Int
noncomputable def fw(r c:Nat):Int:=2*(r:Int)*(c:Int)-1
theorem gL(r c:Nat):fw r c=2*((r*c:Nat):Int)-1:=by unfold fw;push_cast;rw[Int.mul_assoc]
theorem cg{r c:Nat}(hr:1<=r)(hc:1<=c):1<=fw r c:=by
 rw[gL];have:1<=r*c:=Nat.mul_pos hr hc;omega
noncomputable def mU(lo hi:Int):List Int:=(List.range (hi-lo).toNat).map fun(j:Nat)=>lo+(j:Int)
theorem mO{lo hi x:Int}:x∈mU lo hi↔lo<=x/\x<hi:=by
 unfold mU;rw[Ky]
 constructor
 ·rintro⟨j,hj,rfl⟩
  rw[List.mem_range]at hj;omega
 ·rintro⟨h1,h2⟩
  exact⟨(x-lo).toNat,by rw[List.mem_range];omega,⋯⟩
noncomputable def bA(o1 o2:KO)(szs:List ((Nat×Nat)×(Nat×Nat)))(left:Int):List (List TR):=
 szs.flatMap λz=>(mU (fw z.1.1 z.1.2) (left-fw z.2.1 z.2.2+1)).map λf=>[(o1,z.1.1,z.1.2,f),(o2,z.2.1,z.2.2,left-f)]
noncomputable def fW(r c:Nat):List ((Nat×Nat)×(Nat×Nat)):=(List.range (c-1)).map λi=>((r,1+i),(r,c-(1+i)))
noncomputable def f_(r c:Nat):List ((Nat×Nat)×(Nat×Nat)):=(List.range (r-1)).map λi=>((1+i,c),(r-(1+i),c))
noncomputable def cK(q:Nat×RV)(r c:Nat)(k:Int):List (List TR):=match q.1 with
 |0=>if r=1/\c=1/\k=q.2.c then[[]] else[]
 |1=>bA q.2.o1 q.2.o2 (fW r c) (k-q.2.c)
 |2=>bA q.2.o1 q.2.o2 (f_ r c) (k-q.2.c)
 |_=>[[(q.2.o1,if q.2.t%2=1 then c else r,if q.2.t%2=1 then r else c,k-q.2.c)]]
noncomputable def aN(f:TR->Nat)(ps:List TR):Nat:=ps.foldl (λm p=>m*f p) 1
noncomputable def iu(z:KO)(rs:Yaa):Yaa:=rs.filter λq=>decide (q.2.n=z)
noncomputable def cnt(rs:Yaa):Nat->TR->Nat
 |0,_=>0
 |f+1,p=>if p.2.1=0\/p.2.2.1=0\/6<p.2.1\/6<p.2.2.1\/p.2.2.2<fw p.2.1 p.2.2.1 then 0 else
  ((iu p.1 rs).map λq=>((cK q p.2.1 p.2.2.1 p.2.2.2).map λps=>aN (cnt rs f) ps).sum).sum
structure EQ(q:Nat×RV)(r c:Nat)(k:Int)(p:TR):Prop where
 lt:p.2.2.2<k
 ge:1<=p.2.2.2\/k-q.2.c<=p.2.2.2
 r1:1<=p.2.1
 c1:1<=p.2.2.1
 rm:p.2.1<=max r c
 cm:p.2.2.1<=max r c
 nm:(p.1=q.2.o1)\/(p.1=q.2.o2/\(q.1=1\/q.1=2))
theorem mH{o1 o2:KO}{szs:List ((Nat×Nat)×(Nat×Nat))}{left:Int}{ps:List TR}(h:ps∈bA o1 o2 szs left) :
  ∃z∈szs,∃f,fw z.1.1 z.1.2<=f/\f<=left-fw z.2.1 z.2.2/\ps=[(o1,z.1.1,z.1.2,f),(o2,z.2.1,z.2.2,left-f)]:=by
 unfold bA at h;obtain⟨z,hz,h⟩:=List.mem_flatMap.mp h;obtain⟨f,hf,e⟩:=Ky.mp h;have:=mO.mp hf;exact⟨z,hz,f,this.1,⋯,e.symm⟩
theorem xg{r c:Nat}{z:(Nat×Nat)×(Nat×Nat)}(h:z∈fW r c):z.1.1=r/\z.2.1=r/\1<=z.1.2/\1<=z.2.2/\z.1.2+z.2.2=c:=by
 obtain⟨i,hi,rfl⟩:=Ky.mp h;rw[List.mem_range]at hi;refine⟨rfl,rfl,?_,?_,?_⟩<;>show _<;>simp<;>omega
theorem xo{r c:Nat}{z:(Nat×Nat)×(Nat×Nat)}(h:z∈f_ r c):z.1.2=c/\z.2.2=c/\1<=z.1.1/\1<=z.2.1/\z.1.1+z.2.1=r:=by
 obtain⟨i,hi,rfl⟩:=Ky.mp h;rw[List.mem_range]at hi;refine⟨rfl,rfl,?_,?_,?_⟩<;>show _<;>simp<;>omega
structure AM(r c:Nat)(z:(Nat×Nat)×(Nat×Nat)):Prop where
 a:1<=z.1.1
 b:1<=z.1.2
 d:1<=z.2.1
 e:1<=z.2.2
 ma:z.1.1<=max r c
 mb:z.1.2<=max r c
 md:z.2.1<=max r c
 me:z.2.2<=max r c
 fe:fw z.1.1 z.1.2+fw z.2.1 z.2.2+1=fw r c
theorem j7{r c:Nat}(hr:1<=r){z:(Nat×Nat)×(Nat×Nat)}(h:z∈fW r c):AM r c z:=by
 obtain⟨h1,h2,h3,h4,h5⟩:=xg h;obtain⟨⟨a,b⟩,d,e⟩:=z;simp only at h1 h2 h3 h4 h5;subst h1 h2 h5;refine⟨hr,h3,hr,h4,by simp;omega,by simp;omega,by simp;omega,by simp;omega,?_⟩;simp only[gL,Nat.mul_add];omega
theorem kh{r c:Nat}(hc:1<=c){z:(Nat×Nat)×(Nat×Nat)}(h:z∈f_ r c):AM r c z:=by
 obtain⟨h1,h2,h3,h4,h5⟩:=xo h;obtain⟨⟨a,b⟩,d,e⟩:=z;simp only at h1 h2 h3 h4 h5;subst h1 h2 h5;refine⟨h3,hc,h4,hc,by simp;omega,by simp;omega,by simp;omega,by simp;omega,?_⟩;simp only[gL,Nat.add_mul];omega
theorem dM{q:Nat×RV}{r c:Nat}{k:Int}{ps:List TR}(h4:q.1<4)(hr:1<=r)(hc:1<=c)(h:ps∈cK q r c k) :
  ps=[]\/(∃p,ps=[p]/\p.1=q.2.o1/\p.2.2.2=k-q.2.c/\((p.2.1=r/\p.2.2.1=c)\/(p.2.1=c/\p.2.2.1=r))) \/
  ((q.1=1\/q.1=2)/\∃z f,AM r c z/\fw z.1.1 z.1.2<=f/\f<=k-q.2.c-fw z.2.1 z.2.2/\ps=[(q.2.o1,z.1.1,z.1.2,f),(q.2.o2,z.2.1,z.2.2,k-q.2.c-f)]):=by
 obtain⟨t,v⟩:=q;have:t=0\/t=1\/t=2\/t=3:=by simp at h4;omega
 rcases this with rfl | rfl | rfl | rfl
 ·left
  change ps∈(if r=1/\c=1/\k=v.c then[[]] else[]) at h
  split at h
  ·simpa using h
  ·simp at h
 ·right;right
  obtain⟨z,hz,f,h1,h2,h3⟩:=mH (show ps∈bA v.o1 v.o2 (fW r c) (k-v.c) from h);exact⟨.inl rfl,z,f,j7 hr hz,h1,h2,h3⟩
 ·right;right
  obtain⟨z,hz,f,h1,h2,h3⟩:=mH (show ps∈bA v.o1 v.o2 (f_ r c) (k-v.c) from h);exact⟨.inr rfl,z,f,kh hc hz,h1,h2,h3⟩
 ·right;left
  change ps∈[[(v.o1,(if v.t%2=1 then c else r),(if v.t%2=1 then r else c),k-v.c)]]at h;refine⟨_,by simpa using h,rfl,rfl,?_⟩
  by_cases e:v.t%2=1
  ·right;simp[e]
  ·left;simp[e]
theorem l8{q:Nat×RV}{r c:Nat}{k:Int}{ps:List TR}{p:TR}(h4:q.1<4)(hq:1<=q.2.c)(hr:1<=r)(hc:1<=c)(h:ps∈cK q r c k)(hp:p∈ps):EQ q r c k p:=by
 rcases dM h4 hr hc h with rfl | ⟨p',rfl,e1,e2,e3⟩ | ⟨hk,z,f,sz,h1,h2,rfl⟩
 ·cases hp
 ·rw[JV.mp hp]
  refine⟨⋯,.inr ⋯,?_,?_,?_,?_,.inl e1⟩<;>rcases e3 with⟨a,b⟩ | ⟨a,b⟩<;>simp only[a,b]<;>omega
 ·have f1:=cg sz.a sz.b
  have f2:=cg sz.d sz.e;rcases(show p=_\/p=_ by simpa using hp) with rfl | rfl
  ·exact⟨by show f<k;omega,.inl (by show 1<=f;omega),sz.a,sz.b,sz.ma,sz.mb,.inl rfl⟩
  ·exact⟨by show k-q.2.c-f<k;omega,.inl (by show 1<=k-q.2.c-f;omega),sz.d,sz.e,sz.md,sz.me,.inr ⟨rfl,hk⟩⟩
theorem uY{f g:TR->Nat}:∀{ps:List TR},(∀p∈ps,f p=g p)->aN f ps=aN g ps:=by
 intro ps h;unfold aN
 suffices this:∀m,ps.foldl (λm p=>m*f p) m=ps.foldl (λm p=>m*g p) m from this 1
 induction ps with
 |nil=>intro m;rfl
 |cons p ps ih=>
  intro m;rw[List.foldl_cons,List.foldl_cons,h p List.mem_cons_self];exact ih (λp' hp'=>h p' (J9 _ hp')) _
noncomputable def eM(rs:Yaa):Prop:=∀q∈rs,q.1<4/\1<=q.2.c/\q.2.c<=9
theorem jD{z:KO}{rs:Yaa}{q:Nat×RV}(h:q∈iu z rs):q∈rs/\q.2.n=z:=by
 unfold iu at h;rw[List.mem_filter,decide_eq_true_eq]at h;exact h
theorem Aj{rs:Yaa}(hg:eM rs){f g:Nat}{p:TR}(h:∀p':TR,p'.2.2.2<p.2.2.2->cnt rs f p'=cnt rs g p'):cnt rs (f+1) p=cnt rs (g+1) p:=by
 unfold cnt
 split
 ·rfl
 ·rename_i hn
  congr 1
  refine List.map_congr_left λq hq=>?_
  congr 1
  refine List.map_congr_left λps hps=>uY λp' hp'=>h p' ?_;obtain⟨h1,h2,_⟩:=hg q (jD hq).1;exact(l8 h1 h2 ⋯ ⋯ hps hp').lt
theorem yl{rs:Yaa}{f:Nat}{p:TR}(h:p.2.2.2<1):cnt rs f p=0:=by
 cases f with
 |zero=>rfl
 |succ f=>
  unfold cnt
  split
  ·rfl
  ·rename_i hn
   have:=cg (r:=p.2.1) (c:=p.2.2.1) ⋯ ⋯;omega
theorem v9{rs:Yaa}(hg:eM rs):∀(f:Nat) (p:TR),p.2.2.2<(f:Int)+1->cnt rs (f+1) p=cnt rs f p
 |0,p,h=>by rw[yl (by simpa using h),yl (by simpa using h)]
 |f+1,p,h=>Aj hg λp' hp'=>v9 hg f p' (by push_cast at h;omega)
noncomputable abbrev CN(rs:Yaa)(p:TR):Nat:=cnt rs 17 p
theorem DV{rs:Yaa}(hg:eM rs){p:TR}(hk:p.2.2.2<=16):CN rs p=if p.2.1=0\/p.2.2.1=0\/6<p.2.1\/6<p.2.2.1\/p.2.2.2<fw p.2.1 p.2.2.1 then 0 else
  ((iu p.1 rs).map λq=>((cK q p.2.1 p.2.2.1 p.2.2.2).map λps=>aN (CN rs) ps).sum).sum:=by
 have e:cnt rs 17 p=cnt rs 18 p:=(v9 hg 17 p (by push_cast;omega)).symm;unfold CN;rw[e]
 rfl
theorem BG{rs:Yaa}{p:TR}(h:p.2.2.2<fw p.2.1 p.2.2.1):CN rs p=0:=by
 unfold CN cnt;rw[if_pos ⋯]
theorem nY{α β:Type}{g:β->Nat}{f:α->List β}:∀l:List α,((l.flatMap f).map g).sum=(l.map λx=>((f x).map g).sum).sum
 | []=>rfl
 |x::l=>by rw[List.flatMap_cons,J5,List.sum_append,nY l,Kl,List.sum_cons]
theorem mB{α:Type}(g:α->Nat)(b:Nat):∀(l:List α),(∀x∈l,g x<=b)->(l.map g).sum<=l.length*b
 | [],_=>by simp
 |x::l,h=>by
  have h1:=mB g b l λy hy=>h y (J9 _ hy);have h2:=h x List.mem_cons_self;rw[Kl,List.sum_cons,J4,Nat.add_mul];omega
theorem iC(r c:Nat):(fW r c).length=c-1:=by unfold fW;rw[JU,List.length_range]
theorem iE(r c:Nat):(f_ r c).length=r-1:=by unfold f_;rw[JU,List.length_range]
theorem fN{o1 o2:KO}{left:Int}{r c:Nat}(h15:left<=15):∀(szs:List ((Nat×Nat)×(Nat×Nat))),(∀z∈szs,AM r c z)->(bA o1 o2 szs left).length<=szs.length*15
 | [],_=>Ke _
 |z::szs,h=>by
  have ih:=fN (o1:=o1) (o2:=o2) h15 szs λz' hz'=>h z' (J9 _ hz');have f1:=cg (h z List.mem_cons_self).a (h z List.mem_cons_self).b;have f2:=cg (h z List.mem_cons_self).d (h z List.mem_cons_self).e;unfold bA at ih ⊢;rw[List.flatMap_cons,Kd,J4,JU];unfold mU at ih ⊢;rw[JU,List.length_range];omega
noncomputable def cZ(p:TR):List cS:=[.inr (tx p.1),.inl (p.2.1:Int),.inl (p.2.2.1:Int),.inl p.2.2.2]
noncomputable def dY(p:TR):List V:=[.str (tx p.1),.int (p.2.1:Int),.int (p.2.2.1:Int),.int p.2.2.2]
theorem gI{a b:KO}(h:tx a=tx b):a=b:=by
 have e:(tx a).cps.toList=(tx b).cps.toList:=by rw[h]
 rwa [gF,gF]at e
theorem wd{p q:TR}(h:cZ p=cZ q):p=q:=by
 obtain⟨a,b,c,d⟩:=p;obtain⟨a',b',c',d'⟩:=q;unfold cZ at h;simp only[List.cons.injEq,Sum.inr.injEq,Sum.inl.injEq,and_true]at h;obtain⟨h1,h2,h3,h4⟩:=h;rw[gI h1,show b=b' by omega,show c=c' by omega,h4]
noncomputable def pB(H:Hp)(l:Addr)(ps:List TR):Prop:=∃bs:List Addr,H l=some (.lst (bs.map V.ref))/\bs.length=ps.length/\∀(i:Nat) b p,bs[i]?=some b->ps[i]?=some p->H b=some (.tup (dY p))
noncomputable def fm(H0 H:Hp)(l:Addr)(pss:List (List TR)):Prop:=∃as:List Addr,H l=some (.lst (as.map V.ref))/\as.length=pss.length/\∀(i:Nat) a ps,as[i]?=some a->pss[i]?=some ps->(H0 a=none/\a≠l)/\pB H a ps
theorem pB.up{H H':Hp}{l:Addr}{ps:List TR}(h:pB H l ps)(s:aC H H'):pB H' l ps:=by
 obtain⟨bs,h1,h2,h3⟩:=h;exact⟨bs,s _ _ h1,h2,λi b p e1 e2=>s _ _ (h3 i b p e1 e2)⟩
theorem fm.up{H0 H H':Hp}{l:Addr}{pss:List (List TR)}(h:fm H0 H l pss)(s:aC H H'):fm H0 H' l pss:=by
 obtain⟨as,h1,h2,h3⟩:=h;exact⟨as,s _ _ h1,h2,λi a ps e1 e2=>⟨(h3 i a ps e1 e2).1,(h3 i a ps e1 e2).2.up s⟩⟩
theorem pB.put{H:Hp}{l a:Addr}{ps:List TR}{o:HO}(h:pB H a ps)(hne:a≠l)(hl:∃xs,H l=some (.lst xs)):pB (aA H l o) a ps:=by
 obtain⟨bs,h1,h2,h3⟩:=h;obtain⟨xs,hl⟩:=hl;exact⟨bs,by rw[am hne];exact h1,h2,λi b p e1 e2=>by
  have e:=h3 i b p e1 e2;rw[am (λz=>by rw[z,hl]at e;cases e)];exact e⟩
theorem fm.nil{H0 H:Hp}{l:Addr}(h:H l=some (.lst [])):fm H0 H l []:=⟨[],h,rfl,λi a ps e=>by simp at e⟩
theorem fm.app{H0 H:Hp}{l a:Addr}{pss:List (List TR)}{ps:List TR}{xs:List V}(h:fm H0 H l pss)(hx:H l=some (.lst xs))(ha:pB H a ps)(hf:H0 a=none)(hne:a≠l):fm H0 (aA H l (.lst (xs++[V.ref a]))) l (pss++[ps]):=by
 obtain⟨as,h1,h2,h3⟩:=h;rw[hx]at h1;cases h1;refine⟨as++[a],by rw[ac,J5];rfl,by rw[Kd,Kd,h2];rfl,λi b qs e1 e2=>?_⟩
 by_cases hi:i<as.length
 ·rw[Kc hi]at e1
  rw[Kc ⋯]at e2;have:=h3 i b qs e1 e2;exact⟨this.1,this.2.put this.1.2 ⟨_,hx⟩⟩
 ·have hi2:i=as.length:=by
   have:=(JS.mp e1).1;simp at this;omega
  subst hi2;rw[Kb (Ke _),Nat.sub_self]at e1;rw[h2,Kb (Ke _),Nat.sub_self]at e2;cases e1;cases e2
  exact⟨⟨hf,hne⟩,ha.put hne ⟨_,hx⟩⟩
theorem fm.old{H0 H1 H:Hp}{l:Addr}{pss:List (List TR)}(h:fm H1 H l pss)(s:aC H0 H1):fm H0 H l pss:=by
 obtain⟨as,h1,h2,h3⟩:=h;exact⟨as,h1,h2,λi a ps e1 e2=>⟨⟨s.free (h3 i a ps e1 e2).1.1,(h3 i a ps e1 e2).1.2⟩,(h3 i a ps e1 e2).2⟩⟩
noncomputable def Du(H:Hp)(as:KR)(szs:List ((Nat×Nat)×(Nat×Nat))):Prop:=as.length=szs.length/\∀(i:Nat) a z,as[i]?=some a->szs[i]?=some z->∃x y,H a=some (.tup [.ref x,.ref y])/\H x=some (.tup [.int (z.1.1:Int),.int (z.1.2:Int)])/\H y=some (.tup [.int (z.2.1:Int),.int (z.2.2:Int)])
noncomputable def I_(H:Hp)(l:Addr)(szs:List ((Nat×Nat)×(Nat×Nat))):Prop:=∃as:List Addr,H l=some (.lst (as.map V.ref))/\Du H as szs
theorem Du.up{H H':Hp}{as:KR}{szs:List ((Nat×Nat)×(Nat×Nat))}(h:Du H as szs)(s:aC H H'):Du H' as szs:=⟨h.1,λi a z e1 e2=>by
 obtain⟨x,y,h1,h2,h3⟩:=h.2 i a z e1 e2;exact⟨x,y,s _ _ h1,s _ _ h2,s _ _ h3⟩⟩
theorem Du.snoc{H:Hp}{as:KR}{szs:List ((Nat×Nat)×(Nat×Nat))}{a x y:Addr}{z:(Nat×Nat)×(Nat×Nat)}(h:Du H as szs)(h1:H a=some (.tup [.ref x,.ref y]))(h2:H x=some (.tup [.int (z.1.1:Int),.int (z.1.2:Int)]))(h3:H y=some (.tup [.int (z.2.1:Int),.int (z.2.2:Int)])):Du H (as++[a]) (szs++[z]):=by
 refine⟨by rw[Kd,Kd,h.1];rfl,λi b w e1 e2=>?_⟩
 by_cases hi:i<as.length
 ·rw[Kc hi]at e1
  rw[Kc (by rw[<- h.1];exact hi)]at e2;exact h.2 i b w e1 e2
 ·have hi2:i=as.length:=by
   have:=(JS.mp e1).1;simp at this;omega
  subst hi2;rw[Kb (Ke _),Nat.sub_self]at e1;rw[h.1,Kb (Ke _),Nat.sub_self]at e2;cases e1;cases e2
  exact⟨x,y,h1,h2,h3⟩
noncomputable def b8(d1 d2:Addr)(H H':Hp):Prop:=∀x o,x≠d1->x≠d2->H x=some o->H' x=some o
theorem b8.of{d1 d2:Addr}{H H':Hp}(s:aC H H'):b8 d1 d2 H H':=λx o _ _ e=>s x o e
theorem b8.trans{d1 d2:Addr}{H H1 H2:Hp}(a:b8 d1 d2 H H1)(b:b8 d1 d2 H1 H2):b8 d1 d2 H H2:=λx o h1 h2 e=>b x o h1 h2 (a x o h1 h2 e)
theorem b8.put2{d1 d2:Addr}{H:Hp}{o:HO}:b8 d1 d2 H (aA H d2 o):=λx u _ h2 e=>by rw[am h2];exact e
noncomputable def F8:HO->Prop | .dT _=>True | _=>False
noncomputable def Kp(H H':Hp):Prop:=∀x o,¬ F8 o->H x=some o->H' x=some o
theorem Kp.of{H H':Hp}(s:aC H H'):Kp H H':=λx o _ e=>s x o e
theorem Kp.trans{H H1 H2:Hp}(a:Kp H H1)(b:Kp H1 H2):Kp H H2:=λx o h e=>b x o h (a x o h e)
theorem Kp.put{H:Hp}{d:Addr}{m:List (List cS×V)}{o:HO}(hd:H d=some (.dT m)):Kp H (aA H d o):=λx u h e=>by
 rw[am (λz=>by rw[z,hd]at e;cases e;exact h trivial)];exact e
theorem Kp.lst{H H':Hp}(s:Kp H H'){a:Addr}{xs:List V}(h:H a=some (.lst xs)):H' a=some (.lst xs):=s _ _ id h
theorem Kp.tup{H H':Hp}(s:Kp H H'){a:Addr}{xs:List V}(h:H a=some (.tup xs)):H' a=some (.tup xs):=s _ _ id h
theorem Kp.ins{H H':Hp}(s:Kp H H'){a C dx:Addr}{fs:List (Str×V)}(h:H a=some (.ins C dx fs)):H' a=some (.ins C dx fs):=s _ _ id h
theorem Kp.dK{H H':Hp}(s:Kp H H'){a:Addr}{fs:List (cS×V)}(h:H a=some (.dK fs)):H' a=some (.dK fs):=s _ _ id h
theorem pB.kp{H H':Hp}{l:Addr}{ps:List TR}(h:pB H l ps)(s:Kp H H'):pB H' l ps:=by
 obtain⟨bs,h1,h2,h3⟩:=h;exact⟨bs,s.lst h1,h2,λi b p e1 e2=>s.tup (h3 i b p e1 e2)⟩
theorem cF.kp{R:RC}{H H':Hp}{as:KR}{rs:Yaa}(h:cF R H as rs)(s:Kp H H'):cF R H' as rs:=by
 refine⟨h.1,λi b r e1 e2=>?_⟩;obtain⟨d,l,h1,h2⟩:=h.2 i b r e1 e2;exact⟨d,l,s.ins h1,s.lst h2⟩
theorem dA.kp{R:RC}{H H':Hp}{C dx a:Addr}{sg st:KO}{as:KR}{rs:Yaa}(g:dA R H C dx a sg st as rs)(s:Kp H H'):dA R H' C dx a sg st as rs:=by
 obtain⟨lk,pn,t,h1,h2,h3,h4,h5⟩:=g;exact⟨lk,pn,t,s.ins h1,s.lst h2,h3.kp s,⟨s.dK h4.dict,λx hx=>s.lst (h4.list x hx),h4.apart⟩,h5⟩
noncomputable abbrev o9:Stmt:=iO 31
noncomputable def iq(K:W.Frag):Sp:=λvs H Q _=>∃(a:Addr) (r c:Nat),vs=[.ref a]/\ba K H a [.int (r:Int),.int (c:Int)]/\r<=100/\c<=100/\Q (.int (fw r c)) H
theorem AH:az ["size"] ["size"] (ah o9):=by walk_at "c"
theorem zQ{f:Addr}{fd:KU}(F:cw K "fewest" "fewest" o9 f fd):aQ P w K mg base bC 1 f fd ["size"] (iq K):=by
 have sc:=AH;walk_at "f"
 ·obtain⟨a,r,c,rfl,_⟩:=h;rfl
 ·obtain⟨a,r,c,rfl,sq,hr3,hc3,q⟩:=h
  refine⟨_,(ai (aI (ay (bf.m0 d_) (ay (bf.m1 eX) (ay (bf.m1 eX) aj (aH aJ (al 0) aj (λ_ _=>rfl))) (aH aJ (al 0) aj (λ_ _=>rfl))) aj))),?_⟩;walk_at "wp";exact⟨_,sq,_,rfl,_,rfl,_,sq,_,rfl,_,rfl,.inl ⟨⋯,⋯⟩,q⟩
theorem j_{H:Hp}{a b:Addr}{xs ys:List V}{Q:VK}(ha:H a=some (.tup xs))(hb:H b=some (.tup ys))(hx:xs≠[])(hy:ys≠[])(hz:xs.length+ys.length<=1000)(q:∀p,H p=none->Q (.ref p) (aA H p (.tup (xs++ys)))):Bc K (.ref a) (.ref b) H Q:=
 ⟨a,b,xs,ys,rfl,rfl,ba.of ha,ba.of hb,hx,ak ⋯,λe=>absurd e hy,λ_=>q⟩
noncomputable abbrev gX:Stmt:=iO 32
noncomputable def gv(K:W.Frag):Sp:=λvs H Q _=>∃(a C dx lp l:Addr) (n o1 o2:KO) (c left:Int) (szs:List ((Nat×Nat)×(Nat×Nat))) (rr cc:Nat),vs=[.ref a,.ref l,.int left]/\H a=some (.ins C dx (B9 n c lp o1 o2))/\lT K C/\au K C "one"/\au K C "other"/\I_ H l szs/\szs.length<=10/\(∀z∈szs,AM rr cc z)/\rr<=6/\cc<=6/\left<=15/\-100<=left /\
 ∀l' H',H l'=none->fm H H' l' (bA o1 o2 szs left)->aC H H'->Q (.ref l') H'
theorem pU:az ["rule","sizes","left","found","one","other","first"] ["rule","sizes","left"] (ah gX):=by walk_at "c"
theorem fm.len{H0 H:Hp}{l:Addr}{pss:List (List TR)}{xs:List V}(h:fm H0 H l pss)(hx:H l=some (.lst xs)):xs.length=pss.length:=by
 obtain⟨as,h1,h2,_⟩:=h;rw[hx]at h1;cases h1;rw[JU,h2]
theorem q9{o1 o2:KO}{left:Int}{szs:List ((Nat×Nat)×(Nat×Nat))}{i:Nat}{z:(Nat×Nat)×(Nat×Nat)}(h:szs[i]?=some z):bA o1 o2 (szs.take (i+1)) left=bA o1 o2 (szs.take i) left++(mU (fw z.1.1 z.1.2) (left-fw z.2.1 z.2.2+1)).map λf=>[(o1,z.1.1,z.1.2,f),(o2,z.2.1,z.2.2,left-f)]:=by
 unfold bA;rw[List.take_add_one,h,List.flatMap_append];simp
theorem ql{f:Addr}{fd:KU}(F:cw K "paired_rows" "paired_rows" gX f fd)(nb:NB mg)(yai:eO P w K mg base bC 1 "fewest" ["size"] (iq K)):aQ P w K mg base bC 2 f fd ["rule","sizes","left"] (gv K):=by
 have sc:=pU;walk_at "f"
 ·obtain⟨a,C,dx,lp,l,n,o1,o2,c,left,szs,rr,cc,rfl,_⟩:=h;rfl
 ·obtain⟨a,C,dx,lp,l,n,o1,o2,c,left,szs,rr,cc,rfl,ha,cl,n1,n2,⟨as,hl,hal,hat⟩,hsz,hok,rr6,cc6,hl15,hlm,q⟩:=h
  refine⟨_,(af (aF (i:=3) sc.nd rfl (Or.inl rfl) (bB ad))
   (af (bu PassesOwn.never rfl (cD (al 1)) (dE (n:=2) rfl (aG (aw (i:=4) sc.nd rfl (Or.inl rfl)) (aG (aw (i:=5) sc.nd rfl (Or.inl rfl)) cq)))
   (ai (bu PassesOwn.never rfl (io rfl nb.range (aa (aK yai (hr.mono nofun) rfl aY (aa (al 4) ad)) (aa (ay (bf.m0 bL) (ay (bf.m0 d_) (al 2) (aK yai (hr.mono nofun) rfl aY (aa (al 5) ad))) aj) ad))) (aw (i:=6) sc.nd rfl (Or.inl rfl))
   (ai (bv (hU PySem.F.plainAttrs_list PySem.F.slot_list_append PySem.F.type_list_append dS (al 3) (aa (bB (aa (ay dC (ay dC (aL (aa (bz (al 0) rfl) ad)) (al 4)) (aL (aa (al 6) ad))) (aa (ay dC (ay dC (aL (aa (bz (al 0) rfl) ad)) (al 5)) (aL (aa (ay (bf.m0 d_) (al 2) (al 6)) ad))) ad))) ad)))))))
   (ai (aI (al 3))))),?_⟩
  walk_at "n";refine⟨ak nofun,λlf hlf=>h1 _ _ ?_⟩;clear h1;have s1:=ae (o:=.lst []) hlf;have e1:aA H lf (.lst []) lf=some (.lst []):=ac;generalize aA H lf (.lst [])=H1 at s1 e1 ⊢;walk_at "n";refine⟨⟨_,aU.of (s1 _ _ hl)⟩,?_⟩;refine dh (xs:=as.map V.ref) (λi σ H'=>aC H H'/\i<=as.length/\fm H H' lf (bA o1 o2 (szs.take i) left)/\∃x y z,σ=[some (V.ref a),some (V.ref l),some (V.int left),some (V.ref lf),x,y,z]) ⟨s1,Kf _,fm.nil e1,_,_,_,rfl⟩ (λi σ H' _ h=>aU.of (h.1 _ _ hl)) ?_ ?_
  ·rintro i x σ H' hx ⟨sm,hi,hT,x1,y1,z1,rfl⟩
   have hlt:i<as.length:=by have:=(JS.mp hx).1;rwa [JU]at this
   rw[JW,JR hlt]at hx;cases hx;have hzi:szs[i]?=some (szs[i]'⋯):=JR ⋯;have zok:=hok _ (J1 (show i<szs.length by omega));have hpt:=q9 (o1:=o1) (o2:=o2) (left:=left) hzi;obtain⟨tx1,ty1,ht,htx,hty⟩:=hat i as[i] _ (JR hlt) hzi;generalize szs[i]'⋯=z at zok hpt htx hty;obtain⟨⟨r1,c1⟩,r2,c2⟩:=z;have ma:=zok.ma;have mb:=zok.mb;have md:=zok.md;have me:=zok.me;have f1:=cg zok.a zok.b;have f2:=cg zok.d zok.e;simp only at ma mb md me hpt htx hty f1 f2;have g1:fw r1 c1<=1000:=by
    rw[gL];have:r1*c1<=6*6:=Nat.mul_le_mul ⋯ ⋯;omega
   have g2:fw r2 c2<=1000:=by
    rw[gL];have:r2*c2<=6*6:=Nat.mul_le_mul ⋯ ⋯;omega
   walk_at "wp";refine⟨_,ba.of (sm _ _ ht),rfl,_,_,rfl,_,_,rfl,rfl,tx1,r1,c1,rfl,ba.of (sm _ _ htx),⋯,⋯,ty1,r2,c2,rfl,ba.of (sm _ _ hty),⋯,⋯,_,rfl,_,rfl,⋯,⋯,⋯,⋯,?_⟩;refine fX (λj σ H'=>aC H H'/\fm H H' lf (bA o1 o2 (szs.take i) left++((List.range j).map fun(j:Nat)=>fw r1 c1+(j:Int)).map λf=>[(o1,r1,c1,f),(o2,r2,c2,left-f)])/\∃z,σ=[some (V.ref a),some (V.ref l),some (V.int left),some (V.ref lf),some (V.ref tx1),some (V.ref ty1),z]) ⟨sm,by simpa using hT,_,rfl⟩ ?_ ?_
   ·rintro j σ H2 hj ⟨sm2,hT2,z,rfl⟩
    walk_at "wp";obtain⟨xs,hxs⟩:∃xs,H2 lf=some (.lst xs):=let ⟨as2,h,_⟩:=hT2;⟨_,h⟩
    have hxl:=hT2.len hxs;refine⟨.inl ⟨rfl,_,aU.of hxs⟩,C,dx,_,sm2 _ _ ha,cl,n1,_,rfl,ak nofun,λp1 hp1=>?_⟩;have t1:=ae (o:=.tup [V.str (tx o1)]) hp1;refine j_ ac (t1 _ _ (sm2 _ _ htx)) (by simp) (by simp) (by simp) λp2 hp2=>⟨ak nofun,λp3 hp3=>?_⟩;have t2:=t1.trans (ae (o:=.tup ([V.str (tx o1)]++[V.int (r1:Int),V.int (c1:Int)])) hp2);have e2:aA (aA H2 p1 (.tup [V.str (tx o1)])) p2 (.tup ([V.str (tx o1)]++[V.int (r1:Int),V.int (c1:Int)])) p2=some (.tup [V.str (tx o1),V.int (r1:Int),V.int (c1:Int)]):=ac;generalize aA (aA H2 p1 (.tup [V.str (tx o1)])) p2 (.tup ([V.str (tx o1)]++[V.int (r1:Int),V.int (c1:Int)]))=A2 at t2 e2 hp3 ⊢;have t3:=ae (o:=.tup [V.int (fw r1 c1+(j:Int))]) hp3;refine j_ (t3 _ _ e2) ac (by simp) (by simp) (by simp) λp4 hp4=>?_;have t4:=(t2.trans t3).trans (ae (o:=.tup ([V.str (tx o1),V.int (r1:Int),V.int (c1:Int)]++[V.int (fw r1 c1+(j:Int))])) hp4);have e4:aA (aA A2 p3 (.tup [V.int (fw r1 c1+(j:Int))])) p4 (.tup ([V.str (tx o1),V.int (r1:Int),V.int (c1:Int)]++[V.int (fw r1 c1+(j:Int))])) p4=some (.tup (dY (o1,r1,c1,fw r1 c1+(j:Int)))):=ac;generalize aA (aA A2 p3 (.tup [V.int (fw r1 c1+(j:Int))])) p4 (.tup ([V.str (tx o1),V.int (r1:Int),V.int (c1:Int)]++[V.int (fw r1 c1+(j:Int))]))=A4 at t4 e4 ⊢;have s4:=sm2.trans t4;refine⟨C,dx,_,s4 _ _ ha,cl,n2,_,rfl,ak nofun,λp5 hp5=>?_⟩;have t5:=ae (o:=.tup [V.str (tx o2)]) hp5;refine j_ ac (t5 _ _ (s4 _ _ hty)) (by simp) (by simp) (by simp) λp6 hp6=>⟨ak nofun,λp7 hp7=>?_⟩;have t6:=t5.trans (ae (o:=.tup ([V.str (tx o2)]++[V.int (r2:Int),V.int (c2:Int)])) hp6);have e6:aA (aA A4 p5 (.tup [V.str (tx o2)])) p6 (.tup ([V.str (tx o2)]++[V.int (r2:Int),V.int (c2:Int)])) p6=some (.tup [V.str (tx o2),V.int (r2:Int),V.int (c2:Int)]):=ac;generalize aA (aA A4 p5 (.tup [V.str (tx o2)])) p6 (.tup ([V.str (tx o2)]++[V.int (r2:Int),V.int (c2:Int)]))=A6 at t6 e6 hp7 ⊢;have t7:=ae (o:=.tup [V.int (left-(fw r1 c1+(j:Int)))]) hp7;refine j_ (t7 _ _ e6) ac (by simp) (by simp) (by simp) λp8 hp8=>?_;have t8:=(t6.trans t7).trans (ae (o:=.tup ([V.str (tx o2),V.int (r2:Int),V.int (c2:Int)]++[V.int (left-(fw r1 c1+(j:Int)))])) hp8);have e8:aA (aA A6 p7 (.tup [V.int (left-(fw r1 c1+(j:Int)))])) p8 (.tup ([V.str (tx o2),V.int (r2:Int),V.int (c2:Int)]++[V.int (left-(fw r1 c1+(j:Int)))])) p8=some (.tup (dY (o2,r2,c2,left-(fw r1 c1+(j:Int))))):=ac;generalize aA (aA A6 p7 (.tup [V.int (left-(fw r1 c1+(j:Int)))])) p8 (.tup ([V.str (tx o2),V.int (r2:Int),V.int (c2:Int)]++[V.int (left-(fw r1 c1+(j:Int)))]))=A8 at t8 e8 ⊢;refine⟨ak nofun,λp9 hp9=>?_⟩;have t9:=ae (o:=.lst [V.ref p4,V.ref p8]) hp9;have e9:aA A8 p9 (.lst [V.ref p4,V.ref p8]) p9=some (.lst [V.ref p4,V.ref p8]):=ac;have n9:p9≠lf:=λe=>by rw[e,t8 _ _ (t4 _ _ hxs)]at hp9;cases hp9
    generalize aA A8 p9 (.lst [V.ref p4,V.ref p8])=A9 at t9 e9 ⊢;have s9:=(t4.trans t8).trans t9;have hx9:=s9 _ _ hxs;have hrow:pB A9 p9 [(o1,r1,c1,fw r1 c1+(j:Int)),(o2,r2,c2,left-(fw r1 c1+(j:Int)))]:=⟨[p4,p8],e9,rfl,λi b p x1 x2=>by
     match i,x1,x2 with
     |0,x1,x2=>cases x1;cases x2;exact(t8.trans t9) _ _ e4
     |1,x1,x2=>cases x1;cases x2;exact t9 _ _ e8⟩
    have hlen:(bA o1 o2 (szs.take i) left).length<=150:=Km (fN (r:=rr) (c:=cc) hl15 _ λz hz=>hok z (List.mem_of_mem_take hz)) (by rw[Ku];omega);refine⟨_,hx9,?_,?_⟩
    ·rw[hxl,Kd,JU,JU,List.length_range];exact bd ⋯
    ·refine⟨fP (sm2.trans s9) hlf,?_⟩
     rw[List.range_succ,J5,J5,<- Kr];exact(hT2.up s9).app hx9 hrow (sm2.free (t4.free (t8.free hp9))) n9
   ·rintro σ H2 ⟨sm2,hT2,z,rfl⟩
    refine⟨sm2,hlt,?_,_,_,_,rfl⟩;rw[hpt];exact hT2
  ·rintro σ H' ⟨sm,_,hT,x1,y1,z1,rfl⟩
   refine h1 _ _ ?_;walk_at "wp";rw[JU,hal,Kt]at hT;exact q lf H' hlf hT sm
noncomputable def dD(C:Addr)(t:Nat):Sp:=λvs H Q _=>∃(a dx lp:Addr) (v:RV) (r c:Nat) (k:Int),vs=[.ref a,.int (r:Int),.int (c:Int),.int k]/\H a=some (.ins C dx (vW t lp v))/\1<=r/\r<=6/\1<=c/\c<=6/\k<=16/\1<=k/\1<=v.c/\v.c<=9/\0<=v.t /\
 ∀l H',H l=none->fm H H' l (cK (t,v) r c k)->aC H H'->Q (.ref l) H'
noncomputable abbrev dL:Stmt:=eQ 27 5
theorem sJ:az ["self","rows","columns","cost"] ["self","rows","columns","cost"] (ah dL):=by walk_at "c"
theorem pB.nil{H:Hp}{l:Addr}(h:H l=some (.lst [])):pB H l []:=⟨[],h,rfl,λi a ps e=>by simp at e⟩
theorem fm.one{H0 H:Hp}{l a:Addr}{ps:List TR}(h:H l=some (.lst [.ref a]))(ha:pB H a ps)(hf:H0 a=none)(hne:a≠l):fm H0 H l [ps]:=⟨[a],h,rfl,λi b qs e1 e2=>by
 match i,e1,e2 with
 |0,e1,e2=>cases e1;cases e2;exact⟨⟨hf,hne⟩,ha⟩⟩
theorem F0{a b c d e f:Int}:jn [V.int a,V.int b,V.int c] [V.int d,V.int e,V.int f]=decide (a=d/\b=e/\c=f):=by
 have e0:jn [V.int a,V.int b,V.int c] [V.int d,V.int e,V.int f]=(((a==d)&&((b==e)&&((c==f)&&true)))&&true):=rfl;rw[e0]
 by_cases h1:a=d<;>by_cases h2:b=e<;>by_cases h3:c=f<;>simp[h1,h2,h3]
theorem uW{f C:Addr}{fd:KU}(F:cw K "part_rows" "CellRule.part_rows" dL f fd)(nb:NB mg)(cl:lT K C)(na:au K C "cost"):aQ P w K mg base bC 1 f fd ["self","rows","columns","cost"] (dD C 0):=by
 have sc:=sJ;walk_at "f"
 ·obtain⟨a,dx,lp,v,r,c,k,rfl,_⟩:=h;rfl
 ·obtain⟨a,dx,lp,v,r,c,k,rfl,ha,r1,r6,c1,c6,k16,k1,vc,vc9,vt,q⟩:=h
  have hu:=hr.units;refine⟨_,(ai (aI (vE (aM (Bm hu) (aL (aa (al 1) (aa (al 2) (aa (al 3) ad)))) (aL (bM (bM (aa (bz (al 0) rfl) ad)))) (aS _)) (bB (aa (bB ad) ad)) (bB ad)))),?_⟩;walk_at "wp";refine⟨ak nofun,λp hp=>⟨C,dx,_,ae hp _ _ ha,cl,na,_,rfl,ak nofun,λp1 hp1=>⟨_,ba.of (ae hp1 _ _ ac),_,ba.of ac,rfl,rfl,?_⟩⟩⟩;have s2:=(ae (o:=.tup [V.int (r:Int),V.int (c:Int),V.int k]) hp).trans (ae (o:=.tup [V.int 1,V.int 1,V.int v.c]) hp1);generalize aA (aA H p (.tup [V.int (r:Int),V.int (c:Int),V.int k])) p1 (.tup [V.int 1,V.int 1,V.int v.c])=H2 at s2 ⊢;rw[F0];have hp0:cK (0,v) r c k=if r=1/\c=1/\k=v.c then[[]] else[]:=rfl
  rw[hp0]at q
  by_cases hh:r=1/\c=1/\k=v.c
  ·rw[if_pos (by simp;omega)]
   rw[if_pos hh]at q;refine⟨Kf _,λp2 hp2=>⟨ak nofun,λp3 hp3=>?_⟩⟩;have t2:=ae (o:=.lst []) hp2;have t3:=ae (o:=.lst [V.ref p2]) hp3;have ne:p2≠p3:=λe=>by rw[<- e,ac]at hp3;cases hp3
   exact q p3 _ (s2.free (t2.free hp3)) (fm.one ac (pB.nil (t3 _ _ ac)) (s2.free hp2) ne) ((s2.trans t2).trans t3)
  ·rw[if_neg (by simp;omega)]
   rw[if_neg hh]at q;exact⟨Kf _,λp2 hp2=>q p2 _ (s2.free hp2) (fm.nil ac) (s2.trans (ae hp2))⟩
noncomputable abbrev cT:Stmt:=eQ 28 5
theorem pE:az ["self","rows","columns","cost","sizes"] ["self","rows","columns","cost"] (ah cT):=by walk_at "c"
theorem y0{r c i:Nat}(h:i<c-1):(fW r c)[i]?=some ((r,1+i),(r,c-(1+i))):=by
 unfold fW;rw[JW,List.getElem?_range h];rfl
theorem qw{f C:Addr}{fd:KU}(F:cw K "part_rows" "BesideRule.part_rows" cT f fd)(nb:NB mg)(cl:lT K C)(na:au K C "cost"/\au K C "one"/\au K C "other")(yay:eO P w K mg base bC 2 "paired_rows" ["rule","sizes","left"] (gv K)):aQ P w K mg base bC 3 f fd ["self","rows","columns","cost"] (dD C 1):=by
 have sc:=pE;walk_at "f"
 ·obtain⟨a,dx,lp,v,r,c,k,rfl,_⟩:=h;rfl
 ·obtain⟨a,dx,lp,v,r,c,k,rfl,ha,r1,r6,c1,c6,k16,k1,vc,vc9,vt,q⟩:=h
  have hu:=hr.units;refine⟨_,(af (iF (i:=4) ["at"] [1,2] sc.nd rfl (Or.inl rfl) rfl  rfl (bw.of (by kernel_rfl)) (by kernel_rfl) (io rfl nb.range (bM (aa (al 2) ad)))
    (λ_ _ _ _=>(aw (i:=0) (by show(["at","rows","columns"]:List Str).Nodup;decide +kernel) rfl (Or.inl rfl))) (λ_ _ _ _=>bT) (λ_ _ _ _=>(aL (aa (aL (aa (al 1) (aa (al 0) ad))) (aa (aL (aa (al 1) (aa (ay (bf.m0 d_) (al 2) (al 0)) ad))) ad)))))
   (ai (aI (aK yay (hr.mono nofun) rfl aY (aa (al 0) (aa (al 4) (aa (ay (bf.m0 d_) (al 3) (bz (al 0) rfl)) ad))))))),?_⟩
  walk_at "n";refine⟨⋯,⋯,⋯,?_⟩;have en:((c:Int)-1).toNat=c-1:=by omega
  rw[en];refine eW (λi acc σ H'=>aC H H'/\i<=c-1/\(∃as:List Addr,acc=as.map V.ref/\Du H' as ((fW r c).take i))/\∃z,σ=[z,some (V.int (r:Int)),some (V.int (c:Int))]) ⟨λ_ _ e=>e,Kf _,⟨[],rfl,rfl,λi a z e=>by simp at e⟩,_,rfl⟩ ?_ (λi acc σ H' h=>h.2.1) ?_ ?_
  ·rintro i acc σ H' ⟨_,hi,⟨as,rfl,he⟩,_⟩
   rw[JU,he.1,Ku];exact bd ⋯
  ·rintro i acc σ H' hi ⟨sm,_,⟨as,rfl,he⟩,z,rfl⟩
   walk_at "wp";refine⟨ak nofun,λp1 hp1=>⟨ak nofun,λp2 hp2=>⟨ak nofun,λp3 hp3=>?_⟩⟩⟩;have t1:=ae (o:=.tup [V.int (r:Int),V.int (1+(i:Int))]) hp1;have t2:=ae (o:=.tup [V.int (r:Int),V.int ((c:Int)-(1+(i:Int)))]) hp2;have t3:=ae (o:=.tup [V.ref p1,V.ref p2]) hp3;have t:=(t1.trans t2).trans t3;refine⟨sm.trans t,hi,as++[p3],by rw[J5];rfl,?_⟩;rw[List.take_add_one,y0 hi];exact(he.up t).snoc (x:=p1) (y:=p2) ac ((t2.trans t3) _ _ (by rw[ac];rw[show(1+(i:Int))=((1+i:Nat):Int) by push_cast;rfl])) (t3 _ _ (by rw[ac];rw[show((c:Int)-(1+(i:Int)))=((c-(1+i):Nat):Int) by omega]))
  rintro acc σ H1 ⟨s1,_,⟨as,rfl,he⟩,z,rfl⟩ l hl;refine h1 _ _ ?_;clear h1;have s2:=ae (o:=.lst (as.map V.ref)) hl;have e2:aA H1 l (.lst (as.map V.ref)) l=some (.lst (as.map V.ref)):=ac;generalize aA H1 l (.lst (as.map V.ref))=H2 at s2 e2 ⊢;have s02:=s1.trans s2;rw[List.take_of_length_le (by rw[iC];omega)]at he;walk_at "wp";refine⟨C,dx,_,s02 _ _ ha,cl,na.1,_,rfl,_,rfl,a,C,dx,lp,l,v.n,v.o1,v.o2,v.c,k-v.c,fW r c,r,c,rfl,s02 _ _ ha,cl,na.2.1,na.2.2,⟨as,e2,he.up s2⟩,by rw[iC];omega,λz hz=>j7 r1 hz,r6,c6,⋯,⋯,λl' H' hl' hT s3=>q l' H' (s02.free hl') (hT.old s02) (s02.trans s3)⟩
noncomputable abbrev dv:Stmt:=eQ 29 5
theorem qU:az ["self","rows","columns","cost","sizes"] ["self","rows","columns","cost"] (ah dv):=by walk_at "c"
theorem zO{r c i:Nat}(h:i<r-1):(f_ r c)[i]?=some ((1+i,c),(r-(1+i),c)):=by
 unfold f_;rw[JW,List.getElem?_range h];rfl
theorem rf{f C:Addr}{fd:KU}(F:cw K "part_rows" "AboveRule.part_rows" dv f fd)(nb:NB mg)(cl:lT K C)(na:au K C "cost"/\au K C "one"/\au K C "other")(yay:eO P w K mg base bC 2 "paired_rows" ["rule","sizes","left"] (gv K)):aQ P w K mg base bC 3 f fd ["self","rows","columns","cost"] (dD C 2):=by
 have sc:=qU;walk_at "f"
 ·obtain⟨a,dx,lp,v,r,c,k,rfl,_⟩:=h;rfl
 ·obtain⟨a,dx,lp,v,r,c,k,rfl,ha,r1,r6,c1,c6,k16,k1,vc,vc9,vt,q⟩:=h
  have hu:=hr.units;refine⟨_,(af (iF (i:=4) ["at"] [2,1] sc.nd rfl (Or.inl rfl) rfl  rfl (bw.of (by kernel_rfl)) (by kernel_rfl) (io rfl nb.range (bM (aa (al 1) ad)))
    (λ_ _ _ _=>(aw (i:=0) (by show(["at","columns","rows"]:List Str).Nodup;decide +kernel) rfl (Or.inl rfl))) (λ_ _ _ _=>bT) (λ_ _ _ _=>(aL (aa (aL (aa (al 0) (aa (al 1) ad))) (aa (aL (aa (ay (bf.m0 d_) (al 2) (al 0)) (aa (al 1) ad))) ad)))))
   (ai (aI (aK yay (hr.mono nofun) rfl aY (aa (al 0) (aa (al 4) (aa (ay (bf.m0 d_) (al 3) (bz (al 0) rfl)) ad))))))),?_⟩
  walk_at "n";refine⟨⋯,⋯,⋯,?_⟩;have en:((r:Int)-1).toNat=r-1:=by omega
  rw[en];refine eW (λi acc σ H'=>aC H H'/\i<=r-1/\(∃as:List Addr,acc=as.map V.ref/\Du H' as ((f_ r c).take i))/\∃z,σ=[z,some (V.int (c:Int)),some (V.int (r:Int))]) ⟨λ_ _ e=>e,Kf _,⟨[],rfl,rfl,λi a z e=>by simp at e⟩,_,rfl⟩ ?_ (λi acc σ H' h=>h.2.1) ?_ ?_
  ·rintro i acc σ H' ⟨_,hi,⟨as,rfl,he⟩,_⟩
   rw[JU,he.1,Ku];exact bd ⋯
  ·rintro i acc σ H' hi ⟨sm,_,⟨as,rfl,he⟩,z,rfl⟩
   walk_at "wp";refine⟨ak nofun,λp1 hp1=>⟨ak nofun,λp2 hp2=>⟨ak nofun,λp3 hp3=>?_⟩⟩⟩;have t1:=ae (o:=.tup [V.int (1+(i:Int)),V.int (c:Int)]) hp1;have t2:=ae (o:=.tup [V.int ((r:Int)-(1+(i:Int))),V.int (c:Int)]) hp2;have t3:=ae (o:=.tup [V.ref p1,V.ref p2]) hp3;have t:=(t1.trans t2).trans t3;refine⟨sm.trans t,hi,as++[p3],by rw[J5];rfl,?_⟩;rw[List.take_add_one,zO hi];exact(he.up t).snoc (x:=p1) (y:=p2) ac ((t2.trans t3) _ _ (by rw[ac];rw[show(1+(i:Int))=((1+i:Nat):Int) by push_cast;rfl])) (t3 _ _ (by rw[ac];rw[show((r:Int)-(1+(i:Int)))=((r-(1+i):Nat):Int) by omega]))
  rintro acc σ H1 ⟨s1,_,⟨as,rfl,he⟩,z,rfl⟩ l hl;refine h1 _ _ ?_;clear h1;have s2:=ae (o:=.lst (as.map V.ref)) hl;have e2:aA H1 l (.lst (as.map V.ref)) l=some (.lst (as.map V.ref)):=ac;generalize aA H1 l (.lst (as.map V.ref))=H2 at s2 e2 ⊢;have s02:=s1.trans s2;rw[List.take_of_length_le (by rw[iE];omega)]at he;walk_at "wp";refine⟨C,dx,_,s02 _ _ ha,cl,na.1,_,rfl,_,rfl,a,C,dx,lp,l,v.n,v.o1,v.o2,v.c,k-v.c,f_ r c,r,c,rfl,s02 _ _ ha,cl,na.2.1,na.2.2,⟨as,e2,he.up s2⟩,by rw[iE];omega,λz hz=>kh c1 hz,r6,c6,⋯,⋯,λl' H' hl' hT s3=>q l' H' (s02.free hl') (hT.old s02) (s02.trans s3)⟩
noncomputable abbrev dQ:Stmt:=eQ 30 5
theorem tS:az ["self","rows","columns","cost","size"] ["self","rows","columns","cost"] (ah dQ):=by walk_at "c"
theorem sK{f C:Addr}{fd:KU}(F:cw K "part_rows" "TurnRule.part_rows" dQ f fd)(nb:NB mg)(cl:lT K C)(na:au K C "cost"/\au K C "part"/\au K C "turning"):aQ P w K mg base bC 1 f fd ["self","rows","columns","cost"] (dD C 3):=by
 have sc:=tS;walk_at "f"
 ·obtain⟨a,dx,lp,v,r,c,k,rfl,_⟩:=h;rfl
 ·obtain⟨a,dx,lp,v,r,c,k,rfl,ha,r1,r6,c1,c6,k16,k1,vc,vc9,vt,q⟩:=h
  have hu:=hr.units;refine⟨_,(af (aF (i:=4) sc.nd rfl (Or.inl rfl) (vE (aM ij (ay (bf.m1 bH) (bz (al 0) rfl) aj) aj (aS _)) (aL (aa (al 2) (aa (al 1) ad))) (aL (aa (al 1) (aa (al 2) ad)))))
   (ai (aI (bB (aa (bB (aa (ay dC (ay dC (aL (aa (bz (al 0) rfl) ad)) (al 4)) (aL (aa (ay (bf.m0 d_) (al 3) (bz (al 0) rfl)) ad))) ad)) ad))))),?_⟩
  walk_at "n";have key:∀(x y:Nat) (p:Addr) (H1:Hp),(∃p:TR,cK (3,v) r c k=[[p]]/\p=(v.o1,x,y,k-v.c))->aC H H1->H1 p=some (.tup [V.int (x:Int),V.int (y:Int)])->N1 [some (V.ref a),some (V.int (r:Int)),some (V.int (c:Int)),some (V.int k),some (V.ref p)] H1:=by
   rintro x y p H1 ⟨_,ep,rfl⟩ s1 e1;refine h1 _ _ ?_;walk_at "wp";refine⟨C,dx,_,s1 _ _ ha,cl,na.2.1,_,rfl,ak nofun,λp1 hp1=>?_⟩;have t1:=ae (o:=.tup [V.str (tx v.o1)]) hp1;refine j_ ac (t1 _ _ e1) (by simp) (by simp) (by simp) λp2 hp2=>?_;have t2:=t1.trans (ae (o:=.tup ([V.str (tx v.o1)]++[V.int (x:Int),V.int (y:Int)])) hp2);have e2:aA (aA H1 p1 (.tup [V.str (tx v.o1)])) p2 (.tup ([V.str (tx v.o1)]++[V.int (x:Int),V.int (y:Int)])) p2=some (.tup [V.str (tx v.o1),V.int (x:Int),V.int (y:Int)]):=ac;generalize aA (aA H1 p1 (.tup [V.str (tx v.o1)])) p2 (.tup ([V.str (tx v.o1)]++[V.int (x:Int),V.int (y:Int)]))=A2 at t2 e2 ⊢;refine⟨C,dx,_,(s1.trans t2) _ _ ha,cl,na.1,_,rfl,_,rfl,ak nofun,λp3 hp3=>?_⟩;have t3:=ae (o:=.tup [V.int (k-v.c)]) hp3;refine j_ (t3 _ _ e2) ac (by simp) (by simp) (by simp) λp4 hp4=>?_;have t4:=(t2.trans t3).trans (ae (o:=.tup ([V.str (tx v.o1),V.int (x:Int),V.int (y:Int)]++[V.int (k-v.c)])) hp4);have e4:aA (aA A2 p3 (.tup [V.int (k-v.c)])) p4 (.tup ([V.str (tx v.o1),V.int (x:Int),V.int (y:Int)]++[V.int (k-v.c)])) p4=some (.tup (dY (v.o1,x,y,k-v.c))):=ac;generalize aA (aA A2 p3 (.tup [V.int (k-v.c)])) p4 (.tup ([V.str (tx v.o1),V.int (x:Int),V.int (y:Int)]++[V.int (k-v.c)]))=A4 at t4 e4 ⊢;refine⟨ak nofun,λp5 hp5=>⟨ak nofun,λp6 hp6=>?_⟩⟩;have t5:=ae (o:=.lst [V.ref p4]) hp5;have t6:=ae (o:=.lst [V.ref p5]) hp6;have ne:p5≠p6:=λe=>by rw[<- e,ac]at hp6;cases hp6
   have s4:=s1.trans t4;rw[ep]at q;refine q p6 _ (s4.free (t5.free hp6)) (fm.one ac ⟨[p4],t6 _ _ ac,rfl,λi b z x1 x2=>?_⟩ (s4.free hp5) ne) ((s4.trans t5).trans t6)
   match i,x1,x2 with
   |0,x1,x2=>cases x1;cases x2;exact(t5.trans t6) _ _ e4
  refine⟨C,dx,_,ha,cl,na.2.2,_,rfl,_,rfl,?_⟩
  by_cases ht:v.t%2=1
  ·rw[if_pos ht]
   exact⟨ak nofun,λp hp=>key c r p _ ⟨_,rfl,by simp[ht]⟩ (ae hp) ac⟩
  ·rw[if_neg ht]
   exact⟨ak nofun,λp hp=>key r c p _ ⟨_,rfl,by simp[ht]⟩ (ae hp) ac⟩
noncomputable def lg(R:RC):List (Addr×Sp):=[(R.cc,dD R.cc 0),(R.cb,dD R.cb 1),(R.ca,dD R.ca 2),(R.ct,dD R.ct 3)]
theorem Dj{R:RC}{H:Hp}{t a}{v:RV}{r c:Nat}{k:Int}{Q:VK}{E:XK}(h4:t<4)(ra:iU R H t a v)(r1:1<=r)(r6:r<=6)(c1:1<=c)(c6:c<=6)(k16:k<=16)(k1:1<=k)(vc:1<=v.c)(vc9:v.c<=9)(vt:0<=v.t)(q:∀l H',H l=none->fm H H' l (cK (t,v) r c k)->aC H H'->Q (.ref l) H') :
  ∃o∈lg R,∃dx fs,H a=some (.ins o.1 dx fs)/\fs.lookup ("part_rows":Str)=none/\o.2 [.ref a,.int (r:Int),.int (c:Int),.int k] H Q E:=by
 obtain⟨dx,l,h1,_⟩:=ra;have:t=0\/t=1\/t=2\/t=3:=by omega
 rcases this with rfl | rfl | rfl | rfl
 ·exact⟨(R.cc,dD R.cc 0),by simp[lg],dx,_,h1,rfl,a,dx,l,v,r,c,k,rfl,h1,r1,r6,c1,c6,k16,k1,vc,vc9,vt,q⟩
 ·exact⟨(R.cb,dD R.cb 1),by simp[lg],dx,_,h1,rfl,a,dx,l,v,r,c,k,rfl,h1,r1,r6,c1,c6,k16,k1,vc,vc9,vt,q⟩
 ·exact⟨(R.ca,dD R.ca 2),by simp[lg],dx,_,h1,rfl,a,dx,l,v,r,c,k,rfl,h1,r1,r6,c1,c6,k16,k1,vc,vc9,vt,q⟩
 ·exact⟨(R.ct,dD R.ct 3),by simp[lg],dx,_,h1,rfl,a,dx,l,v,r,c,k,rfl,h1,r1,r6,c1,c6,k16,k1,vc,vc9,vt,q⟩
inductive Gr(rs:Yaa):Dt->List Nat->bG->Int->Nat->Prop
 |cell {n:Nat} {v:RV}:rs[n]?=some (0,v)->Gr rs (.tup [.int (n:Int)]) v.n [v.sg] v.c 1
 |turn {n:Nat} {v:RV} {d:Dt} {p:bG} {c:Int} {k:Nat}:rs[n]?=some (3,v)->Gr rs d v.o1 p c k->Gr rs (.tup [.int (n:Int),d]) v.n (turned p v.t.toNat) (v.c+c) (k+1)
 |pair {n kd:Nat} {v:RV} {d1 d2:Dt} {p1 p2 p:bG} {c1 c2:Int} {k1 k2:Nat}:(kd=1\/kd=2)->rs[n]?=some (kd,v)->Gr rs d1 v.o1 p1 c1 k1->Gr rs d2 v.o2 p2 c2 k2->hJ kd v [p1,p2]=some p->Gr rs (.tup [.int (n:Int),d1,d2]) v.n p (v.c+(c1+c2)) (max k1 k2+1)
theorem wj{k:Nat}{v:RV}{p1 p2 p:bG}{r c r' c':Nat}(hk:k=1\/k=2)(h1:fA p1 r c)(h2:fA p2 r' c')(m:hJ k v [p1,p2]=some p):∃r c,fA p r c:=by
 have e1:=bI h1.rc h1.r0;have e2:=bI h2.rc h2.r0;have l1:=h1.rc.1;have l2:=h2.rc.1;rcases hk with rfl | rfl
 ·have m':(if p1.length=p2.length/\(p1.headD []).length+(p2.headD []).length<=6 then some (put2 p1 p2) else none)=some p:=m
  by_cases c0:p1.length=p2.length/\(p1.headD []).length+(p2.headD []).length<=6
  ·rw[if_pos c0]at m'
   cases m';rw[l1,l2,e1,e2]at c0;refine⟨r,c+c',⟨?_,h1.r0,h1.r6,by have:=h1.c0;omega,c0.2⟩⟩;refine⟨by unfold put2;rw[JU,List.length_zip,l1,l2];omega,λx hx=>?_⟩;unfold put2 at hx;obtain⟨y,hy,rfl⟩:=Ky.mp hx;have:=List.of_mem_zip hy;rw[Kd,h1.rc.2 _ this.1,h2.rc.2 _ this.2]
  ·rw[if_neg c0]at m';cases m'
 ·have m':(if(p1.headD []).length=(p2.headD []).length/\p1.length+p2.length<=6 then some (p1++p2) else none)=some p:=m
  by_cases c0:(p1.headD []).length=(p2.headD []).length/\p1.length+p2.length<=6
  ·rw[if_pos c0]at m'
   cases m';rw[l1,l2,e1,e2]at c0;refine⟨r+r',c,⟨⟨by rw[Kd,l1,l2],λx hx=>?_⟩,by have:=h1.r0;omega,c0.2,h1.c0,h1.c6⟩⟩;rcases J6.mp hx with h | h
   ·exact h1.rc.2 _ h
   ·rw[c0.1];exact h2.rc.2 _ h
  ·rw[if_neg c0]at m';cases m'
theorem rD{p:bG}{r c:Nat}(h:fA p r c)(t:Nat):∃r c,fA (turned p t) r c:=by
 have hm:eR (if 4<=t then fB p else p) r c:=by split;exact gG h.rc;exact h.rc
 have:=cV (t%4) hm h.r0 h.c0;unfold turned
 by_cases e:t%4%2=0
 ·rw[if_pos e,if_pos e]at this;exact⟨r,c,this,h.r0,h.r6,h.c0,h.c6⟩
 ·rw[if_neg e,if_neg e]at this;exact⟨c,r,this,h.c0,h.c6,h.r0,h.r6⟩
theorem Gr.pic6{rs:Yaa}(hg:∀r∈rs,fG r){d:Dt}{nm:KO}{p:bG}{c:Int}{k:Nat}(g:Gr rs d nm p c k):∃r c,fA p r c:=by
 induction g with
 | @cell n v e=>
  have:=m4 (hg _ (JX e)).good.sg;exact⟨1,1,⟨rfl,λx hx=>by rw[JV.mp hx];exact this⟩,nofun,nofun,nofun,nofun⟩
 |turn e _ ih=>obtain⟨r,c,h⟩:=ih;exact rD h _
 |pair h e _ _ m ih1 ih2=>obtain⟨r,c,h1⟩:=ih1;obtain⟨r',c',h2⟩:=ih2;exact wj h h1 h2 m
theorem x8{H:Hp}{l lp:Addr}{as:KR}{p:bG}(h1:H l=some (.lst (as.map V.ref)))(h2:H lp=some (.lst (aE p)))(h3:p≠[]):lp≠l:=λe=>by
 rw[e,h1]at h2;have h4:=HO.lst.inj (Option.some.inj h2);cases p with
 |nil=>exact h3 rfl
 |cons r p=>
  cases as with
  |nil=>exact nomatch h4
  |cons a as=>have:=(List.cons.inj h4).1;cases this
theorem j6{H H':Hp}{a:Addr}(s:aC H H')(h:H' a=none):H a=none:=by
 cases e:H a with
 |none=>rfl
 |some o=>rw[s _ _ e]at h;cases h
theorem ia{H:Hp}{a b:Addr}{xs ys:List V}{Q:VK}(ha:H a=some (.tup xs))(hb:H b=some (.tup ys))(hx:xs≠[])(hz:xs.length+ys.length<=1000)(q:∀p H',H' p=some (.tup (xs++ys))->aC H H'->Q (.ref p) H'):Bc K (.ref a) (.ref b) H Q:=
 ⟨a,b,xs,ys,rfl,rfl,ba.of ha,ba.of hb,hx,ak ⋯,λe=>q a H (by rw[e,Kq];exact ha) (aC.refl _),λ_ p hp=>q p _ ac (ae hp)⟩
theorem gy{c:Prop}[Decidable c]{A B:Prop}(hA:c->A)(hB:¬ c->B):if c then A else B:=by
 by_cases h:c
 ·rw[if_pos h];exact hA h
 ·rw[if_neg h];exact hB h
inductive bK where
 |n0:Int->bK
 |n1:Int->bK->bK
 |n2:Int->bK->bK->bK
noncomputable def bK.i:bK->Int
 | .n0 i=>i
 | .n1 i _=>i
 | .n2 i _ _=>i
noncomputable def bK.ps:bK->List bK
 | .n0 _=>[]
 | .n1 _ a=>[a]
 | .n2 _ a b=>[a,b]
noncomputable def bK.d:bK->Dt
 | .n0 i=>.tup [.int i]
 | .n1 i a=>.tup [.int i,a.d]
 | .n2 i a b=>.tup [.int i,a.d,b.d]
noncomputable def bK.cnt:bK->Nat
 | .n0 _=>1
 | .n1 _ a=>a.cnt+1
 | .n2 _ a b=>a.cnt+b.cnt+1
noncomputable def bK.dep:bK->Nat
 | .n0 _=>1
 | .n1 _ a=>a.dep+1
 | .n2 _ a b=>max a.dep b.dep+1
theorem bK.d_eq(t:bK):t.d=.tup (.int t.i::t.ps.map bK.d):=by cases t<;>rfl
theorem bK.val{H:Hp}{v:V}{t:bK}(h:cJ H t.d v):∃a vs,v=.ref a/\H a=some (.tup (.int t.i::vs))/\bD H (t.ps.map bK.d) vs:=by
 rw[t.d_eq]at h;unfold cJ at h;obtain⟨a,xs,rfl,hta,hts⟩:=h;obtain⟨x0,ys,rfl,hx0,htr⟩:=hts.uncons;unfold cJ at hx0;subst hx0;exact⟨a,ys,rfl,hta,htr⟩
theorem bK.of{H:Hp}{a:Addr}{vs:List V}{t:bK}(h:H a=some (.tup (.int t.i::vs)))(k:bD H (t.ps.map bK.d) vs):cJ H t.d (.ref a):=by
 rw[t.d_eq];exact cJ.node h k
theorem bK.lt{s t:bK}(h:s∈t.ps):s.dep<t.dep/\s.cnt<t.cnt:=by
 cases t with
 |n0 i=>exact nomatch h
 |n1 i a=>rw[JV.mp h];simp only[bK.dep,bK.cnt];omega
 |n2 i a b=>
  rcases J8.mp h with rfl | h
  ·simp only[bK.dep,bK.cnt];omega
  ·rw[JV.mp h];simp only[bK.dep,bK.cnt];omega
theorem bK.plen(t:bK):t.ps.length<=2:=by cases t<;>simp[bK.ps]
theorem bK.cnt1(t:bK):1<=t.cnt:=by cases t<;>simp[bK.cnt]
theorem bK.dep1(t:bK):1<=t.dep:=by cases t<;>simp[bK.dep]
noncomputable def yt(i:Int):List bK->bK
 | []=>.n0 i
 | [a]=>.n1 i a
 |a::b::_=>.n2 i a b
theorem Ek(i:Int)(ds:List bK):(yt i ds).i=i:=by
 match ds with
 | []=>rfl
 | [a]=>rfl
 |a::b::_=>rfl
theorem Cj(i:Int){ds:List bK}(h:ds.length<=2):(yt i ds).ps=ds:=by
 match ds,h with
 | [],_=>rfl
 | [a],_=>rfl
 | [a,b],_=>rfl
 |a::b::c::_,h=>simp at h
theorem D1(t:bK):yt t.i t.ps=t:=by cases t<;>rfl
noncomputable def Sub:List Nat->bK->Option bK
 | [],t=>some t
 |k::pl,t=>match t.ps[k]? with
  |some s=>Sub pl s
  |none=>none
theorem nR{α:Type}(x:α)(xs:List α):h_ (x::xs) 0=some x:=show h_ (x::xs) ((0:Nat):Int)=some x from bt rfl
theorem ip{H:Hp}:∀{ds:List Dt} {xs:List V},bD H ds xs->∀{j:Nat} {x:V},xs[j]?=some x->∃d,ds[j]?=some d/\cJ H d x
 | [],_,h,j,x,e=>by unfold bD at h;subst h;simp at e
 |d::ds,xs,h,j,x,e=>by
  obtain⟨y,r,rfl,h1,h2⟩:=h.uncons
  match j,e with
  |0,e=>cases e;exact⟨d,rfl,h1⟩
  |j+1,e=>exact ip h2 e
theorem ka{H:Hp}{t:bK}{vs:List V}{j:Nat}{x:V}(h:bD H (t.ps.map bK.d) vs)(e:vs[j]?=some x):∃s,t.ps[j]?=some s/\cJ H s.d x:=by
 obtain⟨d,h1,h2⟩:=ip h e;rw[JW]at h1;obtain⟨s,hs,rfl⟩:=Ki.mp h1;exact⟨s,hs,h2⟩
theorem ki{H:Hp}{t:bK}{vs:List V}(h:bD H (t.ps.map bK.d) vs):vs.length=t.ps.length:=by rw[h.length,JU]
theorem DP(x:V)(ys:List V):nA (x::ys) (some 1) none=ys:=by
 unfold nA;rw[show(some 1:Option Int)=some ((1:Nat):Int) from rfl,HT.sIx_nat,HT.sIx_none,KH (by simp)];exact List.take_of_length_le (by simp)
theorem oO(x:V)(ys:List V):¬ (HT.sIx (x::ys).length 0 (some 1)=0/\HT.sIx (x::ys).length (x::ys).length none=(x::ys).length):=by
 rw[show(some 1:Option Int)=some ((1:Nat):Int) from rfl,HT.sIx_nat,KH (by simp)];exact λh=>absurd h.1 nofun
theorem fT{z:Str}{rs:Yaa}{n:Nat}(h:n∈bR z rs):∃q,rs[n]?=some q/\tx q.2.n=z:=by
 unfold bR at h;obtain⟨x,hx,e⟩:=List.mem_filterMap.mp h
 split at e
 ·rename_i hz
  cases e;exact⟨x.1,List.mem_zipIdx_iff_getElem?.mp hx,hz⟩
 ·cases e
theorem yn(S:Nat×RV->Nat)(z:KO):∀(n:Nat) (rs:Yaa),rs.length=n->((bR (tx z) rs).map λi=>(rs[i]?.map S).getD 0).sum=((iu z rs).map S).sum
 |0,rs,h=>by rw[Kx.mp h];rfl
 |n+1,rs,h=>by
  obtain⟨rs',r,rfl⟩:∃rs' r,rs=rs'++[r]:=⟨rs.dropLast,rs.getLast (by intro e;rw[e]at h;cases h),(List.dropLast_concat_getLast _).symm⟩;have hl:rs'.length=n:=by rw[Kd,List.length_singleton]at h;omega
  have ih:=yn S z n rs' hl;rw[qv,J5,List.sum_append];have e1:(bR (tx z) rs').map (λi=>((rs'++[r])[i]?.map S).getD 0)=(bR (tx z) rs').map λi=>(rs'[i]?.map S).getD 0:=List.map_congr_left λi hi=>by
   obtain⟨q,hq,_⟩:=fT hi;rw[Kc (JS.mp hq).1]
  rw[e1,ih];unfold iu;rw[List.filter_append,J5,List.sum_append]
  congr 1
  by_cases hz:r.2.n=z
  ·rw[if_pos (by rw[hz])]
   simp[hz]
  ·rw[if_neg (λe=>hz (gI e))]
   simp[hz]
theorem iZ{q:Nat×RV}{r c:Nat}{k:Int}(h4:q.1<4)(hq:1<=q.2.c)(hr:1<=r)(hc:1<=c)(hr6:r<=6)(hc6:c<=6)(hk:k<=16):(cK q r c k).length<=75:=by
 obtain⟨t,v⟩:=q;have:t=0\/t=1\/t=2\/t=3:=by simp at h4;omega
 simp only at hq;rcases this with rfl | rfl | rfl | rfl
 ·show(if r=1/\c=1/\k=v.c then[[]] else[]).length<=75
  split<;>simp
 ·refine Km (fN (by show k-v.c<=15;omega) _ λz hz=>j7 hr hz) ?_
  rw[iC];omega
 ·refine Km (fN (by show k-v.c<=15;omega) _ λz hz=>kh hc hz) ?_
  rw[iE];omega
 ·show([[_]]:List (List TR)).length<=75
  simp
theorem nO{z:Str}:∀{m:List (Str×List Nat)},z∉m.map (·.1)->m.lookup z=none
 | [],_=>rfl
 |p::m,h=>by
  rw[Kl,J8]at h;have h1:(z==p.1)=false:=beq_eq_false_iff_ne.mpr λe=>h (.inl e);rw[List.lookup_cons,h1];exact nO λq=>h (.inr q)
theorem DU{R:RC}{H:Hp}{t:Nat}{a b:Addr}{v:RV}{p:TR}{Q:VK}{E:XK}(hb:H b=some (.tup (dY p)))(h4:t<4)(ra:iU R H t a v)(r1:1<=p.2.1)(r6:p.2.1<=6)(c1:1<=p.2.2.1)(c6:p.2.2.1<=6)(k16:p.2.2.2<=16)(k1:1<=p.2.2.2)(vc:1<=v.c)(vc9:v.c<=9)(vt:0<=v.t)(q:∀l H',H l=none->fm H H' l (cK (t,v) p.2.1 p.2.2.1 p.2.2.2)->aC H H'->Q (.ref l) H') :
  ∃o,o∈lg R/\∃a_1,V.ref a=V.ref a_1/\∃dx fs,H a_1=some (.ins o.1 dx fs)/\fs.lookup (Str.ofString "part_rows")=none/\∃xs,ba K H b xs/\∃v1,h_ xs 1=some v1/\∃xs,ba K H b xs/\∃v2,h_ xs 2=some v2/\∃xs,ba K H b xs/\∃v3,h_ xs 3=some v3/\o.2 [.ref a,v1,v2,v3] H Q E:=by
 obtain⟨o,ho,dx,fs,e1,e2,e3⟩:=Dj (E:=E) h4 ra r1 r6 c1 c6 k16 k1 vc vc9 vt q;exact⟨o,ho,a,rfl,dx,fs,e1,e2,_,ba.of hb,_,rfl,_,ba.of hb,_,rfl,_,ba.of hb,_,rfl,e3⟩
noncomputable abbrev u3:=Nat×List TR×Nat
noncomputable def cW(rs:Yaa)(p:TR)(i:Nat):List u3:=match rs[i]? with
 |some q=>(cK q p.2.1 p.2.2.1 p.2.2.2).filterMap λps=>if 0<aN (CN rs) ps then some (i,ps,aN (CN rs) ps) else none
 |none=>[]
noncomputable def aT(rs:Yaa)(p:TR):List u3:=if p.2.2.2<fw p.2.1 p.2.2.1 then[] else(bR (tx p.1) rs).flatMap (cW rs p)
noncomputable def bJ(F:TR->List bK):List TR->List (List bK)
 | []=>[[]]
 |p::ps=>(F p).flatMap λt=>(bJ F ps).map (t :: ·)
noncomputable def Fv(rs:Yaa):Nat->TR->List bK
 |0,_=>[]
 |f+1,p=>(aT rs p).flatMap λs=>(bJ (Fv rs f) s.2.1).map (yt (s.1:Int))
noncomputable abbrev RT(rs:Yaa)(p:TR):List bK:=Fv rs 17 p
structure gn(p:TR):Prop where
 r1:1<=p.2.1
 r6:p.2.1<=6
 c1:1<=p.2.2.1
 c6:p.2.2.1<=6
 k16:p.2.2.2<=16
theorem iQ{rs:Yaa}{p:TR}{s:u3}(h:s∈aT rs p):∃q,rs[s.1]?=some q/\q.2.n=p.1/\s.2.1∈cK q p.2.1 p.2.2.1 p.2.2.2/\s.2.2=aN (CN rs) s.2.1/\0<s.2.2/\fw p.2.1 p.2.2.1<=p.2.2.2:=by
 unfold aT at h
 split at h
 ·cases h
 ·rename_i hk
  obtain⟨i,hi,h⟩:=List.mem_flatMap.mp h;obtain⟨q,hq,hn⟩:=fT hi;unfold cW at h;rw[hq]at h;obtain⟨ps,hps,e⟩:=List.mem_filterMap.mp h
  split at e
  ·rename_i h0
   cases e;exact⟨q,hq,gI hn,hps,rfl,h0,⋯⟩
  ·cases e
theorem kc{rs:Yaa}(hg:eM rs){p p':TR}{s:u3}(ok:gn p)(h:s∈aT rs p)(hp:p'∈s.2.1):gn p'/\p'.2.2.2<p.2.2.2:=by
 obtain⟨q,hq,_,hps,_,_,hk⟩:=iQ h;obtain⟨h4,hc,_⟩:=hg q (JX hq);have po:=l8 h4 hc ok.r1 ok.c1 hps hp;have:=ok.r6;have:=ok.c6;have:=ok.k16;have:=po.rm;have:=po.cm;exact⟨⟨po.r1,⋯,po.c1,⋯,by have:=po.lt;omega⟩,po.lt⟩
theorem nU{F G:TR->List bK}:∀{ps:List TR},(∀p∈ps,F p=G p)->bJ F ps=bJ G ps
 | [],_=>rfl
 |p::ps,h=>by
  unfold bJ;rw[h p List.mem_cons_self,nU λp' hp'=>h p' (J9 _ hp')]
theorem jt{α β:Type}{f g:α->List β}:∀{l:List α},(∀x∈l,f x=g x)->l.flatMap f=l.flatMap g
 | [],_=>rfl
 |x::l,h=>by rw[List.flatMap_cons,List.flatMap_cons,h x List.mem_cons_self,jt λy hy=>h y (J9 _ hy)]
theorem zY{rs:Yaa}{p:TR}(ok:gn p)(h:p.2.2.2<1):aT rs p=[]:=by
 unfold aT;rw[if_pos (by have:=cg ok.r1 ok.c1;omega)]
theorem tU{rs:Yaa}{p:TR}(ok:gn p)(h:p.2.2.2<1)(f:Nat):Fv rs f p=[]:=by
 cases f with
 |zero=>rfl
 |succ f=>unfold Fv;rw[zY ok h];rfl
theorem u4{rs:Yaa}(hg:eM rs):∀(f:Nat) (p:TR),gn p->p.2.2.2<(f:Int)+1->Fv rs (f+1) p=Fv rs f p
 |0,p,ok,h=>by rw[tU ok (by simpa using h),tU ok (by simpa using h)]
 |f+1,p,ok,h=>by
  show(aT rs p).flatMap _=(aT rs p).flatMap _;refine jt λs hs=>?_;rw[nU λp' hp'=>?_];obtain⟨ok',lt⟩:=kc hg ok hs hp';exact u4 hg f p' ok' (by push_cast at h;omega)
theorem yj{rs:Yaa}(hg:eM rs){p:TR}(ok:gn p):RT rs p=(aT rs p).flatMap λs=>(bJ (RT rs) s.2.1).map (yt (s.1:Int)):=by
 have:=(u4 hg 17 p ok (by have:=ok.k16;push_cast;omega)).symm;exact this
theorem v4{α β:Type}{f:α->List β}{n:Nat}:∀{l:List α},(∀x,(f x).length=n)->(l.flatMap f).length=l.length*n
 | [],_=>by simp
 |x::l,h=>by rw[List.flatMap_cons,Kd,h x,v4 (l:=l) h,J4,Nat.add_mul];omega
theorem xV{rs:Yaa}{i:Nat}:∀pss:List (List TR),((pss.filterMap λps=>if 0<aN (CN rs) ps then some ((i,ps,aN (CN rs) ps):u3) else none).map λs=>s.2.2).sum=(pss.map λps=>aN (CN rs) ps).sum
 | []=>rfl
 |ps::pss=>by
  rw[List.filterMap_cons,Kl,List.sum_cons]
  by_cases h0:0<aN (CN rs) ps
  ·rw[if_pos h0]
   show((_::_:List u3).map λs=>s.2.2).sum=_;rw[Kl,List.sum_cons,xV pss]
  ·rw[if_neg h0]
   show(List.map _ _).sum=_;rw[xV pss];omega
theorem fR{F:TR->List bK}{g:TR->Nat}:∀{ps:List TR},(∀p∈ps,(F p).length=g p)->(bJ F ps).length=aN g ps:=by
 have key:∀{ps:List TR} (m:Nat),(∀p∈ps,(F p).length=g p)->ps.foldl (λm p=>m*g p) m=m*(bJ F ps).length:=by
  intro ps
  induction ps with
  |nil=>intro m _;unfold bJ;simp
  |cons p ps ih=>
   intro m h;rw[List.foldl_cons,ih _ λp' hp'=>h p' (J9 _ hp')];have:(bJ F (p::ps)).length=(F p).length*(bJ F ps).length:=by
    show((F p).flatMap λt=>(bJ F ps).map (t :: ·)).length=_;rw[v4 (n:=(bJ F ps).length) λt=>by rw[JU]]
   rw[this,h p List.mem_cons_self,Nat.mul_assoc]
 intro ps h;unfold aN;rw[key 1 h,Nat.one_mul]
theorem jV{α β:Type}(f:α->List β):∀l:List α,(l.flatMap f).length=(l.map λx=>(f x).length).sum
 | []=>rfl
 |x::l=>by rw[List.flatMap_cons,Kd,jV f l,Kl,List.sum_cons]
theorem ng{rs:Yaa}(hg:eM rs){p:TR}(ok:gn p):((aT rs p).map λs=>s.2.2).sum=CN rs p:=by
 unfold aT
 by_cases hk:p.2.2.2<fw p.2.1 p.2.2.1
 ·rw[if_pos hk,BG hk];rfl
 rw[if_neg hk];have:=ok.r1;have:=ok.r6;have:=ok.c1;have:=ok.c6;rw[DV hg ok.k16,if_neg ⋯,<- yn (λq=>((cK q p.2.1 p.2.2.1 p.2.2.2).map λps=>aN (CN rs) ps).sum) p.1 _ rs rfl,nY]
 congr 1
 refine List.map_congr_left λi hi=>?_;obtain⟨q,hq,_⟩:=fT hi;rw[hq];show((cW rs p i).map λs=>s.2.2).sum=((cK q p.2.1 p.2.2.1 p.2.2.2).map λps=>aN (CN rs) ps).sum;have e:cW rs p i=(cK q p.2.1 p.2.2.1 p.2.2.2).filterMap λps=>if 0<aN (CN rs) ps then some (i,ps,aN (CN rs) ps) else none:=by unfold cW;rw[hq]
 rw[e,xV]
theorem B4{rs:Yaa}(hg:eM rs):∀(f:Nat) (p:TR),gn p->p.2.2.2<(f:Int)->(RT rs p).length=CN rs p
 |0,p,ok,h=>by
  show(Fv rs 17 p).length=_;rw[tU ok (by simp at h;omega),BG (by have:=cg ok.r1 ok.c1;simp at h;omega)];rfl
 |f+1,p,ok,h=>by
  rw[yj hg ok,jV,<- ng hg ok]
  congr 1
  refine List.map_congr_left λs hs=>?_;obtain⟨q,hq,_,hps,e,_⟩:=iQ hs;rw[JU,fR (g:=CN rs) λp' hp'=>?_,e];obtain⟨ok',lt⟩:=kc hg ok hs hp';exact B4 hg f p' ok' (by push_cast at h;omega)
theorem cH{rs:Yaa}(hg:eM rs){p:TR}(ok:gn p):(RT rs p).length=CN rs p:=B4 hg 17 p ok (by have:=ok.k16;push_cast;omega)
theorem vV{α β:Type}{f:α->List β}{l:List α}{i:Nat}{x:α}(hx:l[i]?=some x){j:Nat}(hj:j<(f x).length):(l.flatMap f)[((l.take i).map λy=>(f y).length).sum+j]?=(f x)[j]?:=by
 obtain⟨hi,e⟩:=JS.mp hx;have e2:l=l.take i++x::l.drop (i+1):=by rw[<- e,<- List.drop_eq_getElem_cons hi,List.take_append_drop]
 have e3:l.flatMap f=(l.take i).flatMap f++(f x++(l.drop (i+1)).flatMap f):=by
  conv=>lhs;rw[e2]
  rw[List.flatMap_append,List.flatMap_cons]
 rw[e3,<- jV,Kb ⋯,Nat.add_sub_cancel_left,Kc hj]
theorem rW{α:Type}(g:α->Nat):∀(l:List α) (i:Nat) (x:α),l[i]?=some x->((l.take (i+1)).map g).sum=((l.take i).map g).sum+g x:=by
 intro l i x h;rw[List.take_add_one,h,J5,List.sum_append];simp
theorem ig{F:TR->List bK}{p:TR}(k:Nat):(bJ F [p])[k]?=(F p)[k]?.map λt=>[t]:=by
 unfold bJ bJ;have:((F p).flatMap λt=>([[]]:List (List bK)).map (t :: ·))=(F p).map λt=>[t]:=by
  induction F p with
  |nil=>rfl
  |cons t l ih=>rw[List.flatMap_cons,ih];rfl
 rw[this,JW]
theorem yc{α β:Type}{f:α->List β}{n:Nat}(hn:∀x,(f x).length=n):∀{l:List α} {k:Nat} {x:α} {y:β},l[k/n]?=some x->(f x)[k%n]?=some y->(l.flatMap f)[k]?=some y:=by
 intro l k x y h1 h2
 by_cases h0:n=0
 ·subst h0
  have:=hn x;rw[Kx.mp this]at h2;simp at h2
 have hs:((l.take (k/n)).map λy=>(f y).length).sum=k/n*n:=by
  have hl:(l.take (k/n)).length=k/n:=by rw[Ku];have:=(JS.mp h1).1;omega
  have:∀m:List α,(m.map λy=>(f y).length).sum=m.length*n:=by
   intro m
   induction m with
   |nil=>simp
   |cons z m ih=>rw[Kl,List.sum_cons,ih,hn,J4,Nat.add_mul];omega
  rw[this,hl]
 have hj:k%n<(f x).length:=by rw[hn];exact Nat.mod_lt _ ⋯
 have:=vV h1 hj;rw[hs,h2]at this;rw[show k/n*n+k%n=k by rw[Nat.mul_comm];exact Nat.div_add_mod k n]at this;exact this
theorem rS{F:TR->List bK}{p1 p2:TR}{k:Nat}{t1 t2:bK}(h1:(F p1)[k/(F p2).length]?=some t1)(h2:(F p2)[k%(F p2).length]?=some t2):(bJ F [p1,p2])[k]?=some [t1,t2]:=by
 show((F p1).flatMap λt=>(bJ F [p2]).map (t :: ·))[k]?=_;have hl:(bJ F [p2]).length=(F p2).length:=by
  rw[fR (g:=λp=>(F p).length) λ_ _=>rfl];simp[aN]
 refine yc (n:=(F p2).length) (λt=>by rw[JU,hl]) h1 ?_;rw[JW,ig,h2];rfl
theorem BN{rs:Yaa}(hg:eM rs){p:TR}(ok:gn p){i:Nat}{s:u3}(hs:(aT rs p)[i]?=some s){j:Nat}{ts:List bK}(hj:(bJ (RT rs) s.2.1)[j]?=some ts):(RT rs p)[(((aT rs p).take i).map λs=>s.2.2).sum+j]?=some (yt (s.1:Int) ts):=by
 rw[yj hg ok];have hl:∀s∈aT rs p,((bJ (RT rs) s.2.1).map (yt (s.1:Int))).length=s.2.2:=λs hs=>by
  obtain⟨q,hq,_,hps,e,_⟩:=iQ hs;rw[JU,fR (g:=CN rs) λp' hp'=>cH hg (kc hg ok hs hp').1,e]
 have e:(((aT rs p).take i).map λs=>s.2.2)=((aT rs p).take i).map λs=>((bJ (RT rs) s.2.1).map (yt (s.1:Int))).length:=List.map_congr_left λs hs=>(hl s (List.mem_of_mem_take hs)).symm;rw[e,vV (f:=λs:u3=>(bJ (RT rs) s.2.1).map (yt (s.1:Int))) hs (by rw[JU];exact(JS.mp hj).1),JW,hj]
 rfl
noncomputable def cv(H0 H:Hp)(l:Addr)(ss:List u3):Prop:=H0 l=none/\∃ts:List Addr,H l=some (.lst (ts.map V.ref))/\ts.length=ss.length/\∀(i:Nat) t s,ts[i]?=some t->ss[i]?=some s->∃rl,(H0 rl=none/\rl≠l)/\H t=some (.tup [.int (s.1:Int),.ref rl,.int (s.2.2:Int)])/\pB H rl s.2.1
theorem cv.kp{H0 H H':Hp}{l:Addr}{ms:List u3}(h:cv H0 H l ms)(s:Kp H H'):cv H0 H' l ms:=by
 obtain⟨h0,ts,h1,h2,h3⟩:=h;refine⟨h0,ts,s.lst h1,h2,λi t x e1 e2=>?_⟩;obtain⟨rl,hn,e,hT⟩:=h3 i t x e1 e2;exact⟨rl,hn,s.tup e,hT.kp s⟩
theorem cv.nil{H0 H:Hp}{l:Addr}(h0:H0 l=none)(h:H l=some (.lst [])):cv H0 H l []:=⟨h0,[],h,rfl,λi a ps e=>by simp at e⟩
theorem cv.app{H0 H:Hp}{l t rl:Addr}{ms:List u3}{x:u3}{xs:List V}(h:cv H0 H l ms)(hx:H l=some (.lst xs))(ht:H t=some (.tup [.int (x.1:Int),.ref rl,.int (x.2.2:Int)]))(hT:pB H rl x.2.1)(hn:H0 rl=none/\rl≠l):cv H0 (aA H l (.lst (xs++[V.ref t]))) l (ms++[x]):=by
 obtain⟨h0,ts,h1,h2,h3⟩:=h;rw[hx]at h1;cases h1;have hold:∀t' o,H t'=some (.tup o)->aA H l (.lst (ts.map V.ref++[V.ref t])) t'=some (.tup o):=λt' o e=>by rw[am (λz=>by rw[z,hx]at e;cases e)];exact e
 refine⟨h0,ts++[t],by rw[ac,J5];rfl,by rw[Kd,Kd,h2];rfl,λi b y e1 e2=>?_⟩
 by_cases hi:i<ts.length
 ·rw[Kc hi]at e1
  rw[Kc ⋯]at e2;obtain⟨rl',hn',e,hT'⟩:=h3 i b y e1 e2;exact⟨rl',hn',hold _ _ e,hT'.put hn'.2 ⟨_,hx⟩⟩
 ·have hi2:i=ts.length:=by
   have:=(JS.mp e1).1;simp at this;omega
  subst hi2;rw[Kb (Ke _),Nat.sub_self]at e1;rw[h2,Kb (Ke _),Nat.sub_self]at e2;cases e1;cases e2
  exact⟨rl,hn,hold _ _ ht,hT.put hn.2 ⟨_,hx⟩⟩
theorem cv.len{H0 H:Hp}{l:Addr}{ms:List u3}{xs:List V}(h:cv H0 H l ms)(hx:H l=some (.lst xs)):xs.length=ms.length:=by
 obtain⟨_,ts,h1,h2,_⟩:=h;rw[hx]at h1;cases h1;rw[JU,h2]
noncomputable def Fc(H:Hp)(l:Addr)(ps:List TR):Prop:=∃(bs:KR) (o:Obj),H l=some (.frz o (.lst (bs.map V.ref)))/\bs.length=ps.length/\∀(i:Nat) b p,bs[i]?=some b->ps[i]?=some p->H b=some (.tup (dY p))
noncomputable def jA(H:Hp)(l:Addr)(ss:List u3):Prop:=∃(ts:KR) (o:Obj),H l=some (.frz o (.lst (ts.map V.ref)))/\ts.length=ss.length/\∀(i:Nat) t s,ts[i]?=some t->ss[i]?=some s->∃rl,H t=some (.tup [.int (s.1:Int),.ref rl,.int (s.2.2:Int)])/\Fc H rl s.2.1
noncomputable def uZ(H H':Hp):Prop:=(∀x o u,H x=some (.frz o u)->H' x=some (.frz o u))/\∀x xs,H x=some (.tup xs)->H' x=some (.tup xs)
theorem Kp.z{H H':Hp}(s:Kp H H'):uZ H H':=⟨λx o u e=>s _ _ id e,λx xs e=>s _ _ id e⟩
theorem uZ.trans{H H1 H2:Hp}(a:uZ H H1)(b:uZ H1 H2):uZ H H2:=⟨λx o u e=>b.1 x o u (a.1 x o u e),λx xs e=>b.2 x xs (a.2 x xs e)⟩
theorem uZ.put{H:Hp}{l:Addr}{xs:List V}{o:HO}(h:H l=some (.lst xs)):uZ H (aA H l o):=⟨λx o u e=>by rw[am (λz=>by rw[z,h]at e;cases e)];exact e,λx ys e=>by rw[am (λz=>by rw[z,h]at e;cases e)];exact e⟩
theorem uZ.frz{H:Hp}{ls:KR}{os:Addr->Obj}:uZ H (cL H ls os):=⟨λx o u e=>fO e (.inr λxs z=>by cases z),λx xs e=>fO e (.inr λxs z=>by cases z)⟩
theorem Fc.kz{H H':Hp}{l:Addr}{ps:List TR}(h:Fc H l ps)(s:uZ H H'):Fc H' l ps:=by
 obtain⟨bs,o,h1,h2,h3⟩:=h;exact⟨bs,o,s.1 _ _ _ h1,h2,λi b p e1 e2=>s.2 _ _ (h3 i b p e1 e2)⟩
theorem jA.kz{H H':Hp}{l:Addr}{ms:List u3}(h:jA H l ms)(s:uZ H H'):jA H' l ms:=by
 obtain⟨ts,o,h1,h2,h3⟩:=h;refine⟨ts,o,s.1 _ _ _ h1,h2,λi t x e1 e2=>?_⟩;obtain⟨rl,e,hT⟩:=h3 i t x e1 e2;exact⟨rl,s.2 _ _ e,hT.kz s⟩
noncomputable def Df(H:Hp)(t:Addr):Option Addr:=match H t with
 |some (.tup [_,.ref rl,_])=>some rl
 |_=>none
theorem cv.known{H0 H:Hp}{l:Addr}{ss:List u3}(h:cv H0 H l ss):∃ls:List Addr,(∀x∈ls,∃xs,H x=some (.lst xs))/\(∀x∈ls,H0 x=none)/\∀os,jA (cL H ls os) l ss:=by
 obtain⟨h0,ts,h1,h2,h3⟩:=h;have mem:∀x∈ts.filterMap (Df H),(∃xs,H x=some (.lst xs))/\H0 x=none:=λx hx=>by
  obtain⟨t,ht,e⟩:=List.mem_filterMap.mp hx;obtain⟨i,hi⟩:=List.getElem?_of_mem ht;obtain⟨rl,hn,e2,hT⟩:=h3 i t (ss[i]'(by rw[<- h2];exact(JS.mp hi).1)) hi (JR _);unfold Df at e;rw[e2]at e;cases e;obtain⟨bs,hb,_⟩:=hT;exact⟨⟨_,hb⟩,hn.1⟩
 refine⟨l::ts.filterMap (Df H),λx hx=>?_,λx hx=>?_,λos=>?_⟩
 ·rcases J8.mp hx with rfl | hx
  ·exact⟨_,h1⟩
  ·exact(mem x hx).1
 ·rcases J8.mp hx with rfl | hx
  ·exact h0
  ·exact(mem x hx).2
 ·refine⟨ts,_,wD h1 (List.mem_cons_self ..),h2,λi t s e1 e2=>?_⟩
  obtain⟨rl,hn,e,hT⟩:=h3 i t s e1 e2;have hm:rl∈ts.filterMap (Df H):=List.mem_filterMap.mpr ⟨t,JX e1,by unfold Df;rw[e]⟩;obtain⟨bs,hb,hl,hb3⟩:=hT;exact⟨rl,uZ.frz.2 _ _ e,bs,_,wD hb (J9 _ hm),hl,λi b p x1 x2=>uZ.frz.2 _ _ (hb3 i b p x1 x2)⟩
noncomputable def fb(H:Hp)(rs:Yaa)(m1:List (List cS×V)):Prop:=∀(p:TR) v,ce m1 (cZ p)=some v->∃l,v=.ref l/\jA H l (aT rs p)
theorem fb.kz{H H':Hp}{rs:Yaa}{m1:List (List cS×V)}(h:fb H rs m1)(s:uZ H H'):fb H' rs m1:=λp v e=>by
 obtain⟨l,e2,h2⟩:=h p v e;exact⟨l,e2,h2.kz s⟩
theorem fb.kp{H H':Hp}{rs:Yaa}{m1:List (List cS×V)}(h:fb H rs m1)(s:Kp H H'):fb H' rs m1:=h.kz s.z
theorem m8{rs:Yaa}(hg:eM rs){p:TR}(ok:gn p)(h24:rs.length<=24):(aT rs p).length<=1800:=by
 unfold aT
 split
 ·simp
 ·rw[jV]
  refine Km (mB _ 75 _ λi hi=>?_) ?_
  ·obtain⟨q,hq,_⟩:=fT hi
   obtain⟨h4,hc,_⟩:=hg q (JX hq);unfold cW;rw[hq];exact Km (List.length_filterMap_le _ _) (iZ h4 hc ok.r1 ok.c1 ok.r6 ok.c6 ok.k16)
  ·have:=rJ (tx p.1) rs
   omega
noncomputable def FZ(g d1 d2:Addr):List (Str×V):=[("grammar",.ref g),("steps",.ref d1),("totals",.ref d2)]
structure qW(st:KO)(rs:Yaa)(m:Nat)(p:TR):Prop where
 nm:tx p.1∈(a_ (tx st) rs).map (·.1)
 r1:1<=p.2.1
 rm:p.2.1<=m
 c1:1<=p.2.2.1
 cm:p.2.2.1<=m
 k0:-8<=p.2.2.2
 k16:p.2.2.2<=16
theorem qK{α:Type}[DecidableEq α]:∀{l L:List α},l.Nodup->(∀x∈l,x∈L)->l.length<=L.length
 | [],_,_,_=>Kf _
 |x::l,L,hn,hs=>by
  have hx:x∈L:=hs x List.mem_cons_self;rw[List.nodup_cons]at hn;have:=qK (l:=l) (L:=L.erase x) hn.2 λy hy=>(List.mem_erase_of_ne λe=>hn.1 (by rw[<- e];exact hy)).mpr (hs y (J9 _ hy));rw[List.length_erase_of_mem hx]at this;have:=List.length_pos_of_mem hx;rw[J4];omega
theorem gC{α β:Type}{f:α->List β}{n:Nat}:∀{l:List α},(∀x,(f x).length=n)->(l.flatMap f).length=l.length*n
 | [],_=>by simp
 |x::l,h=>by rw[List.flatMap_cons,Kd,h x,gC (l:=l) h,J4,Nat.add_mul];omega
noncomputable def AI(zs:KY):List (List cS):=zs.flatMap λz=>(List.range 7).flatMap fun(r:Nat)=>(List.range 7).flatMap fun(c:Nat)=>(List.range 25).map fun(j:Nat)=>[.inr z,.inl (r:Int),.inl (c:Int),.inl ((j:Int)-8)]
theorem Be(zs:KY):(AI zs).length=zs.length*(7*(7*25)):=
 gC λz=>(gC λr=>(gC λc=>by rw[JU,List.length_range]).trans (by rw[List.length_range])).trans (by rw[List.length_range])
theorem BF{st:KO}{rs:Yaa}{m:Nat}{p:TR}(d:qW st rs m p)(h6:m<=6):cZ p∈AI ((a_ (tx st) rs).map (·.1)):=by
 have:=d.rm;have:=d.cm;have:=d.k0;have:=d.k16;refine List.mem_flatMap.mpr ⟨_,d.nm,List.mem_flatMap.mpr ⟨p.2.1,List.mem_range.mpr ⋯,List.mem_flatMap.mpr ⟨p.2.2.1,List.mem_range.mpr ⋯,Ky.mpr ⟨(p.2.2.2+8).toNat,List.mem_range.mpr ⋯,?_⟩⟩⟩⟩;unfold cZ;rw[show(((p.2.2.2+8).toNat:Int)-8)=p.2.2.2 by omega]
structure qf(st:KO)(rs:Yaa)(m:Nat)(m1 m2:List (List cS×V)):Prop where
 n1:(m1.map (·.1)).Nodup
 n2:(m2.map (·.1)).Nodup
 k1:∀k∈m1.map (·.1),k∈AI ((a_ (tx st) rs).map (·.1))
 k2:∀k∈m2.map (·.1),k∈AI ((a_ (tx st) rs).map (·.1))
 ok:∀p:TR,(ce m1 (cZ p)).isSome=true->ce m2 (cZ p)=some (.int (CN rs p:Nat))
theorem qf.len{st:KO}{rs:Yaa}{m:Nat}{m1 m2:List (List cS×V)}(h:qf st rs m m1 m2)(hz:(a_ (tx st) rs).length<=100):m1.length<sizeLine/\m2.length<sizeLine:=by
 have h1:=qK h.n1 h.k1;have h2:=qK h.n2 h.k2;rw[Be,JU,JU]at h1 h2;exact⟨bd ⋯,bd ⋯⟩
structure g_(R:RC)(CG CT:Addr)(H:Hp)(a dx g dg d1 d2:Addr)(sg st:KO)(as:KR)(rs:Yaa)(m:Nat):Prop where
 at_:H a=some (.ins CT dx (FZ g d1 d2))
 ne:d1≠d2
 gr:dA R H CG dg g sg st as rs
 gc:eM rs
 gt:∀q∈rs,0<=q.2.t
 sm:∀p:TR,p.2.1<=m->p.2.2.1<=m->p.2.2.2<=7->CN rs p<2 ^ 64
 m6:m<=6
 n24:rs.length<=24
 nz:(a_ (tx st) rs).length<=100
 mm:∃m1 m2,H d1=some (.dT m1)/\H d2=some (.dT m2)/\qf st rs m m1 m2/\fb H rs m1
section
variable {R:RC}{CG CT:Addr}{H H':Hp}{a dx g dg d1 d2:Addr}{sg st:KO}{as:KR}{rs:Yaa}{m:Nat}
theorem g_.kp(e:g_ R CG CT H a dx g dg d1 d2 sg st as rs m)(s:b8 d1 d2 H H'):Kp H H':=λx o ho hx=>by
 obtain⟨m1,m2,h1,h2,_⟩:=e.mm;refine s x o (λz=>?_) (λz=>?_) hx
 ·rw[z,h1]at hx;cases hx;exact ho trivial
 ·rw[z,h2]at hx;cases hx;exact ho trivial
theorem g_.next(e:g_ R CG CT H a dx g dg d1 d2 sg st as rs m)(s:b8 d1 d2 H H')(mm:∃m1 m2,H' d1=some (.dT m1)/\H' d2=some (.dT m2)/\qf st rs m m1 m2/\fb H' rs m1):g_ R CG CT H' a dx g dg d1 d2 sg st as rs m:=
 ⟨(e.kp s).ins e.at_,e.ne,e.gr.kp (e.kp s),e.gc,e.gt,e.sm,e.m6,e.n24,e.nz,mm⟩
theorem g_.fresh(e:g_ R CG CT H a dx g dg d1 d2 sg st as rs m)(s:b8 d1 d2 H H')(mm:∃m1 m2,H' d1=some (.dT m1)/\H' d2=some (.dT m2)/\qf st rs m m1 m2/\fb H' rs m1){x:Addr}(hx:H' x=none):H x=none:=by
 cases hh:H x with
 |none=>rfl
 |some o=>
  obtain⟨m1,m2,h1,h2,_⟩:=mm;have:=s x o (λz=>by rw[z,h1]at hx;cases hx) (λz=>by rw[z,h2]at hx;cases hx) hh;rw[this]at hx;cases hx
theorem g_.up(e:g_ R CG CT H a dx g dg d1 d2 sg st as rs m)(s:aC H H'):g_ R CG CT H' a dx g dg d1 d2 sg st as rs m:=by
 obtain⟨m1,m2,h1,h2,h3,h4⟩:=e.mm;exact e.next (.of s) ⟨m1,m2,s _ _ h1,s _ _ h2,h3,h4.kp (.of s)⟩
end
theorem AY{st:KO}{rs:Yaa}{q:Nat×RV}(hq:q∈rs)(h4:q.1<4){z:KO}(hz:z∈bi q.1 q.2):tx z∈(a_ (tx st) rs).map (·.1):=
 (pr _ _ _).mpr (.inr ⟨(tx q.2.n,(bi q.1 q.2).map tx),by unfold Fz;exact List.mem_map_of_mem (f:=λr:Nat×RV=>(tx r.2.n,(bi r.1 r.2).map tx)) hq,.inr (List.mem_map_of_mem hz)⟩)
theorem qW.part{st:KO}{rs:Yaa}{m:Nat}{p p':TR}{q:Nat×RV}{ps:List TR}(d:qW st rs m p)(gc:eM rs)(hq:q∈rs)(k1:1<=p.2.2.2)(h:ps∈cK q p.2.1 p.2.2.1 p.2.2.2)(hp:p'∈ps):qW st rs m p'/\p'.2.2.2<p.2.2.2:=by
 obtain⟨h4,hc,hc9⟩:=gc q hq;have po:=l8 h4 hc d.r1 d.c1 h hp;have:=d.rm;have:=d.cm;have:=d.k16;have:=po.rm;have:=po.cm;have lt:=po.lt;refine⟨⟨?_,po.r1,⋯,po.c1,⋯,?_,⋯⟩,lt⟩
 ·have mem:p'.1∈bi q.1 q.2:=by
   rcases dM h4 d.r1 d.c1 h with rfl | ⟨p2,rfl,e1,e2,e3⟩ | ⟨hk,z,f,sz,f1,f2,rfl⟩
   ·cases hp
   ·rw[JV.mp hp,e1]
    have:q.1=0\/q.1=1\/q.1=2\/q.1=3:=by omega
    rcases this with e | e | e | e
    ·exfalso
     unfold cK at h;rw[e]at h;simp only at h
     split at h
     ·simp at h
     ·simp at h
    ·rw[e];simp[bi]
    ·rw[e];simp[bi]
    ·rw[e];simp[bi]
   ·have hpk:bi q.1 q.2=[q.2.o1,q.2.o2]:=by rcases hk with e | e<;>rw[e]<;>rfl
    rw[hpk];rcases(show p'=_\/p'=_ by simpa using hp) with rfl | rfl<;>simp
  exact AY hq h4 mem
 ·rcases po.ge with h | h<;>omega
noncomputable abbrev dZ(st:KO)(rs:Yaa)(m:Nat)(H:Hp)(d1 d2:Addr):Prop:=∃m1 m2,H d1=some (.dT m1)/\H d2=some (.dT m2)/\qf st rs m m1 m2/\fb H rs m1
noncomputable def bq(R:RC)(CG CT CN_:Addr)(n:Nat):Sp:=λvs H Q E=>∃(a dx g dg d1 d2 b:Addr) (sg st:KO) (as:KR) (rs:Yaa) (m:Nat) (p:TR),vs=[.ref a,.ref b]/\g_ R CG CT H a dx g dg d1 d2 sg st as rs m/\H b=some (.tup (dY p))/\((qW st rs m p/\0<n/\p.2.2.2<(n:Int) /\
 (∀H',b8 d1 d2 H H'->dZ st rs m H' d1 d2->Q (.int (CN rs p:Nat)) H'))\/(0<n/\tx p.1∉(a_ (tx st) rs).map (·.1)/\E (.ref CN_) none H))
noncomputable def bN(R:RC)(CG CT CN_:Addr)(n:Nat):Sp:=λvs H Q E=>∃(a dx g dg d1 d2 b:Addr) (sg st:KO) (as:KR) (rs:Yaa) (m:Nat) (p:TR),vs=[.ref a,.ref b]/\g_ R CG CT H a dx g dg d1 d2 sg st as rs m/\H b=some (.tup (dY p))/\((qW st rs m p/\0<n/\p.2.2.2<(n:Int) /\
 (∀l H',b8 d1 d2 H H'->dZ st rs m H' d1 d2->(∃m2,H' d2=some (.dT m2)/\ce m2 (cZ p)=some (.int (CN rs p:Nat)))->jA H' l (aT rs p)->Q (.ref l) H'))\/(0<n/\tx p.1∉(a_ (tx st) rs).map (·.1)/\E (.ref CN_) none H))
noncomputable def eC(R:RC)(CG CT CN_:Addr)(n:Nat):Sp:=λvs H Q E=>∃(a dx g dg d1 d2 b:Addr) (sg st:KO) (as:KR) (rs:Yaa) (m:Nat) (p:TR),vs=[.ref a,.ref b]/\g_ R CG CT H a dx g dg d1 d2 sg st as rs m/\H b=some (.tup (dY p))/\((qW st rs m p/\0<n/\p.2.2.2<(n:Int) /\
 (∀l H',b8 d1 d2 H H'->dZ st rs m H' d1 d2->cv H H' l (aT rs p)->Q (.ref l) H'))\/(0<n/\tx p.1∉(a_ (tx st) rs).map (·.1)/\E (.ref CN_) none H))
noncomputable def cE(R:RC)(CG CT:Addr)(n:Nat):Sp:=λvs H Q _=>∃(a dx g dg d1 d2 l:Addr) (sg st:KO) (as:KR) (rs:Yaa) (m:Nat) (ps:List TR),vs=[.ref a,.ref l]/\g_ R CG CT H a dx g dg d1 d2 sg st as rs m/\pB H l ps/\(∀p∈ps,qW st rs m p/\0<n/\p.2.2.2<(n:Int))/\ps.length<=2/\(∀p1 p2,ps=[p1,p2]->p1.2.2.2<=7\/p2.2.2.2<=7) /\
 ∀H',b8 d1 d2 H H'->dZ st rs m H' d1 d2->Q (.int (aN (CN rs) ps:Nat)) H'
theorem w8{c:TT}{t u:TS}{D:iP}{σ:St}{H:Hp}(h:∀t' u',t'=t->u'=u->CY c t' u' D σ H):CY c t u D σ H:=h t u rfl rfl
theorem qW.row{st:KO}{rs:Yaa}{m:Nat}{p:TR}(d:qW st rs m p)(h6:m<=6):gn p:=⟨d.r1,by have:=d.rm;omega,d.c1,by have:=d.cm;omega,d.k16⟩
noncomputable abbrev fQ:Stmt:=eQ 40 0
noncomputable def gj(K:W.Frag):Sp:=λvs H Q _=>∃(a C dx g:Addr),vs=[.ref a,.ref g]/\H a=some (.ins C dx [])/\lT K C/\(au K C "grammar"/\au K C "steps"/\au K C "totals") /\
 ∀d1 d2 H',H d1=none->H d2=none->d1≠d2->H' a=some (.ins C dx (FZ g d1 d2))->H' d1=some (.dT [])->H' d2=some (.dT [])->bQ a H H'->Q .non H'
theorem wM:az ["self","grammar"] ["self","grammar"] (ah fQ):=by walk_at "c"
theorem wB{f:Addr}{fd:KU}(F:cw K "__init__" "TreeRows.__init__" fQ f fd)(nb:NB mg):aQ P w K mg base bC 1 f fd ["self","grammar"] (gj K):=by
 have sc:=wM;walk_at "f"
 ·obtain⟨a,C,dx,g,rfl,_⟩:=h;rfl
 ·obtain⟨a,C,dx,g,rfl,ha,cl,⟨n1,n2,n3⟩,q⟩:=h
  refine⟨_,(af (cY (al 0) (al 1) rfl)
   (af (cY (al 0) wq rfl)
   (ai (cY (al 0) wq rfl)))),?_⟩
  walk_at "n";refine⟨C,dx,_,ha,cl,n1,by simp,h1 _ _ ?_⟩;clear h1;have sx2:bQ a H (aA H a (.ins C dx [("grammar",.ref g)])):=(bQ.of (aC.refl _)).put;have ea2:aA H a (.ins C dx [("grammar",.ref g)]) a=some (.ins C dx [("grammar",.ref g)]):=ac;change xF _ _ _ _ (aA H a (.ins C dx [("grammar",.ref g)]));generalize aA H a (.ins C dx [("grammar",.ref g)])=H2 at sx2 ea2 ⊢;walk_at "n";intro d1 hd1;have hda:d1≠a:=λe=>by rw[e,ea2]at hd1;cases hd1
  have t1:¬ (("grammar":Str)="steps"):=by decide +kernel
  have e3:cI "steps" (V.ref d1) [(("grammar":Str),V.ref g)]=[(("grammar":Str),V.ref g),(("steps":Str),V.ref d1)]:=by simp only[cI,if_neg t1]
  refine⟨C,dx,_,ae hd1 _ _ ea2,cl,n2,by simp,?_⟩;rw[e3];refine h1 _ _ ?_;clear h1;have f1:H d1=none:=by
   cases e:H d1 with
   |none=>rfl
   |some u=>rw[sx2 _ _ hda e]at hd1;cases hd1
  have sx3:bQ a H (aA (aA H2 d1 (.dT [])) a (.ins C dx [("grammar",.ref g),("steps",.ref d1)])):=(sx2.then (ae hd1)).put;have ea3:aA (aA H2 d1 (.dT [])) a (.ins C dx [("grammar",.ref g),("steps",.ref d1)]) a=some (.ins C dx [("grammar",.ref g),("steps",.ref d1)]):=ac;have ed3:aA (aA H2 d1 (.dT [])) a (.ins C dx [("grammar",.ref g),("steps",.ref d1)]) d1=some (.dT []):=by rw[am hda,ac]
  generalize aA (aA H2 d1 (.dT [])) a (.ins C dx [("grammar",.ref g),("steps",.ref d1)])=H3 at sx3 ea3 ed3 ⊢;walk_at "wp";intro d2 hd2;have hda2:d2≠a:=λe=>by rw[e,ea3]at hd2;cases hd2
  have hdd:d1≠d2:=λe=>by rw[<- e,ed3]at hd2;cases hd2
  have t2:¬ (("grammar":Str)="totals"):=by decide +kernel
  have t3:¬ (("steps":Str)="totals"):=by decide +kernel
  have e4:cI "totals" (V.ref d2) [(("grammar":Str),V.ref g),(("steps":Str),V.ref d1)]=FZ g d1 d2:=by unfold FZ;simp only[cI,if_neg t2,if_neg t3]
  refine⟨C,dx,_,ae hd2 _ _ ea3,cl,n3,by simp,?_⟩;rw[e4];have f2:H d2=none:=by
   cases e:H d2 with
   |none=>rfl
   |some u=>rw[sx3 _ _ hda2 e]at hd2;cases hd2
  exact q d1 d2 _ f1 f2 hdd ac (by rw[am hda,am hdd];exact ed3) (by rw[am hda2,ac]) ((sx3.then (ae hd2)).put)
theorem vB(f:TR->Nat)(ps:List TR)(p:TR):aN f (ps++[p])=aN f ps*f p:=by
 unfold aN;rw[List.foldl_append];rfl
noncomputable abbrev bh:Stmt:=eQ 40 4
theorem kD:az ["self","rows","many","row"] ["self","rows"] (ah bh):=by walk_at "c"
theorem fC{R:RC}{f CG CT CN_:Addr}{fd:KU}{n:Nat}(F:cw K "many_together" "TreeRows.many_together" bh f fd)(nb:NB mg)(yaf:b6 P w K mg base (bE P w) (4*n+4) CT "many_in" ["self","row"] (bq R CG CT CN_ n)) :
  aQ P w K mg base (bE P w) (4*n+5) f fd ["self","rows"] (cE R CG CT n):=by
 have sc:=kD;walk_at "x"
 ·obtain⟨a,dx,g,dg,d1,d2,l,sg,st,as,rs,m,ps,rfl,_⟩:=h;rfl
 ·obtain⟨a,dx,g,dg,d1,d2,l,sg,st,as,rs,m,ps,rfl,te,⟨bs,hl,hbl,hbs⟩,hd,h2,h7,q⟩:=h
  have hu:=hr.units;refine⟨_,(af (aF (i:=2) sc.nd rfl (Or.inl rfl) aj)
   (af (bu PassesOwn.leaving rfl (cD (al 1)) (aw (i:=3) sc.nd rfl (Or.inl rfl))
   (ai (bF (aM (bf.m0 k8) (al 2) aj (aS _))
   (ai (aF (i:=2) sc.nd rfl (Or.inl rfl) (ay (bf.m1 eX) (al 2) (bV yaf (hr.mono ⋯) (aX λ_ _ _ h=>h) (al 0) (aa (al 3) ad)))))
   aO)))
   (ai (aI (al 2))))),?_⟩
  walk_at "n";refine h1 _ _ ?_;walk_at "nc";refine⟨⟨_,aU.of hl⟩,?_⟩;refine dh (xs:=bs.map V.ref) (λi σ H'=>b8 d1 d2 H H'/\i<=bs.length/\dZ st rs m H' d1 d2/\∃x,σ=[some (V.ref a),some (V.ref l),some (V.int (aN (CN rs) (ps.take i):Nat)),x]) ⟨λ_ _ _ _ e=>e,Kf _,te.mm,_,rfl⟩ (λi σ H' _ h=>aU.of ((te.kp h.1).lst hl)) ?_ ?_
  ·rintro i x σ H' hx ⟨sd,hi,mm,y,rfl⟩
   have hlt:i<bs.length:=by have:=(JS.mp hx).1;rwa [JU]at this
   rw[JW,JR hlt]at hx;cases hx;have hpi:ps[i]?=some (ps[i]'⋯):=JR ⋯;have hb:=hbs i bs[i] _ (JR hlt) hpi;obtain⟨dp,n0,pn⟩:=hd _ (J1 (show i<ps.length by omega));have hsn:aN (CN rs) (ps.take (i+1))=aN (CN rs) (ps.take i)*CN rs (ps[i]'⋯):=by rw[List.take_add_one,hpi];exact vB _ _ _
   have te':=te.next sd mm;walk_at "wp"
   by_cases h0:0<aN (CN rs) (ps.take i)
   ·rw[if_pos ⋯]
    refine⟨dx,_,te'.at_,rfl,a,dx,g,dg,d1,d2,bs[i],sg,st,as,rs,m,_,rfl,te',(te.kp sd).tup hb,.inl ⟨dp,n0,pn,λH2 s2 mm2=>⟨_,rfl,?_,sd.trans s2,hlt,mm2,?_⟩⟩⟩
    ·have hi2:i=0\/i=1:=by omega
     rcases hi2 with rfl | rfl
     ·left;simp[aN]
     ·obtain⟨p1,p2,rfl⟩:∃p1 p2,ps=[p1,p2]:=by
       match ps,h2,(show 1<ps.length by omega) with
       | [p1,p2],_,_=>exact⟨p1,p2,rfl⟩
      have dp1:=(hd p1 List.mem_cons_self).1;rcases h7 p1 p2 rfl with h | h
      ·left
       have:=te.sm p1 dp1.rm dp1.cm h;have e1:aN (CN rs) (List.take 1 [p1,p2])=CN rs p1:=by show 1*CN rs p1=_;rw[Nat.one_mul]
       rw[e1];omega
      ·right
       have:CN rs p2<2 ^ 64:=te.sm p2 dp.rm dp.cm h;show _<((CN rs p2:Nat):Int)/\((CN rs p2:Nat):Int)<_;omega
    ·rw[hsn];push_cast;rfl
   ·rw[if_neg ⋯]
    refine⟨sd,hlt,mm,?_⟩;rw[hsn,show aN (CN rs) (ps.take i)=0 by omega,Nat.zero_mul]
  ·rintro σ H' ⟨sd,_,mm,y,rfl⟩
   refine h1 _ _ ?_;walk_at "wp";rw[JU,hbl,Kt];exact q H' sd mm
noncomputable abbrev b9:Stmt:=eQ 40 3
theorem pf:az ["self","row","numbers","size","steps","number","rows","many"] ["self","row"] (ah b9):=by walk_at "c"
theorem jB{R:RC}{f CG CT yaa:Addr}{fd:KU}{n:Nat}{t1:Tok}(F:cw K "reckoned" "TreeRows.reckoned" b9 f fd)(nb:NB mg)(yag:mg "MOST"=some (.int 6 t1))(ct:fz K CT)(nt:au K CT "grammar"/\au K CT "steps"/\au K CT "totals")
  (yai:eO P w K mg base bC 1 "fewest" ["size"] (iq K)) (yam:b6 P w K mg base (bE P w) 1 CG "numbers_of" ["self","name"] (ck R CG yaa)) (yad:b6 P w K mg base bC 1 CG "rule" ["self","k"] (b5 R CG)) (yal:oy P w K mg base bC 3 "part_rows" (lg R))
  (ydD:b6 P w K mg base (bE P w) (4*n+5) CT "many_together" ["self","rows"] (cE R CG CT n)) :
  aQ P w K mg base (bE P w) (4*n+6) f fd ["self","row"] (eC R CG CT yaa (n+1)):=by
 have sc:=pf;walk_at "x"
 ·obtain⟨a,dx,g,dg,d1,d2,b,sg,st,as,rs,m,p,rfl,_⟩:=h;rfl
 ·obtain⟨a,dx,g,dg,d1,d2,b,sg,st,as,rs,m,p,rfl,te,hb,cs⟩:=h
  have hu:=hr.units;refine⟨_,(af (aF (i:=2) sc.nd rfl (Or.inl rfl) (bV yam (hr.mono ⋯) (aX λ_ _ _ h=>h) (bz (al 0) rfl) (aa (aH aJ (al 1) aj (λ_ _=>rfl)) ad)))
   (af (aF (i:=3) sc.nd rfl (Or.inl rfl) (eG Ej (al 1) (e_ aj) (e_ aj)))
   (af (bF (PW.pt (i6 (aM (bf.m0 k8) (aB (Ar rfl) rfl nb.max Ft (aa (al 3) ad)) (eJ (v:=.int 6) rfl yag ⟨_,rfl⟩) (aS _)) (gZ (aM (bf.m0 pX) (aH aJ (al 1) aj (λ_ _=>rfl)) (aK (CX:=bE P w) yai.lift (hr.mono ⋯) rfl bg (aa (al 3) ad)) (aS _)))))
   (ai (aI (bB ad)))
   aO)
   (af (aF (i:=4) sc.nd rfl (Or.inl rfl) (bB ad))
   (af (bu PassesOwn.leaving rfl (cD (al 2)) (aw (i:=5) sc.nd rfl (Or.inl rfl))
   (ai (bu PassesOwn.leaving rfl (cD (yH yal (hr.mono ⋯) aY (bV yad (hr.mono ⋯) aY (bz (al 0) rfl) (aa (al 5) ad)) (aa (aH aJ (al 1) aj (λ_ _=>rfl)) (aa (aH aJ (al 1) aj (λ_ _=>rfl)) (aa (aH aJ (al 1) aj (λ_ _=>rfl)) ad))))) (aw (i:=6) sc.nd rfl (Or.inl rfl))
   (af (aF (i:=7) sc.nd rfl (Or.inl rfl) (bV ydD (hr.mono ⋯) (aX λ_ _ _ h=>h) (al 0) (aa (al 6) ad)))
   (ai (bF (aM (bf.m0 k8) (al 7) aj (aS _))
   (ai (bv (hU PySem.F.plainAttrs_list PySem.F.slot_list_append PySem.F.type_list_append dS (al 4) (aa (aL (aa (al 5) (aa (al 6) (aa (al 7) ad)))) ad))))
   aO))))))
   (ai (aI (al 4)))))))),?_⟩
  walk_at "n";obtain⟨lk,pn_,tt,hga,_⟩:=id te.gr;refine⟨CT,dx,_,te.at_,ct.cl,nt.1,_,rfl,g,rfl,dg,_,hga,rfl,_,ba.of hb,_,rfl,g,dg,sg,st,as,rs,tx p.1,rfl,te.gr,?_,?_⟩
  rotate_left
  ·intro hnone
   rcases cs with⟨dp,_⟩ | ⟨_,nn,ex⟩
   ·obtain⟨y,hy,e⟩:=Ky.mp dp.nm
    rw[<- e,(yr hy).1]at hnone;cases hnone
   ·exact ex
  intro ns hns l1 H1 hl1 hL1 s1;rcases cs with⟨dp,_,pn,q⟩ | ⟨_,nn,ex⟩
  rotate_left
  ·rw[nO nn]at hns
   cases hns
  obtain⟨y,hy,ey⟩:=Ky.mp dp.nm;have hns':ns=bR (tx p.1) rs:=by
   have:=(yr hy).1;rw[ey,hns]at this;exact Option.some.inj this
  subst hns';have hix:∀i∈bR (tx p.1) rs,_:=λi hi=>fT hi;have hixl:=rJ (tx p.1) rs;have m6:=te.m6;have dr1:=dp.r1;have drm:=dp.rm;have dc1:=dp.c1;have dcm:=dp.cm;have dk:=dp.k16;refine h1 _ _ ?_;walk_at "nc";refine⟨_,ba.of (s1 _ _ hb),λps H2 hps s2=>h1 _ _ ?_⟩;clear h1;have hps:ba K H2 ps [V.int (p.2.1:Int),V.int (p.2.2.1:Int)]:=hps;have s02:=s1.trans s2;walk_at "n";refine⟨_,_,hps,?_⟩;rw[if_neg (by split<;>omega)];refine⟨_,ba.of (s02 _ _ hb),_,rfl,ps,p.2.1,p.2.2.1,rfl,hps,⋯,⋯,_,rfl,_,rfl,?_⟩
  by_cases hlow:p.2.2.2<fw p.2.1 p.2.2.1
  ·rw[if_pos hlow]
   exact⟨Kf _,λl hl=>q l _ (b8.of (s02.trans (ae hl))) (te.up (s02.trans (ae hl))).mm (by unfold aT;rw[if_pos hlow];exact cv.nil (s02.free hl) ac)⟩
  rw[if_neg hlow];refine h1 _ _ ?_;clear h1;have k1:1<=p.2.2.2:=by have:=cg dr1 dc1;omega
  walk_at "n";refine⟨Kf _,λls hls=>h1 _ _ ?_⟩;clear h1;have fls:H ls=none:=s02.free hls;have nl1:l1≠ls:=λe=>by rw[<- e,s2 _ _ hL1]at hls;cases hls
  have s03:=s02.trans (ae (o:=.lst []) hls);have e3:aA H2 ls (.lst []) ls=some (.lst []):=ac;have hL3:=ae (o:=.lst []) hls _ _ (s2 _ _ hL1);generalize aA H2 ls (.lst [])=H3 at s03 e3 hL3 ⊢;have hsT:aT rs p=(bR (tx p.1) rs).flatMap (cW rs p):=by unfold aT;rw[if_neg hlow]
  walk_at "n";refine⟨⟨_,aU.of hL3⟩,?_⟩;refine dh (xs:=wu (bR (tx p.1) rs)) (λi σ H'=>b8 d1 d2 H H'/\i<=(bR (tx p.1) rs).length/\dZ st rs m H' d1 d2/\H' l1=some (.lst (wu (bR (tx p.1) rs)))/\cv H H' ls (((bR (tx p.1) rs).take i).flatMap (cW rs p))/\∃x y z,σ=[some (V.ref a),some (V.ref b),some (V.ref l1),some (V.ref ps),some (V.ref ls),x,y,z]) ⟨.of s03,Kf _,(te.up s03).mm,hL3,cv.nil fls e3,_,_,_,rfl⟩ (λi σ H' _ h=>aU.of h.2.2.2.1) ?_ ?_
  ·rintro i x σ H4 hx ⟨sd,hi,mm,hL4,hst,x1,y1,z1,rfl⟩
   have hlt:i<(bR (tx p.1) rs).length:=by have:=(JS.mp hx).1;rw[wu,JU]at this;exact this
   rw[wu,JW,JR hlt]at hx;cases hx;obtain⟨qr,hqr,hqn⟩:=hix _ (J1 hlt);have hsn:((bR (tx p.1) rs).take (i+1)).flatMap (cW rs p)=((bR (tx p.1) rs).take i).flatMap (cW rs p)++cW rs p ((bR (tx p.1) rs)[i]'hlt):=by
    rw[List.take_add_one,JR hlt,List.flatMap_append];simp
   have hbnd:(((bR (tx p.1) rs).take i).flatMap (cW rs p)).length<=75*i:=by
    rw[jV];refine Km (mB _ 75 _ λj hj=>?_) (by rw[Ku];omega);obtain⟨qj,hqj,_⟩:=fT (List.mem_of_mem_take hj);obtain⟨j4,jc,_⟩:=te.gc qj (JX hqj);unfold cW;rw[hqj];exact Km (List.length_filterMap_le _ _) (iZ j4 jc dr1 dc1 ⋯ ⋯ dk)
   generalize((bR (tx p.1) rs).take i).flatMap (cW rs p)=ms at hst hsn hbnd;generalize(bR (tx p.1) rs)[i]'hlt=num at hqr hsn;have te4:=te.next sd mm;obtain⟨lk4,pn4,tt4,hg4,hk4,hR4,_⟩:=id te4.gr;have hbn:num<as.length:=by rw[hR4.1];exact(JS.mp hqr).1
   have hqm:qr∈rs:=JX hqr;obtain⟨q4,qc,qc9⟩:=te.gc qr hqm;have hra:=hR4.2 num _ qr (JR hbn) hqr;have hb4:=(te.kp sd).tup hb;walk_at "wp";refine⟨CT,dx,_,te4.at_,ct.cl,nt.1,_,rfl,g,rfl,dg,_,hg4,rfl,g,dg,sg,st,as,rs,num,as[num],rfl,te4.gr,JR hbn,?_⟩;refine DU hb4 q4 hra dr1 ⋯ dc1 ⋯ dk k1 qc qc9 (te.gt qr hqm) λl2 H5 hl2 hT5 s5=>?_;have hSq:cW rs p num=(cK qr p.2.1 p.2.2.1 p.2.2.2).filterMap λps=>if 0<aN (CN rs) ps then some (num,ps,aN (CN rs) ps) else none:=by unfold cW;rw[hqr]
   have hprl:=iZ q4 qc dr1 dc1 (by omega:p.2.1<=6) (by omega:p.2.2.1<=6) dk;have hpc:∀ps∈cK qr p.2.1 p.2.2.1 p.2.2.2,(∀p'∈ps,qW st rs m p'/\0<n/\p'.2.2.2<(n:Int))/\ps.length<=2/\∀p1 p2,ps=[p1,p2]->p1.2.2.2<=7\/p2.2.2.2<=7:=λps hps=>by
    refine⟨λp' hp'=>?_,?_⟩
    ·obtain⟨d',lt'⟩:=dp.part te.gc hqm k1 hps hp'
     exact⟨d',by push_cast at pn;omega,by push_cast at pn;omega⟩
    ·rcases dM q4 dr1 dc1 hps with rfl | ⟨p',rfl,_⟩ | ⟨_,z,f,sz,f1,f2,rfl⟩
     ·exact⟨by simp,λp1 p2 e=>by cases e⟩
     ·exact⟨by simp,λp1 p2 e=>by cases e⟩
     ·refine⟨by simp,λp1 p2 e=>?_⟩
      cases e;show f<=7\/p.2.2.2-qr.2.c-f<=7;omega
   have hTT:=hT5;change fm H4 H5 l2 (cK qr p.2.1 p.2.2.1 p.2.2.2) at hTT;clear hT5;obtain⟨rw_,hrw,hrl,hre⟩:=hTT;generalize cK qr p.2.1 p.2.2.1 p.2.2.2=pss at hSq hprl hpc hrl hre;have hls4:∃xs,H4 ls=some (.lst xs):=let ⟨_,ts,h,_⟩:=hst;⟨_,h⟩
   have nls:l2≠ls:=λe=>by obtain⟨xs,h⟩:=hls4;rw[<- e,hl2]at h;cases h
   refine⟨l2,rfl,⟨_,aU.of hrw⟩,?_⟩;refine dh (xs:=rw_.map V.ref) (λj σ H'=>b8 d1 d2 H H'/\j<=rw_.length/\dZ st rs m H' d1 d2/\H' l1=some (.lst (wu (bR (tx p.1) rs)))/\H' l2=some (.lst (rw_.map V.ref))/\(∀(i:Nat) a ps,rw_[i]?=some a->pss[i]?=some ps->pB H' a ps)/\cv H H' ls (ms++(pss.take j).filterMap λps=>if 0<aN (CN rs) ps then some (num,ps,aN (CN rs) ps) else none)/\∃y z,σ=[some (V.ref a),some (V.ref b),some (V.ref l1),some (V.ref ps),some (V.ref ls),some (V.int (num:Int)),y,z]) ⟨sd.trans (.of s5),Kf _,(te4.up s5).mm,s5 _ _ hL4,hrw,λi a ps e1 e2=>(hre i a ps e1 e2).2,by rw[KI];simpa using hst.kp (.of s5),_,_,rfl⟩ (λj σ H' _ h=>aU.of h.2.2.2.2.1) ?_ ?_
   ·rintro j x σ H6 hx ⟨sd6,hj,mm6,hL6,hr6,hre6,hst6,y2,z2,rfl⟩
    have hlt6:j<rw_.length:=by have:=(JS.mp hx).1;rwa [JU]at this
    rw[JW,JR hlt6]at hx;cases hx;have hpj:pss[j]?=some (pss[j]'⋯):=JR ⋯;have hTr:=hre6 j _ _ (JR hlt6) hpj;obtain⟨pc1,pc2,pc3⟩:=hpc _ (J1 (show j<pss.length by omega));have hfr:=λi a ps e1 e2=>(hre i a ps e1 e2).1;have te6:=te.next sd6 mm6;have hfl:((pss.take j).filterMap λps=>if 0<aN (CN rs) ps then some (num,ps,aN (CN rs) ps) else none).length<=j:=Km (List.length_filterMap_le _ _) (by rw[Ku];omega);have hsn6:((pss.take (j+1)).filterMap λps=>if 0<aN (CN rs) ps then some (num,ps,aN (CN rs) ps) else none)=((pss.take j).filterMap λps=>if 0<aN (CN rs) ps then some (num,ps,aN (CN rs) ps) else none)++(if 0<aN (CN rs) (pss[j]'⋯) then[(num,pss[j]'⋯,aN (CN rs) (pss[j]'⋯))] else[]):=by
     rw[List.take_add_one,hpj,List.filterMap_append]
     congr 1
     show List.filterMap _ [_]=_
     by_cases h0:0<aN (CN rs) (pss[j]'⋯)<;>simp[h0]
    walk_at "n";refine⟨dx,_,te6.at_,rfl,a,dx,g,dg,d1,d2,_,sg,st,as,rs,m,_,rfl,te6,hTr,pc1,pc2,pc3,λH7 sd7 mm7=>h1 _ _ ?_⟩;clear h1;generalize hmany:aN (CN rs) (pss[j]'⋯)=many at hsn6;generalize hpsj:pss[j]'⋯=psj at hsn6 hTr;have kp7:=te6.kp sd7;have hst7:=hst6.kp kp7;walk_at "wp"
    by_cases h0:0<many
    ·rw[if_pos ⋯]
     obtain⟨xs7,hx7⟩:∃xs,H7 ls=some (.lst xs):=let ⟨_,ts,h,_⟩:=hst7;⟨_,h⟩
     have hxl:=hst7.len hx7;have n24:=te.n24;refine⟨.inl ⟨rfl,_,aU.of hx7⟩,ak nofun,λp1 hp1=>?_⟩;have t1:=ae (o:=.tup [V.int (num:Int),V.ref rw_[j],V.int (many:Int)]) hp1;have e1:aA H7 p1 (.tup [V.int (num:Int),V.ref rw_[j],V.int (many:Int)]) p1=some (.tup [V.int (num:Int),V.ref rw_[j],V.int (many:Int)]):=ac;generalize aA H7 p1 (.tup [V.int (num:Int),V.ref rw_[j],V.int (many:Int)])=H8 at t1 e1 ⊢;have hx8:=t1 _ _ hx7;obtain⟨m1,m2,hm1,hm2,hmm,hsi⟩:=mm7;have nd1:d1≠ls:=λe=>by rw[e,hx7]at hm1;cases hm1
     have nd2:d2≠ls:=λe=>by rw[e,hx7]at hm2;cases hm2
     have hz:=(hfr j _ _ (JR hlt6) hpj);have hzl:rw_[j]≠ls:=λe=>by
      obtain⟨xs,h⟩:=hls4;rw[e,h]at hz;cases hz.1
     refine⟨_,hx8,by rw[hxl,Kd];exact bd ⋯,?_,hlt6,⟨m1,m2,by rw[am nd1];exact t1 _ _ hm1,by rw[am nd2];exact t1 _ _ hm2,hmm,(hsi.kp (.of t1)).kz (uZ.put hx8)⟩,by rw[am nl1];exact t1 _ _ (kp7.lst hL6),by rw[am nls];exact t1 _ _ (kp7.lst hr6),λi a ps x1 x2=>(((hre6 i a ps x1 x2).kp kp7).up t1).put ?_ ⟨_,hx8⟩,?_⟩
     ·intro x o n1 n2 e
      rw[am (λz=>by rw[z,fls]at e;cases e)];exact t1 _ _ (sd7 x o n1 n2 (sd6 x o n1 n2 e))
     ·intro z
      have hz:=(hfr i a ps x1 x2).1;obtain⟨xs,h⟩:=hls4;rw[z,h]at hz;cases hz
     ·rw[hsn6,if_pos h0,<- Kr]
      exact(hst7.kp (.of t1)).app (x:=(num,psj,many)) hx8 e1 ((hTr.kp kp7).up t1) ⟨te.fresh sd mm hz.1,hzl⟩
    ·rw[if_neg ⋯]
     refine⟨sd6.trans sd7,hlt6,mm7,kp7.lst hL6,kp7.lst hr6,λi a ps x1 x2=>(hre6 i a ps x1 x2).kp kp7,?_⟩;rw[hsn6,if_neg h0,Kq];exact hst7
   ·rintro σ H6 ⟨sd6,_,mm6,hL6,hr6,hre6,hst6,y2,z2,rfl⟩
    refine⟨sd6,hlt,mm6,hL6,?_,_,_,_,rfl⟩;rw[JU,hrl,Kt]at hst6;rw[hsn,hSq];exact hst6
  ·rintro σ H4 ⟨sd,_,mm,_,hst,x1,y1,z1,rfl⟩
   refine h1 _ _ ?_;walk_at "wp";have hl':(wu (bR (tx p.1) rs)).length=(bR (tx p.1) rs).length:=by rw[wu,JU]
   rw[hl',Kt,<- hsT]at hst;exact q ls H4 sd mm hst
theorem zf{zs:KY}{z:Str}{k:List cS}(h:(Sum.inr z::k)∈AI zs):z∈zs:=by
 unfold AI at h;obtain⟨y,hy,h⟩:=List.mem_flatMap.mp h;obtain⟨r,_,h⟩:=List.mem_flatMap.mp h;obtain⟨c,_,h⟩:=List.mem_flatMap.mp h;obtain⟨j,_,e⟩:=Ky.mp h;have:=(List.cons.inj e).1;cases this;exact hy
theorem qf.bad{st:KO}{rs:Yaa}{m:Nat}{m1 m2:List (List cS×V)}{p:TR}(h:qf st rs m m1 m2)(hn:tx p.1∉(a_ (tx st) rs).map (·.1)):ce m1 (cZ p)=none:=by
 cases e:ce m1 (cZ p) with
 |none=>rfl
 |some v=>exact absurd (zf (h.k1 _ (Eh e))) hn
theorem j'{kvs:List (List cS×V)}{k:List cS}{v:V}(hn:(kvs.map (·.1)).Nodup):((cB kvs k v).map (·.1)).Nodup/\∀x,x∈(cB kvs k v).map (·.1)->x=k\/x∈kvs.map (·.1):=by
 cases e:ce kvs k with
 |none=>exact⟨DF v hn e,λx hx=>by
   rw[pz v e,J5,J6]at hx;rcases hx with h | h
   ·exact .inr h
   ·exact .inl (by simpa using h)⟩
 |some u=>
  have e2:(cB kvs k v).map (·.1)=kvs.map (·.1):=by
   unfold cB;have hh:(kvs.any λkv=>decide (kv.1=k))=true:=by rw[fj,e];rfl
   rw[if_pos hh,J7];refine List.map_congr_left λkv _=>?_;show(if kv.1=k then(kv.1,v) else kv).1=kv.1
   split<;>rfl
  rw[e2];exact⟨hn,λx hx=>.inr hx⟩
theorem qf.put{st:KO}{rs:Yaa}{m:Nat}{m1 m2:List (List cS×V)}{p:TR}{v:V}(h:qf st rs m m1 m2)(d:qW st rs m p)(h6:m<=6):qf st rs m (cB m1 (cZ p) v) (cB m2 (cZ p) (.int (CN rs p:Nat))):=by
 have hm:=BF d h6;refine⟨(j' h.n1).1,(j' h.n2).1,λk hk=>?_,λk hk=>?_,λp' hp'=>?_⟩
 ·rcases(j' h.n1).2 k hk with e | e
  ·rw[e];exact hm
  ·exact h.k1 k e
 ·rcases(j' h.n2).2 k hk with e | e
  ·rw[e];exact hm
  ·exact h.k2 k e
 ·rw[mz]at hp' ⊢
  by_cases e:cZ p'=cZ p
  ·rw[if_pos e,wd e]
  ·rw[if_neg e]at hp' ⊢
   exact h.ok p' hp'
theorem vh:∀ms:List Nat,(ms.map fun(x:Nat)=>(x:Int)).sum=((ms.sum:Nat):Int)
 | []=>rfl
 |x::ms=>by rw[Kl,List.sum_cons,List.sum_cons,vh ms];push_cast;rfl
noncomputable abbrev b_:Stmt:=eQ 40 2
theorem pQ:az ["self","row","steps"] ["self","row"] (ah b_):=by walk_at "c"
theorem jr{R:RC}{f CG CT yaa:Addr}{fd:KU}{n:Nat}(F:cw K "steps_of" "TreeRows.steps_of" b_ f fd)(nb:NB mg)(yaj:mg "sum"=none)(ct:fz K CT)(nt:au K CT "grammar"/\au K CT "steps"/\au K CT "totals")
  (ydv:b6 P w K mg base (bE P w) (4*n+6) CT "reckoned" ["self","row"] (eC R CG CT yaa (n+1))) :
  aQ P w K mg base (bE P w) (4*n+7) f fd ["self","row"] (bN R CG CT yaa (n+1)):=by
 have sc:=pQ;walk_at "x"
 ·obtain⟨a,dx,g,dg,d1,d2,b,sg,st,as,rs,m,p,rfl,_⟩:=h;rfl
 ·obtain⟨a,dx,g,dg,d1,d2,b,sg,st,as,rs,m,p,rfl,te,hb,cs⟩:=h
  have hu:=hr.units;refine⟨_,(af (bF (CC (su (Kw (KA (by decide:1<=64) _) hu) (al 1) (bz (al 0) rfl)) (by with_unfolding_all rfl))
   (af (aF (i:=2) sc.nd rfl (Or.inl rfl) (bV ydv (hr.mono ⋯) (aX λ_ _ _ h=>h) (al 0) (aa (al 1) ad)))
   (af (Fi (yg (Kw (KA (by decide:1<=64) _) hu) (bz (al 0) rfl) (al 1) (al 2) rfl))
   (ai (yg (Kw (KA (by decide:1<=64) _) hu) (bz (al 0) rfl) (al 1) (aB (mK rfl) rfl yaj xk (aa (cC ["number","rows","many"] [] rfl (bw.of (by kernel_rfl)) (by kernel_rfl) (cD (al 2))
    (λ_ _ _ _=>(uM (K:=K) (n:=3) rfl rfl (aG (aw (i:=0) (by show(["number","rows","many"]:List Str).Nodup;decide +kernel) rfl (Or.inl rfl)) (aG (aw (i:=1) (by show(["number","rows","many"]:List Str).Nodup;decide +kernel) rfl (Or.inl rfl)) (aG (aw (i:=2) (by show(["number","rows","many"]:List Str).Nodup;decide +kernel) rfl (Or.inl rfl)) cq))))) (λ_ _ _ _=>bT) (λ_ _ _ _=>(al 2))) ad)) rfl))))
   aO)
   (ai (aI (uw (Kw (KA (by decide:1<=64) _) hu) (bz (al 0) rfl) (al 1) (λ_ _=>rfl))))),?_⟩
  obtain⟨m1,m2,hm1,hm2,hmm,hsi⟩:=id te.mm;have hbk:H b=some (.tup ((cZ p).map kV)):=hb;refine ar λN1 h1=>?_;refine w8 λtb1 tb2 ee1 ee2=>?_;walk_at "wp";refine⟨CT,dx,_,te.at_,ct.cl,nt.2.1,_,rfl,d1,rfl,ce m1 (cZ p),oK.t hm1 hbk,?_⟩;have fin:∀H',(∃l,oK H' d1 (V.ref b) (some (V.ref l))/\jA H' l (aT rs p))->b8 d1 d2 H H'->dZ st rs m H' d1 d2->qW st rs m p->(∃m2,H' d2=some (.dT m2)/\ce m2 (cZ p)=some (.int (CN rs p:Nat)))->∀x,N1 [some (V.ref a),some (V.ref b),x] H':=λH' ⟨l,hv,hZ⟩ sd mm dp hm2 x=>by
   refine h1 _ _ ?_;walk_at "wp";refine⟨CT,dx,_,(te.kp sd).ins te.at_,ct.cl,nt.2.1,_,rfl,d1,rfl,_,hv,?_⟩;rcases cs with⟨_,_,_,q⟩ | ⟨_,nn,_⟩
   ·exact q l H' sd mm hm2 hZ
   ·exact absurd dp.nm nn
  cases hv:ce m1 (cZ p) with
  |some v=>
   rw[if_neg (by simp)];rw[ee2];rcases cs with⟨dp,n0,pn,q⟩ | ⟨_,nn,ex⟩
   ·walk_at "wp"
    obtain⟨l,rfl,hZ⟩:=hsi p v hv;refine fin H ⟨l,by rw[<- hv];exact oK.t hm1 hbk,hZ⟩ (λ_ _ _ _ e=>e) te.mm dp ⟨m2,hm2,hmm.ok p (by rw[hv];rfl)⟩ _
   ·rw[hmm.bad nn]at hv;cases hv
  |none=>
   rw[if_pos (by simp)];rw[ee1];walk_at "o";refine⟨dx,_,te.at_,rfl,a,dx,g,dg,d1,d2,b,sg,st,as,rs,m,p,rfl,te,hb,?_⟩;rcases cs with⟨dp,n0,pn,q⟩ | ⟨_,nn,ex⟩
   rotate_left
   ·exact .inr ⟨Nat.succ_pos _,nn,ex⟩
   refine .inl ⟨dp,n0,pn,λl H1 sd1 mm1 hst=>h2 _ _ ?_⟩;clear h2;have te1:=te.next sd1 mm1;obtain⟨m1',m2',hm1',hm2',hmm',hsi'⟩:=id mm1;have kp1:=te.kp sd1;have hb1:H1 b=some (.tup ((cZ p).map kV)):=kp1.tup hb;have hln:=hmm'.len te.nz;walk_at "o";have kp2:Kp H1 (aA H1 d1 (.dT (cB m1' (cZ p) (V.ref l)))):=Kp.put hm1';obtain⟨ls,hls,hls0,hZ⟩:=(hst.kp kp2).known;refine⟨CT,dx,_,te1.at_,ct.cl,nt.2.1,_,rfl,d1,rfl,_,yT.t hm1' hb1 hln.1,ls,hls,λos=>h2 _ _ ?_⟩;clear h2;have hZ:=hZ os;have kz2:uZ H1 (cL (aA H1 d1 (.dT (cB m1' (cZ p) (V.ref l)))) ls os):=kp2.z.trans uZ.frz;have e21:cL (aA H1 d1 (.dT (cB m1' (cZ p) (V.ref l)))) ls os d1=some (.dT (cB m1' (cZ p) (V.ref l))):=fO ac (.inr λxs z=>by cases z);have e22:cL (aA H1 d1 (.dT (cB m1' (cZ p) (V.ref l)))) ls os d2=some (.dT m2'):=fO (by rw[am te.ne.symm];exact hm2') (.inr λxs z=>by cases z);have sd2:b8 d1 d2 H (cL (aA H1 d1 (.dT (cB m1' (cZ p) (V.ref l)))) ls os):=λx o n1 n2 e=>fO (by rw[am n1];exact sd1 x o n1 n2 e) (.inl λhx=>by rw[hls0 x hx]at e;cases e);generalize cL (aA H1 d1 (.dT (cB m1' (cZ p) (V.ref l)))) ls os=H2 at kz2 e21 e22 sd2 hZ ⊢;clear hls hls0;have hat2:=(te.kp sd2).ins te.at_;have hb2:=(te.kp sd2).tup hbk;obtain⟨ts,o,hts,htl,hte⟩:=id hZ;have hsl:=m8 te.gc (dp.row te.m6) te.n24;have hss:=ng te.gc (dp.row te.m6);walk_at "wp";have hz1:(ts.zip (aT rs p)).map (·.1)=ts:=List.map_fst_zip ⋯;have hz2:(ts.zip (aT rs p)).map (·.2)=aT rs p:=List.map_snd_zip ⋯;have hzr:(ts.zip (aT rs p)).map (λz=>V.ref z.1)=ts.map V.ref:=by rw[<- congrArg (List.map V.ref) hz1,J7];rfl
   refine⟨⟨_,.inl (.inr ⟨o,hts⟩)⟩,?_⟩;refine gl (as:=ts.zip (aT rs p)) (emb:=λz=>V.ref z.1) (f:=λz=>some (V.int (z.2.2.2:Nat))) (λσ=>∃x y z,σ=[x,y,z]) ⟨_,_,_,rfl⟩ (λH' s'=>.inl (.inr ⟨o,by rw[hzr];exact s' _ _ hts⟩)) (by rw[List.length_zip];omega) ?_ ?_
   ·rintro i z hz σ H' N1' N0 ⟨x,y,w,rfl⟩ sm k1 k0
    have h1:ts[i]?=some z.1/\(aT rs p)[i]?=some z.2:=List.getElem?_zip_eq_some.mp hz;obtain⟨rl,e,_⟩:=hte i z.1 z.2 h1.1 h1.2;walk_at "wp";exact⟨_,ba.of (sm _ _ e),rfl,_,_,rfl,_,_,rfl,_,_,rfl,rfl,k1 _ _ _ rfl sm ⟨_,_,_,rfl⟩⟩
   intro H3 s3 lc hlc;rw[j0];have emap:(ts.zip (aT rs p)).map (λz=>V.int (z.2.2.2:Nat))=(((aT rs p).map λs=>s.2.2).map fun(x:Nat)=>(x:Int)).map V.int:=by
    conv=>rhs;rw[<- hz2]
    rw[J7,J7,J7];rfl
   rw[emap];generalize(aT rs p).map (λs=>s.2.2)=ms at hss;have s4:=s3.trans (ae (o:=.lst ((ms.map fun(x:Nat)=>(x:Int)).map V.int)) hlc);have e4:aA H3 lc (.lst ((ms.map fun(x:Nat)=>(x:Int)).map V.int)) lc=some (.lst ((ms.map fun(x:Nat)=>(x:Int)).map V.int)):=ac;generalize aA H3 lc (.lst ((ms.map fun(x:Nat)=>(x:Int)).map V.int))=H4 at s4 e4 ⊢;refine⟨_,aU.of e4,CT,dx,_,s4 _ _ hat2,ct.cl,nt.2.2,_,rfl,d2,rfl,_,yT.t (s4 _ _ e22) (s4 _ _ hb2) hln.2,?_⟩;rw[vh,hss];have nb2:b≠d2:=λe=>by rw[e,e22]at hb2;cases hb2
   have kz5:uZ H1 (aA H4 d2 (.dT (cB m2' (cZ p) (V.int (CN rs p:Nat))))):=(kz2.trans (Kp.of s4).z).trans (Kp.put (s4 _ _ e22)).z;have hZ5:jA (aA H4 d2 (.dT (cB m2' (cZ p) (V.int (CN rs p:Nat))))) l (aT rs p):=(hZ.kz (Kp.of s4).z).kz (Kp.put (s4 _ _ e22)).z;refine fin _ ⟨l,?_,hZ5⟩ ((sd2.trans (.of s4)).trans .put2) ⟨_,_,?_,ac,hmm'.put (v:=V.ref l) dp te.m6,?_⟩ dp ⟨_,ac,by rw[mz,if_pos rfl]⟩ _
   ·have:=oK.t (H:=aA H4 d2 (.dT (cB m2' (cZ p) (V.int (CN rs p:Nat))))) (a:=d1) (b:=b) (kvs:=cB m1' (cZ p) (V.ref l)) (k:=cZ p) (by rw[am te.ne];exact s4 _ _ e21) (by rw[am nb2];exact s4 _ _ hb2)
    rw[mz,if_pos rfl]at this;exact this
   ·rw[am te.ne];exact s4 _ _ e21
   ·intro p' v' hv'
    rw[mz]at hv'
    by_cases e:cZ p'=cZ p
    ·rw[if_pos e]at hv'
     cases hv';rw[wd e];exact⟨l,rfl,hZ5⟩
    ·rw[if_neg e]at hv'
     exact hsi'.kz kz5 p' v' hv'
noncomputable abbrev b0:Stmt:=eQ 40 1
theorem kX:az ["self","row"] ["self","row"] (ah b0):=by walk_at "c"
theorem q8{R:RC}{f CG CT yaa:Addr}{fd:KU}{n:Nat}(F:cw K "many_in" "TreeRows.many_in" b0 f fd)(nb:NB mg)(ct:fz K CT)(nt:au K CT "grammar"/\au K CT "steps"/\au K CT "totals")
  (yah:b6 P w K mg base (bE P w) (4*n+7) CT "steps_of" ["self","row"] (bN R CG CT yaa (n+1))) :
  aQ P w K mg base (bE P w) (4*n+8) f fd ["self","row"] (bq R CG CT yaa (n+1)):=by
 have sc:=kX;walk_at "x"
 ·obtain⟨a,dx,g,dg,d1,d2,b,sg,st,as,rs,m,p,rfl,_⟩:=h;rfl
 ·obtain⟨a,dx,g,dg,d1,d2,b,sg,st,as,rs,m,p,rfl,te,hb,cs⟩:=h
  have hu:=hr.units;refine⟨_,(af (bv (bV yah (hr.mono ⋯) (aX λ_ _ _ h=>h) (al 0) (aa (al 1) ad)))
   (ai (aI (uw (Kw (KA (by decide:1<=64) _) hu) (bz (al 0) rfl) (al 1) (λ_ _=>rfl))))),?_⟩
  walk_at "n";refine⟨dx,_,te.at_,rfl,a,dx,g,dg,d1,d2,b,sg,st,as,rs,m,p,rfl,te,hb,?_⟩;rcases cs with⟨dp,n0,pn,q⟩ | ⟨_,nn,ex⟩
  rotate_left
  ·exact .inr ⟨Nat.succ_pos _,nn,ex⟩
  refine .inl ⟨dp,n0,pn,λv H1 sd1 mm1 ⟨m2,hm2,hv⟩ _=>h1 _ _ ?_⟩;walk_at "wp";refine⟨CT,dx,_,(te.kp sd1).ins te.at_,ct.cl,nt.2.2,_,rfl,d2,rfl,_,?_,q H1 sd1 mm1⟩;have:=oK.t (k:=cZ p) hm2 ((te.kp sd1).tup hb);rw[hv]at this;exact this
theorem zz{R:RC}{f CG CT yaa:Addr}{fd:KU}(F:cw K "many_in" "TreeRows.many_in" b0 f fd):aQ P w K mg base (bE P w) 4 f fd ["self","row"] (bq R CG CT yaa 0):=by
 have no:∀{vs:List V} {H:Hp} {Q:VK} {E:XK},¬ bq R CG CT yaa 0 vs H Q E:=λh=>by
  obtain⟨a,dx,g,dg,d1,d2,b,sg,st,as,rs,m,p,_,_,_,⟨_,h0,_⟩ | ⟨h0,_⟩⟩:=h<;>exact absurd h0 ⋯
 exact F.okX (k:=3) (sp:=bq R CG CT yaa 0) kX (λvs H Q E h=>absurd h no) (λcdv A outer s H vs Q E hr h=>absurd h no)
theorem jx{R:RC}{CG CT yaa f1 f2 f3 f4:Addr}{fd1 fd2 fd3 fd4:KU}{t1:Tok}(F1:cw K "many_in" "TreeRows.many_in" b0 f1 fd1)(F2:cw K "steps_of" "TreeRows.steps_of" b_ f2 fd2)(F3:cw K "reckoned" "TreeRows.reckoned" b9 f3 fd3)(F4:cw K "many_together" "TreeRows.many_together" bh f4 fd4)
  (nb:NB mg) (yaj:mg "sum"=none) (yag:mg "MOST"=some (.int 6 t1)) (ct:fz K CT) (nt:au K CT "grammar"/\au K CT "steps"/\au K CT "totals") (me1:cQ K CT "many_in" f1) (me2:cQ K CT "steps_of" f2) (me3:cQ K CT "reckoned" f3) (me4:cQ K CT "many_together" f4)
  (b1:b7 K fd1 ["self","row"] []) (b2:b7 K fd2 ["self","row"] []) (b3:b7 K fd3 ["self","row"] []) (b4:b7 K fd4 ["self","rows"] [])
  (yai:eO P w K mg base bC 1 "fewest" ["size"] (iq K)) (yam:b6 P w K mg base (bE P w) 1 CG "numbers_of" ["self","name"] (ck R CG yaa)) (yad:b6 P w K mg base bC 1 CG "rule" ["self","k"] (b5 R CG)) (yal:oy P w K mg base bC 3 "part_rows" (lg R)) :
  ∀n,b6 P w K mg base (bE P w) (4*n+4) CT "many_in" ["self","row"] (bq R CG CT yaa n)
 |0=>⟨f1,fd1,zz F1,ct.cl,me1,b1⟩
 |n+1=>by
  have ih:=jx F1 F2 F3 F4 nb yaj yag ct nt me1 me2 me3 me4 b1 b2 b3 b4 yai yam yad yal n;have c4:b6 P w K mg base (bE P w) (4*n+5) CT "many_together" ["self","rows"] (cE R CG CT n):=⟨f4,fd4,fC F4 nb ih,ct.cl,me4,b4⟩;have c3:b6 P w K mg base (bE P w) (4*n+6) CT "reckoned" ["self","row"] (eC R CG CT yaa (n+1)):=⟨f3,fd3,jB F3 nb yag ct nt yai yam yad yal c4,ct.cl,me3,b3⟩;have c2:b6 P w K mg base (bE P w) (4*n+7) CT "steps_of" ["self","row"] (bN R CG CT yaa (n+1)):=⟨f2,fd2,jr F2 nb yaj ct nt c3,ct.cl,me2,b2⟩;exact⟨f1,fd1,q8 F1 nb ct nt c2,ct.cl,me1,b1⟩
noncomputable abbrev gR:Stmt:=iO 42
structure vJ(st:KO)(rs:Yaa)(m:Nat):Prop where
 gc:eM rs
 gt:∀q∈rs,0<=q.2.t
 sm:∀p:TR,p.2.1<=m->p.2.2.1<=m->p.2.2.2<=7->CN rs p<2 ^ 64
 m6:m<=6
 n24:rs.length<=24
 nz:(a_ (tx st) rs).length<=100
noncomputable def jp(R:RC)(CG CN_:Addr):Sp:=λvs H Q E=>∃(g dg:Addr) (sg st:KO) (as:KR) (rs:Yaa) (m:Nat) (p:TR),vs=[.ref g,.str (tx p.1),.int (p.2.1:Int),.int (p.2.2.1:Int),.int p.2.2.2]/\dA R H CG dg g sg st as rs/\vJ st rs m /\
 ((qW st rs m p/\∀H',aC H H'->Q (.int (CN rs p:Nat)) H')\/(tx p.1∉(a_ (tx st) rs).map (·.1)/\∀H',aC H H'->E (.ref CN_) none H'))
theorem pG:az ["grammar","name","rows","columns","cost"] ["grammar","name","rows","columns","cost"] (ah gR):=by walk_at "c"
theorem qA{R:RC}{f CG CT yaa:Addr}{fd:KU}(F:cw K "count_trees" "count_trees" gR f fd)(nb:NB mg)(ct:fz K CT)(nt:au K CT "grammar"/\au K CT "steps"/\au K CT "totals")
  (yaq:lC P w K mg base bC 1 "TreeRows" CT ["self","grammar"] (gj K)) (yaf:b6 P w K mg base (bE P w) 72 CT "many_in" ["self","row"] (bq R CG CT yaa 17)) :
  aQ P w K mg base (bE P w) 73 f fd ["grammar","name","rows","columns","cost"] (jp R CG yaa):=by
 have sc:=pG;walk_at "x"
 ·obtain⟨g,dg,sg,st,as,rs,m,p,rfl,_⟩:=h;rfl
 ·obtain⟨g,dg,sg,st,as,rs,m,p,rfl,gr,ok,cs⟩:=h
  have hu:=hr.units;refine⟨_,(ai (aI (bV yaf (hr.mono nofun) (aX λ_ _ _ h=>h) (gD yaq (hr.mono nofun) rfl aY (aa (al 0) ad)) (aa (aL (aa (al 1) (aa (al 2) (aa (al 3) (aa (al 4) ad))))) ad)))),?_⟩;walk_at "wp";intro x dx hx hdx hne;have sm1:aC H (aA (aA H dx (.own x)) x (.ins CT dx [])):=(ae hdx).trans (ae (by rw[am (Ne.symm hne)];exact hx));refine⟨x,CT,dx,g,rfl,ac,ct.cl,nt,λd1 d2 H2 f1 f2 n12 ex ed1 ed2 sx=>⟨rfl,dx,_,ex,rfl,ak nofun,λb hb=>?_⟩⟩;have s2:aC H H2:=λy u e=>sx y u (aD e hx) (sm1 y u e);have s3:=ae (o:=.tup (dY p)) hb;have s03:=s2.trans s3;have te:g_ R CG CT (aA H2 b (.tup (dY p))) x dx g dg d1 d2 sg st as rs m:=⟨s3 _ _ ex,n12,gr.up s03,ok.gc,ok.gt,ok.sm,ok.m6,ok.n24,ok.nz,[],[],s3 _ _ ed1,s3 _ _ ed2,⟨List.nodup_nil,List.nodup_nil,(λk h=>nomatch h),(λk h=>nomatch h),(λp h=>by cases h)⟩,λp v h=>by cases h⟩;refine⟨x,dx,g,dg,d1,d2,b,sg,st,as,rs,m,p,rfl,te,ac,?_⟩;rcases cs with⟨dp,q⟩ | ⟨nn,ex'⟩
  ·exact .inl ⟨dp,nofun,by have:=dp.k16;omega,λH4 sd mm=>q H4 λy u e=>sd y u (λz=>by rw[z,sm1.free f1]at e;cases e) (λz=>by rw[z,sm1.free f2]at e;cases e) (s03 y u e)⟩
  ·exact .inr ⟨nofun,nn,ex' _ s03⟩
theorem xf{B:Nat}{f:TR->Nat}{q:Nat×RV}{r c:Nat}{k:Int}{ps:List TR}(h4:q.1<4)(hq:1<=q.2.c)(hr:1<=r)(hc:1<=c)(hk:1<=k)(h:ps∈cK q r c k)(hf:∀p∈ps,f p<=2 ^ (B*p.2.2.2.toNat)):aN f ps<=2 ^ (B*(k-1).toNat):=by
 have mono:∀{a b:Nat},a<=b->2 ^ (B*a)<=2 ^ (B*b):=λh=>Nat.pow_le_pow_right nofun (Nat.mul_le_mul_left _ h);rcases dM h4 hr hc h with rfl | ⟨p,rfl,e1,e2,e3⟩ | ⟨_,z,x,sz,f1,f2,rfl⟩
 ·exact Nat.one_le_two_pow
 ·have h1:=hf p List.mem_cons_self
  show 1*f p<=_;rw[Nat.one_mul];exact Km h1 (mono ⋯)
 ·have g1:=cg sz.a sz.b
  have g2:=cg sz.d sz.e;have h1:=hf _ List.mem_cons_self;have h2:=hf _ (J9 _ List.mem_cons_self);show 1*f _*f _<=_;rw[Nat.one_mul];refine Km (Nat.mul_le_mul h1 h2) ?_;rw[<- Nat.pow_add,<- Nat.mul_add];exact mono (by show x.toNat+(k-q.2.c-x).toNat<=_;omega)
theorem uR{rs:Yaa}(hg:eM rs){B L:Nat}{kx:Int}(hL:∀q∈rs,∀(r c:Nat) (k:Int),1<=r->r<=6->1<=c->c<=6->k<=kx->(cK q r c k).length<=L)(hB:rs.length*L<=2 ^ B):∀(f:Nat) (p:TR),p.2.1<=6->p.2.2.1<=6->p.2.2.2<=kx->cnt rs f p<=2 ^ (B*p.2.2.2.toNat)
 |0,_,_,_,_=>Kf _
 |f+1,p,hr6,hc6,hk=>by
  unfold cnt
  split
  ·exact Kf _
  ·rename_i hn
   have hr:1<=p.2.1:=by omega
   have hc:1<=p.2.2.1:=by omega
   have k1:1<=p.2.2.2:=by have:=cg hr hc;omega
   refine Km (mB _ (L*2 ^ (B*(p.2.2.2-1).toNat)) _ λq hq=>?_) ?_
   ·obtain⟨q4,qc,_⟩:=hg q (jD hq).1
    refine Km (mB _ (2 ^ (B*(p.2.2.2-1).toNat)) _ λps hps=>?_) ?_
    ·refine xf q4 qc hr hc k1 hps λp' hp'=>?_
     have po:=l8 q4 qc hr hc hps hp';have:=po.rm;have:=po.cm;have:=po.lt;exact uR hg hL hB f p' ⋯ ⋯ ⋯
    ·exact Nat.mul_le_mul (hL q (jD hq).1 _ _ _ hr hr6 hc hc6 hk) (Ke _)
   ·have hl:(iu p.1 rs).length<=rs.length:=List.length_filter_le _ _
    refine Km (Nat.mul_le_mul hl (Ke _)) ?_;rw[<- Nat.mul_assoc];have e:B*p.2.2.2.toNat=B+B*(p.2.2.2-1).toNat:=by
     rw[show p.2.2.2.toNat=1+(p.2.2.2-1).toNat by omega,Nat.mul_add,Nat.mul_one]
    rw[e,Nat.pow_add];exact Nat.mul_le_mul hB (Ke _)
theorem Eb{rs:Yaa}(hg:eM rs)(h24:rs.length<=24){p:TR}(hr:p.2.1<=6)(hc:p.2.2.1<=6)(hk:p.2.2.2<=16):CN rs p<=2 ^ 176:=by
 have:=uR (B:=11) (L:=75) (kx:=16) hg (λq hq r c k r1 r6 c1 c6 hk=>iZ (hg q hq).1 (hg q hq).2.1 r1 c1 r6 c6 hk) (Km (Nat.mul_le_mul_right 75 h24) nofun) 17 p hr hc hk;exact Km this (Nat.pow_le_pow_right nofun ⋯)
theorem DL{n:Nat}(h:n<=2 ^ 176):((n:Nat):Int).natAbs.log2<9000:=by
 rw[Int.natAbs_natCast]
 by_cases h0:n=0
 ·subst h0;decide
 ·exact(Nat.log2_lt h0).mpr (Kw h (Nat.pow_lt_pow_right nofun nofun))
noncomputable def cy(R:RC)(CG CT CN_ CU_:Addr)(n:Nat):Sp:=λvs H Q E=>∃(a dx g dg d1 d2 b:Addr) (sg st:KO) (as:KR) (rs:Yaa) (m:Nat) (p:TR) (k:Int),vs=[.ref a,.ref b,.int k]/\g_ R CG CT H a dx g dg d1 d2 sg st as rs m/\H b=some (.tup (dY p))/\0<n/\((qW st rs m p/\p.2.2.2<(n:Int) /\
 (∀(j:Nat) t,k=(j:Int)->(RT rs p)[j]?=some t->∀v H',b8 d1 d2 H H'->dZ st rs m H' d1 d2->cJ H' t.d v->Q v H')/\((k<0\/(CN rs p:Int)<=k)->∀H',b8 d1 d2 H H'->dZ st rs m H' d1 d2->E (.ref CU_) none H'))\/(tx p.1∉(a_ (tx st) rs).map (·.1)/\E (.ref CN_) none H))
noncomputable def fV(R:RC)(CG CT:Addr)(n:Nat):Sp:=λvs H Q _=>∃(a dx g dg d1 d2 l:Addr) (sg st:KO) (as:KR) (rs:Yaa) (m:Nat) (ps:List TR) (k:Nat) (ts:List bK),vs=[.ref a,.ref l,.int (k:Int)]/\g_ R CG CT H a dx g dg d1 d2 sg st as rs m/\Fc H l ps/\(∀p∈ps,qW st rs m p/\p.2.2.2<(n:Int))/\ps.length<=2/\(ps≠[]->0<n)/\(bJ (RT rs) ps)[k]?=some ts /\
 ∀x vs H',b8 d1 d2 H H'->dZ st rs m H' d1 d2->H' x=some (.tup vs)->bD H' (ts.map bK.d) vs->Q (.ref x) H'
noncomputable def zC(rs:Yaa)(k:Nat)(ps:List TR)(i:Nat):Nat:=(ps.reverse.take i).foldl (λk p=>k/CN rs p) k
theorem B6{rs:Yaa}{k:Nat}{ps:List TR}{i:Nat}{p:TR}(h:ps.reverse[i]?=some p):zC rs k ps (i+1)=zC rs k ps i/CN rs p:=by
 unfold zC;rw[List.take_add_one,h,List.foldl_append];rfl
theorem qC{rs:Yaa}(hg:eM rs){ps:List TR}{k:Nat}{ts:List bK}(ok:∀p∈ps,gn p)(h2:ps.length<=2)(h:(bJ (RT rs) ps)[k]?=some ts) :
  ts.length=ps.length/\∀(i:Nat) p,ps.reverse[i]?=some p->∃t,ts.reverse[i]?=some t/\(RT rs p)[zC rs k ps i%CN rs p]?=some t:=by
 match ps,h2,h,ok with
 | [],_,h,_=>
  have:k=0/\ts=[]:=by
   cases k with
   |zero=>exact⟨rfl,by simpa[bJ]using h.symm⟩
   |succ k=>simp[bJ]at h
  obtain⟨rfl,rfl⟩:=this;exact⟨rfl,λi p e=>by simp at e⟩
 | [p],_,h,ok=>
  rw[ig]at h;obtain⟨t,ht,rfl⟩:=Ki.mp h;refine⟨rfl,λi p' e=>?_⟩;have:i=0/\p'=p:=by
   match i,e with
   |0,e=>exact⟨rfl,by simpa using e.symm⟩
   |i+1,e=>simp at e
  obtain⟨rfl,rfl⟩:=this;refine⟨t,rfl,?_⟩;show(RT rs p')[k%CN rs p']?=some t;rw[Nat.mod_eq_of_lt (by rw[<- cH hg (ok _ (by simp))];exact(JS.mp ht).1)];exact ht
 | [p1,p2],_,h,ok=>
  have l1:=cH hg (ok p1 (by simp));have l2:=cH hg (ok p2 (by simp));have hk:k<CN rs p1*CN rs p2:=by
   have:=(JS.mp h).1;rw[fR (g:=CN rs) λp hp=>cH hg (ok p hp)]at this
   simpa[aN]using this
  have h20:0<CN rs p2:=by
   rcases Nat.eq_zero_or_pos (CN rs p2) with e | e
   ·rw[e]at hk;simp at hk
   ·exact e
  have hd:k/CN rs p2<CN rs p1:=Nat.div_lt_of_lt_mul (by rw[Nat.mul_comm];exact hk);have hm:=Nat.mod_lt k h20;obtain⟨t1,e1⟩:∃t,(RT rs p1)[k/CN rs p2]?=some t:=⟨_,JR ⋯⟩;obtain⟨t2,e2⟩:∃t,(RT rs p2)[k%CN rs p2]?=some t:=⟨_,JR ⋯⟩;have:=rS (F:=RT rs) (p1:=p1) (p2:=p2) (k:=k) (t1:=t1) (t2:=t2) (by rw[l2];exact e1) (by rw[l2];exact e2);rw[this]at h;cases h;refine⟨rfl,λi p' e=>?_⟩
  match i,e with
  |0,e=>
   have:p'=p2:=by simpa using e.symm
   subst this;exact⟨t2,rfl,e2⟩
  |1,e=>
   have:p'=p1:=by simpa using e.symm
   subst this;refine⟨t1,rfl,?_⟩;show(RT rs p')[k/CN rs p2%CN rs p']?=some t1;rw[Nat.mod_eq_of_lt hd];exact e1
  |i+2,e=>simp at e
noncomputable abbrev cz:Stmt:=eQ 40 6
theorem o_:az ["self","rows","k","trees","row","many"] ["self","rows","k"] (ah cz):=by walk_at "c"
theorem pO{R:RC}{f CG CT yaa yac:Addr}{fd:KU}{n lv:Nat}(hlv:72<=lv)(F:cw K "trees_in" "TreeRows.trees_in" cz f fd)(nb:NB mg)
  (yaf:b6 P w K mg base (bE P w) 72 CT "many_in" ["self","row"] (bq R CG CT yaa 17)) (yaH:b6 P w K mg base (bE P w) lv CT "tree_in" ["self","row","k"] (cy R CG CT yaa yac n)) :
  aQ P w K mg base (bE P w) (lv+1) f fd ["self","rows","k"] (fV R CG CT n):=by
 have sc:=o_;walk_at "x"
 ·obtain⟨a,dx,g,dg,d1,d2,l,sg,st,as,rs,m,ps,k,ts,rfl,_⟩:=h;rfl
 ·obtain⟨a,dx,g,dg,d1,d2,l,sg,st,as,rs,m,ps,k,ts,rfl,te,hl,hps,hp2,hn,hts,q⟩:=h
  have hu:=hr.units;refine⟨_,(af (aF (i:=3) sc.nd rfl (Or.inl rfl) (aL ad))
   (af (bu PassesOwn.leaving rfl (xl rfl nb.reversed (aa (al 1) ad)) (aw (i:=4) sc.nd rfl (Or.inl rfl))
   (af (aF (i:=5) sc.nd rfl (Or.inl rfl) (bV yaf (hr.mono ⋯) (aX λ_ _ _ h=>h) (al 0) (aa (al 4) ad)))
   (af (aF (i:=3) sc.nd rfl (Or.inl rfl) (ay dC (aL (aa (bV yaH (hr.mono ⋯) (aX λ_ _ _ h=>h) (al 0) (aa (al 4) (aa (ay (bf.m1 bH) (al 2) (al 5)) ad))) ad)) (al 3)))
   (ai (aF (i:=2) sc.nd rfl (Or.inl rfl) (ay (bf.m1 B1) (al 2) (al 5)))))))
   (ai (aI (al 3))))),?_⟩
  walk_at "n";refine⟨Kf _,λx0 hx0=>h1 _ _ ?_⟩;clear h1;have s1:=ae (o:=.tup []) hx0;have e1:aA H x0 (.tup []) x0=some (.tup []):=ac;generalize aA H x0 (.tup [])=H1 at s1 e1 ⊢;walk_at "n";obtain⟨bs,o,hlz,hbl,hbt⟩:=id hl;obtain⟨htl,hback⟩:=qC te.gc (λp hp=>((hps p hp).1.row te.m6)) hp2 hts;refine⟨_,.inl (.inr ⟨o,s1 _ _ hlz⟩),?_⟩;refine CV (xs:=bs.map V.ref) (λi σ H'=>b8 d1 d2 H H'/\dZ st rs m H' d1 d2/\i<=bs.length/\∃(x:Addr) (vs:List V) (y z:Option V),H' x=some (.tup vs)/\bD H' (((ts.reverse.take i).reverse).map bK.d) vs/\vs.length<=i/\σ=[some (V.ref a),some (V.ref l),some (V.int (zC rs k ps i:Nat)),some (V.ref x),y,z])
   ⟨.of s1,(te.up s1).mm,Kf _,x0,[],_,_,e1,by unfold bD;rfl,Ke _,rfl⟩ (λi σ H' _ h=>.inl (.inr ⟨o,h.1 _ _ (λz=>by obtain⟨m1,_,h1,_⟩:=te.mm;rw[z,h1]at hlz;cases hlz) (λz=>by obtain⟨_,m2,_,h2,_⟩:=te.mm;rw[z,h2]at hlz;cases hlz) hlz⟩)) ?_ ?_
  ·rintro i x σ H2 hlt0 hx ⟨sd,mm,hi,xt,vs,y,z,hxt,hvs,hvl,rfl⟩
   have hlt:i<bs.length:=by simpa using hlt0
   have hix:bs.length-1-i<bs.length:=by omega
   rw[JU,JW,JR hix]at hx;cases hx;obtain⟨p,hpi⟩:∃p,ps[bs.length-1-i]?=some p:=⟨_,JR ⋯⟩;have hb:=hbt _ _ _ (JR hix) hpi;have hpr:ps.reverse[i]?=some p:=by
    rw[List.getElem?_reverse ⋯,<- hbl];exact hpi
   obtain⟨dp,kn⟩:=hps _ (JX hpi);have hne:ps≠[]:=λe=>by rw[e]at hpi;simp at hpi
   obtain⟨t,ht1,ht2⟩:=hback i _ hpr;have hkn:zC rs k ps (i+1)=zC rs k ps i/CN rs p:=B6 hpr;generalize bs[bs.length-1-i]'hix=b at hb;have te2:=te.next sd mm;have hb2:=(te.kp sd).tup hb;have hlen:=cH te.gc (dp.row te.m6);have hC0:0<CN rs p:=by rw[<- hlen];have:=(JS.mp ht2).1;omega
   have hCb:=Eb te.gc te.n24 (p:=p) (by have:=dp.rm;have:=te.m6;omega) (by have:=dp.cm;have:=te.m6;omega) dp.k16;walk_at "o";refine⟨dx,_,te2.at_,rfl,a,dx,g,dg,d1,d2,b,sg,st,as,rs,m,p,rfl,te2,hb2,.inl ⟨dp,nofun,by have:=dp.k16;omega,λH3 sd3 mm3=>h2 _ _ ?_⟩⟩;clear h2;have te3:=te2.next sd3 mm3;have hb3:=(te2.kp sd3).tup hb2;walk_at "o";refine⟨dx,_,te3.at_,rfl,⋯,a,dx,g,dg,d1,d2,b,sg,st,as,rs,m,p,_,rfl,te3,hb3,hn hne,.inl ⟨dp,kn,λj t' ej hj v H4 sd4 mm4 hv=>?_,λbad=>?_⟩⟩
   rotate_left
   ·exfalso
    have h1:(zC rs k ps i:Int)%(CN rs p:Int)=((zC rs k ps i%CN rs p:Nat):Int):=by push_cast;rfl
    have h2:=Nat.mod_lt (zC rs k ps i) hC0;omega
   have ejn:j=zC rs k ps i%CN rs p:=by
    have h1:(zC rs k ps i:Int)%(CN rs p:Int)=((zC rs k ps i%CN rs p:Nat):Int):=by push_cast;rfl
    omega
   rw[ejn,ht2]at hj;cases hj;refine⟨ak nofun,λp1 hp1=>?_⟩;have s5:=ae (o:=.tup [v]) hp1;have e5:aA H4 p1 (.tup [v]) p1=some (.tup [v]):=ac;generalize aA H4 p1 (.tup [v])=H5 at s5 e5 ⊢;have sd35:=(sd3.trans sd4).trans (.of s5);have hxt5:=(te2.kp sd35).tup hxt;refine ia e5 hxt5 (by simp) (by simp;omega) λp2 H6 hp2' s6=>h2 _ _ ?_;clear h2;walk_at "wp";refine⟨⟨⋯,DL hCb⟩,(sd.trans sd35).trans (.of s6),((te3.next sd4 mm4).up (s5.trans s6)).mm,hlt,p2,[v]++vs,hp2',?_,by simp;omega,?_⟩
   ·have e8:(ts.reverse.take (i+1)).reverse=t::(ts.reverse.take i).reverse:=by rw[List.take_add_one,ht1];simp
    rw[e8,Kl];have tu:gu H2 H6:=λx xs e=>((te2.kp sd35).trans (.of s6)).tup e;exact bD.cons (hv.up (gu.of (s5.trans s6)) _) (hvs.up tu _)
   ·exact⟨by rw[hkn];push_cast;rfl,rfl⟩
  ·rintro σ H2 ⟨sd,mm,hi,xt,vs,y,z,hxt,hvs,hvl,rfl⟩
   refine h1 _ _ ?_;walk_at "wp";rw[JU,hbl,<- htl]at hvs;rw[<- J_,Kt,List.reverse_reverse]at hvs;exact q xt vs H2 sd mm hxt hvs
noncomputable abbrev cu:Stmt:=eQ 40 5
theorem k6:az ["self","row","k","passed","number","rows","many"] ["self","row","k"] (ah cu):=by walk_at "c"
theorem qT{R:RC}{f CG CT yaa yac:Addr}{fd:KU}{n lv:Nat}(hlv:72<=lv)(F:cw K "tree_in" "TreeRows.tree_in" cu f fd)(nb:NB mg)(yaD:mg "NoNumber"=some (.ref yac))(yaz:XR K yac)
  (yah:b6 P w K mg base (bE P w) 71 CT "steps_of" ["self","row"] (bN R CG CT yaa 17)) (ydb:b6 P w K mg base (bE P w) (lv+1) CT "trees_in" ["self","rows","k"] (fV R CG CT n)) :
  aQ P w K mg base (bE P w) (lv+2) f fd ["self","row","k"] (cy R CG CT yaa yac (n+1)):=by
 have sc:=k6;walk_at "x"
 ·obtain⟨a,dx,g,dg,d1,d2,b,sg,st,as,rs,m,p,k,rfl,_⟩:=h;rfl
 ·obtain⟨a,dx,g,dg,d1,d2,b,sg,st,as,rs,m,p,k,rfl,te,hb,_,cs⟩:=h
  have hu:=hr.units;refine⟨_,(af (aF (i:=3) sc.nd rfl (Or.inl rfl) aj)
   (af (bu PassesOwn.leaving rfl (cD (bV yah (hr.mono ⋯) (aX λ_ _ _ h=>h) (al 0) (aa (al 1) ad))) (dE (n:=3) rfl (aG (aw (i:=4) sc.nd rfl (Or.inl rfl)) (aG (aw (i:=5) sc.nd rfl (Or.inl rfl)) (aG (aw (i:=6) sc.nd rfl (Or.inl rfl)) cq))))
   (af (bF (vg (bf.m0 lW) (bf.m0 pX) (al 3) (al 2) (ay (bf.m0 bL) (al 3) (al 6)))
   (ai (aI (ay dC (aL (aa (al 4) ad)) (bV ydb (hr.mono ⋯) (aX λ_ _ _ h=>h) (al 0) (aa (al 5) (aa (ay (bf.m0 d_) (al 2) (al 3)) ad))))))
   aO)
   (ai (aF (i:=3) sc.nd rfl (Or.inl rfl) (ay (bf.m0 bL) (al 3) (al 6))))))
   (ai (dN yaz rfl rfl yaD (fq λ_ _ _ h=>h) (bP ad))))),?_⟩
  walk_at "n";refine h1 _ _ ?_;walk_at "nc";refine⟨dx,_,te.at_,rfl,a,dx,g,dg,d1,d2,b,sg,st,as,rs,m,p,rfl,te,hb,?_⟩;rcases cs with⟨dp,pn,q,bad⟩ | ⟨nn,ex⟩
  rotate_left
  ·exact .inr ⟨nofun,nn,ex⟩
  refine .inl ⟨dp,nofun,by have:=dp.k16;omega,λl H1 sd1 mm1 _ hZ=>?_⟩;have te1:=te.next sd1 mm1;have ok:=dp.row te.m6;have hsl:=m8 te.gc ok te.n24;have hss:=ng te.gc ok;obtain⟨ts,o,hts,htl,hte⟩:=id hZ;refine⟨l,rfl,⟨_,.inl (.inr ⟨o,hts⟩)⟩,?_⟩;refine dh (xs:=ts.map V.ref) (λi σ H'=>H'=H1/\(i<=ts.length/\¬ ((0:Int)<=k/\k<((((aT rs p).take i).map λs=>s.2.2).sum:Nat)))/\∃x y z,σ=[some (V.ref a),some (V.ref b),some (V.int k),some (V.int ((((aT rs p).take i).map λs=>s.2.2).sum:Nat)),x,y,z])
   ⟨rfl,⟨Kf _,by rw[KI];simp⟩,_,_,_,rfl⟩ (λi σ H' _ h=>by rw[h.1];exact .inl (.inr ⟨o,hts⟩)) ?_ ?_
  ·rintro i x σ H2 hx ⟨rfl,⟨hi,hno⟩,x1,y1,z1,rfl⟩
   have hlt:i<ts.length:=by have:=(JS.mp hx).1;rwa [JU]at this
   rw[JW,JR hlt]at hx;cases hx;obtain⟨s0,hs0⟩:∃s,(aT rs p)[i]?=some s:=⟨_,JR ⋯⟩;obtain⟨rl,he,hT⟩:=hte i _ s0 (JR hlt) hs0;generalize ts[i]'hlt=t at he;have hsn:=rW (λs:u3=>s.2.2) _ _ _ hs0;generalize hps:(((aT rs p).take i).map λs=>s.2.2).sum=pas at hno hsn;walk_at "wp";refine⟨_,ba.of he,rfl,_,_,rfl,_,_,rfl,_,_,rfl,rfl,?_⟩;rw[hsn]
   by_cases hk1:(pas:Int)<=k
   ·rw[if_pos hk1]
    refine⟨_,rfl,?_⟩
    by_cases hk2:k<(pas:Int)+(s0.2.2:Int)
    ·rw[if_pos hk2]
     refine⟨ak nofun,λp1 hp1=>?_⟩;have s2:=ae (o:=.tup [V.int (s0.1:Int)]) hp1;have e2:aA H2 p1 (.tup [V.int (s0.1:Int)]) p1=some (.tup [V.int (s0.1:Int)]):=ac;generalize aA H2 p1 (.tup [V.int (s0.1:Int)])=H3 at s2 e2 ⊢;have te3:=te1.up s2;obtain⟨j,hj⟩:∃j:Nat,k=((pas+j:Nat):Int):=⟨(k-pas).toNat,⋯⟩;obtain⟨q0,hq0,hn0,hps0,hm0,h00,hfw⟩:=iQ (JX hs0);have hfp:=cg ok.r1 ok.c1;obtain⟨q4,qc,qc9⟩:=te.gc q0 (JX hq0);have hp2:s0.2.1.length<=2:=by
      rcases dM q4 ok.r1 ok.c1 hps0 with e | ⟨p',e,_⟩ | ⟨_,z,f,sz,f1,f2,e⟩<;>rw[e]<;>simp
     have hok:∀p'∈s0.2.1,gn p':=λp' hp'=>(kc te.gc ok (JX hs0) hp').1;obtain⟨tsx,htx⟩:∃tsx,(bJ (RT rs) s0.2.1)[j]?=some tsx:=⟨_,JR (by rw[fR (g:=CN rs) λp' hp'=>cH te.gc (hok p' hp'),<- hm0];omega)⟩;refine⟨dx,_,te3.at_,rfl,a,dx,g,dg,d1,d2,rl,sg,st,as,rs,m,s0.2.1,j,tsx,by rw[show k-(pas:Int)=(j:Int) by omega],te3,hT.kz (Kp.of s2).z,λp' hp'=>?_,hp2,λ_=>by omega,htx,λx vs H4 sd4 mm4 hx4 hvs=>?_⟩
     ·obtain⟨d',lt'⟩:=dp.part te.gc (JX hq0) ⋯ hps0 hp'
      exact⟨d',by push_cast at pn;omega⟩
     ·have htl2:=(qC te.gc hok hp2 htx).1
      have hvl:=hvs.length;rw[JU]at hvl;refine ia ((te3.kp sd4).tup e2) hx4 (by simp) (by simp;omega) λp2 H5 hp2' s5=>?_;have hget:=BN te.gc ok hs0 htx;rw[hps]at hget;refine q (pas+j) _ hj hget (.ref p2) H5 (((sd1.trans (.of s2)).trans sd4).trans (.of s5)) ((te3.next sd4 mm4).up s5).mm (bK.of (vs:=vs) ?_ ?_)
      ·rw[Ek];exact hp2'
      ·rw[Cj _ ⋯];exact hvs.up (gu.of s5) _
    ·rw[if_neg hk2]
     exact⟨_,rfl,hlt,⋯,by push_cast;rfl⟩
   ·rw[if_neg hk1]
    exact⟨_,rfl,hlt,⋯,by push_cast;rfl⟩
  ·rintro σ H2 ⟨rfl,⟨_,hno⟩,x1,y1,z1,rfl⟩
   refine h1 _ _ ?_;walk_at "wp";rw[JU,htl,Kt,hss]at hno;exact⟨ak nofun,bad ⋯ H2 sd1 mm1⟩
theorem AD{R:RC}{f CG CT yaa yac:Addr}{fd:KU}(F:cw K "tree_in" "TreeRows.tree_in" cu f fd):aQ P w K mg base (bE P w) 73 f fd ["self","row","k"] (cy R CG CT yaa yac 0):=by
 have no:∀{vs:List V} {H:Hp} {Q:VK} {E:XK},¬ cy R CG CT yaa yac 0 vs H Q E:=λh=>by
  obtain⟨a,dx,g,dg,d1,d2,b,sg,st,as,rs,m,p,k,_,_,_,h0,_⟩:=h;exact absurd h0 ⋯
 exact F.okX (k:=72) (sp:=cy R CG CT yaa yac 0) k6 (λvs H Q E h=>absurd h no) (λcdv A outer s H vs Q E hr h=>absurd h no)
theorem nX{R:RC}{CG CT yaa yac f1 f2:Addr}{fd1 fd2:KU}(F1:cw K "tree_in" "TreeRows.tree_in" cu f1 fd1)(F2:cw K "trees_in" "TreeRows.trees_in" cz f2 fd2)(nb:NB mg)(ct:fz K CT)(yaD:mg "NoNumber"=some (.ref yac))(yaz:XR K yac)
  (me1:cQ K CT "tree_in" f1) (me2:cQ K CT "trees_in" f2) (b1:b7 K fd1 ["self","row","k"] []) (b2:b7 K fd2 ["self","rows","k"] [])
  (yaf:b6 P w K mg base (bE P w) 72 CT "many_in" ["self","row"] (bq R CG CT yaa 17)) (yah:b6 P w K mg base (bE P w) 71 CT "steps_of" ["self","row"] (bN R CG CT yaa 17)) :
  ∀n,b6 P w K mg base (bE P w) (73+2*n) CT "tree_in" ["self","row","k"] (cy R CG CT yaa yac n)
 |0=>⟨f1,fd1,AD F1,ct.cl,me1,b1⟩
 |n+1=>by
  have ih:=nX F1 F2 nb ct yaD yaz me1 me2 b1 b2 yaf yah n;have c2:b6 P w K mg base (bE P w) (73+2*n+1) CT "trees_in" ["self","rows","k"] (fV R CG CT n):=⟨f2,fd2,pO (lv:=73+2*n) ⋯ F2 nb yaf ih,ct.cl,me2,b2⟩;exact⟨f1,fd1,qT (lv:=73+2*n) ⋯ F1 nb yaD yaz yah c2,ct.cl,me1,b1⟩
noncomputable abbrev km:Stmt:=eQ 6 0
theorem B7:az ["self","why"] ["self","why"] (ah km):=by walk_at "c"
theorem BW{f C:Addr}{fd:KU}(F:cw K "__init__" "NoTree.__init__" km f fd)(xs:W.XSt K C "why"):aQ P w K mg base bC 1 f fd ["self","why"] (ml C "why"):=by
 have sc:=B7;walk_at "f"
 ·obtain⟨a,v,rfl,_⟩:=h;rfl
 ·obtain⟨a,v,rfl,ha,q⟩:=h
  refine⟨_,(ai (yk (pv 0) (pv 1) rfl)),?_⟩;walk_at "wp";exact⟨C,ha,xs,λd hd=>q d hd⟩
structure SJ where
 d:Dt
 nm:List Nat
 p:bG
 c:Int
 m:Int
 k:Nat
noncomputable def Sh:Nat->Dt->List Int->Prop
 |0,_,_=>False
 |n+1,d,ns=>∃(i:Nat) (ds:List Dt) (nss:List (List Int)),d=.tup (.int (i:Int)::ds)/\ns=(i:Int)::nss.flatten/\ds.length=nss.length/\ds.length<=2/\∀(j:Nat) d' ns',ds[j]?=some d'->nss[j]?=some ns'->Sh n d' ns'
theorem Sh.mono:∀{m n:Nat} {d:Dt} {ns:List Int},Sh m d ns->m<=n->Sh n d ns
 |0,_,_,_,h,_=>h.elim
 |m+1,0,_,_,_,h=>absurd h ⋯
 |m+1,n+1,d,ns,⟨i,ds,nss,e1,e2,e3,e4,h⟩,hmn=>⟨i,ds,nss,e1,e2,e3,e4,λj d' ns' h1 h2=>(h j d' ns' h1 h2).mono ⋯⟩
theorem Sh.len:∀{n:Nat} {d:Dt} {ns:List Int},Sh n d ns->ns.length<2 ^ n
 |0,_,_,h=>h.elim
 |n+1,d,ns,⟨i,ds,nss,e1,e2,e3,e4,h⟩=>by
  have hp:0<2 ^ n:=Nat.two_pow_pos n;have h':∀(j:Nat) ns',nss[j]?=some ns'->ns'.length<2 ^ n:=λj ns' hj=>by
   have hj2:j<ds.length:=by rw[e3];exact(JS.mp hj).1
   exact(h j _ ns' (JR hj2) hj).len
  rw[e2,Nat.pow_succ]
  match nss,e3,h' with
  | [],_,_=>simp;omega
  | [a],_,h'=>have:=h' 0 a rfl;simp;omega
  | [a,b],_,h'=>have:=h' 0 a rfl;have:=h' 1 b rfl;simp;omega
  |a::b::c::nss,e3,_=>simp at e3;omega
theorem rT{α:Type}{xss:List (List α)}{j:Nat}{xs:List α}(h:xss[j]?=some xs):(xss.take (j+1)).flatten=(xss.take j).flatten++xs:=by
 rw[List.take_succ,h];simp
theorem iK{α:Type}:∀(xss:List (List α)) (j:Nat),(xss.take j).flatten.length<=xss.flatten.length
 | [],_=>by simp
 |xs::xss,0=>by simp
 |xs::xss,j+1=>by have:=iK xss j;simp[-List.length_flatten] ;omega
noncomputable abbrev iV:Stmt:=iO 36
noncomputable def gP(n:Nat):Sp:=λvs H Q _=>∃(v:V) (d:Dt) (ns:List Int),vs=[v]/\cJ H d v/\Sh n d ns/\∀l H',H l=none->H' l=some (.lst (ns.map V.int))->aC H H'->Q (.ref l) H'
theorem kW:az ["tree","numbers","part"] ["tree"] (ah iV):=by walk_at "c"
theorem k_{f:Addr}{fd:KU}(F:cw K "numbers_in" "numbers_in" iV f fd)(nb:NB mg)(hm:mg "numbers_in"=some (.ref f))(hk:W.keepIn K (.ref f)=true)(hb:b7 K fd ["tree"] []):∀n,n<=18->aQ P w K mg base bC (n+1) f fd ["tree"] (gP n)
 |0,_=>by
  refine F.ok kW (λvs H Q E h=>?_) (λcdv A outer s H vs Q E hr h=>?_)
  ·obtain⟨v,d,ns,_,_,h,_⟩:=h;exact h.elim
  ·obtain⟨v,d,ns,_,_,h,_⟩:=h;exact h.elim
 |n+1,hn=>by
  have sc:=kW;have yaO:eO P w K mg base bC (n+1) "numbers_in" ["tree"] (gP n):=⟨f,fd,k_ F nb hm hk hb n ⋯,hm,hk,hb⟩;walk_at "f"
  ·obtain⟨v,d,ns,rfl,_⟩:=h;rfl
  ·obtain⟨v,d,ns,rfl,ht,hsh,q⟩:=h
   refine⟨_,(af (aF (i:=1) sc.nd rfl (Or.inl rfl) (bB (aa (aH aJ (al 0) aj (λ_ _=>rfl)) ad)))
   (af (bu PassesOwn.never rfl (sM (eG nG (al 0) (e_ aj) gE)) (aw (i:=2) sc.nd rfl (Or.inl rfl))
   (ai (bv (hU PySem.F.plainAttrs_list PySem.F.slot_list_extend PySem.F.type_list_extend Ah (al 1) (aa (aK yaO (hr.mono ⋯) rfl aY (aa (al 2) ad)) ad)))))
   (ai (aI (al 1))))),?_⟩
   obtain⟨i,ds,nss,rfl,rfl,e3,e4,hch⟩:=hsh;unfold cJ at ht;obtain⟨a,xs,rfl,hta,hts⟩:=ht;obtain⟨x0,ys,rfl,hx0,htr⟩:=hts.uncons;unfold cJ at hx0;subst hx0;have hyl:=htr.length;walk_at "n";refine⟨_,ba.of hta,_,nR _ _,ak nofun,λl hl=>h1 _ _ ?_⟩;walk_at "nc";have s1:=ae (o:=.lst [V.int (i:Int)]) hl;have e1:aA H l (.lst [V.int (i:Int)]) l=some (.lst [V.int (i:Int)]):=ac;generalize aA H l (.lst [V.int (i:Int)])=H1 at s1 e1 ⊢;refine⟨_,ba.of (s1 _ _ hta),oO _ _,λp hp=>?_⟩;rw[DP];have s2:=s1.trans (ae (o:=.tup ys) hp);have e2:=ae (o:=.tup ys) hp _ _ e1;have ep:aA H1 p (.tup ys) p=some (.tup ys):=ac;generalize aA H1 p (.tup ys)=H2 at s2 e2 ep ⊢;refine⟨⟨_,ba.of ep⟩,?_⟩;have hpw:2 ^ (n+1)<=2 ^ 18:=Nat.pow_le_pow_right nofun hn;have hlen:(nss.flatten).length+1<262145:=by
    have h:=Sh.len (n:=n+1) (d:=.tup (.int (i:Int)::ds)) (ns:=(i:Int)::nss.flatten) ⟨i,ds,nss,rfl,rfl,e3,e4,hch⟩;rw[J4]at h;have:(2:Nat) ^ 18=262144:=by decide
    omega
   refine pR (xs:=ys) (λj σ H'=>aC H H'/\H' p=some (.tup ys)/\H' l=some (.lst (((i:Int)::(nss.take j).flatten).map V.int))/\∃z,σ=[some (V.ref a),some (V.ref l),z]) ⟨s2,ep,by rw[KI];exact e2,_,rfl⟩ ?_ ?_ ?_
   ·rintro j σ H' _ ⟨_,h,_⟩
    exact ba.of h
   ·rintro j x σ H' hx ⟨sm,hp',hl',z,rfl⟩
    obtain⟨d',hd',ht'⟩:=ip htr hx;have hj:j<nss.length:=by rw[<- e3];exact(JS.mp hd').1
    have hns:nss[j]?=some nss[j]:=JR hj;have b1:=iK nss j;have b2:=iK nss (j+1);rw[rT hns,Kd]at b2;walk_at "wp";refine⟨.inl ⟨rfl,_,aU.of hl'⟩,x,d',nss[j],rfl,ht'.up (gu.of sm) _,hch j d' _ hd' hns,λm H3 hm3 h3 s3=>⟨m,rfl,_,s3 _ _ hl',_,h3,?_,fP (sm.trans s3) hl,?_,?_⟩⟩
    ·simp only[JU,J4]
     exact ak ⋯
    ·rw[am (λe=>by rw[e,hl']at hp';cases hp')]
     exact s3 _ _ hp'
    ·rw[ac,rT hns]
     simp
   ·rintro σ H' ⟨sm,hp',hl',z,rfl⟩
    refine h1 _ _ ?_;walk_at "wp";rw[hyl,e3,Kt]at hl';exact q l H' hl hl' sm
theorem Gr.node{rs:Yaa}{d:Dt}{nm:KO}{p:bG}{c:Int}{k:Nat}(g:Gr rs d nm p c k):∃(n:Nat) (r:Nat×RV) (ys:List SJ),d=.tup (.int (n:Int)::ys.map SJ.d)/\rs[n]?=some r/\nm=r.2.n/\bi r.1 r.2=ys.map SJ.nm/\(∀y∈ys,Gr rs y.d y.nm y.p y.c y.k/\y.k<k)/\hJ r.1 r.2 (ys.map SJ.p)=some p/\c=r.2.c+(ys.map SJ.c).sum/\ys.length<=2:=by
 cases g with
 | @cell n v e=>exact⟨n,(0,v),[],rfl,e,rfl,rfl,λy hy=>(nomatch hy),rfl,(Int.add_zero _).symm,by simp⟩
 | @turn n v d p c k e g=>
  refine⟨n,(3,v),[⟨d,v.o1,p,c,0,k⟩],rfl,e,rfl,rfl,λy hy=>?_,rfl,?_,by simp⟩
  ·rw[JV.mp hy];exact⟨g,Ko _⟩
  ·show v.c+c=v.c+(c+0)
   rw[Int.add_zero]
 | @pair n kd v d1 d2 p1 p2 p c1 c2 k1 k2 hk e g1 g2 m=>
  refine⟨n,(kd,v),[⟨d1,v.o1,p1,c1,0,k1⟩,⟨d2,v.o2,p2,c2,0,k2⟩],rfl,e,rfl,?_,λy hy=>?_,m,?_,by simp⟩
  ·rcases hk with rfl | rfl<;>rfl
  ·rcases J8.mp hy with rfl | hy
   ·exact⟨g1,by show k1<max k1 k2+1;omega⟩
   ·rw[JV.mp hy]
    exact⟨g2,by show k2<max k1 k2+1;omega⟩
  ·show v.c+(c1+c2)=v.c+(c1+(c2+0))
   rw[Int.add_zero]
noncomputable abbrev iL:Stmt:=iO 37
noncomputable def gQ(K:W.Frag)(R:RC)(CG:Addr)(n:Nat):Sp:=λvs H Q _=>∃(g:Addr) (v:V) (pl:Addr) (nv:V) (dx:Addr) (sg st:KO) (as:KR) (rs:Yaa) (d:Dt) (nm:KO) (p:bG) (c:Int) (k:Nat) (zs:List V),vs=[.ref g,v,.ref pl,nv]/\dA R H CG dx g sg st as rs/\rs.length<=24/\cJ H d v/\Gr rs d nm p c k/\k<=n/\(nv=.non\/nv=.str (tx nm))/\ba K H pl zs/\zs.length+n<=100/\∀H',aC H H'->Q .non H'
theorem kY:az ["grammar","tree","place","name","number","rule","parts","k","part"] ["grammar","tree","place","name"] (ah iL):=by walk_at "c"
theorem lj{R:RC}{f CG yae:Addr}{fd:KU}(F:cw K "check_form" "check_form" iL f fd)(nb:NB mg)(rk:ow K R)(yaC:mg "NoTree"=some (.ref yae))(yax:XI P w K mg base 1 yae "why")(yav:oy P w K mg base bC 1 "parts" (nw K R))(yad:b6 P w K mg base bC 1 CG "rule" ["self","k"] (b5 R CG))(yaT:b6 P w K mg base bC 1 CG "many" ["self"] (iM R CG))(hm:mg "check_form"=some (.ref f))(hk:W.keepIn K (.ref f)=true)(hb:b7 K fd ["grammar","tree","place","name"] []):∀n,n<=18->aQ P w K mg base (bE P w) (n+4) f fd ["grammar","tree","place","name"] (gQ K R CG n)
 |0,_=>by
  refine F.okX kY (λvs H Q E h=>?_) (λcdv A outer s H vs Q E hr h=>?_)
  ·obtain⟨g,v,pl,nv,dx,sg,st,as,rs,d,nm,p,c,k,zs,rfl,_⟩:=h;rfl
  ·obtain⟨g,v,pl,nv,dx,sg,st,as,rs,d,nm,p,c,k,zs,rfl,_,_,_,hg,hk0,_⟩:=h
   exfalso;cases hg<;>omega
 |n+1,hn=>by
  have sc:=kY;have yaG:eO P w K mg base (bE P w) (n+4) "check_form" ["grammar","tree","place","name"] (gQ K R CG n):=⟨f,fd,lj F nb rk yaC yax yav yad yaT hm hk hb n ⋯,hm,hk,hb⟩;walk_at "x"
  ·obtain⟨g,v,pl,nv,dx,sg,st,as,rs,d,nm,p,c,k,zs,rfl,_⟩:=h;rfl
  ·obtain⟨g,v,pl,nv,dx,sg,st,as,rs,d,nm,p,c,k,zs,rfl,hG,h24,ht,hg,hkn,hnv,hpl,hz,q⟩:=h
   refine⟨_,(af (aF (i:=4) sc.nd rfl (Or.inl rfl) (aH aJ (al 1) aj (λ_ _=>rfl)))
   (af (bF (PW.pt (i6 (aM (bf.m0 pX) (al 4) aj (aS _)) (gZ (aM (bf.m0 En) (al 4) (Bb yaT (hr.mono ⋯) aY (al 0)) (aS _)))))
   (ai (dJ yax (hr.mono ⋯) rfl rfl yaC (dI λ_ _ _ h=>h) (aa (aL (bP (aa (al 2) ad))) ad)))
   aO)
   (af (aF (i:=5) sc.nd rfl (Or.inl rfl) (bV yad (hr.mono ⋯) aY (al 0) (aa (al 4) ad)))
   (af (aF (i:=6) sc.nd rfl (Or.inl rfl) (u7 yav (hr.mono ⋯) aY (al 5)))
   (af (bF (aM pT (ay (bf.m0 d_) (aB kf rfl nb.len aW (aa (al 1) ad)) aj) (aB bb rfl nb.len aW (aa (al 6) ad)) (aS _))
   (ai (dJ yax (hr.mono ⋯) rfl rfl yaC (dI λ_ _ _ h=>h) (aa (aL (bP (aa (al 2) ad))) ad)))
   aO)
   (af (bF (PW.pt (mL (aM yE (al 3) uv (aS _)) (oX (aM pT (bz (al 5) rfl) (al 3) (aS _)))))
   (ai (dJ yax (hr.mono ⋯) rfl rfl yaC (dI λ_ _ _ h=>h) (aa (aL (bP (aa (al 2) ad))) ad)))
   aO)
   (ai (bu PassesOwn.leaving rfl (oS rfl nb.enumerate (aa (al 6) ad)) (dE (n:=2) rfl (aG (aw (i:=7) sc.nd rfl (Or.inl rfl)) (aG (aw (i:=8) sc.nd rfl (Or.inl rfl)) cq)))
   (ai (bv (aK (E:=E) yaG (hr.mono ⋯) rfl (aX λ_ _ _ h=>h) (aa (al 0) (aa (aH aJ (al 1) (ay (bf.m0 bL) (al 7) aj) (λ_ _=>rfl)) (aa (ay yy (al 2) (aL (aa (al 7) ad))) (aa (al 8) ad))))))))))))))),?_⟩
   obtain⟨i,r,ys,rfl,hri,rfl,hpar,hsub,hmd,hcc,hyl⟩:=hg.node;unfold cJ at ht;obtain⟨a,xs,rfl,hta,hts⟩:=ht;obtain⟨x0,vs,rfl,hx0,htr⟩:=hts.uncons;unfold cJ at hx0;subst hx0;have hvl:=htr.length;have hvl2:vs.length=ys.length:=by rw[hvl,JU]
   have hi:i<rs.length:=(JS.mp hri).1;walk_at "n";refine⟨_,ba.of hta,_,nR _ _,h1 _ _ ?_⟩;walk_at "nc";obtain⟨lk,pn,t,ha,hkk,hrs,hN,hmm⟩:=id hG;rw[if_neg ⋯];refine⟨_,_,ha,rfl,g,dx,sg,st,as,rs,rfl,hG,?_⟩;refine⟨_,rfl,?_⟩;rw[if_neg ⋯];refine h1 _ _ ?_;walk_at "nc";have hlr:i<as.length:=by rw[hrs.1];exact hi
   obtain⟨b,hb'⟩:∃b,as[i]?=some b:=⟨_,JR hlr⟩;have yaV:=hrs.2 i b r hb' hri;refine⟨_,_,ha,rfl,g,dx,sg,st,as,rs,i,b,rfl,hG,hb',h1 _ _ ?_⟩;walk_at "nc";refine sy rk yaV λlp H1 hlp0 hlp s1=>h1 _ _ ?_;walk_at "nc";have hpl1:(aE (bi r.1 r.2)).length=ys.length:=by rw[av,hpar,JU]
   refine⟨_,ba.of (s1 _ _ hta),_,aU.of hlp,?_⟩;rw[hpl1,if_neg (by rw[J4,hvl2];omega)];refine h1 _ _ ?_;walk_at "nc";obtain⟨rdx,rl,hrb,hrl⟩:=id yaV;have go:N1 [some (V.ref g),some (V.ref a),some (V.ref pl),some nv,some (V.int (i:Int)),some (V.ref b),some (V.ref lp),none,none] H1:=by
    refine h1 _ _ ?_;clear h1;walk_at "wp";refine⟨_,aU.of hlp,?_⟩;refine j8 (xs:=aE (bi r.1 r.2)) (λj σ H'=>aC H H'/\H' lp=some (.lst (aE (bi r.1 r.2)))/\∃z1 z2,σ=[some (V.ref g),some (V.ref a),some (V.ref pl),some nv,some (V.int (i:Int)),some (V.ref b),some (V.ref lp),z1,z2]) ⟨s1,hlp,_,_,rfl⟩ ?_ ?_ ?_
    ·rintro j σ H' _ ⟨_,h,_⟩
     exact aU.of h
    ·rintro j x σ H' T hx ⟨sm,hlp',z1,z2,rfl⟩ hT
     have hj:j<ys.length:=by rw[<- hpl1];exact(JS.mp hx).1
     have hx':x=V.str (tx ys[j].nm):=by
      rw[hpar]at hx;rw[bc (by rw[JU];exact hj),Kj]at hx;exact(Option.some.inj hx).symm
     subst hx';have sT:=ae (o:=.tup [V.int (j:Int),V.str (tx ys[j].nm)]) hT;have eT:aA H' T (.tup [V.int (j:Int),V.str (tx ys[j].nm)]) T=some (.tup [V.int (j:Int),V.str (tx ys[j].nm)]):=ac;generalize aA H' T (.tup [V.int (j:Int),V.str (tx ys[j].nm)])=H2 at sT eT ⊢;have sm2:=sm.trans sT;have hjv:j<vs.length:=by omega
     have hvj:vs[j]?=some vs[j]:=JR hjv;obtain⟨d',hd',ht'⟩:=ip htr hvj;rw[JW,JR hj]at hd';cases hd';obtain⟨hgj,hkj⟩:=hsub ys[j] (J1 hj);walk_at "wp";refine⟨_,ba.of eT,rfl,_,_,rfl,_,_,rfl,rfl,?_⟩;refine⟨_,rfl,_,ba.of (sm2 _ _ hta),_,show h_ (V.int (i:Int)::vs) (((j+1:Nat)):Int)=some vs[j] from bt (by rw[Kk];exact hvj),ak nofun,λp1 hp1=>?_⟩;have s3:=sm2.trans (ae (o:=.tup [V.int (j:Int)]) hp1);have sL:=sT.trans (ae (o:=.tup [V.int (j:Int)]) hp1);have e3:aA H2 p1 (.tup [V.int (j:Int)]) p1=some (.tup [V.int (j:Int)]):=ac;generalize aA H2 p1 (.tup [V.int (j:Int)])=H3 at s3 e3 sL ⊢;refine⟨_,s3.sqT hpl,_,ba.of e3,by simp;exact ak ⋯,λpp H4 hpp s4=>?_⟩;have s5:=s3.trans s4;refine⟨g,vs[j],pp,_,dx,sg,st,as,rs,ys[j].d,ys[j].nm,ys[j].p,ys[j].c,ys[j].k,_,rfl,hG.up s5,h24,ht'.up (gu.of s5) _,hgj,⋯,.inr rfl,hpp,by simp;omega,λH5 s6=>⟨s5.trans s6,s6 _ _ (s4 _ _ (sL _ _ hlp'))⟩⟩
    ·rintro σ H' ⟨sm,hlp',z1,z2,rfl⟩
     exact q H' sm
   rcases hnv with rfl | rfl
   ·rw[if_neg (λe=>e rfl)]
    exact go
   ·rw[if_pos (λe=>by cases e)]
    refine⟨_,_,_,s1 _ _ hrb,(rk.icls r.1).cl,(rk.name r.1).1,_,(iT rl r.2 r.1).1,rfl,?_⟩;rw[if_neg (λe=>e rfl)];exact go
theorem D_{k:Nat}{v:RV}{ys:List SJ}(hk:k<4)(hp:bi k v=ys.map SJ.nm)(h6:∀y∈ys,∃r c,fA y.p r c):Af k (ys.map SJ.p):=by
 have hl:=congrArg List.length hp;rw[JU]at hl
 match k,hk with
 |0,_=>
  have h0:ys.length=0:=hl.symm;rw[Kx.mp h0];exact .cell
 |1,_=>
  match ys,(show ys.length=2 from hl.symm),h6 with
  | [x,y],_,h6=>
   obtain⟨r,c,h⟩:=h6 x (by simp);obtain⟨r',c',h'⟩:=h6 y (by simp);exact .beside h h'
 |2,_=>
  match ys,(show ys.length=2 from hl.symm),h6 with
  | [x,y],_,h6=>
   obtain⟨r,c,h⟩:=h6 x (by simp);obtain⟨r',c',h'⟩:=h6 y (by simp);exact .above h h'
 |3,_=>
  match ys,(show ys.length=1 from hl.symm),h6 with
  | [x],_,h6=>
   obtain⟨r,c,h⟩:=h6 x (by simp);exact .turn h
noncomputable abbrev BI:Stmt:=iO 38
noncomputable def xB(K:W.Frag)(R:RC)(CG:Addr)(n:Nat):Sp:=λvs H Q _=>∃(g:Addr) (v:V) (pl:Addr) (dx:Addr) (sg st:KO) (as:KR) (rs:Yaa) (d:Dt) (nm:KO) (p:bG) (c:Int) (k:Nat) (zs:List V),vs=[.ref g,v,.ref pl]/\dA R H CG dx g sg st as rs/\(∀r∈rs,fG r)/\cJ H d v/\Gr rs d nm p c k/\k<=n/\ba K H pl zs/\zs.length+n<=100/\cO H p Q
theorem Ch:az ["grammar","tree","place","pictures","k","part"] ["grammar","tree","place"] (ah BI):=by walk_at "c"
theorem C9{R:RC}{f CG CF:Addr}{fd:KU}(F:cw K "lay" "lay" BI f fd)(nb:NB mg)(yaW:oy P w K mg base (bE P w) 4 "made" (qq K R CF))(yad:b6 P w K mg base bC 1 CG "rule" ["self","k"] (b5 R CG))(hm:mg "lay"=some (.ref f))(hk:W.keepIn K (.ref f)=true)(hb:b7 K fd ["grammar","tree","place"] []):∀n,n<=18->aQ P w K mg base bC (n+5) f fd ["grammar","tree","place"] (xB K R CG n)
 |0,_=>by
  refine F.ok Ch (λvs H Q E h=>?_) (λcdv A outer s H vs Q E hr h=>?_)
  ·obtain⟨g,v,pl,dx,sg,st,as,rs,d,nm,p,c,k,zs,rfl,_⟩:=h;rfl
  ·obtain⟨g,v,pl,dx,sg,st,as,rs,d,nm,p,c,k,zs,rfl,_,_,_,hg,hk0,_⟩:=h
   exfalso;cases hg<;>omega
 |n+1,hn=>by
  have sc:=Ch;have yaF:eO P w K mg base bC (n+5) "lay" ["grammar","tree","place"] (xB K R CG n):=⟨f,fd,C9 F nb yaW yad hm hk hb n ⋯,hm,hk,hb⟩;walk_at "f"
  ·obtain⟨g,v,pl,dx,sg,st,as,rs,d,nm,p,c,k,zs,rfl,_⟩:=h;rfl
  ·obtain⟨g,v,pl,dx,sg,st,as,rs,d,nm,p,c,k,zs,rfl,hG,hgd,ht,hg,hkn,hpl,hz,q⟩:=h
   refine⟨_,(af (aF (i:=3) sc.nd rfl (Or.inl rfl) (bB ad))
   (af (bu PassesOwn.never rfl (CJ rfl nb.enumerate (aa (eG nG (al 1) (e_ aj) gE) ad)) (dE (n:=2) rfl (aG (aw (i:=4) sc.nd rfl (Or.inl rfl)) (aG (aw (i:=5) sc.nd rfl (Or.inl rfl)) cq)))
   (ai (bv (hU PySem.F.plainAttrs_list PySem.F.slot_list_append PySem.F.type_list_append dS (al 3) (aa (aK yaF (hr.mono ⋯) rfl aY (aa (al 0) (aa (al 5) (aa (ay yy (al 2) (aL (aa (al 4) ad))) ad)))) ad)))))
   (ai (wo (ai (aI (yH (CX:=bE P w) yaW (hr.mono ⋯) bg (bV yad (hr.mono ⋯) aY (al 0) (aa (aH aJ (al 1) aj (λ_ _=>rfl)) ad)) (aa (al 3) ad)))))))),?_⟩
   obtain⟨i,r,ys,rfl,hri,rfl,hpar,hsub,hmd,hcc,hyl⟩:=hg.node;unfold cJ at ht;obtain⟨a,xs,rfl,hta,hts⟩:=ht;obtain⟨x0,vs,rfl,hx0,htr⟩:=hts.uncons;unfold cJ at hx0;subst hx0;have hvl:=htr.length;have hvl2:vs.length=ys.length:=by rw[hvl,JU]
   have hi:i<rs.length:=(JS.mp hri).1;walk_at "n";refine⟨Kf _,λl hl=>h1 _ _ ?_⟩;walk_at "nc";have s1:=ae (o:=.lst []) hl;have e1:aA H l (.lst []) l=some (.lst []):=ac;generalize aA H l (.lst [])=H1 at s1 e1 ⊢;refine⟨_,ba.of (s1 _ _ hta),oO _ _,λpt hpt=>?_⟩;rw[DP];have s2:=s1.trans (ae (o:=.tup vs) hpt);have e2:=ae (o:=.tup vs) hpt _ _ e1;have ep:aA H1 pt (.tup vs) pt=some (.tup vs):=ac;generalize aA H1 pt (.tup vs)=H2 at s2 e2 ep ⊢;have hne:∀y∈ys,y.p≠[]:=λy hy e=>by
    obtain⟨r',c',h6⟩:=(hsub y hy).1.pic6 hgd;have:=h6.rc.1;have:=h6.r0;rw[e]at *;simp at *;omega
   refine⟨_,ba.of ep,?_⟩;refine xm (xs:=vs) (λj σ H'=>aC H H'/\H' pt=some (.tup vs)/\(∃bs:List Addr,H' l=some (.lst (bs.map V.ref))/\bs.length=j/\∀(m:Nat) b y,bs[m]?=some b->ys[m]?=some y->H' b=some (.lst (aE y.p)))/\∃z1 z2,σ=[some (V.ref g),some (V.ref a),some (V.ref pl),some (V.ref l),z1,z2]) ⟨s2,ep,⟨[],e2,rfl,λm b y h=>by simp at h⟩,_,_,rfl⟩ ?_ ?_ ?_
   ·rintro j σ H' _ ⟨_,h,_⟩
    exact ba.of h
   ·rintro j x σ H' T hx ⟨sm,hpt',⟨bs,hbs,hbl,hbat⟩,z1,z2,rfl⟩ hT
    have hjv:j<vs.length:=(JS.mp hx).1;have hj:j<ys.length:=by omega
    have sT:=ae (o:=.tup [V.int (j:Int),x]) hT;have eT:aA H' T (.tup [V.int (j:Int),x]) T=some (.tup [V.int (j:Int),x]):=ac;generalize aA H' T (.tup [V.int (j:Int),x])=H3 at sT eT ⊢;obtain⟨d',hd',ht'⟩:=ip htr hx;rw[JW,JR hj]at hd';cases hd';obtain⟨hgj,hkj⟩:=hsub ys[j] (J1 hj);have sm3:=sm.trans sT;walk_at "wp";refine⟨_,ba.of eT,rfl,_,_,rfl,_,_,rfl,rfl,.inl ⟨rfl,_,aU.of (sT _ _ hbs)⟩,ak nofun,λp1 hp1=>?_⟩;have sU:=ae (o:=.tup [V.int (j:Int)]) hp1;have eU:aA H3 p1 (.tup [V.int (j:Int)]) p1=some (.tup [V.int (j:Int)]):=ac;generalize aA H3 p1 (.tup [V.int (j:Int)])=H4 at sU eU ⊢;have s4:=sm3.trans sU;refine⟨_,s4.sqT hpl,_,ba.of eU,by simp;exact ak ⋯,λpp H5 hpp s5=>?_⟩;have s6:=s4.trans s5;have sT5:=(sT.trans sU).trans s5;refine⟨g,x,pp,dx,sg,st,as,rs,ys[j].d,ys[j].nm,ys[j].p,ys[j].c,ys[j].k,_,rfl,hG.up s6,hgd,ht'.up (gu.of s6) _,hgj,⋯,hpp,by simp;omega,λlq H6 hlq0 hlq s7=>?_⟩;have sT6:=sT5.trans s7;have hl6:=sT6 _ _ hbs;refine⟨_,hl6,by rw[JU];exact bd ⋯,fP (s6.trans s7) hl,?_,bs++[lq],by rw[ac];simp,by simp[hbl],λm b y hb1 hy1=>?_⟩
    ·rw[am (λe=>by rw[e,hbs]at hpt';cases hpt')]
     exact sT6 _ _ hpt'
    ·have hym:=JX hy1
     have hb6:H6 b=some (.lst (aE y.p)):=by
      by_cases hm':m<bs.length
      ·rw[Kc hm']at hb1
       exact sT6 _ _ (hbat m b y hb1 hy1)
      ·rw[Kb ⋯]at hb1
       have hm2:m=bs.length:=by
        have:=(JS.mp hb1).1;simp at this;omega
       subst hm2;rw[Nat.sub_self]at hb1;cases hb1;rw[hbl,JR hj]at hy1;cases hy1;exact hlq
     rw[am (x8 hl6 hb6 (hne y hym))];exact hb6
   ·rintro σ H' ⟨sm,hpt',⟨bs,hbs,hbl,hbat⟩,z1,z2,rfl⟩
    refine h1 _ _ ?_;walk_at "wp";obtain⟨lk,pn,t,ha,hkk,hrs,hN,hmm⟩:=id (hG.up sm);have hlr:i<as.length:=by rw[hrs.1];exact hi
    obtain⟨b,hb'⟩:∃b,as[i]?=some b:=⟨_,JR hlr⟩;have yaV:=hrs.2 i b r hb' hri;have hgr:=hgd r (JX hri);rw[hvl2]at hbl;have ydg:A7 H' l bs (ys.map SJ.p):=⟨hbs,by rw[hbl,JU],λm h1 h2=>by
     rw[Kj];exact hbat m _ _ (JR h1) (JR ⋯)⟩
    refine⟨_,_,ha,rfl,_,ba.of (sm _ _ hta),_,nR _ _,g,dx,sg,st,as,rs,i,b,rfl,hG.up sm,hb',?_⟩;obtain⟨o,ho,mdx,mfs,k1,k2,k3⟩:=CK (K:=K) (CF:=CF) (E:=λ_ _ _=>False) (Q:=Q) yaV (hgr.good.ok r.1) ydg (D_ hgr.k4 hpar λy hy=>(hsub y hy).1.pic6 hgd) (λp' hp'=>by
     rw[hmd]at hp';cases hp';exact λlq H7 h0 h7 s7=>q lq H7 (j6 sm h0) h7 (sm.trans s7)) (λe=>by rw[hmd]at e;cases e)
    exact⟨o,ho,b,rfl,mdx,mfs,k1,k2,k3⟩
noncomputable abbrev wU:Stmt:=iO 34
noncomputable def m_(R:RC)(CG:Addr)(H:Hp)(g:Addr)(v:V)(rs:Yaa)(d:Dt)(p:bG)(c:Int):Prop:=∃(dx:Addr) (sg st:KO) (as:KR) (nm:KO) (k:Nat),dA R H CG dx g sg st as rs/\(∀r∈rs,fG r)/\rs.length<=24/\cJ H d v/\Gr rs d nm p c k/\k<=18
theorem m_.up{R:RC}{CG:Addr}{H H':Hp}{g:Addr}{v:V}{rs:Yaa}{d:Dt}{p:bG}{c:Int}(h:m_ R CG H g v rs d p c)(s:aC H H'):m_ R CG H' g v rs d p c:=by
 obtain⟨dx,sg,st,as,nm,k,h1,h2,h3,h4,h5,h6⟩:=h;exact⟨dx,sg,st,as,nm,k,h1.up s,h2,h3,h4.up (gu.of s) _,h5,h6⟩
noncomputable def oW(R:RC)(CG:Addr):Sp:=λvs H Q _=>∃(g:Addr) (v:V) (rs:Yaa) (d:Dt) (p:bG) (c:Int),vs=[.ref g,v]/\m_ R CG H g v rs d p c/\cO H p Q
theorem D0:az ["grammar","tree"] ["grammar","tree"] (ah wU):=by walk_at "c"
theorem Dv{R:RC}{f CG:Addr}{fd:KU}(F:cw K "laid" "laid" wU f fd)(nb:NB mg)(yaG:eO P w K mg base (bE P w) 22 "check_form" ["grammar","tree","place","name"] (gQ K R CG 18))(yaF:eO P w K mg base bC 23 "lay" ["grammar","tree","place"] (xB K R CG 18)):aQ P w K mg base bC 24 f fd ["grammar","tree"] (oW R CG):=by
 have sc:=D0;walk_at "f"
 ·obtain⟨g,v,rs,d,p,c,rfl,_⟩:=h;rfl
 ·obtain⟨g,v,rs,d,p,c,rfl,⟨dx,sg,st,as,nm,k,hG,hgd,h24,ht,hg,hk⟩,q⟩:=h
  refine⟨_,(af (bv (aK (CX:=bE P w) yaG (hr.mono nofun) rfl bg (aa (al 0) (aa (al 1) (aa (aL ad) (aa uv ad))))))
   (ai (aI (aK yaF (hr.mono nofun) rfl aY (aa (al 0) (aa (al 1) (aa (aL ad) ad))))))),?_⟩
  walk_at "wp";refine⟨Kf _,λp1 hp1=>?_⟩;have s1:=ae (o:=.tup []) hp1;refine⟨g,v,p1,_,dx,sg,st,as,rs,d,nm,p,c,k,[],rfl,hG.up s1,h24,ht.up (gu.of s1) _,hg,hk,.inl rfl,ba.of ac,by simp,λH2 s2=>⟨Kf _,λp2 hp2=>?_⟩⟩;have s3:=(s1.trans s2).trans (ae (o:=.tup []) hp2);exact⟨g,v,p2,dx,sg,st,as,rs,d,nm,p,c,k,[],rfl,hG.up s3,hgd,ht.up (gu.of s3) _,hg,hk,ba.of ac,by simp,λl H4 h0 h4 s4=>q l H4 (j6 s3 h0) h4 (s3.trans s4)⟩
noncomputable def mG(rs:Yaa)(i:Int):Int:=match rs[i.toNat]? with | some r=>r.2.c | none=>0
theorem Gr.sh{rs:Yaa}:∀{k:Nat} {d:Dt} {nm:KO} {p:bG} {c:Int},Gr rs d nm p c k->∃ns:List Int,Sh k d ns/\(ns.map (mG rs)).sum=c/\∀i∈ns,0<=i/\i<rs.length:=by
 intro k d nm p c g
 induction g with
 | @cell n v e=>
  have hn:=(JS.mp e).1;refine⟨[(n:Int)],⟨n,[],[],rfl,rfl,rfl,by simp,λj d' ns' h=>by simp at h⟩,?_,λi hi=>?_⟩
  ·show mG rs (n:Int)+0=v.c
   unfold mG;rw[J2,e,Int.add_zero]
  ·rw[JV.mp hi];omega
 | @turn n v d p c k e g ih=>
  obtain⟨ns,h1,h2,h3⟩:=ih;have hn:=(JS.mp e).1;refine⟨(n:Int)::ns,⟨n,[d],[ns],rfl,by simp,rfl,by simp,λj d' ns' e1 e2=>?_⟩,?_,λi hi=>?_⟩
  ·match j,e1,e2 with
   |0,e1,e2=>cases e1;cases e2;exact h1
   |j+1,e1,_=>simp at e1
  ·rw[Kl,List.sum_cons,h2]
   unfold mG;rw[J2,e]
  ·rcases J8.mp hi with rfl | hi
   ·omega
   ·exact h3 i hi
 | @pair n kd v d1 d2 p1 p2 p c1 c2 k1 k2 hk e g1 g2 m ih1 ih2=>
  obtain⟨ns1,h1,h2,h3⟩:=ih1;obtain⟨ns2,h4,h5,h6⟩:=ih2;have hn:=(JS.mp e).1;refine⟨(n:Int)::(ns1++ns2),⟨n,[d1,d2],[ns1,ns2],rfl,by simp,rfl,by simp,λj d' ns' e1 e2=>?_⟩,?_,λi hi=>?_⟩
  ·match j,e1,e2 with
   |0,e1,e2=>cases e1;cases e2;exact h1.mono ⋯
   |1,e1,e2=>cases e1;cases e2;exact h4.mono ⋯
   |j+2,e1,_=>simp at e1
  ·rw[Kl,List.sum_cons,J5,List.sum_append,h2,h5]
   unfold mG;rw[J2,e]
  ·rcases J8.mp hi with rfl | hi
   ·omega
   ·rcases J6.mp hi with hi | hi
    ·exact h3 i hi
    ·exact h6 i hi
noncomputable abbrev nj:Stmt:=iO 35
noncomputable def qP(R:RC)(CG:Addr):Sp:=λvs H Q _=>∃(g:Addr) (v:V) (rs:Yaa) (d:Dt) (p:bG) (c:Int),vs=[.ref g,v]/\m_ R CG H g v rs d p c/\∀H',aC H H'->Q (.int c) H'
theorem xA:az ["grammar","tree"] ["grammar","tree"] (ah nj):=by walk_at "c"
theorem w6{R:RC}{f CG:Addr}{fd:KU}(F:cw K "cost_of" "cost_of" nj f fd)(nb:NB mg)(yaj:mg "sum"=none)(rk:ow K R)(yad:b6 P w K mg base bC 1 CG "rule" ["self","k"] (b5 R CG))(yao:eO P w K mg base bC 24 "laid" ["grammar","tree"] (oW R CG))(yaO:eO P w K mg base bC 19 "numbers_in" ["tree"] (gP 18)):aQ P w K mg base bC 25 f fd ["grammar","tree"] (qP R CG):=by
 have sc:=xA;walk_at "f"
 ·obtain⟨g,v,rs,d,p,c,rfl,_⟩:=h;rfl
 ·obtain⟨g,v,rs,d,p,c,rfl,hL,q⟩:=h
  refine⟨_,(af (bv (aK yao (hr.mono nofun) rfl aY (aa (al 0) (aa (al 1) ad))))
   (ai (aI (aB (mK rfl) rfl yaj xk (aa (cC ["number"] [0] rfl (bw.of (by kernel_rfl)) (by kernel_rfl) (cD (aK yaO (hr.mono nofun) rfl aY (aa (al 1) ad)))
    (λ_ _ _ _=>(aw (i:=0) (by show(["number","grammar"]:List Str).Nodup;decide +kernel) rfl (Or.inl rfl))) (λ_ _ _ _=>bT) (λ_ _ _ _=>(yh (K:=K) rfl (bV yad (hr.mono nofun) aY (al 1) (aa (al 0) ad)) rfl))) ad))))),?_⟩
  walk_at "wp";refine⟨g,v,rs,d,p,c,rfl,hL,λl0 H1 _ _ s1=>?_⟩;have hL1:=hL.up s1;obtain⟨dx,sg,st,as,nm,k,hG,hgd,h24,ht,hg,hk⟩:=id hL1;obtain⟨ns,hsh,hsum,hns⟩:=hg.sh;refine⟨v,d,ns,rfl,ht,hsh.mono hk,λl H2 hl0 hl s2=>?_⟩;walk_at "wp";have hG2:=hG.up s2;have hlen:ns.length<262145:=by
   have h:=(hsh.mono hk).len;have:(2:Nat) ^ 18=262144:=by decide
   omega
  refine⟨⟨_,aU.of hl⟩,?_⟩;refine gl (as:=ns) (emb:=V.int) (f:=λi=>some (V.int (mG rs i))) (λσ=>∃z,σ=[z,some (V.ref g)]) ⟨_,rfl⟩ (λH' s=>aU.of (s _ _ hl)) ⋯ ?_ ?_
  ·rintro j i hj σ H' N1 N0 ⟨z0,rfl⟩ s3 k1 _
   obtain⟨hi0,hi1⟩:=hns i (JX hj);obtain⟨n,rfl⟩:∃n:Nat,i=(n:Int):=⟨i.toNat,⋯⟩;have hn:n<rs.length:=by omega
   obtain⟨r,hri⟩:∃r,rs[n]?=some r:=⟨_,JR hn⟩;have hG3:=hG2.up s3;obtain⟨lk,pn,t,ha,hkk,hrs,hN,hmm⟩:=id hG3;have hlr:n<as.length:=by rw[hrs.1];exact hn
   obtain⟨b,hb'⟩:∃b,as[n]?=some b:=⟨_,JR hlr⟩;obtain⟨rdx,rl,hrb,hrl⟩:=hrs.2 n b r hb' hri;walk_at "wp";refine⟨_,_,ha,rfl,g,dx,sg,st,as,rs,n,b,rfl,hG3,hb',_,rfl,_,_,_,hrb,(rk.icls r.1).cl,(rk.name r.1).2.1,_,(iT rl r.2 r.1).2.1,k1 _ _ _ ?_ s3 ⟨_,rfl⟩⟩;unfold mG;rw[J2,hri]
  ·intro H3 s3 l2 hl2
   rw[B2 ns _ (g:=λi=>V.int (mG rs i)) (λ_ _=>rfl)];refine⟨ns.map (mG rs),by rw[J7];exact aU.of ac,?_⟩;rw[hsum];exact q _ (((s1.trans s2).trans s3).trans (ae hl2))
theorem wV{rs:Yaa}(h:∀r∈rs,fG r):eM rs:=λq hq=>⟨(h q hq).k4,(h q hq).good.c1,(h q hq).good.c9⟩
inductive Sd(rs:Yaa):bK->TR->bG->Prop
 |cell {n:Nat} {v:RV}:rs[n]?=some (0,v)->Sd rs (.n0 n) (v.n,1,1,v.c) [v.sg]
 |turn {n:Nat} {v:RV} {t:bK} {r c:Nat} {k:Int} {pc:bG}:rs[n]?=some (3,v)->Sd rs t (v.o1,r,c,k) pc->Sd rs (.n1 n t) (v.n,if v.t%2=1 then c else r,if v.t%2=1 then r else c,v.c+k) (turned pc v.t.toNat)
 |beside {n:Nat} {v:RV} {t1 t2:bK} {r c1 c2:Nat} {k1 k2:Int} {q1 q2 pc:bG}:rs[n]?=some (1,v)->Sd rs t1 (v.o1,r,c1,k1) q1->Sd rs t2 (v.o2,r,c2,k2) q2->hJ 1 v [q1,q2]=some pc->Sd rs (.n2 n t1 t2) (v.n,r,c1+c2,v.c+(k1+k2)) pc
 |above {n:Nat} {v:RV} {t1 t2:bK} {r1 r2 c:Nat} {k1 k2:Int} {q1 q2 pc:bG}:rs[n]?=some (2,v)->Sd rs t1 (v.o1,r1,c,k1) q1->Sd rs t2 (v.o2,r2,c,k2) q2->hJ 2 v [q1,q2]=some pc->Sd rs (.n2 n t1 t2) (v.n,r1+r2,c,v.c+(k1+k2)) pc
theorem nS{v:RV}{p1 p2 p:bG}{r c r' c':Nat}(h1:fA p1 r c)(h2:fA p2 r' c')(m:hJ 1 v [p1,p2]=some p):r=r'/\fA p r (c+c'):=by
 have e1:=bI h1.rc h1.r0;have e2:=bI h2.rc h2.r0;have l1:=h1.rc.1;have l2:=h2.rc.1;have m':(if p1.length=p2.length/\(p1.headD []).length+(p2.headD []).length<=6 then some (put2 p1 p2) else none)=some p:=m
 by_cases c0:p1.length=p2.length/\(p1.headD []).length+(p2.headD []).length<=6
 ·rw[if_pos c0]at m'
  cases m';rw[l1,l2,e1,e2]at c0;refine⟨c0.1,⟨⟨by unfold put2;rw[JU,List.length_zip,l1,l2];omega,λx hx=>?_⟩,h1.r0,h1.r6,by have:=h1.c0;omega,c0.2⟩⟩;unfold put2 at hx;obtain⟨y,hy,rfl⟩:=Ky.mp hx;have:=List.of_mem_zip hy;rw[Kd,h1.rc.2 _ this.1,h2.rc.2 _ this.2]
 ·rw[if_neg c0]at m';cases m'
theorem oZ{v:RV}{p1 p2 p:bG}{r c r' c':Nat}(h1:fA p1 r c)(h2:fA p2 r' c')(m:hJ 2 v [p1,p2]=some p):c=c'/\fA p (r+r') c:=by
 have e1:=bI h1.rc h1.r0;have e2:=bI h2.rc h2.r0;have l1:=h1.rc.1;have l2:=h2.rc.1;have m':(if(p1.headD []).length=(p2.headD []).length/\p1.length+p2.length<=6 then some (p1++p2) else none)=some p:=m
 by_cases c0:(p1.headD []).length=(p2.headD []).length/\p1.length+p2.length<=6
 ·rw[if_pos c0]at m'
  cases m';rw[l1,l2,e1,e2]at c0;refine⟨c0.1,⟨⟨by rw[Kd,l1,l2],λx hx=>?_⟩,by have:=h1.r0;omega,c0.2,h1.c0,h1.c6⟩⟩;rcases J6.mp hx with hx | hx
  ·exact h1.rc.2 _ hx
  ·rw[h2.rc.2 _ hx];exact c0.1.symm
 ·rw[if_neg c0]at m';cases m'
theorem Ga{v:RV}(h0:0<=v.t):(v.t%2=1)↔¬ (v.t.toNat%2=0):=by omega
theorem yU{v:RV}{pc:bG}{r c:Nat}(h0:0<=v.t)(h:fA pc r c):fA (turned pc v.t.toNat) (if v.t%2=1 then c else r) (if v.t%2=1 then r else c):=by
 have hr:=vp h.rc h.r0 h.c0 v.t.toNat;have o:=Ga h0
 by_cases e:v.t.toNat%2=0
 ·rw[if_pos e,if_pos e]at hr
  rw[if_neg (λz=>(o.mp z) e),if_neg (λz=>(o.mp z) e)];exact⟨hr,h.r0,h.r6,h.c0,h.c6⟩
 ·rw[if_neg e,if_neg e]at hr
  rw[if_pos (o.mpr e),if_pos (o.mpr e)];exact⟨hr,h.c0,h.c6,h.r0,h.r6⟩
theorem Sd.pic{rs:Yaa}(hg:∀r∈rs,fG r){t:bK}{p:TR}{pc:bG}(h:Sd rs t p pc):fA pc p.2.1 p.2.2.1:=by
 induction h with
 | @cell n v e=>
  have:=m4 (hg _ (JX e)).good.sg;exact⟨⟨rfl,λx hx=>by rw[JV.mp hx];exact this⟩,(show 0<1 by decide),(show 1<=6 by decide),(show 0<1 by decide),(show 1<=6 by decide)⟩
 | @turn n v t r c k pc e _ ih=>exact yU (hg _ (JX e)).good.t0 ih
 |beside e _ _ m ih1 ih2=>exact(nS ih1 ih2 m).2
 |above e _ _ m ih1 ih2=>exact(oZ ih1 ih2 m).2
theorem DH(r c:Nat):fw r c=fw c r:=by rw[gL,gL,Nat.mul_comm]
theorem Sd.low{rs:Yaa}(hg:∀r∈rs,fG r){t:bK}{p:TR}{pc:bG}(h:Sd rs t p pc):fw p.2.1 p.2.2.1<=p.2.2.2/\((t.cnt:Nat):Int)<=p.2.2.2:=by
 induction h with
 | @cell n v e=>
  have hc:1<=v.c:=(hg _ (JX e)).good.c1;exact⟨by show fw 1 1<=v.c;rw[gL];simp;omega,by show((1:Nat):Int)<=v.c;omega⟩
 | @turn n v t r c k pc e _ ih=>
  have hc:1<=v.c:=(hg _ (JX e)).good.c1;have h1:fw r c<=k:=ih.1;have h2:((t.cnt:Nat):Int)<=k:=ih.2;refine⟨?_,by show((t.cnt+1:Nat):Int)<=v.c+k;omega⟩;show fw (if v.t%2=1 then c else r) (if v.t%2=1 then r else c)<=v.c+k
  split
  ·rw[DH];omega
  ·omega
 | @beside n v t1 t2 r c1 c2 k1 k2 q1 q2 pc e _ _ m ih1 ih2=>
  have hc:1<=v.c:=(hg _ (JX e)).good.c1;have h1:fw r c1<=k1:=ih1.1;have h2:fw r c2<=k2:=ih2.1;have h3:((t1.cnt:Nat):Int)<=k1:=ih1.2;have h4:((t2.cnt:Nat):Int)<=k2:=ih2.2;refine⟨?_,by show((t1.cnt+t2.cnt+1:Nat):Int)<=v.c+(k1+k2);omega⟩;show fw r (c1+c2)<=v.c+(k1+k2);rw[gL]at h1 h2 ⊢;rw[Nat.mul_add];omega
 | @above n v t1 t2 r1 r2 c k1 k2 q1 q2 pc e _ _ m ih1 ih2=>
  have hc:1<=v.c:=(hg _ (JX e)).good.c1;have h1:fw r1 c<=k1:=ih1.1;have h2:fw r2 c<=k2:=ih2.1;have h3:((t1.cnt:Nat):Int)<=k1:=ih1.2;have h4:((t2.cnt:Nat):Int)<=k2:=ih2.2;refine⟨?_,by show((t1.cnt+t2.cnt+1:Nat):Int)<=v.c+(k1+k2);omega⟩;show fw (r1+r2) c<=v.c+(k1+k2);rw[gL]at h1 h2 ⊢;rw[Nat.add_mul];omega
theorem bK.dep_cnt:∀t:bK,t.dep<=t.cnt
 | .n0 _=>Ke _
 | .n1 _ a=>by have:=bK.dep_cnt a;simp only[bK.dep,bK.cnt];omega
 | .n2 _ a b=>by have:=bK.dep_cnt a;have:=bK.dep_cnt b;simp only[bK.dep,bK.cnt];omega
theorem Sd.gr{rs:Yaa}{t:bK}{p:TR}{pc:bG}(h:Sd rs t p pc):Gr rs t.d p.1 pc p.2.2.2 t.dep:=by
 induction h with
 |cell e=>exact .cell e
 |turn e _ ih=>exact .turn e ih
 |beside e _ _ m ih1 ih2=>exact .pair (.inl rfl) e ih1 ih2 m
 |above e _ _ m ih1 ih2=>exact .pair (.inr rfl) e ih1 ih2 m
theorem Sd.node{rs:Yaa}(hg:∀r∈rs,fG r){t:bK}{p:TR}{pc:bG}(h:Sd rs t p pc):∃(n:Nat) (q:Nat×RV) (ps:List TR),t.i=(n:Int)/\rs[n]?=some q/\q.2.n=p.1/\ps.length=t.ps.length/\ps.length<=2/\(∀(i:Nat) t' p',t.ps[i]?=some t'->ps[i]?=some p'->∃pc',Sd rs t' p' pc'/\p'.2.2.2<p.2.2.2)/\ps∈cK q p.2.1 p.2.2.1 p.2.2.2:=by
 cases h with
 | @cell n v e=>
  refine⟨n,(0,v),[],rfl,e,rfl,rfl,by simp,λi t' p' h=>by simp[bK.ps]at h,?_⟩;show[]∈(if 1=1/\1=1/\v.c=v.c then[[]] else[]);simp
 | @turn n v t r c k pc e s=>
  have hc:1<=v.c:=(hg _ (JX e)).good.c1;refine⟨n,(3,v),[(v.o1,r,c,k)],rfl,e,rfl,rfl,by simp,λi t' p' h1 h2=>?_,?_⟩
  ·match i,h1,h2 with
   |0,h1,h2=>cases h1;cases h2;exact⟨_,s,by show k<v.c+k;omega⟩
   |i+1,h1,_=>simp[bK.ps]at h1
  ·show[(v.o1,r,c,k)]∈[[(v.o1,(if v.t%2=1 then(if v.t%2=1 then r else c) else(if v.t%2=1 then c else r)),(if v.t%2=1 then(if v.t%2=1 then c else r) else(if v.t%2=1 then r else c)),v.c+k-v.c)]]
   by_cases o:v.t%2=1<;>simp[o]<;>omega
 | @beside n v t1 t2 r c1 c2 k1 k2 q1 q2 pc e s1 s2 m=>
  have hc:1<=v.c:=(hg _ (JX e)).good.c1;have l1:=(s1.low hg).1;have l2:=(s2.low hg).1;have d1:=s1.pic hg;have d2:=s2.pic hg;have f1:1<=fw r c1:=cg d1.r0 d1.c0;have f2:1<=fw r c2:=cg d2.r0 d2.c0;have l1:fw r c1<=k1:=l1;have l2:fw r c2<=k2:=l2;refine⟨n,(1,v),[(v.o1,r,c1,k1),(v.o2,r,c2,k2)],rfl,e,rfl,rfl,by simp,λi t' p' h1 h2=>?_,?_⟩
  ·match i,h1,h2 with
   |0,h1,h2=>cases h1;cases h2;exact⟨_,s1,by show k1<v.c+(k1+k2);omega⟩
   |1,h1,h2=>cases h1;cases h2;exact⟨_,s2,by show k2<v.c+(k1+k2);omega⟩
   |i+2,h1,_=>simp[bK.ps]at h1
  ·show _∈bA v.o1 v.o2 (fW r (c1+c2)) (v.c+(k1+k2)-v.c)
   have h1:=d1.c0;have h2:=d2.c0;simp only at h1 h2;refine List.mem_flatMap.mpr ⟨((r,c1),(r,c2)),Ky.mpr ⟨c1-1,List.mem_range.mpr ⋯,?_⟩,Ky.mpr ⟨k1,mO.mpr ⟨l1,by show k1<v.c+(k1+k2)-v.c-fw r c2+1;omega⟩,?_⟩⟩
   ·rw[show 1+(c1-1)=c1 by omega,show c1+c2-c1=c2 by omega]
   ·rw[show v.c+(k1+k2)-v.c-k1=k2 by omega]
 | @above n v t1 t2 r1 r2 c k1 k2 q1 q2 pc e s1 s2 m=>
  have hc:1<=v.c:=(hg _ (JX e)).good.c1;have l1:=(s1.low hg).1;have l2:=(s2.low hg).1;have d1:=s1.pic hg;have d2:=s2.pic hg;have f1:1<=fw r1 c:=cg d1.r0 d1.c0;have f2:1<=fw r2 c:=cg d2.r0 d2.c0;have l1:fw r1 c<=k1:=l1;have l2:fw r2 c<=k2:=l2;refine⟨n,(2,v),[(v.o1,r1,c,k1),(v.o2,r2,c,k2)],rfl,e,rfl,rfl,by simp,λi t' p' h1 h2=>?_,?_⟩
  ·match i,h1,h2 with
   |0,h1,h2=>cases h1;cases h2;exact⟨_,s1,by show k1<v.c+(k1+k2);omega⟩
   |1,h1,h2=>cases h1;cases h2;exact⟨_,s2,by show k2<v.c+(k1+k2);omega⟩
   |i+2,h1,_=>simp[bK.ps]at h1
  ·show _∈bA v.o1 v.o2 (f_ (r1+r2) c) (v.c+(k1+k2)-v.c)
   have h1:=d1.r0;have h2:=d2.r0;simp only at h1 h2;refine List.mem_flatMap.mpr ⟨((r1,c),(r2,c)),Ky.mpr ⟨r1-1,List.mem_range.mpr ⋯,?_⟩,Ky.mpr ⟨k1,mO.mpr ⟨l1,by show k1<v.c+(k1+k2)-v.c-fw r2 c+1;omega⟩,?_⟩⟩
   ·rw[show 1+(r1-1)=r1 by omega,show r1+r2-r1=r2 by omega]
   ·rw[show v.c+(k1+k2)-v.c-k1=k2 by omega]
theorem DX{rs:Yaa}{p:TR}{n:Nat}{q:Nat×RV}{ps:List TR}(hq:rs[n]?=some q)(hn:q.2.n=p.1)(hps:ps∈cK q p.2.1 p.2.2.1 p.2.2.2)(h0:0<aN (CN rs) ps)(hf:fw p.2.1 p.2.2.1<=p.2.2.2):(n,ps,aN (CN rs) ps)∈aT rs p:=by
 unfold aT;rw[if_neg ⋯];refine List.mem_flatMap.mpr ⟨n,?_,?_⟩
 ·unfold bR
  exact List.mem_filterMap.mpr ⟨(q,n),List.mem_zipIdx_iff_getElem?.mpr hq,by rw[if_pos (by rw[hn])]⟩
 ·unfold cW
  rw[hq];exact List.mem_filterMap.mpr ⟨ps,hps,by rw[if_pos h0]⟩
noncomputable abbrev mJ:Stmt:=iO 11
noncomputable def o8(K:W.Frag):Sp:=λvs H Q _=>∃(a:Addr) (p:bG) (r c:Nat),vs=[.ref a]/\aU K H a (aE p)/\eR p r c/\0<r/\c<=64/\∀(tp:Addr) (H':Hp),H tp=none->H' tp=some (.tup [V.int (r:Int),V.int (c:Int)])->aC H H'->Q (.ref tp) H'
theorem xR:az ["picture"] ["picture"] (ah mJ):=by walk_at "c"
theorem xU{f:Addr}{fd:KU}(F:cw K "size_of" "size_of" mJ f fd)(nb:NB mg):aQ P w K mg base bC 1 f fd ["picture"] (o8 K):=by
 have sc:=xR;walk_at "f"
 ·obtain⟨a,p,r,c,rfl,_⟩:=h;rfl
 ·obtain⟨a,p,r,c,rfl,hS,hp,hr0,hc1,q⟩:=h
  refine⟨_,(ai (aI (aL (aa (aB bb rfl nb.len aW (aa (al 0) ad)) (aa (aB aV rfl nb.len aW (aa (aH aZ (al 0) aj (λ_ _=>rfl)) ad)) ad))))),?_⟩;walk_at "wp";obtain⟨hl0,hc00⟩:=fo hp hr0;refine⟨_,hS,_,hS,_,bt (bc hl0),_,rfl,by rw[ax];exact ak ⋯,ak ⋯,λtp htp=>?_⟩;rw[av,hp.1,ax,hc00];exact q tp _ htp ac (ae htp)
noncomputable abbrev pk:Stmt:=iO 41
noncomputable def m3(R:RC)(CG:Addr):Sp:=λvs H Q _=>∃(g:Addr) (v:V) (rs:Yaa) (t:bK) (p:TR) (pc:bG),vs=[.ref g,v]/\m_ R CG H g v rs t.d pc p.2.2.2/\Sd rs t p pc/\∀b H',H' b=some (.tup (dY p))->aC H H'->Q (.ref b) H'
theorem zV:az ["grammar","tree","size"] ["grammar","tree"] (ah pk):=by walk_at "c"
theorem Ax{R:RC}{f CG:Addr}{fd:KU}(F:cw K "row_of" "row_of" pk f fd)(nb:NB mg)(rk:ow K R)(yad:b6 P w K mg base bC 1 CG "rule" ["self","k"] (b5 R CG))(yao:eO P w K mg base bC 24 "laid" ["grammar","tree"] (oW R CG))(yaX:eO P w K mg base bC 1 "size_of" ["picture"] (o8 K))(ya3:eO P w K mg base bC 25 "cost_of" ["grammar","tree"] (qP R CG)):aQ P w K mg base bC 26 f fd ["grammar","tree"] (m3 R CG):=by
 have sc:=zV;walk_at "f"
 ·obtain⟨g,v,rs,t,p,pc,rfl,_⟩:=h;rfl
 ·obtain⟨g,v,rs,t,p,pc,rfl,hL,sd,q⟩:=h
  refine⟨_,(af (aF (i:=2) sc.nd rfl (Or.inl rfl) (aK yaX (hr.mono nofun) rfl aY (aa (aK yao (hr.mono nofun) rfl aY (aa (al 0) (aa (al 1) ad))) ad)))
   (ai (aI (ay dC (ay dC (aL (aa (bz (bV yad (hr.mono nofun) aY (al 0) (aa (aH aJ (al 1) aj (λ_ _=>rfl)) ad)) rfl) ad)) (al 2)) (aL (aa (aK ya3 (hr.mono nofun) rfl aY (aa (al 0) (aa (al 1) ad))) ad)))))),?_⟩
  have hgd:∀r∈rs,fG r:=by obtain⟨dx,sg,st,as,nm,k,hG,hgd,_⟩:=hL;exact hgd
  have pd:=sd.pic hgd;obtain⟨n,q0,ps,hi,hq,hn,_⟩:=sd.node hgd;walk_at "n";refine⟨g,v,rs,t.d,pc,p.2.2.2,rfl,hL,λl0 H1 _ e1 s1=>?_⟩;refine⟨l0,pc,p.2.1,p.2.2.1,rfl,aU.of e1,pd.rc,pd.r0,by have:=pd.c6;omega,λtp H2 _ e2 s2=>h1 _ _ ?_⟩;clear h1;have s02:=s1.trans s2;have hL2:=hL.up s02;obtain⟨dx,sg,st,as,nm',k',hG,_,h24,ht,_,hd⟩:=id hL2;obtain⟨a,vs,rfl,hta,htr⟩:=bK.val ht;obtain⟨lk,pn,t0,ha,hkk,hrs,hN,hmm⟩:=id hG;have hlr:n<as.length:=by rw[hrs.1];exact(JS.mp hq).1
  obtain⟨b,hb'⟩:∃b,as[n]?=some b:=⟨_,JR hlr⟩;obtain⟨rdx,rl,hrb,hrl⟩:=hrs.2 n b q0 hb' hq;walk_at "wp";refine⟨_,_,ha,rfl,_,ba.of hta,_,nR _ _,g,dx,sg,st,as,rs,n,b,by rw[hi],hG,hb',b,rfl,_,_,_,hrb,(rk.icls q0.1).cl,(rk.name q0.1).1,_,(iT rl q0.2 q0.1).1,ak nofun,λp1 hp1=>?_⟩;have s3:=ae (o:=.tup [V.str (tx q0.2.n)]) hp1;refine ia (xs:=[V.str (tx q0.2.n)]) ac (s3 _ _ e2) (by simp) (by simp) λp2 H4 e4 s4=>?_;have s34:=s3.trans s4;refine⟨g,_,rs,t.d,pc,p.2.2.2,rfl,hL2.up s34,λH5 s5=>⟨ak nofun,λp3 hp3=>?_⟩⟩;have s6:=ae (o:=.tup [V.int p.2.2.2]) hp3;refine ia (s6 _ _ (s5 _ _ e4)) ac (by simp) (by simp) λp4 H7 e7 s7=>q p4 H7 ?_ ((s02.trans s34).trans ((s5.trans s6).trans s7));rw[e7,hn]
  rfl
theorem AU{p p':TR}(h:jn (dY p) (dY p')=true):p=p':=by
 obtain⟨a,r,c,k⟩:=p;obtain⟨a',r',c',k'⟩:=p';unfold jn at h;have h:=(Bool.and_eq_true _ _▸h).1;have at_:∀j,j<4->_:=λj hj=>Kz.mp h j (List.mem_range.mpr hj);have h1:tx a=tx a':=by have:=at_ 0 nofun;simpa[dY,vz]using this
 have h2:r=r':=by have:=at_ 1 nofun;simp[dY,vz]at this;omega
 have h3:c=c':=by have:=at_ 2 nofun;simp[dY,vz]at this;omega
 have h4:k=k':=by have:=at_ 3 nofun;simpa[dY,vz]using this
 have:=gI h1;subst this h2 h3 h4
 rfl
theorem mW(p:TR):(dY p).all i_=true:=rfl
theorem y_{ps ps':List TR}:oH (ps.map dY) (ps'.map dY)=true↔ps=ps':=by
 refine⟨λh=>?_,λh=>?_⟩
 ·unfold oH at h
  split at h
  ·rename_i hl
   rw[JU,JU]at hl;refine List.ext_getElem hl λi h1 h2=>?_;have:=Kz.mp h i (List.mem_range.mpr (by rw[JU];exact h1));rw[JW,JW,JR h1,JR h2]at this;exact AU this
  ·cases h
 ·rw[h]
  refine r_ λr hr=>?_;obtain⟨p,_,rfl⟩:=Ky.mp hr;exact mW p
theorem Fc.fl{H:Hp}{l:Addr}{ps:List TR}(h:Fc H l ps):FF K H l (ps.map dY):=by
 obtain⟨bs,o,h1,h2,h3⟩:=h;refine⟨bs,.inl (.inr ⟨o,h1⟩),by rw[JU,h2],λi b r e1 e2=>?_⟩;rw[JW]at e2;obtain⟨p,hp,rfl⟩:=Ki.mp e2;exact⟨ba.of (h3 i b p e1 hp),mW p⟩
theorem pB.fl{H:Hp}{l:Addr}{ps:List TR}(h:pB H l ps):FF K H l (ps.map dY):=by
 obtain⟨bs,h1,h2,h3⟩:=h;refine⟨bs,aU.of h1,by rw[JU,h2],λi b r e1 e2=>?_⟩;rw[JW]at e2;obtain⟨p,hp,rfl⟩:=Ki.mp e2;exact⟨ba.of (h3 i b p e1 hp),mW p⟩
theorem zI{F:TR->List bK}{ps:List TR}{p:TR}{k j:Nat}{ts:List bK}{t:bK}(hl:ps.length<=1)(h1:(bJ F ps)[k]?=some ts)(h2:(F p)[j]?=some t):(bJ F (ps++[p]))[k*(F p).length+j]?=some (ts++[t]):=by
 have hj:=(JS.mp h2).1
 match ps,hl,h1 with
 | [],_,h1=>
  have:k=0/\ts=[]:=by
   cases k with
   |zero=>exact⟨rfl,by simpa[bJ]using h1.symm⟩
   |succ k=>simp[bJ]at h1
  obtain⟨rfl,rfl⟩:=this;show(bJ F [p])[0*(F p).length+j]?=_;rw[ig,Nat.zero_mul,Nat.zero_add,h2]
  rfl
 | [p1],_,h1=>
  rw[ig]at h1;obtain⟨t1,ht1,rfl⟩:=Ki.mp h1;refine rS (F:=F) ?_ ?_
  ·rw[Nat.add_comm,Nat.add_mul_div_right _ _ ⋯,Nat.div_eq_of_lt hj,Nat.zero_add];exact ht1
  ·rw[Nat.add_comm,Nat.add_mul_mod_self_right,Nat.mod_eq_of_lt hj];exact h2
theorem Ds{q:Nat×RV}{p p1 p2:TR}(h4:q.1<4)(hc:1<=q.2.c)(ok:gn p)(h:[p1,p2]∈cK q p.2.1 p.2.2.1 p.2.2.2):p1.2.2.2<=7\/p2.2.2.2<=7:=by
 have:=ok.k16;rcases dM h4 ok.r1 ok.c1 h with e | ⟨p',e,_⟩ | ⟨_,z,f,sz,f1,f2,e⟩
 ·cases e
 ·cases e
 ·cases e
  show f<=7\/p.2.2.2-q.2.c-f<=7;omega
theorem vR{α:Type}{l:List α}{i:Nat}{x:α}(h:l[i]?=some x):l.take (i+1)=l.take i++[x]:=by rw[List.take_add_one,h];rfl
noncomputable abbrev bO:Stmt:=eQ 40 7
noncomputable def bY(R:RC)(CG CT:Addr)(n:Nat):Sp:=λvs H Q _=>∃(a dx g dg d1 d2:Addr) (sg st:KO) (as:KR) (rs:Yaa) (m:Nat) (v:V) (t:bK) (p:TR) (pc:bG),vs=[.ref a,v]/\g_ R CG CT H a dx g dg d1 d2 sg st as rs m/\cJ H t.d v/\t.dep<=n/\(∀r∈rs,fG r)/\Sd rs t p pc/\qW st rs m p /\
 ∀(k:Nat) H',(RT rs p)[k]?=some t->b8 d1 d2 H H'->dZ st rs m H' d1 d2->Q (.int (k:Int)) H'
theorem i8:az ["self","tree","rows","within","row","part","passed","number","others","many"] ["self","tree"] (ah bO):=by walk_at "c"
theorem oA{R:RC}{f CG CT yaa:Addr}{fd:KU}{n:Nat}(hn:n<18)(F:cw K "number_in" "TreeRows.number_in" bO f fd)(nb:NB mg)(ct:fz K CT)(nt:au K CT "grammar"/\au K CT "steps"/\au K CT "totals")(yat:eO P w K mg base bC 26 "row_of" ["grammar","tree"] (m3 R CG))
  (yah:b6 P w K mg base (bE P w) 71 CT "steps_of" ["self","row"] (bN R CG CT yaa 17)) (yaf:b6 P w K mg base (bE P w) 72 CT "many_in" ["self","row"] (bq R CG CT yaa 17)) (yaS:b6 P w K mg base (bE P w) (73+n) CT "number_in" ["self","tree"] (bY R CG CT n)) :
  aQ P w K mg base (bE P w) (73+n+1) f fd ["self","tree"] (bY R CG CT (n+1)):=by
 have sc:=i8;walk_at "x"
 ·obtain⟨a,dx,g,dg,d1,d2,sg,st,as,rs,m,v,t,p,pc,rfl,_⟩:=h;rfl
 ·obtain⟨a,dx,g,dg,d1,d2,sg,st,as,rs,m,v,t,p,pc,rfl,te,ht,hd,hgd,sd,dp,q⟩:=h
  have hu:=hr.units;refine⟨_,(af (iF (i:=2) ["part"] [0] sc.nd rfl (Or.inl rfl) rfl  rfl (bw.of (by kernel_rfl)) (by kernel_rfl) (sM (eG nG (al 1) (e_ aj) gE))
    (λ_ _ _ _=>(aw (i:=0) (by show(["part","self"]:List Str).Nodup;decide +kernel) rfl (Or.inl rfl))) (λ_ _ _ _=>bT) (λ_ _ _ _=>(aK (CX:=bE P w) yat.lift (hr.mono ⋯) rfl bg (aa (yh (K:=K) rfl (al 1) rfl) (aa (al 0) ad)))))
   (af (aF (i:=3) sc.nd rfl (Or.inl rfl) aj)
   (af (bu PassesOwn.leaving rfl (DM rfl nb.zip (aa (al 2) (aa (eG nG (al 1) (e_ aj) gE) ad))) (dE (n:=2) rfl (aG (aw (i:=4) sc.nd rfl (Or.inl rfl)) (aG (aw (i:=5) sc.nd rfl (Or.inl rfl)) cq)))
   (ai (aF (i:=3) sc.nd rfl (Or.inl rfl) (ay (bf.m0 bL) (ay (bf.m1 eX) (al 3) (bV yaf (hr.mono ⋯) (aX λ_ _ _ h=>h) (al 0) (aa (al 4) ad))) (bV yaS (hr.mono ⋯) (aX λ_ _ _ h=>h) (al 0) (aa (al 5) ad))))))
   (af (aF (i:=6) sc.nd rfl (Or.inl rfl) aj)
   (af (bu PassesOwn.leaving rfl (cD (bV yah (hr.mono ⋯) (aX λ_ _ _ h=>h) (al 0) (aa (aK (CX:=bE P w) yat.lift (hr.mono ⋯) rfl bg (aa (bz (al 0) rfl) (aa (al 1) ad))) ad))) (dE (n:=3) rfl (aG (aw (i:=7) sc.nd rfl (Or.inl rfl)) (aG (aw (i:=8) sc.nd rfl (Or.inl rfl)) (aG (aw (i:=9) sc.nd rfl (Or.inl rfl)) cq))))
   (af (bF (aM (Fy hu) (aL (aa (al 7) (aa (al 8) ad))) (aL (aa (aH aJ (al 1) aj (λ_ _=>rfl)) (aa (al 2) ad))) (aS _))
   (ai BB)
   aO)
   (ai (aF (i:=6) sc.nd rfl (Or.inl rfl) (ay (bf.m0 bL) (al 6) (al 9))))))
   (ai (aI (ay (bf.m0 bL) (al 6) (al 3))))))))),?_⟩
  obtain⟨ta,vs,rfl,hta,htr⟩:=bK.val ht;obtain⟨nn,q0,ps,hi,hq,hnm,hpl,hp2,hpp,hpr⟩:=sd.node hgd;have hvl:=ki htr;have hlow:=sd.low hgd;have hdc:=t.dep_cnt;have k16:=dp.k16;have ok:=dp.row te.m6;obtain⟨q4,qc,qc9⟩:=te.gc q0 (JX hq);have hcut:t.cnt<=1000:=by omega
  have kid:∀(i:Nat) t',t.ps[i]?=some t'->∃p' pc',ps[i]?=some p'/\Sd rs t' p' pc'/\qW st rs m p'/\p'.2.2.2<=15/\t'.dep<=n/\t'.cnt<=1000:=λi t' ht'=>by
   have hlt:=(JS.mp ht').1;have hp':ps[i]?=some (ps[i]'⋯):=JR ⋯;obtain⟨pc',sd',lt'⟩:=hpp i t' _ ht' hp';have hm:=bK.lt (JX ht');have:=cg ok.r1 ok.c1;exact⟨_,pc',hp',sd',(dp.part te.gc (JX hq) ⋯ hpr (JX hp')).1,⋯,⋯,⋯⟩
  walk_at "n";refine⟨_,ba.of hta,oO _ _,λpt hpt=>?_⟩;rw[DP];have s1:=ae (o:=.tup vs) hpt;have e1:aA H pt (.tup vs) pt=some (.tup vs):=ac;generalize aA H pt (.tup vs)=H1 at s1 e1 ⊢;refine⟨⟨_,ba.of e1⟩,?_⟩;refine CU (xs:=vs) (λi acc σ H'=>aC H1 H'/\i<=vs.length/\(∃bs:List Addr,acc=bs.map V.ref/\bs.length=i/\∀(j:Nat) b p',bs[j]?=some b->ps[j]?=some p'->H' b=some (.tup (dY p')))/\∃z,σ=[z,some (V.ref a)])
   ⟨aC.refl _,Kf _,⟨[],rfl,rfl,λj b p' h=>by simp at h⟩,_,rfl⟩ (λi acc σ H' h=>by obtain⟨_,h1,⟨bs,rfl,h2,_⟩,_⟩:=h;rw[JU,h2];exact J' (Ko _) (ak ⋯)) (λi acc σ H' h=>h.2.1) (λi acc σ H' h=>ba.of (h.1 _ _ e1)) ?_ ?_
  ·rintro i x acc σ H2 hx ⟨sm,hil,⟨bs,rfl,hbl,hbs⟩,z,rfl⟩
   obtain⟨t',ht',hx'⟩:=ka htr hx;obtain⟨p',pc',hp',sd',dp',_,hdn,hcn⟩:=kid i t' ht';have s2:=s1.trans sm;walk_at "wp";refine⟨CT,dx,_,s2 _ _ te.at_,ct.cl,nt.1,_,rfl,g,x,rs,t',p',pc',rfl,⟨dg,sg,st,as,_,_,te.gr.up s2,hgd,te.n24,hx'.up (gu.of s2) _,sd'.gr,⋯⟩,sd',λb H5 hb s5=>⟨sm.trans s5,(JS.mp hx).1,bs++[b],by rw[J5];rfl,by rw[Kd,hbl];rfl,λj b' p2 e1 e2=>?_⟩⟩;rcases Nat.lt_or_ge j bs.length with hj | hj
   ·rw[Kc hj]at e1
    exact s5 _ _ (hbs j b' p2 e1 e2)
   ·have:j=bs.length:=by have:=(JS.mp e1).1;simp at this;omega
    subst this;rw[Kb (Ke _),Nat.sub_self]at e1;cases e1;rw[hbl,hp']at e2;cases e2;exact hb
  ·rintro acc σ H2 ⟨sm,_,⟨bs,rfl,hbl,hbs⟩,z,rfl⟩ l hl
   refine h1 _ _ ?_;clear h1;have s2:=(s1.trans sm).trans (ae (o:=.lst (bs.map V.ref)) hl);have hT:pB (aA H2 l (.lst (bs.map V.ref))) l ps:=⟨bs,ac,⋯,λi b p' e1 e2=>ae hl _ _ (hbs i b p' e1 e2)⟩;generalize aA H2 l (.lst (bs.map V.ref))=H3 at s2 hT ⊢;clear hbs;walk_at "n";refine h1 _ _ ?_;walk_at "nc";have hta3:=s2 _ _ hta;refine⟨_,ba.of hta3,oO _ _,λpu hpu=>?_⟩;rw[DP];have s3:=ae (o:=.tup vs) hpu;have e3:aA H3 pu (.tup vs) pu=some (.tup vs):=ac;generalize aA H3 pu (.tup vs)=H4 at s3 e3 ⊢;have s03:=s2.trans s3;have te4:=te.up s03;have hT4:=hT.kp (Kp.of s3);obtain⟨cs,hcs,hcl,hce⟩:=id hT4;have htr4:=bD.up (gu.of s03) _ htr;refine⟨_,aU.of hcs,_,ba.of e3,?_⟩;refine Al (xs:=cs.map V.ref) (ys:=vs) (by rw[JU];omega) (λi σ H'=>b8 d1 d2 H4 H'/\dZ st rs m H' d1 d2/\i<=cs.length/\∃(wi:Nat) (y z:Option V),(bJ (RT rs) (ps.take i))[wi]?=some (t.ps.take i)/\σ=[some (V.ref a),some (V.ref ta),some (V.ref l),some (V.int (wi:Int)),y,z,none,none,none,none])
    ⟨λ_ _ _ _ e=>e,te4.mm,Kf _,0,_,_,by rw[KI,KI];rfl,rfl⟩ (λi σ H' _ h=>⟨aU.of ((te4.kp h.1).lst hcs),ba.of ((te4.kp h.1).tup e3)⟩) ?_ ?_
   ·rintro i x y σ H5 T hx hy ⟨sD,mm,hil,wi,z1,z2,hwi,rfl⟩ hT5
    have hlt:i<cs.length:=by have:=(JS.mp hx).1;rwa [JU]at this
    rw[JW,JR hlt]at hx;cases hx;obtain⟨t',ht',hx'⟩:=ka htr4 hy;obtain⟨p',pc',hp',sd',dp',hk15,hdn,hcn⟩:=kid i t' ht';have hb:=hce i cs[i] p' (JR hlt) hp';generalize cs[i]'hlt=b at hb ⊢;have sT:=ae (o:=.tup [V.ref b,y]) hT5;have eT:aA H5 T (.tup [V.ref b,y]) T=some (.tup [V.ref b,y]):=ac;generalize aA H5 T (.tup [V.ref b,y])=H6 at sT eT ⊢;have te5:=te4.next sD mm;have te6:=te5.up sT;have sd46:b8 d1 d2 H4 H6:=sD.trans (.of sT);walk_at "wp";have hi2:i=0\/i=1:=by omega
    have ycn:=cH te.gc (dp'.row te.m6);refine⟨_,ba.of eT,rfl,_,_,rfl,_,_,rfl,rfl,dx,_,te6.at_,rfl,a,dx,g,dg,d1,d2,b,sg,st,as,rs,m,p',rfl,te6,(te4.kp sd46).tup hb,.inl ⟨dp',nofun,⋯,λH7 s7 mm7=>⟨_,rfl,?_,dx,_,(te6.next s7 mm7).at_,rfl,a,dx,g,dg,d1,d2,sg,st,as,rs,m,y,t',p',pc',rfl,te6.next s7 mm7,hx'.up (λb xs e=>(te4.kp (sd46.trans s7)).tup e) _,hdn,hgd,sd',dp',λk H8 hk s8 mm8=>⟨_,rfl,(sd46.trans s7).trans s8,mm8,hlt,wi*CN rs p'+k,?_,by push_cast;rfl⟩⟩⟩⟩
    ·rcases hi2 with rfl | rfl
     ·left
      have:wi=0:=by
       rw[KI]at hwi;cases wi with
       |zero=>rfl
       |succ w=>simp[bJ]at hwi
      omega
     ·obtain⟨p1,p2,rfl⟩:∃p1 p2,ps=[p1,p2]:=by
       match ps,hp2,(show 1<ps.length by omega) with
       | [p1,p2],_,_=>exact⟨p1,p2,rfl⟩
      cases hp';have dp1:=(dp.part te.gc (JX hq) (by have:=cg ok.r1 ok.c1;omega) hpr (p':=p1) (by simp)).1;rcases Ds q4 qc ok hpr with h | h
      ·left
       have h64:=te.sm p1 dp1.rm dp1.cm h;have hw:(bJ (RT rs) [p1])[wi]?=some (t.ps.take 1):=hwi;rw[ig]at hw;obtain⟨t1,ht1,_⟩:=Ki.mp hw;have:=(JS.mp ht1).1;rw[cH te.gc (dp1.row te.m6)]at this;omega
      ·right
       have:=te.sm _ dp'.rm dp'.cm h;omega
    ·rw[vR hp',vR ht',<- ycn]
     exact zI (by rw[Ku];omega) hwi hk
   ·rintro σ H5 ⟨sD,mm,_,wi,z1,z2,hwi,rfl⟩
    refine h1 _ _ ?_;walk_at "nc";refine h1 _ _ ?_;walk_at "nc";have te5:=te4.next sD mm;have kp5:=te4.kp sD;refine⟨dx,_,te5.at_,rfl,CT,dx,_,te5.at_,ct.cl,nt.1,_,rfl,g,_,rs,t,p,pc,rfl,⟨dg,sg,st,as,_,_,te5.gr,hgd,te.n24,ht.up (λb xs e=>kp5.tup (s03 _ _ e)) _,sd.gr,⋯⟩,sd,λb H6 hb s6=>?_⟩;refine⟨a,dx,g,dg,d1,d2,b,sg,st,as,rs,m,p,rfl,te5.up s6,hb,.inl ⟨dp,nofun,⋯,λl2 H7 s7 mm7 _ hZ=>?_⟩⟩;have sD7:b8 d1 d2 H H7:=(((b8.of s03).trans sD).trans (.of s6)).trans s7;have te7:=(te5.up s6).next s7 mm7;have kp7:=te4.kp ((sD.trans (.of s6)).trans s7);have hT7:=hT4.kp kp7;have hta7:H7 ta=some (.tup (V.int t.i::vs)):=kp7.tup (s3 _ _ hta3);rw[JU,hcl,Kt,show ps.length=t.ps.length from hpl,Kt]at hwi;have hsl:=m8 te.gc ok te.n24;obtain⟨ts,o,hts,htl,hte⟩:=id hZ;refine⟨l2,rfl,⟨_,.inl (.inr ⟨o,hts⟩)⟩,?_⟩;refine dh (xs:=ts.map V.ref) (λi σ H'=>aC H7 H'/\(i<=ts.length/\∀(j:Nat) s,j<i->(aT rs p)[j]?=some s->¬ (s.1=nn/\s.2.1=ps))/\∃x y z,σ=[some (V.ref a),some (V.ref ta),some (V.ref l),some (V.int (wi:Int)),z1,z2,some (V.int ((((aT rs p).take i).map λs=>s.2.2).sum:Nat)),x,y,z])
     ⟨aC.refl _,⟨Kf _,λj s h=>absurd h ⋯⟩,_,_,_,rfl⟩ (λi σ H' _ h=>.inl (.inr ⟨o,h.1 _ _ hts⟩)) ?_ ?_
    ·rintro i x σ H8 hx ⟨s8,⟨hil,hno⟩,x1,y1,w1,rfl⟩
     have hlt:i<ts.length:=by have:=(JS.mp hx).1;rwa [JU]at this
     rw[JW,JR hlt]at hx;cases hx;obtain⟨s0,hs0⟩:∃s,(aT rs p)[i]?=some s:=⟨_,JR ⋯⟩;obtain⟨rl,he,hTz⟩:=hte i _ s0 (JR hlt) hs0;generalize ts[i]'hlt=t0 at he;have hsn:=rW (λs:u3=>s.2.2) _ _ _ hs0;have hTz8:=hTz.kz (Kp.of s8).z;have hT8:=hT7.kp (Kp.of s8);generalize hps:(((aT rs p).take i).map λs=>s.2.2).sum=pas at hsn;walk_at "wp";refine⟨_,ba.of (s8 _ _ he),rfl,_,_,rfl,_,_,rfl,_,_,rfl,rfl,ak nofun,λu1 hu1=>?_⟩;have s9:=ae (o:=.tup [V.int (s0.1:Int),V.ref rl]) hu1;have e9:aA H8 u1 (.tup [V.int (s0.1:Int),V.ref rl]) u1=some (.tup [V.int (s0.1:Int),V.ref rl]):=ac;generalize aA H8 u1 (.tup [V.int (s0.1:Int),V.ref rl])=H9 at s9 e9 ⊢;refine⟨_,ba.of (s9 _ _ (s8 _ _ hta7)),_,nR _ _,ak nofun,λu2 hu2=>?_⟩;have s10:=ae (o:=.tup [V.int t.i,V.ref l]) hu2;have e10:aA H9 u2 (.tup [V.int t.i,V.ref l]) u2=some (.tup [V.int t.i,V.ref l]):=ac;generalize aA H9 u2 (.tup [V.int t.i,V.ref l])=H10 at s10 e10 ⊢;have sA:=s9.trans s10;refine⟨_,_,_,ba.of (s10 _ _ e9),_,ba.of e10,_,(hTz8.kz (Kp.of sA).z).fl,_,(hT8.kp (Kp.of sA)).fl,?_⟩;have key:(decide ((s0.1:Int)=t.i)&&oH (s0.2.1.map dY) (ps.map dY))=true↔(s0.1=nn/\s0.2.1=ps):=by
      rw[Bool.and_eq_true,decide_eq_true_eq,y_,hi];exact⟨λh=>⟨⋯,h.2⟩,λh=>⟨⋯,h.2⟩⟩
     by_cases hk:s0.1=nn/\s0.2.1=ps
     ·rw[if_pos (key.mpr hk)]
      refine h1 _ _ ?_;walk_at "wp";have hget:=BN te.gc ok hs0 (j:=wi) (ts:=t.ps) (by rw[hk.2];exact hwi);rw[hps,hk.1,<- hi,D1]at hget;have sB:=s8.trans sA;have:=q (pas+wi) H10 hget (sD7.trans (.of sB)) (te7.up sB).mm
      push_cast at this
      exact this
     ·rw[if_neg (λh=>hk (key.mp h))]
      refine⟨_,rfl,s8.trans sA,hlt,λj s hj hs=>?_,by rw[hsn];push_cast;rfl⟩;rcases Nat.lt_or_ge j i with h | h
      ·exact hno j s h hs
      ·have:j=i:=by omega
       subst this;rw[hs0]at hs;cases hs;exact hk
    ·rintro σ H8 ⟨_,⟨_,hno⟩,_⟩
     have h0:0<aN (CN rs) ps:=by
      have:=(JS.mp hwi).1;rw[fR (g:=CN rs) λp' hp'=>cH te.gc ((dp.part te.gc (JX hq) (by have:=cg ok.r1 ok.c1;omega) hpr hp').1.row te.m6)]at this;omega
     obtain⟨j,hj⟩:=List.getElem?_of_mem (DX hq hnm hpr h0 hlow.1);exact absurd ⟨rfl,rfl⟩ (hno j _ (by rw[JU,htl];exact(JS.mp hj).1) hj)
theorem vo{R:RC}{f CG CT:Addr}{fd:KU}(F:cw K "number_in" "TreeRows.number_in" bO f fd):aQ P w K mg base (bE P w) 73 f fd ["self","tree"] (bY R CG CT 0):=by
 have no:∀{vs:List V} {H:Hp} {Q:VK} {E:XK},¬ bY R CG CT 0 vs H Q E:=λh=>by
  obtain⟨a,dx,g,dg,d1,d2,sg,st,as,rs,m,v,t,p,pc,_,_,_,h0,_⟩:=h;exact absurd t.dep1 ⋯
 exact F.okX (k:=72) (sp:=bY R CG CT 0) i8 (λvs H Q E h=>absurd h no) (λcdv A outer s H vs Q E hr h=>absurd h no)
theorem kZ{R:RC}{f CG CT yaa:Addr}{fd:KU}(F:cw K "number_in" "TreeRows.number_in" bO f fd)(nb:NB mg)(ct:fz K CT)(nt:au K CT "grammar"/\au K CT "steps"/\au K CT "totals")(me:cQ K CT "number_in" f)(b:b7 K fd ["self","tree"] [])(yat:eO P w K mg base bC 26 "row_of" ["grammar","tree"] (m3 R CG))
  (yah:b6 P w K mg base (bE P w) 71 CT "steps_of" ["self","row"] (bN R CG CT yaa 17)) (yaf:b6 P w K mg base (bE P w) 72 CT "many_in" ["self","row"] (bq R CG CT yaa 17)) :
  ∀n,n<=18->b6 P w K mg base (bE P w) (73+n) CT "number_in" ["self","tree"] (bY R CG CT n)
 |0,_=>⟨f,fd,vo F,ct.cl,me,b⟩
 |n+1,h=>⟨f,fd,oA ⋯ F nb ct nt yat yah yaf (kZ F nb ct nt me b yat yah yaf n ⋯),ct.cl,me,b⟩
theorem Dd{R:RC}{CG CT x dx g dg d1 d2:Addr}{H H2:Hp}{sg st:KO}{as:KR}{rs:Yaa}{m:Nat}(gr:dA R H CG dg g sg st as rs)(ok:vJ st rs m)(s2:aC H H2)(n12:d1≠d2)(ex:H2 x=some (.ins CT dx (FZ g d1 d2)))(ed1:H2 d1=some (.dT []))(ed2:H2 d2=some (.dT [])):g_ R CG CT H2 x dx g dg d1 d2 sg st as rs m:=
 ⟨ex,n12,gr.up s2,ok.gc,ok.gt,ok.sm,ok.m6,ok.n24,ok.nz,[],[],ed1,ed2,⟨List.nodup_nil,List.nodup_nil,(λk h=>nomatch h),(λk h=>nomatch h),(λp h=>by cases h)⟩,λp v h=>by cases h⟩
noncomputable abbrev mV:Stmt:=iO 43
noncomputable def pK(R:RC)(CG CN_ CU_:Addr):Sp:=λvs H Q E=>∃(g dg:Addr) (sg st:KO) (as:KR) (rs:Yaa) (m:Nat) (p:TR) (k:Int),vs=[.ref g,.str (tx p.1),.int (p.2.1:Int),.int (p.2.2.1:Int),.int p.2.2.2,.int k]/\dA R H CG dg g sg st as rs/\vJ st rs m /\
 ((qW st rs m p/\(∀(j:Nat) t,k=(j:Int)->(RT rs p)[j]?=some t->∀v H',aC H H'->cJ H' t.d v->Q v H')/\((k<0\/(CN rs p:Int)<=k)->∀H',aC H H'->E (.ref CU_) none H'))\/(tx p.1∉(a_ (tx st) rs).map (·.1)/\∀H',aC H H'->E (.ref CN_) none H'))
theorem xY:az ["grammar","name","rows","columns","cost","k"] ["grammar","name","rows","columns","cost","k"] (ah mV):=by walk_at "c"
theorem xc{R:RC}{f CG CT yaa yac:Addr}{fd:KU}(F:cw K "tree_at" "tree_at" mV f fd)(nb:NB mg)(ct:fz K CT)(nt:au K CT "grammar"/\au K CT "steps"/\au K CT "totals")
  (yaq:lC P w K mg base bC 1 "TreeRows" CT ["self","grammar"] (gj K)) (yaH:b6 P w K mg base (bE P w) 107 CT "tree_in" ["self","row","k"] (cy R CG CT yaa yac 17)) :
  aQ P w K mg base (bE P w) 108 f fd ["grammar","name","rows","columns","cost","k"] (pK R CG yaa yac):=by
 have sc:=xY;walk_at "x"
 ·obtain⟨g,dg,sg,st,as,rs,m,p,k,rfl,_⟩:=h;rfl
 ·obtain⟨g,dg,sg,st,as,rs,m,p,k,rfl,gr,ok,cs⟩:=h
  have hu:=hr.units;refine⟨_,(ai (aI (bV yaH (hr.mono nofun) (aX λ_ _ _ h=>h) (gD yaq (hr.mono nofun) rfl aY (aa (al 0) ad)) (aa (aL (aa (al 1) (aa (al 2) (aa (al 3) (aa (al 4) ad))))) (aa (al 5) ad))))),?_⟩;walk_at "wp";intro x dx hx hdx hne;have sm1:aC H (aA (aA H dx (.own x)) x (.ins CT dx [])):=(ae hdx).trans (ae (by rw[am (Ne.symm hne)];exact hx));refine⟨x,CT,dx,g,rfl,ac,ct.cl,nt,λd1 d2 H2 f1 f2 n12 ex ed1 ed2 sx=>⟨rfl,dx,_,ex,rfl,ak nofun,λb hb=>?_⟩⟩;have s2:aC H H2:=λy u e=>sx y u (aD e hx) (sm1 y u e);have s3:=ae (o:=.tup (dY p)) hb;have s03:=s2.trans s3;have te:g_ R CG CT (aA H2 b (.tup (dY p))) x dx g dg d1 d2 sg st as rs m:=Dd gr ok s03 n12 (s3 _ _ ex) (s3 _ _ ed1) (s3 _ _ ed2);have fin:∀{H4},b8 d1 d2 (aA H2 b (.tup (dY p))) H4->aC H H4:=λsd y u e=>sd y u (λz=>by rw[z,sm1.free f1]at e;cases e) (λz=>by rw[z,sm1.free f2]at e;cases e) (s03 y u e);refine⟨x,dx,g,dg,d1,d2,b,sg,st,as,rs,m,p,k,rfl,te,ac,nofun,?_⟩;rcases cs with⟨dp,q,bad⟩ | ⟨nn,ex'⟩
  ·exact .inl ⟨dp,by have:=dp.k16;omega,λj t hj ht v H4 sd mm hv=>q j t hj ht v H4 (fin sd) hv,λhk H4 sd mm=>bad hk H4 (fin sd)⟩
  ·exact .inr ⟨nn,ex' _ s03⟩
noncomputable abbrev jy:Stmt:=iO 44
noncomputable def mr(R:RC)(CG:Addr):Sp:=λvs H Q _=>∃(g dg:Addr) (sg st:KO) (as:KR) (rs:Yaa) (m:Nat) (v:V) (t:bK) (p:TR) (pc:bG),vs=[.ref g,v]/\dA R H CG dg g sg st as rs/\vJ st rs m/\(∀r∈rs,fG r)/\cJ H t.d v/\Sd rs t p pc/\qW st rs m p /\
 ∀(k:Nat) H',(RT rs p)[k]?=some t->aC H H'->Q (.int (k:Int)) H'
theorem tI:az ["grammar","tree"] ["grammar","tree"] (ah jy):=by walk_at "c"
theorem tY{R:RC}{f CG CT:Addr}{fd:KU}(F:cw K "number_of" "number_of" jy f fd)(nb:NB mg)(ct:fz K CT)(nt:au K CT "grammar"/\au K CT "steps"/\au K CT "totals")
  (yao:eO P w K mg base bC 24 "laid" ["grammar","tree"] (oW R CG)) (yaq:lC P w K mg base bC 1 "TreeRows" CT ["self","grammar"] (gj K)) (yaS:b6 P w K mg base (bE P w) 89 CT "number_in" ["self","tree"] (bY R CG CT 16)) :
  aQ P w K mg base (bE P w) 90 f fd ["grammar","tree"] (mr R CG):=by
 have sc:=tI;walk_at "x"
 ·obtain⟨g,dg,sg,st,as,rs,m,v,t,p,pc,rfl,_⟩:=h;rfl
 ·obtain⟨g,dg,sg,st,as,rs,m,v,t,p,pc,rfl,gr,ok,hgd,ht,sd,dp,q⟩:=h
  have hu:=hr.units;refine⟨_,(af (bv (aK (CX:=bE P w) yao.lift (hr.mono nofun) rfl bg (aa (al 0) (aa (al 1) ad))))
   (ai (aI (bV yaS (hr.mono nofun) (aX λ_ _ _ h=>h) (gD yaq (hr.mono nofun) rfl aY (aa (al 0) ad)) (aa (al 1) ad))))),?_⟩
  have hdc:=t.dep_cnt;have hlow:=(sd.low hgd).2;have:=dp.k16;walk_at "n";refine⟨g,v,rs,t.d,pc,p.2.2.2,rfl,⟨dg,sg,st,as,_,_,gr,hgd,ok.n24,ht,sd.gr,⋯⟩,λl0 H1 _ e1 s1=>h1 _ _ ?_⟩;clear h1;walk_at "wp";intro x dx hx hdx hne;have sm1:aC H1 (aA (aA H1 dx (.own x)) x (.ins CT dx [])):=(ae hdx).trans (ae (by rw[am (Ne.symm hne)];exact hx));refine⟨x,CT,dx,g,rfl,ac,ct.cl,nt,λd1 d2 H2 f1 f2 n12 ex ed1 ed2 sx=>⟨rfl,dx,_,ex,rfl,?_⟩⟩;have s2:aC H1 H2:=λy u e=>sx y u (aD e hx) (sm1 y u e);have s02:=s1.trans s2;have te:g_ R CG CT H2 x dx g dg d1 d2 sg st as rs m:=Dd gr ok s02 n12 ex ed1 ed2;have fin:∀{H4},b8 d1 d2 H2 H4->aC H H4:=λsd y u e=>sd y u (λz=>by rw[z,(s1.trans sm1).free f1]at e;cases e) (λz=>by rw[z,(s1.trans sm1).free f2]at e;cases e) (s02 y u e);exact⟨x,dx,g,dg,d1,d2,sg,st,as,rs,m,v,t,p,pc,rfl,te,ht.up (gu.of s02) _,⋯,hgd,sd,dp,λk H4 hk sd mm=>q k H4 hk (fin sd)⟩
theorem zm{R:RC}{CG CT yaa f1 f2 f3 f4:Addr}{fd1 fd2 fd3 fd4:KU}{t1:Tok}(F1:cw K "many_in" "TreeRows.many_in" b0 f1 fd1)(F2:cw K "steps_of" "TreeRows.steps_of" b_ f2 fd2)(F3:cw K "reckoned" "TreeRows.reckoned" b9 f3 fd3)(F4:cw K "many_together" "TreeRows.many_together" bh f4 fd4)
  (nb:NB mg) (yaj:mg "sum"=none) (yag:mg "MOST"=some (.int 6 t1)) (ct:fz K CT) (nt:au K CT "grammar"/\au K CT "steps"/\au K CT "totals") (me1:cQ K CT "many_in" f1) (me2:cQ K CT "steps_of" f2) (me3:cQ K CT "reckoned" f3) (me4:cQ K CT "many_together" f4)
  (b1:b7 K fd1 ["self","row"] []) (b2:b7 K fd2 ["self","row"] []) (b3:b7 K fd3 ["self","row"] []) (b4:b7 K fd4 ["self","rows"] [])
  (yai:eO P w K mg base bC 1 "fewest" ["size"] (iq K)) (yam:b6 P w K mg base (bE P w) 1 CG "numbers_of" ["self","name"] (ck R CG yaa)) (yad:b6 P w K mg base bC 1 CG "rule" ["self","k"] (b5 R CG)) (yal:oy P w K mg base bC 3 "part_rows" (lg R)) :
  b6 P w K mg base (bE P w) 71 CT "steps_of" ["self","row"] (bN R CG CT yaa 17):=by
 have ih:=jx F1 F2 F3 F4 nb yaj yag ct nt me1 me2 me3 me4 b1 b2 b3 b4 yai yam yad yal 16;have c4:b6 P w K mg base (bE P w) 69 CT "many_together" ["self","rows"] (cE R CG CT 16):=⟨f4,fd4,fC (n:=16) F4 nb ih,ct.cl,me4,b4⟩;have c3:b6 P w K mg base (bE P w) 70 CT "reckoned" ["self","row"] (eC R CG CT yaa 17):=⟨f3,fd3,jB (n:=16) F3 nb yag ct nt yai yam yad yal c4,ct.cl,me3,b3⟩;exact⟨f2,fd2,jr (n:=16) F2 nb yaj ct nt c3,ct.cl,me2,b2⟩
noncomputable abbrev nB:Stmt:=iO 55
noncomputable def qg(K:W.Frag):Sp:=λvs H Q _=>∃(a:Addr) (ns:List Int) (b m:Nat),vs=[.ref a,.int (b:Int),.int (m:Int)]/\aU K H a (ns.map V.int)/\b<=100/\1<=m/\m<=100/\∀(l:Addr) (cs:List Int) (H':Hp),H l=none->H' l=some (.lst (cs.map V.int))->1<=cs.length->cs.length<=m->aC H H'->Q (.ref l) H'
theorem xD:az ["_law_script","_law_begin","_law_most","_law_many"] ["_law_script","_law_begin","_law_most"] (ah nB):=by walk_at "c"
theorem xw{f:Addr}{fd:KU}(F:cw K "_law_cells" "_law_cells" nB f fd)(nb:NB mg)(zDa:eO P w K mg base bC 1 "_law_cell" ["_law_script","_law_k"] (nq K)):aQ P w K mg base bC 2 f fd ["_law_script","_law_begin","_law_most"] (qg K):=by
 have sc:=xD;walk_at "f"
 ·obtain⟨a,ns,b,m,rfl,_⟩:=h;rfl
 ·obtain⟨a,ns,b,m,rfl,ha,hb,hm1,hm,q⟩:=h
  refine⟨_,(af (aF (i:=3) sc.nd rfl (Or.inl rfl) (ay (bf.m0 d_) (al 2) (ay (bf.m1 bZ) (ay (bf.m1 bH) (aK zDa (hr.mono nofun) rfl aY (aa (al 0) (bM ad))) (al 2)) aj)))
   (ai (aI (cC ["_law_k"] [0] rfl (bw.of (by kernel_rfl)) (by kernel_rfl) (io rfl nb.range (aa (al 1) (aa (ay (bf.m0 bL) (al 1) (al 3)) ad)))
    (λ_ _ _ _=>(aw (i:=0) (by show(["_law_k","_law_script"]:List Str).Nodup;decide +kernel) rfl (Or.inl rfl))) (λ_ _ _ _=>bT) (λ_ _ _ _=>(aK zDa (hr.mono nofun) rfl aY (aa (al 1) (aa (al 0) ad)))))))),?_⟩
  walk_at "n";refine⟨a,ns,62,rfl,ha,⋯,λc=>⟨_,rfl,⋯,h1 _ _ ?_⟩⟩;clear h1;obtain⟨n,hn⟩:∃n:Nat,(m:Int)-c%(m:Int)/2=(n:Int):=⟨((m:Int)-c%(m:Int)/2).toNat,by have:=KD c (b:=(m:Int)) ⋯;have:=KF c (b:=(m:Int)) ⋯;omega⟩;have hn2:1<=n/\n<=m:=by have:=KD c (b:=(m:Int)) ⋯;have:=KF c (b:=(m:Int)) ⋯;omega
  rw[hn];walk_at "wp";refine⟨⋯,⋯,⋯,⋯,?_⟩;rw[show((b:Int)+(n:Int)-(b:Int)).toNat=n by omega];refine eW (λi acc σ H'=>aC H H'/\i<=n/\(∃cs:List Int,acc=cs.map V.int/\cs.length=i)/\∃z,σ=[z,some (V.ref a)]) ⟨λ_ _ e=>e,Kf _,⟨[],rfl,rfl⟩,_,rfl⟩ ?_ (λi acc σ H' h=>h.2.1) ?_ ?_
  ·rintro i acc σ H' ⟨_,hi,⟨cs,rfl,hc⟩,_⟩
   rw[JU,hc];exact bd ⋯
  ·rintro i acc σ H' hi ⟨sm,_,⟨cs,rfl,hc⟩,z,rfl⟩
   walk_at "wp";exact⟨a,ns,b+i,by simp,sm.seq ha,⋯,λc=>⟨sm,hi,⟨cs++[c],by simp,by simp[hc]⟩⟩⟩
  rintro acc σ H4 ⟨s4,_,⟨cs,rfl,hc⟩,_⟩;intro l hl;exact q l cs _ (s4.free hl) ac ⋯ ⋯ (s4.trans (ae hl))
noncomputable abbrev jz:Stmt:=iO 60
noncomputable def mq(R:RC)(CG:Addr):Sp:=λvs H Q _=>∃(l:Addr) (sg st:KO) (ts:KR) (rs:Yaa),vs=[.str (tx sg),.str (tx st),.ref l]/\gK H l ts rs/\(∀r∈rs,fG r)/\rs.length<=24/\sg.length<=100/\st.length<=100/\gM sg st rs=none/\∀b db as H',dA R H' CG db b sg st as rs->aC H H'->Q (.ref b) H'
theorem uH:az ["_law_signs_here","_law_start","_law_rules"] ["_law_signs_here","_law_start","_law_rules"] (ah jz):=by walk_at "c"
theorem sH{R:RC}{f CG zda:Addr}{fd:KU}(F:cw K "_law_grammar" "_law_grammar" jz f fd)(nb:NB mg)(gk:Hj K CG)(zCe:eO P w K mg base bC 6 "_law_rule" ["_law_rule_here"] (mP R))(zGc:lC P w K mg base (bE P w) 4 "Grammar" CG ["self","signs","start","rules"] (i5 K R zda)):aQ P w K mg base bC 7 f fd ["_law_signs_here","_law_start","_law_rules"] (mq R CG):=by
 have sc:=uH;walk_at "f"
 ·obtain⟨l,sg,st,ts,rs,rfl,_⟩:=h;rfl
 ·obtain⟨l,sg,st,ts,rs,rfl,o,hg,hn,hsg,hst,g0,q⟩:=h
  refine⟨_,(ai (aI (gD (CX:=bE P w) zGc (hr.mono nofun) rfl bg (aa (pv 0) (aa (pv 1) (aa (cC ["_law_rule_here"] [] rfl (bw.of (by kernel_rfl)) (by kernel_rfl) (cD (pv 2))
    (λ_ _ _ _=>(aw (i:=0) (by show(["_law_rule_here"]:List Str).Nodup;decide +kernel) rfl (Or.inl rfl))) (λ_ _ _ _=>bT) (λ_ _ _ _=>(aK zCe (hr.mono nofun) rfl aY (aa (pv 0) ad)))) ad)))))),?_⟩
  walk_at "wp";refine⟨⟨_,aU.of o.1⟩,xH o hg ⋯ λas H2 s2 hA lr hlr x dx hx hdx hne=>?_⟩;have s3:aC H2 (aA H2 lr (.lst (as.map V.ref))):=ae hlr;have e3:aA H2 lr (.lst (as.map V.ref)) lr=some (.lst (as.map V.ref)):=ac;generalize aA H2 lr (.lst (as.map V.ref))=H3 at s3 e3 hx hdx ⊢;have sm4:aC H3 (aA (aA H3 dx (.own x)) x (.ins CG dx [])):=(ae hdx).trans (ae (by rw[am (Ne.symm hne)];exact hx));refine⟨x,CG,dx,lr,sg,st,as,rs,rfl,ac,gk.cl.cl,gk.na,⋯,⋯,sm4 _ _ e3,(hA.up s3).up sm4,λr hr=>(hg r hr).k4,⋯,(λ_ H4 lk pn t sx gA _ _ _=>⟨rfl,?_⟩),λy hy=>nomatch hy.symm.trans g0⟩;exact q x dx _ H4 gA.f ((s2.trans s3).trans λb u e=>sx b u (aD e hx) (sm4 b u e))
noncomputable abbrev lP:Stmt:=iO 61
noncomputable def nP(K:W.Frag):Sp:=λvs H Q _=>∃(a:Addr) (p:bG) (r c t:Nat),vs=[.ref a,.int (t:Int)]/\H a=some (.lst (aE p))/\eR p r c/\0<r/\0<c/\r<=64/\c<=64/\t<8/\∀l H',H l=none->H' l=some (.lst (aE (turned p t)))->aC H H'->Q (.ref l) H'
theorem vk:az ["_law_picture","_law_t","_law_turn","_law_rows","_law_column"] ["_law_picture","_law_t"] (ah lP):=by walk_at "c"
theorem wl{f:Addr}{fd:KU}(F:cw K "_law_turned" "_law_turned" lP f fd)(nb:NB mg):aQ P w K mg base bC 1 f fd ["_law_picture","_law_t"] (nP K):=by
 have sc:=vk;walk_at "f"
 ·obtain⟨a,p,r,c,t,rfl,_⟩:=h;rfl
 ·obtain⟨a,p,r,c,t,rfl,hS,hp,hr0,hc0,hr1,hc1,ht,q⟩:=h
  refine⟨_,(af (bF (aM (bf.m0 k8) (al 1) aj (aS _))
   (ai (iF (i:=0) ["_law_row"] [] sc.nd rfl (Or.inl rfl) rfl  rfl (bw.of (by kernel_rfl)) (by kernel_rfl) (cD (al 0))
    (λ_ _ _ _=>(aw (i:=0) (by show(["_law_row"]:List Str).Nodup;decide +kernel) rfl (Or.inl rfl))) (λ_ _ _ _=>bT) (λ_ _ _ _=>(qO rfl rfl nb.reversed (aa (al 0) ad)))))
   aO)
   (af (bu PassesOwn.never rfl (eS rfl nb.range (aa (ay (bf.m1 bH) (al 1) aj) ad)) (aw (i:=2) sc.nd rfl (Or.inl rfl))
   (af (aF (i:=3) sc.nd rfl (Or.inl rfl) (bB ad))
   (af (bu PassesOwn.never rfl (eS rfl nb.range (aa (aB aV rfl nb.len aW (aa (aH aZ (al 0) aj (λ_ _=>rfl)) ad)) ad)) (aw (i:=4) sc.nd rfl (Or.inr rfl))
   (ai (bv (hU PySem.F.plainAttrs_list PySem.F.slot_list_append PySem.F.type_list_append dS (al 3) (aa (hU PySem.F.plainAttrs_str PySem.F.slot_str_join PySem.F.type_str_join oR jX (aa (cC ["_law_row"] [4] rfl (bw.of (by kernel_rfl)) (by kernel_rfl) (xl rfl nb.reversed (aa (al 0) ad))
    (λ_ _ _ _=>(aw (i:=0) (by show(["_law_row","_law_column"]:List Str).Nodup;decide +kernel) rfl (Or.inl rfl))) (λ_ _ _ _=>bT) (λ_ _ _ _=>(aH m5 (al 0) (al 1) (λ_ _=>rfl)))) ad)) ad)))))
   (ai (aF (i:=0) sc.nd rfl (Or.inl rfl) (al 3))))))
   (ai (aI (dH cM rfl nb.list iJ (aa (al 0) ad)))))),?_⟩
  refine ar λN2 h2=>?_;have loop:∀(l2:Addr) (p':bG) (H2:Hp) (y1 y2 y3:Option V),H2 l2=some (.lst (aE p'))->aC H H2->eR p' r c->turned p t=br (t%4) p'->N2 [some (V.ref l2),some (V.int t),y1,y2,y3] H2:=by
   intro l2 p' H2 y1 y2 y3 hH2 sm2 hp' et;refine h2 _ _ ?_;clear h2;refine ar λN3 h3=>?_;walk_at "wp";refine⟨⋯,⋯,?_⟩;have e4:((t:Int)%4).toNat=t%4:=by omega
   rw[e4];refine fX (lo:=0) (n:=t%4) (λi σ H3=>∃(l3:Addr) (x1 x2 x3:Option V),σ=[some (V.ref l3),some (V.int t),x1,x2,x3]/\H3 l3=some (.lst (aE (br i p')))/\aC H H3) ⟨l2,_,_,_,rfl,hH2,sm2⟩ ?_ ?_
   ·rintro i σ H3 hi ⟨l3,x1,x2,x3,rfl,h4,sm3⟩
    have hq:=cV i hp' hr0 hc0;obtain⟨r',c',g3,g4,g5,g6⟩:∃r' c',eR (br i p') r' c'/\0<r'/\r'<=64/\c'<=64:=by
     by_cases hi2:i%2=0
     ·rw[if_pos hi2,if_pos hi2]at hq;exact⟨r,c,hq,hr0,hr1,hc1⟩
     ·rw[if_neg hi2,if_neg hi2]at hq;exact⟨c,r,hq,hc0,hc1,hr1⟩
    have hqa:br (i+1) p'=fK (br i p'):=(mw 1 i p').symm;generalize br i p'=pq at h4 g3 hqa;have hl0:0<pq.length:=by rw[g3.1];exact g4
    have hcc:(pq[0]).length=c':=g3.2 _ (J1 hl0);have hh:(pq.headD []).length=c':=bI g3 g4;rw[hqa];walk_at "wp";refine⟨Kf _,λlr hlr=>?_⟩;have s4:=ae (o:=.lst []) hlr;have e4:aA H3 lr (.lst []) lr=some (.lst []):=ac;generalize aA H3 lr (.lst [])=H4 at s4 e4 ⊢;have h0:h_ (aE pq) 0=some (V.str (tx pq[0])):=(show h_ _ ((0:Nat):Int)=_ from bt (bc hl0));refine⟨_,aU.of (s4 _ _ h4),_,h0,_,rfl,by rw[ax];exact ak ⋯,by rw[ax];omega,by rw[ax];omega,?_⟩;rw[ax,hcc,J2];refine fX (lo:=0) (n:=c') (λj σ H5=>aC H3 H5/\j<=c'/\H5 lr=some (.lst (aE ((List.range j).map (col pq))))/\∃y,σ=[some (V.ref l3),some (V.int t),some (V.int (i:Int)),some (V.ref lr),y]) ⟨s4,Kf _,e4,_,rfl⟩ ?_ ?_
    ·rintro j σ H5 hj ⟨s5,_,e5,y,rfl⟩
     have hl35:=s5 _ _ h4;walk_at "wp";have hrow:∀x∈pq,x.length=c':=g3.2;have hpq:pq.length<=64:=by rw[g3.1];exact g5
     refine⟨.inl ⟨rfl,_,aU.of e5⟩,rfl,_,aU.of hl35,vI (xs:=aE pq) (λn acc σ H'=>H'=H5/\acc=((pq.reverse.take n).map λr=>V.str ⟨#[r.getD j 0]⟩)/\n<=pq.length/\∃x,σ=[x,some (.int (j:Int))]) ⟨rfl,rfl,Kf _,_,rfl⟩ ?_ ?_ ?_ ?_ ?_⟩
     ·rintro n acc σ H' ⟨_,rfl,_⟩
      refine bd ?_;rw[JU,Ku,J_];omega
     ·rintro n acc σ H' ⟨_,_,h,_⟩
      rw[av];exact h
     ·rintro n acc σ H' ⟨rfl,_⟩
      exact aU.of hl35
     ·rintro n x acc σ H' hx ⟨rfl,rfl,hn,y,rfl⟩
      have hl:n<pq.reverse.length:=by
       have:=(JS.mp hx).1
       rwa [J_,av,<- J_ (as:=pq)]at this
      have hx':(aE pq.reverse)[n]?=some x:=by unfold aE at hx ⊢;rwa [List.map_reverse]
      rw[bc hl]at hx';cases hx';have hm:pq.reverse[n]∈pq:=List.mem_reverse.mp (J1 hl);have hr:=hrow _ hm;walk_at "wp";have hc:(tx pq.reverse[n]).cps.toList[j]?=some (pq.reverse[n].getD j 0):=by rw[gF,List.getD_eq_getElem?_getD,JR ⋯];rfl
      refine⟨by rw[ax];exact ak ⋯,_,bt hc,?_,by rw[J_]at hl;exact hl⟩;rw[List.take_add_one,JR hl,J5]
      rfl
     ·rintro acc σ H' ⟨rfl,rfl,_⟩ l hl
      rw[av,<- J_ (as:=pq),Kt]at *;refine⟨(col pq j).map λc=>(⟨#[c]⟩:Str),.inl (aU.of ?_),?_,_,ae hl _ _ e5,?_,?_,hj,?_⟩
      ·rw[ac];unfold col;rw[J7,J7];rfl
      ·rw[J7]
       have e:((λy:Str=>y.length)∘λc=>(⟨#[c]⟩:Str))=λ_=>1:=by funext c;rfl
       rw[e,List.map_const',List.sum_replicate_nat,JU];have e0:(Str.ofString "").length=0:=rfl;rw[e0];unfold col;rw[JU];omega
      ·rw[av,JU,List.length_range];exact bd ⋯
      ·exact fP (s5.trans (ae hl)) hlr
      ·rw[ac,fS,List.range_succ,J5]
       exact congrArg (λz=>some (HO.lst z)) (eF _ _).symm
    ·rintro σ H5 ⟨s5,_,e5,y,rfl⟩
     walk_at "wp";refine⟨?_,sm3.trans s5⟩;rw[e5];unfold fK;rw[hh]
   ·rintro σ H3 ⟨l3,x1,x2,x3,rfl,h4,sm3⟩
    refine h3 _ _ ?_;walk_at "wp";exact⟨_,.inl (aU.of h4),λl hl=>q l _ (sm3.free hl) (by rw[ac,et]) (sm3.trans (ae hl))⟩
  walk_at "wp";have hpl:p.length=r:=hp.1
  split
  ·rename_i h4
   refine⟨⟨_,aU.of hS⟩,?_⟩;refine gl (as:=p) (emb:=λx=>V.str (tx x)) (f:=λx=>some (V.str (tx x.reverse))) (λσ=>∃x,σ=[x]) ⟨_,rfl⟩ (λH' sm=>aU.of (sm _ _ hS)) ⋯ ?_ ?_
   ·rintro i x hx σ H' M1 M0 ⟨y,rfl⟩ sm k1 k0
    walk_at "wp";have hxl:x.length=c:=hp.2 x (JX hx);refine⟨by rw[ax];omega,nofun,k1 _ _ _ ?_ sm ⟨_,rfl⟩⟩;rw[gF,fS]
   ·intro H' sm l hl
    rw[j0];have em:p.map (λx=>V.str (tx x.reverse))=aE (fB p):=by unfold aE fB;rw[J7];rfl
    rw[em];refine loop l (fB p) _ _ _ _ ac (sm.trans (ae hl)) (gG hp) ?_;unfold turned;rw[if_pos ⋯]
  ·rename_i h4
   refine loop a p H _ _ _ hS (aC.refl _) hp ?_;unfold turned;rw[if_neg ⋯]
noncomputable abbrev lG:Stmt:=iO 62
noncomputable def oh:Sp:=λvs H Q _=>∃(a b:Addr) (p q:bG) (r c r' c':Nat) (sd:Bool) (mo:Int),vs=[.ref a,.ref b,.bl sd,.int mo]/\H a=some (.lst (aE p))/\H b=some (.lst (aE q))/\fA p r c/\fA q r' c'/\mo<=6 /\
 (∀pc,(∀v:RV,hJ (if sd then 1 else 2) v [p,q]=some pc)->cO H pc Q)/\∀H',aC H H'->Q .non H'
theorem vP:az ["_law_one","_law_other","_law_side","_law_most"] ["_law_one","_law_other","_law_side","_law_most"] (ah lG):=by walk_at "c"
theorem wc{f:Addr}{fd:KU}(F:cw K "_law_joined" "_law_joined" lG f fd)(nb:NB mg):aQ P w K mg base bC 1 f fd ["_law_one","_law_other","_law_side","_law_most"] oh:=by
 have sc:=vP;walk_at "f"
 ·obtain⟨a,b,p,q,r,c,r',c',sd,mo,rfl,_⟩:=h;rfl
 ·obtain⟨a,b,p,q,r,c,r',c',sd,mo,rfl,ha,hb,hp6,hq6,hmo,fit,no⟩:=h
  have hp:=hp6.rc;have hq:=hq6.rc;have:=hp6.r6;have:=hp6.c6;have:=hq6.r6;have:=hq6.c6;have e1:=bI hp hp6.r0;have e2:=bI hq hq6.r0;refine⟨_,(af (bF (PW.pt (mL (ja (al 2) λ_=>rfl) (mL (aM ij (aB bb rfl nb.len aW (aa (al 0) ad)) (aB bb rfl nb.len aW (aa (al 1) ad)) (aS _)) (oX (aM (bf.m0 lW) (ay (bf.m0 bL) (aB aV rfl nb.len aW (aa (aH aZ (al 0) aj (λ_ _=>rfl)) ad)) (aB aV rfl nb.len aW (aa (aH aZ (al 1) aj (λ_ _=>rfl)) ad))) (al 3) (aS _))))))
   (ai (aI (cC ["_law_left","_law_right"] [] rfl (bw.of (by kernel_rfl)) (by kernel_rfl) (Dc rfl nb.zip (aa (al 0) (aa (al 1) ad)))
    (λ_ _ _ _=>(uM (K:=K) (n:=2) rfl rfl (aG (aw (i:=0) (by show(["_law_left","_law_right"]:List Str).Nodup;decide +kernel) rfl (Or.inl rfl)) (aG (aw (i:=1) (by show(["_law_left","_law_right"]:List Str).Nodup;decide +kernel) rfl (Or.inl rfl)) cq)))) (λ_ _ _ _=>bT) (λ_ _ _ _=>(ay iz (al 0) (al 1))))))
   aO)
   (af (bF (PW.pt (mL (gH (ja (al 2) λ_=>rfl)) (mL (aM ij (aB aV rfl nb.len aW (aa (aH aZ (al 0) aj (λ_ _=>rfl)) ad)) (aB aV rfl nb.len aW (aa (aH aZ (al 1) aj (λ_ _=>rfl)) ad)) (aS _)) (oX (aM (bf.m0 lW) (ay (bf.m0 bL) (aB bb rfl nb.len aW (aa (al 0) ad)) (aB bb rfl nb.len aW (aa (al 1) ad))) (al 3) (aS _))))))
   (ai (aI (ay wY (dH cM rfl nb.list iJ (aa (al 0) ad)) (dH cM rfl nb.list iJ (aa (al 1) ad)))))
   aO)
   (ai (aI uv)))),?_⟩
  obtain⟨hl0,hc0⟩:=fo hp hp6.r0;obtain⟨hl0',hc0'⟩:=fo hq hq6.r0;have yau:p.length=r:=hp.1;have yaR:q.length=r':=hq.1;have h0:h_ (aE p) 0=some (V.str (tx p[0])):=(show h_ _ ((0:Nat):Int)=_ from bt (bc hl0));have h0':h_ (aE q) 0=some (V.str (tx q[0])):=(show h_ _ ((0:Nat):Int)=_ from bt (bc hl0'));refine ar λN1 h1=>?_;have tH:N1 [some (V.ref a),some (V.ref b),some (V.bl sd),some (V.int mo)] H:=by
   refine h1 _ _ ?_;clear h1;refine ar λN1 h1=>?_;have tH:N1 [some (V.ref a),some (V.ref b),some (V.bl sd),some (V.int mo)] H:=by
    refine h1 _ _ ?_;walk_at "wp";exact no H (aC.refl _)
   clear h1;walk_at "wp";cases sd with
   |true=>rw[if_neg nofun];exact tH
   |false=>
    rw[if_pos rfl];refine⟨_,aU.of ha,_,h0,_,rfl,by rw[ax];exact ak ⋯,_,aU.of hb,_,h0',_,rfl,by rw[ax];exact ak ⋯,?_⟩;rw[ax,ax,hc0,hc0'];refine gy (λt1=>?_) (λ_=>tH);refine⟨_,aU.of ha,_,aU.of hb,?_⟩;rw[av,av,yau,yaR];refine gy (λt2=>?_) (λ_=>tH);refine⟨_,.inl (aU.of ha),λl hl=>⟨_,.inl (aU.of (ae hl _ _ hb)),λl1 hl1=>⟨_,ae hl1 _ _ ac,_,ac,?_,λl2 hl2=>?_⟩⟩⟩
    ·rw[av,av];exact ak ⋯
    have s3:=(ae (o:=.lst (aE p)) hl).trans (ae (o:=.lst (aE q)) hl1);refine fit (p++q) (λv=>?_) l2 _ (j6 s3 hl2) ?_ (s3.trans (ae hl2))
    ·show(if(p.headD []).length=(q.headD []).length/\p.length+q.length<=6 then some (p++q) else none)=some (p++q)
     rw[e1,e2,if_pos ⋯]
    ·rw[ac];unfold aE;rw[J5]
  clear h1;walk_at "wp";cases sd with
  |false=>rw[if_neg nofun];exact tH
  |true=>
   rw[if_pos rfl];refine⟨_,aU.of ha,_,aU.of hb,?_⟩;rw[av,av,yau,yaR];refine gy (λt1=>?_) (λ_=>tH);refine⟨_,aU.of ha,_,h0,_,rfl,by rw[ax];exact ak ⋯,_,aU.of hb,_,h0',_,rfl,by rw[ax];exact ak ⋯,?_⟩;rw[ax,ax,hc0,hc0'];refine gy (λt2=>?_) (λ_=>tH);refine⟨_,aU.of ha,_,aU.of hb,?_⟩;have hqr:q.length=r:=by omega
   have hput:(put2 p q).length=r:=by unfold put2;rw[JU,List.length_zip,yau,hqr,Nat.min_self]
   refine wn (xs:=aE p) (ys:=aE q) (n:=r) (by rw[av,av,yau,hqr,Nat.min_self]) (λi acc σ H'=>aC H H'/\acc=aE ((put2 p q).take i)/\i<=r/\∃y z,σ=[y,z]) ⟨λ_ _ e=>e,rfl,Kf _,_,_,rfl⟩ ?_ ?_ ?_ ?_ ?_
   ·rintro i acc σ H' ⟨_,rfl,hi,_⟩
    rw[av,Ku];exact bd ⋯
   ·rintro i acc σ H' ⟨_,_,h,_⟩
    exact h
   ·rintro i acc σ H' ⟨sm,_⟩
    exact⟨aU.of (sm _ _ ha),aU.of (sm _ _ hb)⟩
   ·rintro i x y acc σ H' T hx hy ⟨sm,rfl,_,y1,z1,rfl⟩ hT
    have hi:i<p.length:=by have:=(JS.mp hx).1;rwa [av]at this
    have hi':i<q.length:=by omega
    rw[bc hi]at hx;rw[bc hi']at hy;cases hx;cases hy;have hrow:=hp.2 _ (J1 hi);have ydj:=hq.2 _ (J1 hi');walk_at "wp";refine⟨_,ba.of ac,rfl,_,_,rfl,_,_,rfl,rfl,?_⟩;have e:(put2 p q)[i]?=some (p[i]++q[i]):=by
     unfold put2;simp[List.getElem?_zip_eq_some,hi,hi'];exact⟨_,_,⟨rfl,rfl⟩,rfl⟩
    have et:tx p[i]++tx q[i]=tx (p[i]++q[i]):=by
     show(⟨_++_⟩:Str)=⟨_⟩;simp[tx]
    refine⟨_,rfl,_,rfl,by rw[ax,ax];exact ak ⋯,sm.trans (ae hT),?_,⋯⟩;rw[et,List.take_add_one,e];exact(eF _ _).symm
   ·rintro acc σ H' ⟨sm,rfl,_⟩ l hl
    refine fit (put2 p q) (λv=>?_) l _ (sm.free hl) ?_ (sm.trans (ae hl))
    ·show(if p.length=q.length/\(p.headD []).length+(q.headD []).length<=6 then some (put2 p q) else none)=some (put2 p q)
     rw[e1,e2,if_pos ⋯]
    ·rw[ac,<- hput,Kt]
structure pj(r' r:Nat×RV):Prop where
 k:r'.1=r.1
 sg:r.1=0->r'.2.sg=r.2.sg
 o1:r.1≠0->r'.2.o1=r.2.o1
 o2:r.1=1\/r.1=2->r'.2.o2=r.2.o2
 t:r.1=3->r'.2.t=r.2.t
theorem pj.rfl'(r:Nat×RV):pj r r:=⟨rfl,λ_=>rfl,λ_=>rfl,λ_=>rfl,λ_=>rfl⟩
noncomputable def mI(r:Nat×RV):List V:=match r.1 with
 |0=>[.int 0,.str (tx r.2.sg),.str ""]
 |1=>[.int 1,.str (tx r.2.o1),.str (tx r.2.o2)]
 |2=>[.int 2,.str (tx r.2.o1),.str (tx r.2.o2)]
 |_=>[.int 3,.str (tx r.2.o1),.int r.2.t]
theorem rP(r:Nat×RV):nA (iA r) (some 2) none=mI r:=by
 obtain⟨k,v⟩:=r
 match k with
 |0=>rfl
 |1=>rfl
 |2=>rfl
 |k+3=>rfl
theorem pN(r:Nat×RV):(mI r).all i_=true:=by
 obtain⟨k,v⟩:=r
 match k with
 |0=>rfl
 |1=>rfl
 |2=>rfl
 |k+3=>rfl
theorem vd(r:Nat×RV):¬ (HT.sIx (iA r).length 0 (some 2)=0/\HT.sIx (iA r).length (iA r).length none=(iA r).length):=by
 obtain⟨k,v⟩:=r
 match k with
 |0=>exact λh=>by cases h.1
 |1=>exact λh=>by cases h.1
 |2=>exact λh=>by cases h.1
 |k+3=>exact λh=>by cases h.1
theorem kl{a b:Str}(h:vz (.str a) (.str b)=true):a=b:=by
 have h':(a==b)=true:=h;exact eq_of_beq h'
theorem ym{a b:Int}(h:vz (.int a) (.int b)=true):a=b:=by
 have h':(a==b)=true:=h;exact eq_of_beq h'
theorem gs{x y z x' y' z':V}(h:jn [x,y,z] [x',y',z']=true):vz x x'=true/\vz y y'=true/\vz z z'=true:=by
 have h':(([0,1,2]:List Nat).all (λj=>match([x,y,z]:List V)[j]?,([x',y',z']:List V)[j]? with | some x,some y=>vz x y | _,_=>true)&&true)=true:=h
 simpa using h'
theorem wk(r:Nat×RV)(h4:r.1<4):∃y z,mI r=[.int (r.1:Int),y,z]:=by
 obtain⟨k,v⟩:=r;rcases kg h4 with h | h | h | h<;>(simp only at h;subst h;exact⟨_,_,rfl⟩)
theorem B'{r' r:Nat×RV}(h4':r'.1<4)(h4:r.1<4)(he:jn (mI r') (mI r)=true):pj r' r:=by
 have hk:r'.1=r.1:=by
  obtain⟨y,z,e⟩:=wk r h4;obtain⟨y',z',e'⟩:=wk r' h4';rw[e,e']at he;have:=ym (gs he).1;omega
 obtain⟨k',v'⟩:=r';obtain⟨k,v⟩:=r;have e:k'=k:=hk;subst e;rcases kg h4 with h | h | h | h<;>(simp only at h;subst h)
 ·have:=gs (show jn [.int 0,.str (tx v'.sg),.str ""] [.int 0,.str (tx v.sg),.str ""]=true from he)
  exact⟨rfl,λ_=>gI (kl this.2.1),λh=>absurd rfl h,λh=>(by rcases h with h | h<;>cases h),λh=>(by cases h)⟩
 ·have:=gs (show jn [.int 1,.str (tx v'.o1),.str (tx v'.o2)] [.int 1,.str (tx v.o1),.str (tx v.o2)]=true from he)
  exact⟨rfl,λh=>(by cases h),λ_=>gI (kl this.2.1),λ_=>gI (kl this.2.2),λh=>(by cases h)⟩
 ·have:=gs (show jn [.int 2,.str (tx v'.o1),.str (tx v'.o2)] [.int 2,.str (tx v.o1),.str (tx v.o2)]=true from he)
  exact⟨rfl,λh=>(by cases h),λ_=>gI (kl this.2.1),λ_=>gI (kl this.2.2),λh=>(by cases h)⟩
 ·have:=gs (show jn [.int 3,.str (tx v'.o1),.int v'.t] [.int 3,.str (tx v.o1),.int v.t]=true from he)
  exact⟨rfl,λh=>(by cases h),λ_=>gI (kl this.2.1),λh=>(by rcases h with h | h<;>cases h),λ_=>ym this.2.2⟩
noncomputable abbrev nM:Stmt:=iO 63
noncomputable def qa:Sp:=λvs H Q _=>∃(l t:Addr) (b:Bool) (ts:KR) (rs:Yaa) (r:Nat×RV),vs=[.ref l,.ref t,.bl b]/\gK H l ts rs/\(∀x∈rs,x.1<4)/\H t=some (.tup (iA r))/\r.1<4/\rs.length<24 /\
 (∀(k:Nat) r' H',rs[k]?=some r'->pj r' r->aC H H'->Q (.int (k:Int)) H') /\
 (∀H0,aC H H0->Q (.int (rs.length:Int)) (aA H0 l (.lst (ts.map V.ref++[V.ref t]))))
theorem xz:az ["_law_rules","_law_wanted","_law_again","_law_k","_law_rule_here"] ["_law_rules","_law_wanted","_law_again"] (ah nM):=by walk_at "c"
theorem xp{f:Addr}{fd:KU}(F:cw K "_law_noted" "_law_noted" nM f fd)(nb:NB mg):aQ P w K mg base bC 1 f fd ["_law_rules","_law_wanted","_law_again"] qa:=by
 have sc:=xz;walk_at "f"
 ·obtain⟨l,t,b,ts,rs,r,rfl,_⟩:=h;rfl
 ·obtain⟨l,t,b,ts,rs,r,rfl,hrs,hk4,ht,hr4,hl24,q1,q3⟩:=h
  have hu:=hr.units;refine⟨_,(af (bF (ja (al 2) λ_=>rfl)
   (ai (bu PassesOwn.never rfl (oS rfl nb.enumerate (aa (al 0) ad)) (dE (n:=2) rfl (aG (aw (i:=3) sc.nd rfl (Or.inl rfl)) (aG (aw (i:=4) sc.nd rfl (Or.inl rfl)) cq)))
   (ai (bF (aM (Bm hu) (eG nG (al 4) (e_ aj) gE) (eG nG (al 1) (e_ aj) gE) (aS _))
   (ai (aI (al 3)))
   aO))))
   aO)
   (af (bv (hU PySem.F.plainAttrs_list PySem.F.slot_list_append PySem.F.type_list_append dS (al 0) (aa (al 1) ad)))
   (ai (aI (ay (bf.m0 d_) (aB bb rfl nb.len aW (aa (al 0) ad)) aj))))),?_⟩
  refine ar λN1 h1=>?_;have fin:∀{z1 z2:Option V} {H':Hp},aC H H'->N1 [some (V.ref l),some (V.ref t),some (V.bl b),z1,z2] H':=fun{z1 z2 H'} sm=>by
   refine h1 _ _ ?_;walk_at "wp";have hl':=sm _ _ hrs.1;have hln:(ts.map V.ref).length=rs.length:=by rw[JU];exact hrs.2.1
   refine⟨.inl ⟨rfl,_,aU.of hl'⟩,_,hl',?_,_,aU.of ac,?_⟩
   ·rw[hln];exact bd ⋯
   ·have:=q3 H' sm
    rw[Kd,hln];rw[show(((rs.length+[V.ref t].length:Nat):Int)-1)=(rs.length:Int) by simp];exact this
  walk_at "wp";cases b with
  |false=>rw[if_neg nofun];exact fin (aC.refl _)
  |true=>
   rw[if_pos rfl];refine⟨_,aU.of hrs.1,?_⟩;refine j8 (xs:=ts.map V.ref) (λi σ H'=>aC H H'/\∃z1 z2,σ=[some (V.ref l),some (V.ref t),some (V.bl true),z1,z2]) ⟨λ_ _ e=>e,_,_,rfl⟩ ?_ ?_ ?_
   ·rintro i σ H' _ ⟨sm,_⟩
    exact aU.of (sm _ _ hrs.1)
   ·rintro i x σ H' T hx ⟨sm,z1,z2,rfl⟩ hT
    rw[JW]at hx;obtain⟨ti,hti,rfl⟩:=Ki.mp hx;obtain⟨r',hr'⟩:∃r',rs[i]?=some r':=⟨_,JR (by have:=(JS.mp hti).1;have:=hrs.2.1;omega)⟩;have hri:=sm _ _ (hrs.2.2 i ti r' hti hr');have sT:=ae (o:=.tup [V.int (i:Int),V.ref ti]) hT;have hTT:aA H' T (.tup [V.int (i:Int),V.ref ti]) T=some (.tup [V.int (i:Int),V.ref ti]):=ac;generalize aA H' T (.tup [V.int (i:Int),V.ref ti])=H1 at sT hTT ⊢;walk_at "wp";have sm1:=sm.trans sT;refine⟨_,ba.of hTT,rfl,_,_,rfl,_,_,rfl,rfl,ti,rfl,_,ba.of (sT _ _ hri),vd r',λc1 hc1=>?_⟩;rw[rP];have sC:=ae (o:=.tup (mI r')) hc1;refine⟨_,ba.of (sC _ _ (sm1 _ _ ht)),vd r,λc2 hc2=>?_⟩;rw[rP];have sD:=ae (o:=.tup (mI r)) hc2;refine⟨_,ba.of (sD _ _ ac),_,ba.of ac,pN r',pN r,?_⟩;have sE:=(sm1.trans sC).trans sD
    by_cases he:jn (mI r') (mI r)=true
    ·rw[if_pos he]
     exact q1 i r' _ hr' (B' (hk4 _ (JX hr')) hr4 he) sE
    ·rw[if_neg he];exact sE
   ·rintro σ H' ⟨sm,z1,z2,rfl⟩
    exact fin sm
structure SI where
 t:bK
 nm:List Nat
 p:bG
 c:Int
structure FI where
 a:Addr
 v:V
 lp:Addr
 x:SI
noncomputable def FI.at(z:FI)(H:Hp):Prop:=H z.a=some (.tup [z.v,.str (tx z.x.nm),.ref z.lp,.int z.x.c])/\cJ H z.x.t.d z.v/\H z.lp=some (.lst (aE z.x.p))/\z.x.p≠[]
theorem FI.at.up{z:FI}{H H':Hp}(h:z.at H)(s:aC H H'):z.at H':=⟨s _ _ h.1,h.2.1.up (gu.of s) _,s _ _ h.2.2.1,h.2.2.2⟩
noncomputable def fk(l:Addr)(H H':Hp):Prop:=∀y u,y≠l->H y=some u->H' y=some u
theorem fk.of{l:Addr}{H H':Hp}(s:aC H H'):fk l H H':=λy u _ e=>s y u e
theorem fk.trans{l:Addr}{H H1 H2:Hp}(a:fk l H H1)(b:fk l H1 H2):fk l H H2:=λy u n e=>b y u n (a y u n e)
theorem fk.put{l:Addr}{H:Hp}{o:HO}:fk l H (aA H l o):=λy u n e=>by rw[am n];exact e
theorem fk.tups{l:Addr}{H H':Hp}(s:fk l H H'){as:KR}(hl:H l=some (.lst (as.map V.ref))):gu H H':=λb xs h=>s b _ (λz=>by rw[z,hl]at h;cases h) h
theorem FI.at.keep{z:FI}{l:Addr}{H H':Hp}{as:KR}(h:z.at H)(hl:H l=some (.lst (as.map V.ref)))(s:fk l H H'):z.at H':=
 ⟨s.tups hl _ _ h.1,h.2.1.up (s.tups hl) _,s _ _ (x8 hl h.2.2.1 h.2.2.2) h.2.2.1,h.2.2.2⟩
structure By(rs:Yaa)(p:bG)(lim:Int)(x:SI):Prop where
 sd:∃r c,Sd rs x.t (x.nm,r,c,x.c) x.p
 nm:x.nm∈p
 le:x.c<=lim
theorem Sd.more{rs:Yaa}(r:Nat×RV){t:bK}{p:TR}{pc:bG}(h:Sd rs t p pc):Sd (rs++[r]) t p pc:=by
 have up:∀{n:Nat} {x:Nat×RV},rs[n]?=some x->(rs++[r])[n]?=some x:=fun{n x} e=>by rw[Kc (JS.mp e).1];exact e
 induction h with
 |cell e=>exact .cell (up e)
 |turn e _ ih=>exact .turn (up e) ih
 |beside e _ _ m ih1 ih2=>exact .beside (up e) ih1 ih2 m
 |above e _ _ m ih1 ih2=>exact .above (up e) ih1 ih2 m
inductive Nx(r:Nat×RV):List SI->bG->Prop
 |cell:r.1=0->Nx r [] [r.2.sg]
 |turn {x:SI}:r.1=3->x.nm=r.2.o1->Nx r [x] (turned x.p r.2.t.toNat)
 |pair {x y:SI} {pc:bG}:(r.1=1\/r.1=2)->x.nm=r.2.o1->y.nm=r.2.o2->hJ r.1 r.2 [x.p,y.p]=some pc->Nx r [x,y] pc
theorem Nx.sd{rs:Yaa}(hg:∀r∈rs,fG r){n:Nat}{r r':Nat×RV}{ys:List SI}{pc:bG}(h:Nx r ys pc)(e:rs[n]?=some r')(as:pj r' r)(hy:∀y∈ys,∃a c,Sd rs y.t (y.nm,a,c,y.c) y.p) :
  ∃a c,Sd rs (yt (n:Int) (ys.map SI.t)) (r'.2.n,a,c,r'.2.c+(ys.map SI.c).sum) pc:=by
 obtain⟨k',v'⟩:=r';obtain⟨k,v⟩:=r;have ek:k'=k:=as.k;subst ek;cases h with
 |cell h=>
  have h:k'=0:=h;subst h;have:=as.sg rfl;have h1:Sd rs (.n0 n) (v'.n,1,1,v'.c) [v'.sg]:=.cell e;rw[show v'.sg=v.sg from this]at h1;have e1:v'.c=v'.c+(([]:List SI).map SI.c).sum:=by simp
  rw[e1]at h1;exact⟨_,_,h1⟩
 | @turn x h hx=>
  have h:k'=3:=h;subst h;obtain⟨a,c,s⟩:=hy x (by simp);have ho:v'.o1=v.o1:=as.o1 (show(3:Nat)≠0 by decide);have ht:v'.t=v.t:=as.t rfl;have hx:x.nm=v'.o1:=by rw[ho];exact hx
  rw[hx]at s;have h1:=Sd.turn e s;rw[ht]at h1;have e1:x.c=([x].map SI.c).sum:=by simp
  rw[e1]at h1;exact⟨_,_,h1⟩
 | @pair x y _ h hx hy2 m=>
  obtain⟨a,c,s⟩:=hy x (by simp);obtain⟨a2,c2,s2⟩:=hy y (by simp);have hx:x.nm=v'.o1:=by rw[show v'.o1=v.o1 from as.o1 (by rcases h with h | h<;>(have h:k'=_:=h;subst h;exact λz=>by cases z))];exact hx
  have hy2:y.nm=v'.o2:=by rw[show v'.o2=v.o2 from as.o2 h];exact hy2
  rw[hx]at s;rw[hy2]at s2;rcases h with h | h
  ·have h:k'=1:=h
   subst h;have m':hJ 1 v' [x.p,y.p]=some pc:=m;have e1:a=a2:=(nS (s.pic hg) (s2.pic hg) m').1;subst e1;have h1:=Sd.beside e s s2 m';have e1:x.c+y.c=([x,y].map SI.c).sum:=by simp
   rw[e1]at h1;exact⟨_,_,h1⟩
  ·have h:k'=2:=h
   subst h;have m':hJ 2 v' [x.p,y.p]=some pc:=m;have e1:c=c2:=(oZ (s.pic hg) (s2.pic hg) m').1;subst e1;have h1:=Sd.above e s s2 m';have e1:x.c+y.c=([x,y].map SI.c).sum:=by simp
   rw[e1]at h1;exact⟨_,_,h1⟩
theorem Nx.ne{r:Nat×RV}{ys:List SI}{pc:bG}(h:Nx r ys pc):ys.length<=2:=by cases h<;>simp
structure GS(H:Hp)(p:bG)(sg:KO)(lim:Int)(lr ls:Addr)(ts:KR)(rs:Yaa)(zs:List FI):Prop where
 rows:gK H lr ts rs
 ro:∀r∈rs,qF p sg r
 st:H ls=some (.lst (zs.map λz=>V.ref z.a))
 at_:∀z∈zs,z.at H
 good:∀z∈zs,By rs p lim z.x
 ne:lr≠ls
theorem GS.up{H H':Hp}{p:bG}{sg:KO}{lim:Int}{lr ls:Addr}{ts:KR}{rs:Yaa}{zs:List FI}(g:GS H p sg lim lr ls ts rs zs)(s:aC H H'):GS H' p sg lim lr ls ts rs zs:=
 ⟨g.rows.up s,g.ro,s _ _ g.st,λz hz=>(g.at_ z hz).up s,g.good,g.ne⟩
theorem GS.st'{H:Hp}{p:bG}{sg:KO}{lim:Int}{lr ls:Addr}{ts:KR}{rs:Yaa}{zs:List FI}(g:GS H p sg lim lr ls ts rs zs):H ls=some (.lst ((zs.map FI.a).map V.ref)):=by rw[J7];exact g.st
theorem GS.row{H:Hp}{p:bG}{sg:KO}{lim:Int}{lr ls:Addr}{ts:KR}{rs:Yaa}{zs:List FI}(g:GS H p sg lim lr ls ts rs zs){t:Addr}{r:Nat×RV}(ht:H t=some (.tup (iA r)))(hr:qF p sg r):GS (aA H lr (.lst (ts.map V.ref++[V.ref t]))) p sg lim lr ls (ts++[t]) (rs++[r]) zs:=
 ⟨g.rows.app ht,λx hx=>by rcases J6.mp hx with h | h;exact g.ro x h;rw[JV.mp h];exact hr,by rw[am g.ne.symm];exact g.st,λz hz=>(g.at_ z hz).keep g.rows.1 fk.put,λz hz=>⟨let ⟨a,c,s⟩:=(g.good z hz).sd;⟨a,c,s.more r⟩,(g.good z hz).nm,(g.good z hz).le⟩,g.ne⟩
theorem GS.item{H:Hp}{p:bG}{sg:KO}{lim:Int}{lr ls:Addr}{ts:KR}{rs:Yaa}{zs:List FI}(g:GS H p sg lim lr ls ts rs zs){z:FI}(hz:z.at H)(hg:By rs p lim z.x):GS (aA H ls (.lst (zs.map (λz=>V.ref z.a)++[V.ref z.a]))) p sg lim lr ls ts rs (zs++[z]):=by
 have hk:fk ls H (aA H ls (.lst (zs.map (λz=>V.ref z.a)++[V.ref z.a]))):=fk.put;refine⟨⟨hk _ _ g.ne g.rows.1,g.rows.2.1,λi t r e1 e2=>hk.tups g.st' _ _ (g.rows.2.2 i t r e1 e2)⟩,g.ro,by rw[ac,J5];rfl,λy hy=>?_,λy hy=>?_,g.ne⟩
 ·rcases J6.mp hy with h | h
  ·exact(g.at_ y h).keep g.st' hk
  ·rw[JV.mp h];exact hz.keep g.st' hk
 ·rcases J6.mp hy with h | h
  ·exact g.good y h
  ·rw[JV.mp h];exact hg
noncomputable def Db(lr ls:Addr)(H H':Hp):Prop:=∀y u,y≠lr->y≠ls->H y=some u->H' y=some u
noncomputable abbrev sN:Stmt:=iO 64
noncomputable def pH:Sp:=λvs H Q _=>∃(lr ls tw la tm lq:Addr) (b:Bool) (ts:KR) (rs:Yaa) (zs ys:List FI) (r:Nat×RV) (pc:bG) (p:bG) (sg:KO) (lim:Int),vs=[.ref lr,.ref ls,.ref tw,.bl b,.ref la,.ref tm]/\GS H p sg lim lr ls ts rs zs/\H tw=some (.tup (iA r))/\qF p sg r/\rs.length<24/\zs.length<=100 /\
 H la=some (.lst (ys.map λz=>V.ref z.a))/\la≠lr/\la≠ls/\(∀y∈ys,y∈zs)/\H tm=some (.tup [.ref lq,.int lim])/\H lq=some (.lst (aE pc))/\pc≠[]/\Nx r (ys.map FI.x) pc /\
 ∀H' ts' rs' zs',GS H' p sg lim lr ls ts' rs' zs'->Db lr ls H H'->rs'.length<=rs.length+1->zs'.length<=zs.length+1->(zs≠[]\/(rs=[]/\r.1=0/\r.2.c<=lim)->zs'≠[])->Q .non H'
theorem BZ:az ["_law_rules","_law_stock","_law_wanted","_law_again","_law_parts","_law_made","_law_k","_law_cost"] ["_law_rules","_law_stock","_law_wanted","_law_again","_law_parts","_law_made"] (ah sN):=by walk_at "c"
theorem yN(r:Nat×RV):h_ (iA r) 0=some (.str (tx r.2.n))/\h_ (iA r) 1=some (.int r.2.c):=by
 obtain⟨k,v⟩:=r
 match k with
 |0=>exact⟨rfl,rfl⟩
 |1=>exact⟨rfl,rfl⟩
 |2=>exact⟨rfl,rfl⟩
 |k+3=>exact⟨rfl,rfl⟩
theorem Nx.cell0{r:Nat×RV}{ys:List SI}{pc:bG}(h:Nx r ys pc)(h1:r.1=0):ys=[]:=by
 cases h with
 |cell _=>rfl
 |turn e=>rw[h1]at e;cases e
 |pair e=>rw[h1]at e;rcases e with e | e<;>cases e
theorem vH{H:Hp}:∀{ys:List FI},(∀z∈ys,z.at H)->bD H (((ys.map FI.x).map SI.t).map bK.d) (ys.map λz=>z.v)
 | [],_=>by unfold bD;rfl
 |z::ys,h=>by
  show bD H (z.x.t.d::_) (z.v::_);exact bD.cons (h z List.mem_cons_self).2.1 (vH λy hy=>h y (J9 _ hy))
theorem BQ{f:Addr}{fd:KU}(F:cw K "_law_put" "_law_put" sN f fd)(nb:NB mg)(yaj:mg "sum"=none)(zQd:eO P w K mg base bC 1 "_law_noted" ["_law_rules","_law_wanted","_law_again"] qa):aQ P w K mg base bC 2 f fd ["_law_rules","_law_stock","_law_wanted","_law_again","_law_parts","_law_made"] pH:=by
 have sc:=BZ;walk_at "f"
 ·obtain⟨lr,ls,tw,la,tm,lq,b,ts,rs,zs,ys,r,pc,p,sg,lim,rfl,_⟩:=h;rfl
 ·obtain⟨lr,ls,tw,la,tm,lq,b,ts,rs,zs,ys,r,pc,p,sg,lim,rfl,g,htw,hro,h24,hz100,hla,nla,nls,hys,htm,hlq,hpc,nx,q⟩:=h
  have hu:=hr.units;refine⟨_,(af (aF (i:=6) sc.nd rfl (Or.inl rfl) (aK zQd (hr.mono nofun) rfl aY (aa (al 0) (aa (al 2) (aa (al 3) ad)))))
   (af (aF (i:=7) sc.nd rfl (Or.inl rfl) (ay (bf.m0 bL) (aH aJ (aH aZ (al 0) (al 6) (λ_ _=>rfl)) aj (λ_ _=>rfl)) (aB (mK rfl) rfl yaj xk (aa (cC ["_law_part"] [] rfl (bw.of (by kernel_rfl)) (by kernel_rfl) (cD (al 4))
    (λ_ _ _ _=>(aw (i:=0) (by show(["_law_part"]:List Str).Nodup;decide +kernel) rfl (Or.inl rfl))) (λ_ _ _ _=>bT) (λ_ _ _ _=>(aH (oV (K:=K) rfl) (al 0) aj (λ_ _=>rfl)))) ad))))
   (ai (bF (aM (bf.m0 lW) (al 7) (aH aJ (al 5) aj (λ_ _=>rfl)) (aS _))
   (ai (bv (hU PySem.F.plainAttrs_list PySem.F.slot_list_append PySem.F.type_list_append dS (al 1) (aa (aL (aa (ay dC (aL (aa (al 6) ad)) (dH q_ rfl nb.tuple wf (aa (cC ["_law_part"] [] rfl (bw.of (by kernel_rfl)) (by kernel_rfl) (cD (al 4))
    (λ_ _ _ _=>(aw (i:=0) (by show(["_law_part"]:List Str).Nodup;decide +kernel) rfl (Or.inl rfl))) (λ_ _ _ _=>bT) (λ_ _ _ _=>(aH (oV (K:=K) rfl) (al 0) aj (λ_ _=>rfl)))) ad))) (aa (aH aJ (aH aZ (al 0) (al 6) (λ_ _=>rfl)) aj (λ_ _=>rfl)) (aa (aH aJ (al 5) aj (λ_ _=>rfl)) (aa (al 7) ad))))) ad))))
   aO)))),?_⟩
  refine ar λN1 h1=>?_;have go:∀(k:Nat) (r':Nat×RV) (ts':KR) (rs':Yaa) (H1:Hp),GS H1 p sg lim lr ls ts' rs' zs->rs'[k]?=some r'->pj r' r->rs'.length<=rs.length+1->fk lr H H1->(rs=[]->r'=r)->N1 [some (V.ref lr),some (V.ref ls),some (V.ref tw),some (V.bl b),some (V.ref la),some (V.ref tm),some (V.int (k:Int)),none] H1:=by
   intro k r' ts' rs' H1 g1 hk has hlen hE hnew;refine h1 _ _ ?_;clear h1;have hla1:=hE _ _ nla hla;have htm1:=hE.tups g.rows.1 _ _ htm;have hlq1:=hE _ _ (x8 g.rows.1 hlq hpc) hlq;have hyl:=nx.ne;rw[JU]at hyl;obtain⟨tk,htk⟩:∃tk,ts'[k]?=some tk:=⟨_,JR (by have:=(JS.mp hk).1;have:=g1.rows.2.1;omega)⟩;have eat:h_ (ts'.map V.ref) (k:Int)=some (V.ref tk):=bt (by rw[JW,htk];rfl);have hrow:=g1.rows.2.2 k tk r' htk hk;walk_at "n";have hya:∀y∈ys,y.at H1:=λy hy=>g1.at_ y (hys y hy);refine⟨_,aU.of g1.rows.1,_,eat,_,rfl,_,ba.of hrow,_,(yN r').2,⟨_,aU.of hla1⟩,?_⟩;refine gl (as:=ys) (emb:=λz=>V.ref z.a) (f:=λz=>some (V.int z.x.c)) (λσ=>∃x,σ=[x]) ⟨_,rfl⟩ (λH' s=>aU.of (s _ _ hla1)) ⋯ ?_ ?_
   ·rintro i z hz σ H' M1 M0 ⟨y,rfl⟩ sm k1 k0
    walk_at "wp";exact⟨_,ba.of (sm _ _ (hya z (JX hz)).1),_,rfl,k1 _ _ _ rfl sm ⟨_,rfl⟩⟩
   intro H2 s2 l hl;rw[j0];refine⟨ys.map λz=>z.x.c,by rw[J7];exact aU.of ac,_,rfl,h1 _ _ ?_⟩;clear h1;have s3:=s2.trans (ae (o:=.lst (ys.map λz=>V.int z.x.c)) hl);generalize aA H2 l (.lst (ys.map λz=>V.int z.x.c))=H3 at s3 ⊢;clear s2 hl H2;have g3:=g1.up s3;have hsum:(ys.map λz=>z.x.c).sum=((ys.map FI.x).map SI.c).sum:=by rw[J7];rfl
   have hsd:=nx.sd (λr hr=>(g1.ro r hr).good) hk has λy hy=>by
    obtain⟨z,hz,rfl⟩:=Ky.mp hy;exact(g1.good z (hys z hz)).sd
   rw[hsum];generalize hcost:r'.2.c+((ys.map FI.x).map SI.c).sum=cost at hsd ⊢;have hB:∀{H4},aC H3 H4->Db lr ls H H4:=λs4 y u n1 _ e=>s4 _ _ (s3 _ _ (hE y u n1 e));walk_at "wp";refine⟨_,ba.of (s3 _ _ htm1),_,rfl,_,rfl,?_⟩;refine gy (λt1=>?_) (λt1=>?_)
   ·refine⟨.inl ⟨rfl,_,aU.of g3.st⟩,ak nofun,λp1 hp1=>?_⟩
    have s4:=ae (o:=.tup [V.int (k:Int)]) hp1;have e4:aA H3 p1 (.tup [V.int (k:Int)]) p1=some (.tup [V.int (k:Int)]):=ac;generalize aA H3 p1 (.tup [V.int (k:Int)])=H4 at s4 e4 ⊢;have s34:=s3.trans s4;refine⟨⟨_,aU.of (s34 _ _ hla1)⟩,?_⟩;refine gl (as:=ys) (emb:=λz=>V.ref z.a) (f:=λz=>some z.v) (λσ=>∃x,σ=[x]) ⟨_,rfl⟩ (λH' s=>aU.of (s _ _ (s34 _ _ hla1))) ⋯ ?_ ?_
    ·rintro i z hz σ H' M1 M0 ⟨y,rfl⟩ sm k1 k0
     walk_at "wp";exact⟨_,ba.of (sm _ _ (s34 _ _ (hya z (JX hz)).1)),_,rfl,k1 _ _ _ rfl sm ⟨_,rfl⟩⟩
    intro H5 s5 l hl;rw[j0];refine⟨_,.inl ⟨aU.of ac,λl4 hl4=>?_⟩⟩;have sB:=(ae (o:=.lst (ys.map λz=>z.v)) hl).trans (ae (o:=.tup (ys.map λz=>z.v)) hl4);refine ia (sB _ _ (s5 _ _ e4)) ac (by simp) (by simp;omega) λtr H6 htr s6=>?_;have s16:=s34.trans ((s5.trans sB).trans s6);have g6:=g1.up s16;refine⟨_,aU.of g6.rows.1,_,eat,_,rfl,_,ba.of (s16 _ _ hrow),_,(yN r').1,_,ba.of (s16 _ _ htm1),_,rfl,ak nofun,λnp hnp=>?_⟩;have s7:=ae (o:=.tup [V.ref tr,V.str (tx r'.2.n),V.ref lq,V.int cost]) hnp;have e7:aA H6 np (.tup [V.ref tr,V.str (tx r'.2.n),V.ref lq,V.int cost]) np=some (.tup [V.ref tr,V.str (tx r'.2.n),V.ref lq,V.int cost]):=ac;generalize aA H6 np (.tup [V.ref tr,V.str (tx r'.2.n),V.ref lq,V.int cost])=H7 at s7 e7 ⊢;have s17:=s16.trans s7;have g7:=g1.up s17;have itm:FI.at ⟨np,V.ref tr,lq,⟨yt (k:Int) ((ys.map FI.x).map SI.t),r'.2.n,pc,cost⟩⟩ H7:=by
     refine⟨e7,?_,s17 _ _ hlq1,hpc⟩;refine bK.of (vs:=ys.map λz=>z.v) ?_ ?_
     ·show H7 tr=some (.tup (.int (yt (k:Int) ((ys.map FI.x).map SI.t)).i::_))
      rw[Ek];exact s7 _ _ htr
     ·show bD H7 ((yt (k:Int) ((ys.map FI.x).map SI.t)).ps.map bK.d) _
      rw[Cj _ (by simp;omega)];exact vH λz hz=>((hya z hz).up s17)
    have gd:By rs' p lim ⟨yt (k:Int) ((ys.map FI.x).map SI.t),r'.2.n,pc,cost⟩:=⟨hsd,(g1.ro _ (JX hk)).n,t1⟩;refine⟨_,g7.st,by rw[JU];exact bd ⋯,?_⟩;exact q _ ts' rs' _ (g7.item itm gd) (λy u n1 n2 e=>by rw[am n2];exact s17 _ _ (hE y u n1 e)) hlen (by simp) (λ_=>by simp)
   ·refine q H3 ts' rs' zs g3 (hB (aC.refl _)) hlen ⋯ λh=>?_
    rcases h with h | ⟨h0,h1,h2⟩
    ·exact h
    ·refine absurd ?_ t1
     have er:=hnew h0;subst er;rw[<- hcost];rw[nx.cell0 h1]
     simpa using h2
  clear h1;walk_at "wp";refine⟨lr,tw,b,ts,rs,r,rfl,g.rows,λx hx=>(g.ro x hx).good.k4,htw,hro.good.k4,h24,λk r' H1 hk has s1=>?_,λH0 s0=>?_⟩
  ·exact go k r' ts rs H1 (g.up s1) hk has ⋯ (.of s1) (λe=>by rw[e]at hk;simp at hk)
  ·exact go rs.length r _ _ _ ((g.up s0).row (s0 _ _ htw) hro) (by simp) (pj.rfl' r) (by simp) ((fk.of s0).trans fk.put) (λ_=>rfl)
noncomputable abbrev qN:Stmt:=iO 65
noncomputable def rO:Sp:=λvs H Q _=>∃(lr ls td lb:Addr) (ts:KR) (rs:Yaa) (zs:List FI) (p:bG) (sg:KO) (c dear side lim:Int),vs=[.ref lr,.ref ls,.int c,.ref td]/\GS H p sg lim lr ls ts rs zs/\H td=some (.tup [.str (tx sg),.ref lb,.int dear,.int side,.int lim])/\H lb=some (.lst (aE p))/\p.length=4/\(∀r∈p,dw r=true)/\eD sg=true/\1<=dear/\dear<=9/\dear<=lim/\side<=6/\rs.length<24/\zs.length<=100 /\
 ∀H' ts' rs' zs',GS H' p sg lim lr ls ts' rs' zs'->Db lr ls H H'->rs'.length<=rs.length+1->zs'.length<=zs.length+1->(zs≠[]\/rs=[]->zs'≠[])->Q .non H'
theorem zE:az ["_law_rules","_law_stock","_law_cell_here","_law_drawn","_law_signs_here","_law_names_here","_law_dear","_law_side","_law_limit","_law_kind","_law_again","_law_name","_law_cost","_law_rest","_law_sign","_law_one","_law_made","_law_other","_law_way","_law_picture"] ["_law_rules","_law_stock","_law_cell_here","_law_drawn"] (ah qN):=by walk_at "c"
theorem Ac{f:Addr}{fd:KU}(F:cw K "_law_step" "_law_step" qN f fd)(nb:NB mg)(zbc:eO P w K mg base bC 2 "_law_put" ["_law_rules","_law_stock","_law_wanted","_law_again","_law_parts","_law_made"] pH)(zHc:eO P w K mg base bC 1 "_law_turned" ["_law_picture","_law_t"] (nP K))(zIc:eO P w K mg base bC 1 "_law_joined" ["_law_one","_law_other","_law_side","_law_most"] oh):aQ P w K mg base bC 3 f fd ["_law_rules","_law_stock","_law_cell_here","_law_drawn"] rO:=by
 have sc:=zE;walk_at "f"
 ·obtain⟨lr,ls,td,lb,ts,rs,zs,p,sg,c,dear,side,lim,rfl,_⟩:=h;rfl
 ·obtain⟨lr,ls,td,lb,ts,rs,zs,p,sg,c,dear,side,lim,rfl,g,htd,hlb,hp4,hpn,hsg,hd1,hd9,hdl,hs6,h24,hz100,q⟩:=h
  have hu:=hr.units;refine⟨_,(af (tP (al 3) (dE (n:=5) rfl (aG (aw (i:=4) sc.nd rfl (Or.inl rfl)) (aG (aw (i:=5) sc.nd rfl (Or.inl rfl)) (aG (aw (i:=6) sc.nd rfl (Or.inl rfl)) (aG (aw (i:=7) sc.nd rfl (Or.inl rfl)) (aG (aw (i:=8) sc.nd rfl (Or.inl rfl)) cq)))))))
   (af (aF (i:=9) sc.nd rfl (Or.inl rfl) (ay (bf.m1 bH) (al 2) aj))
   (af (aF (i:=10) sc.nd rfl (Or.inl rfl) (lZ ij (ay (bf.m1 bH) (ay (bf.m1 bZ) (al 2) aj) aj) aj (aS _)))
   (af (aF (i:=11) sc.nd rfl (Or.inl rfl) (aH aZ (al 5) (ay (bf.m1 bH) (ay (bf.m1 bZ) (al 2) aj) aj) (λ_ _=>rfl)))
   (af (aF (i:=12) sc.nd rfl (Or.inl rfl) (ay (bf.m0 bL) aj (ay (bf.m1 bH) (ay (bf.m1 bZ) (al 2) aj) (al 6))))
   (af (aF (i:=13) sc.nd rfl (Or.inl rfl) (ay (bf.m1 bZ) (ay (bf.m1 bZ) (al 2) aj) (al 6)))
   (af (bF (PW.pt (i6 (aM ij (al 9) aj (aS _)) (gZ (aM ij (aB bb rfl nb.len aW (aa (al 1) ad)) aj (aS _)))))
   (af (aF (i:=14) sc.nd rfl (Or.inl rfl) (aH m5 (al 4) (ay (bf.m1 bH) (al 13) (aB aV rfl nb.len aW (aa (al 4) ad))) (λ_ _=>rfl)))
   (af (bv (aK zbc (hr.mono nofun) rfl aY (aa (al 0) (aa (al 1) (aa (aL (aa (al 11) (aa (al 12) (bM (aa (al 14) (bP ad)))))) (aa (al 10) (aa (bB ad) (aa (aL (aa (bB (aa (al 14) ad)) (aa (al 8) ad))) ad))))))))
   (ai tW)))
   aO)
   (af (aF (i:=15) sc.nd rfl (Or.inl rfl) (aH aZ (al 1) (ay (bf.m1 bH) (al 13) (aB bb rfl nb.len aW (aa (al 1) ad))) (λ_ _=>rfl)))
   (af (aF (i:=13) sc.nd rfl (Or.inl rfl) (ay (bf.m1 bZ) (al 13) (aB bb rfl nb.len aW (aa (al 1) ad))))
   (af (bF (aM ij (al 9) aj (aS _))
   (af (aF (i:=16) sc.nd rfl (Or.inl rfl) (aL (aa (aK zHc (hr.mono nofun) rfl aY (aa (aH aJ (al 15) aj (λ_ _=>rfl)) (aa (ay (bf.m1 bH) (al 13) aj) ad))) (aa (al 8) ad))))
   (af (bv (aK zbc (hr.mono nofun) rfl aY (aa (al 0) (aa (al 1) (aa (aL (aa (al 11) (aa (al 12) (bM (aa (aH aJ (al 15) aj (λ_ _=>rfl)) (aa (ay (bf.m1 bH) (al 13) aj) ad)))))) (aa (al 10) (aa (bB (aa (al 15) ad)) (aa (al 16) ad))))))))
   (ai tW)))
   aO)
   (af (aF (i:=17) sc.nd rfl (Or.inl rfl) (aH aZ (al 1) (ay (bf.m1 bH) (al 13) (aB bb rfl nb.len aW (aa (al 1) ad))) (λ_ _=>rfl)))
   (ai (bu PassesOwn.never rfl (sM (aL (aa (al 9) (aa (ay (bf.m0 d_) aj (al 9)) ad)))) (aw (i:=18) sc.nd rfl (Or.inl rfl))
   (af (aF (i:=19) sc.nd rfl (Or.inl rfl) (aK zIc (hr.mono nofun) rfl aY (aa (aH aJ (al 15) aj (λ_ _=>rfl)) (aa (aH aJ (al 17) aj (λ_ _=>rfl)) (aa (lZ ij (al 18) aj (aS _)) (aa (al 7) ad))))))
   (ai (bF (aM yE (al 19) uv (aS _))
   (af (bv (aK zbc (hr.mono nofun) rfl aY (aa (al 0) (aa (al 1) (aa (aL (aa (al 11) (aa (al 12) (aa (al 18) (aa (aH aJ (al 15) aj (λ_ _=>rfl)) (aa (aH aJ (al 17) aj (λ_ _=>rfl)) ad)))))) (aa (al 10) (aa (bB (aa (al 15) (aa (al 17) ad))) (aa (aL (aa (al 19) (aa (al 8) ad))) ad))))))))
   (ai tW))
   aO)))))))))))))))),?_⟩
  walk_at "n";refine⟨_,ba.of htd,rfl,_,_,rfl,_,_,rfl,_,_,rfl,_,_,rfl,_,_,rfl,rfl,h1 _ _ ?_⟩;walk_at "nc";refine h1 _ _ ?_;walk_at "nc";refine h1 _ _ ?_;walk_at "nc";have hsl:=lI hsg;have pick:∀x:Int,∃z∈p,h_ (aE p) (x%4)=some (V.str (tx z)):=λx=>by
   obtain⟨j,hj⟩:∃j:Nat,x%4=(j:Int):=⟨_,(KG (KD _ ⋯)).symm⟩;have:x%4<4:=KF _ ⋯;exact⟨p[j]'⋯,J1 _,by rw[hj];exact bt (bc ⋯)⟩
  have ybD:∀x:Int,∃c∈sg,h_ (tx sg).cps.toList (x%(sg.length:Int))=some c:=λx=>by
   rw[gF];exact Ct (KD _ ⋯) (KF _ ⋯)
  have hsz:(tx sg).length<=sizeLine:=by rw[ax];exact ak ⋯
  obtain⟨nm,hnm,p1⟩:=pick (c/8);refine⟨_,aU.of hlb,_,p1,h1 _ _ ?_⟩;walk_at "nc";have c0:0<=c/32%dear:=KD _ ⋯;have c9:c/32%dear<dear:=KF _ ⋯;refine⟨⋯,h1 _ _ ?_⟩;clear h1;obtain⟨co,hco⟩:∃co,1+c/32%dear=co:=⟨_,rfl⟩;rw[hco];walk_at "n";refine⟨⋯,⋯,h1 _ _ ?_⟩;clear h1;generalize c/32/dear=re;have gd:∀(k:Nat) (z1 z2:KO) (ch:Nat) (tt:Int),k<4->z1∈p->z2∈p->ch∈sg->0<=tt->tt<=7->qF p sg (k,⟨nm,co,z1,z2,[ch],tt⟩):=λk z1 z2 ch tt hk h1 h2 h3 t0 t7=>by
   have g:RV.good ⟨nm,co,z1,z2,[ch],tt⟩:=⟨hpn _ hnm,by show 1<=co;omega,by show co<=9;omega,hpn _ h1,hpn _ h2,DS hsg h3,t0,t7⟩;exact⟨⟨hk,g,g.small⟩,hnm,h1,h2,ch,h3,rfl⟩
  generalize hag:decide (c/4%2=0)=ag;have ybq:∀{zs':List FI} {r:Nat×RV},r.2.c=co->(zs≠[]\/(rs=[]/\r.1=0/\r.2.c<=lim)->zs'≠[])->r.1=0\/zs≠[]->(zs≠[]\/rs=[]->zs'≠[]):=fun{zs' r} hc h h0 h1=>by
   refine h ?_;rcases h1 with h1 | h1
   ·exact .inl h1
   ·rcases h0 with h0 | h0
    ·exact .inr ⟨h1,h0,⋯⟩
    ·exact .inl h0
  refine ar λN1 h1=>?_;refine w8 λtb ub et eu=>?_;walk_at "wp";have ybj:∀{D:iP},D.rt=Q->tb D [some (V.ref lr),some (V.ref ls),some (V.int c),some (V.ref td),some (V.str (tx sg)),some (V.ref lb),some (V.int dear),some (V.int side),some (V.int lim),some (V.int (c%4)),some (V.bl ag),some (V.str (tx nm)),some (V.int co),some (V.int re),none,none,none,none,none,none] H:=fun{D} hD=>by
   rw[et];walk_at "wp";rw[ax];obtain⟨ch,hch,pc⟩:=ybD re;have hs2:sg.length<=sizeLine:=ak ⋯;refine⟨hs2,⋯,hs2,ch,pc,ak nofun,λtw htw=>⟨Kf _,λla hla=>⟨ak nofun,λlq hlq=>⟨ak nofun,λtm htm=>?_⟩⟩⟩⟩;have r0:=gd 0 nm nm ch 0 nofun hnm hnm hch nofun nofun;generalize hr:(⟨nm,co,nm,nm,[ch],0⟩:RV)=rv at r0;have e1:aA H tw (.tup [V.str (tx nm),V.int co,V.int 0,V.str ⟨#[ch]⟩,V.str (Str.ofString "")]) tw=some (.tup (iA (0,rv))):=by rw[ac,<- hr];rfl
   have s1:=ae (o:=.tup [V.str (tx nm),V.int co,V.int 0,V.str ⟨#[ch]⟩,V.str (Str.ofString "")]) htw;generalize aA H tw (.tup [V.str (tx nm),V.int co,V.int 0,V.str ⟨#[ch]⟩,V.str (Str.ofString "")])=H1 at s1 e1 hla hlq htm ⊢;have s2:=ae (o:=.lst []) hla;have e2:aA H1 la (.lst []) la=some (.lst []):=ac;generalize aA H1 la (.lst [])=H2 at s2 e2 hlq htm ⊢;have s3:=ae (o:=.lst [V.str ⟨#[ch]⟩]) hlq;have e3:aA H2 lq (.lst [V.str ⟨#[ch]⟩]) lq=some (.lst (aE [rv.sg])):=by rw[ac,<- hr];rfl
   generalize aA H2 lq (.lst [V.str ⟨#[ch]⟩])=H3 at s3 e3 htm ⊢;have s4:=ae (o:=.tup [V.ref lq,V.int lim]) htm;have e4:aA H3 tm (.tup [V.ref lq,V.int lim]) tm=some (.tup [V.ref lq,V.int lim]):=ac;generalize aA H3 tm (.tup [V.ref lq,V.int lim])=H4 at s4 e4 ⊢;have s24:=s3.trans s4;have s14:=s2.trans s24;have s04:=s1.trans s14;have nl:∀{x u},H x=some u->la≠x:=λe z=>by rw[<- z,j6 s1 hla]at e;cases e
   refine⟨lr,ls,tw,la,tm,lq,ag,ts,rs,zs,[],(0,rv),[rv.sg],p,sg,lim,rfl,g.up s04,s14 _ _ e1,r0,h24,hz100,s24 _ _ e2,nl g.rows.1,nl g.st,λy hy=>(nomatch hy),e4,s4 _ _ e3,by simp,Nx.cell rfl,λH' ts' rs' zs' g' sB l1 l2 hne=>?_⟩;rw[hD];exact q H' ts' rs' zs' g' (λy u n1 n2 e=>sB y u n1 n2 (s04 _ _ e)) l1 l2 (ybq (by rw[<- hr]) hne (.inl rfl))
  refine gy (λ_=>ybj rfl) (λk0=>⟨_,aU.of g.st,?_⟩);rw[JU];refine gy (λ_=>ybj rfl) (λz0=>?_);clear ybj;rw[eu];clear et eu tb ub;have hz1:1<=zs.length:=by omega
  have hz0:zs≠[]:=λe=>by rw[e]at hz1;simp at hz1
  have ybL:∀x:Int,∃z∈zs,h_ (zs.map λz=>V.ref z.a) (x%(zs.length:Int))=some (V.ref z.a):=λx=>by
   obtain⟨v,hv,e⟩:=Ct (xs:=zs.map λz=>V.ref z.a) (KD x (show(zs.length:Int)≠0 by omega)) (by rw[JU];exact KF _ ⋯);obtain⟨z,hz,rfl⟩:=Ky.mp hv;exact⟨z,hz,e⟩
  walk_at "wp";refine h1 _ _ ?_;walk_at "nc";obtain⟨z1,hz1m,pz1⟩:=ybL re;refine⟨_,aU.of g.st,by rw[JU];omega,_,aU.of g.st,_,by rw[JU];exact pz1,h1 _ _ ?_⟩;walk_at "nc";refine⟨_,aU.of g.st,by rw[JU];omega,by rw[JU];omega,h1 _ _ ?_⟩;clear h1;rw[JU];generalize re/(zs.length:Int)=re2;have za1:=g.at_ z1 hz1m;have zg1:=g.good z1 hz1m;obtain⟨zr,zc,zsd⟩:=zg1.sd;have zp:=zsd.pic λr hr=>(g.ro r hr).good;have zr6:zr<=6:=zp.r6;have zc6:zc<=6:=zp.c6;obtain⟨ch,hch,_⟩:=ybD 0;have fin:∀{H5:Hp} {tw la tm lq:Addr} {ys:List FI} {r:Nat×RV} {pc:bG},aC H H5->H5 tw=some (.tup (iA r))->qF p sg r->r.2.c=co->H5 la=some (.lst (ys.map λz=>V.ref z.a))->H la=none->(∀y∈ys,y∈zs)->H5 tm=some (.tup [.ref lq,.int lim])->H5 lq=some (.lst (aE pc))->(∃a b,fA pc a b)->Nx r (ys.map FI.x) pc->pH [.ref lr,.ref ls,.ref tw,.bl ag,.ref la,.ref tm] H5 (λ_ H1=>Q .non H1) E0:=fun{H5 tw la tm lq ys r pc} s5 e1 hro hc0 e2 hla hys e3 e4 hpc nx=>by
   have nl:∀{x u},H x=some u->la≠x:=λe z=>by rw[<- z,hla]at e;cases e
   obtain⟨a,b,p6⟩:=hpc;refine⟨lr,ls,tw,la,tm,lq,ag,ts,rs,zs,ys,r,pc,p,sg,lim,rfl,g.up s5,e1,hro,h24,hz100,e2,nl g.rows.1,nl g.st,hys,e3,e4,λe=>?_,nx,λH' ts' rs' zs' g' sB l1 l2 hne=>?_⟩
   ·have h1:=p6.rc.1
    have h2:=p6.r0;rw[e]at h1;rw[<- h1]at h2;cases h2
   ·exact q H' ts' rs' zs' g' (λy u n1 n2 e=>sB y u n1 n2 (s5 _ _ e)) l1 l2 (ybq hc0 hne (.inr hz0))
  refine ar λN1 h1=>?_;refine w8 λtb ub et eu=>?_;walk_at "wp";refine gy (λk3=>?_) (λk3=>?_)
  ·rw[et]
   clear et eu tb ub h1;walk_at "n";obtain⟨tt,htt,ht8⟩:∃tt:Nat,re2%8=(tt:Int)/\tt<8:=⟨(re2%8).toNat,⋯,⋯⟩;rw[htt];refine⟨_,ba.of za1.1,_,rfl,z1.lp,z1.x.p,zr,zc,tt,rfl,za1.2.2.1,zp.rc,zp.r0,zp.c0,⋯,⋯,ht8,λlq H1 hlq elq s1=>⟨ak nofun,λtm htm=>h1 _ _ ?_⟩⟩;clear h1;have s2:=ae (o:=.tup [V.ref lq,V.int lim]) htm;have e2:aA H1 tm (.tup [V.ref lq,V.int lim]) tm=some (.tup [V.ref lq,V.int lim]):=ac;generalize aA H1 tm (.tup [V.ref lq,V.int lim])=H2 at s2 e2 ⊢;have s02:=s1.trans s2;walk_at "wp";rw[htt];refine⟨_,ba.of (s02 _ _ za1.1),_,rfl,ak nofun,λtw htw=>⟨ak nofun,λla hla=>?_⟩⟩;have hla0:H la=none:=j6 (s02.trans (ae htw)) hla;have e3:aA H2 tw (.tup [V.str (tx nm),V.int co,V.int 3,V.str (tx z1.x.nm),V.int (tt:Int)]) tw=some (.tup (iA (3,⟨nm,co,z1.x.nm,nm,[ch],(tt:Int)⟩))):=ac;have s3:=ae (o:=.tup [V.str (tx nm),V.int co,V.int 3,V.str (tx z1.x.nm),V.int (tt:Int)]) htw;generalize aA H2 tw (.tup [V.str (tx nm),V.int co,V.int 3,V.str (tx z1.x.nm),V.int (tt:Int)])=H3 at s3 e3 hla ⊢;have s4:=ae (o:=.lst [V.ref z1.a]) hla;exact fin ((s02.trans s3).trans s4) (s4 _ _ e3) (gd 3 _ _ ch _ nofun zg1.nm hnm hch ⋯ ⋯) rfl (ys:=[z1]) ac hla0 (λy hy=>by rw[JV.mp hy];exact hz1m) (s4 _ _ (s3 _ _ e2)) (s4 _ _ (s3 _ _ (s2 _ _ elq))) (rD zp tt) (Nx.turn (x:=z1.x) rfl rfl)
  ·rw[eu]
   clear et eu tb ub;walk_at "wp";refine h1 _ _ ?_;walk_at "nc";obtain⟨z2,hz2m,pz2⟩:=ybL re2;refine⟨_,aU.of g.st,by rw[JU];omega,_,aU.of g.st,_,by rw[JU];exact pz2,h1 _ _ ?_⟩;clear h1;have za2:=g.at_ z2 hz2m;have zg2:=g.good z2 hz2m;obtain⟨zr2,zc2,zsd2⟩:=zg2.sd;have zp2:=zsd2.pic λr hr=>(g.ro r hr).good;walk_at "wp";refine⟨ak nofun,λpt hpt=>?_⟩;have s1:=ae (o:=.tup [V.int (c%4),V.int (3-c%4)]) hpt;have e1:aA H pt (.tup [V.int (c%4),V.int (3-c%4)]) pt=some (.tup [V.int (c%4),V.int (3-c%4)]):=ac;generalize aA H pt (.tup [V.int (c%4),V.int (3-c%4)])=H1 at s1 e1 ⊢;refine⟨⟨_,ba.of e1⟩,?_⟩;refine pR (xs:=[V.int (c%4),V.int (3-c%4)]) (λi σ H'=>aC H1 H'/\∃y2 y3,σ=[some (V.ref lr),some (V.ref ls),some (V.int c),some (V.ref td),some (V.str (tx sg)),some (V.ref lb),some (V.int dear),some (V.int side),some (V.int lim),some (V.int (c%4)),some (V.bl ag),some (V.str (tx nm)),some (V.int co),some (V.int re2),none,some (V.ref z1.a),none,some (V.ref z2.a),y2,y3]) ⟨aC.refl _,_,_,rfl⟩ (λi σ H' _ h=>ba.of (h.1 _ _ e1)) ?_ ?_
   ·rintro i x σ H2 hx ⟨s2,y2,y3,rfl⟩
    obtain⟨k,hk,rfl⟩:∃k:Nat,(k=1\/k=2)/\x=V.int (k:Int):=by
     have hc4:c%4=1\/c%4=2:=by omega
     have hm:=JX hx;rcases hc4 with e | e<;>rw[e]at hm<;>(rcases J8.mp hm with rfl | hm)
     ·exact⟨1,.inl rfl,rfl⟩
     ·rw[JV.mp hm];exact⟨2,.inr rfl,rfl⟩
     ·exact⟨2,.inr rfl,rfl⟩
     ·rw[JV.mp hm];exact⟨1,.inl rfl,rfl⟩
    have s02:=s1.trans s2;have hk2:(if decide ((k:Int)=1)=true then 1 else 2)=k:=by rcases hk with rfl | rfl<;>rfl
    walk_at "o";refine⟨_,ba.of (s02 _ _ za1.1),_,rfl,_,ba.of (s02 _ _ za2.1),_,rfl,z1.lp,z2.lp,z1.x.p,z2.x.p,zr,zc,zr2,zc2,decide ((k:Int)=1),side,rfl,s02 _ _ za1.2.2.1,s02 _ _ za2.2.2.1,zp,zp2,hs6,λpc hpc lq H3 hlq elq s3=>h2 _ _ ?_,λH3 s3=>h2 _ _ ?_⟩
    ·clear h2
     rw[hk2]at hpc;walk_at "wp";rw[if_pos (by simp)];have s03:=s02.trans s3;refine⟨_,ba.of (s03 _ _ za1.1),_,rfl,_,ba.of (s03 _ _ za2.1),_,rfl,ak nofun,λtw htw=>⟨ak nofun,λla hla=>⟨ak nofun,λtm htm=>?_⟩⟩⟩;have hla0:H la=none:=j6 (s03.trans (ae htw)) hla;have r0:qF p sg (k,⟨nm,co,z1.x.nm,z2.x.nm,[ch],0⟩):=gd k _ _ ch _ ⋯ zg1.nm zg2.nm hch nofun nofun;have e4:aA H3 tw (.tup [V.str (tx nm),V.int co,V.int (k:Int),V.str (tx z1.x.nm),V.str (tx z2.x.nm)]) tw=some (.tup (iA (k,⟨nm,co,z1.x.nm,z2.x.nm,[ch],0⟩))):=by rw[ac];rcases hk with rfl | rfl<;>rfl
     have s4:=ae (o:=.tup [V.str (tx nm),V.int co,V.int (k:Int),V.str (tx z1.x.nm),V.str (tx z2.x.nm)]) htw;generalize aA H3 tw (.tup [V.str (tx nm),V.int co,V.int (k:Int),V.str (tx z1.x.nm),V.str (tx z2.x.nm)])=H4 at s4 e4 hla htm ⊢;have s5:=ae (o:=.lst [V.ref z1.a,V.ref z2.a]) hla;have e5:aA H4 la (.lst [V.ref z1.a,V.ref z2.a]) la=some (.lst [V.ref z1.a,V.ref z2.a]):=ac;generalize aA H4 la (.lst [V.ref z1.a,V.ref z2.a])=H5 at s5 e5 htm ⊢;have s6:=ae (o:=.tup [V.ref lq,V.int lim]) htm;have s56:=s5.trans s6;exact fin ((s03.trans s4).trans s56) (s56 _ _ e4) r0 rfl (ys:=[z1,z2]) (s6 _ _ e5) hla0 (λy hy=>by rcases J8.mp hy with rfl | hy;exact hz1m;rw[JV.mp hy];exact hz2m) ac ((s4.trans s56) _ _ elq) (wj hk zp zp2 (hpc ⟨nm,co,z1.x.nm,z2.x.nm,[ch],0⟩)) (Nx.pair (x:=z1.x) (y:=z2.x) hk rfl rfl (hpc _))
    ·clear h2
     walk_at "wp";rw[if_neg (by simp)];exact s2.trans s3
   ·rintro σ H2 ⟨s2,y2,y3,rfl⟩
    exact q H2 ts rs zs (g.up (s1.trans s2)) (λy u _ _ e=>s2 _ _ (s1 _ _ e)) ⋯ ⋯ (λ_=>hz0)
noncomputable abbrev nN:Stmt:=iO 66
noncomputable def qz:Sp:=λvs H Q _=>∃(lc td lb:Addr) (cells:List Int) (p:bG) (sg:KO) (dear side lim:Int),vs=[.ref lc,.ref td]/\H lc=some (.lst (cells.map V.int))/\1<=cells.length/\cells.length<=14/\H td=some (.tup [.str (tx sg),.ref lb,.int dear,.int side,.int lim])/\H lb=some (.lst (aE p))/\p.length=4/\(∀r∈p,dw r=true)/\eD sg=true/\1<=dear/\dear<=9/\dear<=lim/\side<=6 /\
 ∀tp lr ls ts rs zs H',H' tp=some (.tup [.ref lr,.ref ls])->GS H' p sg lim lr ls ts rs zs->rs.length<=14->zs≠[]->zs.length<=14->aC H H'->Q (.ref tp) H'
theorem xK:az ["_law_cells_here","_law_drawn","_law_rules","_law_stock","_law_cell_here"] ["_law_cells_here","_law_drawn"] (ah nN):=by walk_at "c"
theorem wy{f:Addr}{fd:KU}(F:cw K "_law_grown" "_law_grown" nN f fd)(nb:NB mg)(zDe:eO P w K mg base bC 3 "_law_step" ["_law_rules","_law_stock","_law_cell_here","_law_drawn"] rO):aQ P w K mg base bC 4 f fd ["_law_cells_here","_law_drawn"] qz:=by
 have sc:=xK;walk_at "f"
 ·obtain⟨lc,td,lb,cells,p,sg,dear,side,lim,rfl,_⟩:=h;rfl
 ·obtain⟨lc,td,lb,cells,p,sg,dear,side,lim,rfl,hlc,hc1,hc14,htd,hlb,hp4,hpn,hsg,hd1,hd9,hdl,hs6,q⟩:=h
  have hu:=hr.units;refine⟨_,(af (aF (i:=2) sc.nd rfl (Or.inl rfl) (bB ad))
   (af (aF (i:=3) sc.nd rfl (Or.inl rfl) (bB ad))
   (af (bu PassesOwn.never rfl (cD (al 0)) (aw (i:=4) sc.nd rfl (Or.inl rfl))
   (ai (bv (aK zDe (hr.mono nofun) rfl aY (aa (al 2) (aa (al 3) (aa (al 4) (aa (al 1) ad))))))))
   (ai (aI (aL (aa (al 2) (aa (al 3) ad)))))))),?_⟩
  walk_at "n";refine⟨Kf _,λlr hlr=>h1 _ _ ?_⟩;walk_at "nc";refine⟨Kf _,λls hls=>h1 _ _ ?_⟩;walk_at "nc";have sA:=(ae (o:=.lst []) hlr).trans (ae (o:=.lst []) hls);refine⟨⟨_,aU.of (sA _ _ hlc)⟩,?_⟩;have flr:aA (aA H lr (.lst [])) ls (.lst []) lr=some (.lst []):=ae hls _ _ ac;have fls:aA (aA H lr (.lst [])) ls (.lst []) ls=some (.lst []):=ac;have hls0:H ls=none:=by
   by_cases e:ls=lr
   ·rw[e];exact hlr
   ·rwa [am e]at hls
  have hne:lr≠ls:=λe=>by rw[<- e,ac]at hls;cases hls
  generalize aA (aA H lr (.lst [])) ls (.lst [])=H1 at sA flr fls ⊢;refine dh (xs:=cells.map V.int) (λi σ H'=>aC H H'/\i<=cells.length/\(∃ts rs zs,GS H' p sg lim lr ls ts rs zs/\rs.length<=i/\zs.length<=i/\(1<=i->zs≠[]))/\∃z,σ=[some (V.ref lc),some (V.ref td),some (V.ref lr),some (V.ref ls),z])
   ⟨sA,Kf _,⟨[],[],[],⟨⟨flr,rfl,λi t r e=>by simp at e⟩,λr hr=>(nomatch hr),fls,λz hz=>(nomatch hz),λz hz=>(nomatch hz),hne⟩,Ke _,Ke _,λh=>absurd h nofun⟩,_,rfl⟩ (λi σ H' _ h=>aU.of (h.1 _ _ hlc)) ?_ ?_
  ·rintro i x σ H' hx ⟨sm,_,⟨ts,rs,zs,g,hrl,hzl,hn⟩,z,rfl⟩
   rw[JW]at hx;obtain⟨c,hc,rfl⟩:=Ki.mp hx;have hi1:i<cells.length:=(JS.mp hc).1;walk_at "wp";refine⟨lr,ls,td,lb,ts,rs,zs,p,sg,c,dear,side,lim,rfl,g,sm _ _ htd,sm _ _ hlb,hp4,hpn,hsg,hd1,hd9,hdl,hs6,⋯,⋯,λH2 ts' rs' zs' g' sB l1 l2 hne'=>?_⟩;refine⟨λy u e=>sB y u (aD e hlr) (aD e hls0) (sm y u e),hi1,ts',rs',zs',g',⋯,⋯,λ_=>hne' ?_⟩
   by_cases h0:i=0
   ·exact .inr (Kx.mp ⋯)
   ·exact .inl (hn ⋯)
  ·rintro σ H' ⟨sm,_,⟨ts,rs,zs,g,hrl,hzl,hn⟩,z,rfl⟩
   refine h1 _ _ ?_;walk_at "wp";rw[JU]at hrl hzl hn;exact⟨ak nofun,λtp htp=>q tp lr ls ts rs zs _ ac (g.up (ae htp)) ⋯ (hn hc1) ⋯ (sm.trans (ae htp))⟩
noncomputable abbrev mT:Stmt:=iO 67
noncomputable def lQ(n:Nat):Sp:=λvs H Q _=>∃(v v':V) (t:bK),vs=[v,v']/\cJ H t.d v/\cJ H t.d v'/\t.dep<=n/\∀H',aC H H'->Q (.bl true) H'
theorem qb:az ["_law_found","_law_tree"] ["_law_found","_law_tree"] (ah mT):=by walk_at "c"
theorem pJ{f:Addr}{fd:KU}(F:cw K "_law_alike" "_law_alike" mT f fd)(nb:NB mg)(zLa:eO P w K mg base bC 1 "_law_whole" ["_law_x"] lm)(hm:mg "_law_alike"=some (.ref f))(hk:W.keepIn K (.ref f)=true)(hb:b7 K fd ["_law_found","_law_tree"] []):∀n,n<=60->aQ P w K mg base bC (n+1) f fd ["_law_found","_law_tree"] (lQ n)
 |0,_=>by
  refine F.ok qb (λvs H Q E h=>?_) (λcdv A outer s H vs Q E hr h=>?_)
  ·obtain⟨v,v',t,rfl,_⟩:=h;rfl
  ·obtain⟨v,v',t,rfl,_,_,hd,_⟩:=h
   have:=t.dep1;omega
 |n+1,hn=>by
  have sc:=qb;have zqb:eO P w K mg base bC (n+1) "_law_alike" ["_law_found","_law_tree"] (lQ n):=⟨f,fd,pJ F nb zLa hm hk hb n ⋯,hm,hk,hb⟩;walk_at "f"
  ·obtain⟨v,v',t,rfl,_⟩:=h;rfl
  ·obtain⟨v,v',t,rfl,ht,ht',hd,q⟩:=h
   have hu:=hr.units;refine⟨_,(af (bF (PW.pt (i6 (gH (ja (aB dB rfl nb.isinstance eZ (aa (al 0) (aa (uc (v:=.ty "tuple") rfl nb.tuple wf rfl) ad))) λ_=>rfl)) (i6 (aM pT (aB kf rfl nb.len aW (aa (al 0) ad)) (aB kf rfl nb.len aW (aa (al 1) ad)) (aS _)) (i6 (gH (ja (aK zLa (hr.mono ⋯) rfl aY (aa (aH aJ (al 0) aj (λ_ _=>rfl)) ad)) λ_=>rfl)) (gZ (aM pT (aH aJ (al 0) aj (λ_ _=>rfl)) (aH aJ (al 1) aj (λ_ _=>rfl)) (aS _)))))))
   (ai (aI CI))
   aO)
   (ai (aI (aB (vw rfl) rfl nb.all CW (aa (cC ["_law_k"] [0,1] rfl (bw.of (by kernel_rfl)) (by kernel_rfl) (io rfl nb.range (bM (aa (aB kf rfl nb.len aW (aa (al 1) ad)) ad)))
    (λ_ _ _ _=>(aw (i:=0) (by show(["_law_k","_law_found","_law_tree"]:List Str).Nodup;decide +kernel) rfl (Or.inl rfl))) (λ_ _ _ _=>bT) (λ_ _ _ _=>(aK zqb (hr.mono ⋯) rfl aY (aa (aH (oV (K:=K) rfl) (al 1) (al 0) (λ_ _=>rfl)) (aa (aH (oV (K:=K) rfl) (al 2) (al 0) (λ_ _=>rfl)) ad))))) ad))))),?_⟩
   obtain⟨a,vs,rfl,hta,htr⟩:=bK.val ht;obtain⟨a',vs',rfl,hta',htr'⟩:=bK.val ht';have hvl:=ki htr;have hvl':=ki htr';have hps:=t.plen;walk_at "n";refine⟨_,jl.tup hta,true,wa K _,?_⟩;rw[if_neg nofun];refine⟨_,ba.of hta,_,ba.of hta',?_⟩;rw[if_neg (λh=>h (by simp;omega))];refine⟨_,ba.of hta,_,nR _ _,t.i,rfl,_,rfl,?_⟩;rw[if_neg nofun];refine⟨_,ba.of hta,_,nR _ _,_,ba.of hta',_,nR _ _,rfl,?_⟩;rw[if_neg (λh=>h rfl)];refine h1 _ _ ?_;clear h1;walk_at "wp";refine⟨_,ba.of hta',⋯,⋯,by simp;omega,?_⟩;rw[show((((V.int t.i::vs').length:Nat):Int)-1).toNat=vs.length by simp;omega];refine eW (lo:=1) (n:=vs.length) (λi acc σ H'=>aC H H'/\acc=List.replicate i (V.bl true)/\i<=vs.length/\∃x,σ=[x,some (V.ref a),some (V.ref a')]) ⟨aC.refl _,rfl,Kf _,_,rfl⟩ ?_ ?_ ?_ ?_
   ·rintro i acc σ H' ⟨_,rfl,hi,_⟩
    rw[List.length_replicate];exact bd ⋯
   ·rintro i acc σ H' ⟨_,_,h,_⟩
    exact h
   ·rintro i acc σ H' hi ⟨sm,rfl,_,y,rfl⟩
    have e1:vs[i]?=some (vs[i]'hi):=JR hi;have e2:vs'[i]?=some (vs'[i]'⋯):=JR ⋯;obtain⟨t1,h1',h1''⟩:=ka htr e1;obtain⟨t2,h2',h2''⟩:=ka htr' e2;rw[h1']at h2';cases h2';have hlt:=(bK.lt (JX h1')).1;have ei:∀{x z:V} {ys:List V},ys[i]?=some z->h_ (x::ys) (1+(i:Int))=some z:=fun{x z ys} h=>by
     rw[show(1+(i:Int))=((i+1:Nat):Int) by omega];exact bt h
    walk_at "wp";refine⟨_,ba.of (sm _ _ hta),_,ei e1,_,ba.of (sm _ _ hta'),_,ei e2,_,_,t1,rfl,h1''.up (gu.of sm) _,h2''.up (gu.of sm) _,⋯,λH2 s2=>⟨sm.trans s2,?_,hi⟩⟩;exact(List.replicate_succ' (n:=i) (a:=V.bl true)).symm
   ·rintro acc σ H' ⟨sm,rfl,_⟩ l hl
    refine⟨List.replicate vs.length true,by rw[List.map_replicate];exact aU.of ac,?_⟩;have ea:(List.replicate vs.length true).all id=true:=by simp
    rw[ea];exact q _ (sm.trans (ae hl))
theorem Bo{α:Type}{xs:List α}{j:Nat}{v:α}(h:j<xs.length)(e:xs[xs.length-1-j]?=some v):h_ xs (-1-(j:Int))=some v:=by
 unfold h_ E2;rw[if_neg ⋯,if_pos ⋯,Option.bind_some,show(-1-(j:Int)+(xs.length:Int)).toNat=xs.length-1-j by omega];exact e
theorem gS{o1 o2:KO}{left:Int}{r c:Nat}(h6:left<=6):∀(szs:List ((Nat×Nat)×(Nat×Nat))),(∀z∈szs,AM r c z)->(bA o1 o2 szs left).length<=szs.length*5
 | [],_=>Ke _
 |z::szs,h=>by
  have ih:=gS (o1:=o1) (o2:=o2) h6 szs λz' hz'=>h z' (J9 _ hz');have f1:=cg (h z List.mem_cons_self).a (h z List.mem_cons_self).b;have f2:=cg (h z List.mem_cons_self).d (h z List.mem_cons_self).e;unfold bA at ih ⊢;rw[List.flatMap_cons,Kd,J4,JU];unfold mU at ih ⊢;rw[JU,List.length_range];omega
theorem vG{q:Nat×RV}{r c:Nat}{k:Int}(h4:q.1<4)(hq:1<=q.2.c)(hr:1<=r)(hc:1<=c)(hr6:r<=6)(hc6:c<=6)(hk:k<=7):(cK q r c k).length<=25:=by
 obtain⟨t,v⟩:=q;have:t=0\/t=1\/t=2\/t=3:=by simp at h4;omega
 simp only at hq;rcases this with rfl | rfl | rfl | rfl
 ·show(if r=1/\c=1/\k=v.c then[[]] else[]).length<=25
  split<;>simp
 ·refine Km (gS (by show k-v.c<=6;omega) _ λz hz=>j7 hr hz) ?_
  rw[iC];omega
 ·refine Km (gS (by show k-v.c<=6;omega) _ λz hz=>kh hc hz) ?_
  rw[iE];omega
 ·show([[_]]:List (List TR)).length<=25
  simp
theorem EK{rs:Yaa}(gc:eM rs)(h14:rs.length<=14){p:TR}(hr:p.2.1<=6)(hc:p.2.2.1<=6)(hk:p.2.2.2<=7):CN rs p<2 ^ 64:=by
 have:=uR (B:=9) (L:=25) (kx:=7) gc (λq hq r c k r1 r6 c1 c6 hk=>vG (gc q hq).1 (gc q hq).2.1 r1 c1 r6 c6 hk) (Km (Nat.mul_le_mul_right 25 h14) nofun) 17 p hr hc hk;exact Kw (Km this (Nat.pow_le_pow_right nofun (by omega:9*p.2.2.2.toNat<=63))) nofun
noncomputable abbrev se:Stmt:=iO 68
noncomputable def tZ(K:W.Frag):Sp:=λvs H Q _=>∃(a:Addr) (ns:List Int),vs=[.ref a]/\aU K H a (ns.map V.int)/\∀H',Q (.bl true) H'
theorem Fr:az ["_law_script","_law_dear","_law_side","_law_limit","_law_drawn","_law_rules","_law_stock","_law_tree","_law_name","_law_picture","_law_cost","_law_grammar_here","_law_again","_law_rows","_law_columns","_law_many","_law_one","_law_other","_law_k"] ["_law_script"] (ah se):=by walk_at "c"
theorem EL{R:RC}{f CG yaa yac:Addr}{fd:KU}(F:cw K "law" "law" se f fd)(nb:NB mg)(zDa:eO P w K mg base bC 1 "_law_cell" ["_law_script","_law_k"] (nq K))(zRd:eO P w K mg base bC 2 "_law_cells" ["_law_script","_law_begin","_law_most"] (qg K))(zLa:eO P w K mg base bC 1 "_law_whole" ["_law_x"] lm)(zSd:eO P w K mg base bC 1 "_law_signs" ["_law_cell_here","_law_most"] pC)(zTd:eO P w K mg base bC 1 "_law_names" ["_law_cell_here"] qp)
  (zUd:eO P w K mg base bC 4 "_law_grown" ["_law_cells_here","_law_drawn"] qz) (zpb:eO P w K mg base bC 7 "_law_grammar" ["_law_signs_here","_law_start","_law_rules"] (mq R CG)) (zqb:eO P w K mg base bC 61 "_law_alike" ["_law_found","_law_tree"] (lQ 60)) (yaU:eO P w K mg base (bE P w) 73 "count_trees" ["grammar","name","rows","columns","cost"] (jp R CG yaa)) (ya8:eO P w K mg base (bE P w) 108 "tree_at" ["grammar","name","rows","columns","cost","k"] (pK R CG yaa yac)) (ybb:eO P w K mg base (bE P w) 90 "number_of" ["grammar","tree"] (mr R CG)):aQ P w K mg base bC 109 f fd ["_law_script"] (tZ K):=by
 have sc:=Fr;walk_at "f"
 ·obtain⟨a,ns,rfl,_⟩:=h;rfl
 ·obtain⟨a,ns,rfl,ha,q⟩:=h
  have hu:=hr.units;refine⟨_,(WB.out (DC (DQ (Fu (EN (w9 (um (um (um ud)))) (EN (w9 (um (um (um ud)))) (EN (w9 (um (um (um ud)))) ud)))) (ay (bf.m1 bH) (ay (bf.m1 bZ) (aK zDa (hr.mono nofun) rfl aY (aa (al 0) (bM ad))) aj) aj) (λ_ _=>rfl) (dE (n:=3) rfl (aG (aw (i:=1) sc.nd rfl (Or.inl rfl)) (aG (aw (i:=2) sc.nd rfl (Or.inl rfl)) (aG (aw (i:=3) sc.nd rfl (Or.inl rfl)) cq)))))
   (af (aF (i:=4) sc.nd rfl (Or.inl rfl) (aL (aa (aK zSd (hr.mono nofun) rfl aY (aa (aK zDa (hr.mono nofun) rfl aY (aa (al 0) (bM ad))) (bM ad))) (aa (aK zTd (hr.mono nofun) rfl aY (aa (aK zDa (hr.mono nofun) rfl aY (aa (al 0) (bM ad))) ad)) (aa (al 1) (aa (al 2) (aa (al 3) ad)))))))
   (af (tP (aK zUd (hr.mono nofun) rfl aY (aa (aK zRd (hr.mono nofun) rfl aY (aa (al 0) (bM (bM ad)))) (aa (al 4) ad))) (dE (n:=2) rfl (aG (aw (i:=5) sc.nd rfl (Or.inl rfl)) (aG (aw (i:=6) sc.nd rfl (Or.inl rfl)) cq))))
   (af (tP (aH aZ (al 6) (ay (bf.m0 d_) (FO FA aj) (ay (bf.m1 bZ) (ay (bf.m1 bH) (aK zDa (hr.mono nofun) rfl aY (aa (al 0) (bM ad))) (aB bb rfl nb.len aW (aa (al 6) ad))) aj)) (λ_ _=>rfl)) (dE (n:=4) rfl (aG (aw (i:=7) sc.nd rfl (Or.inl rfl)) (aG (aw (i:=8) sc.nd rfl (Or.inl rfl)) (aG (aw (i:=9) sc.nd rfl (Or.inl rfl)) (aG (aw (i:=10) sc.nd rfl (Or.inl rfl)) cq))))))
   (af (aF (i:=11) sc.nd rfl (Or.inl rfl) (aK zpb (hr.mono nofun) rfl aY (aa (aH aJ (al 4) aj (λ_ _=>rfl)) (aa (aH aZ (aH aJ (al 4) aj (λ_ _=>rfl)) aj (λ_ _=>rfl)) (aa (al 5) ad)))))
   (af (aF (i:=12) sc.nd rfl (Or.inl rfl) (aK zpb (hr.mono nofun) rfl aY (aa (aH aJ (al 4) aj (λ_ _=>rfl)) (aa (aH aZ (aH aJ (al 4) aj (λ_ _=>rfl)) aj (λ_ _=>rfl)) (aa (al 5) ad)))))
   (af (aF (i:=13) sc.nd rfl (Or.inl rfl) (aB bb rfl nb.len aW (aa (al 9) ad)))
   (af (aF (i:=14) sc.nd rfl (Or.inl rfl) (aB aV rfl nb.len aW (aa (aH aZ (al 9) aj (λ_ _=>rfl)) ad)))
   (af (aF (i:=15) sc.nd rfl (Or.inl rfl) (aK (CX:=bE P w) yaU (hr.mono nofun) rfl bg (aa (al 11) (aa (al 8) (aa (al 13) (aa (al 14) (aa (al 10) ad)))))))
   (af (bu PassesOwn.never rfl (sM (aL (aa (aL (aa (al 11) (aa (al 12) ad))) (aa (aL (aa (al 12) (aa (al 11) ad))) ad)))) (dE (n:=2) rfl (aG (aw (i:=16) sc.nd rfl (Or.inl rfl)) (aG (aw (i:=17) sc.nd rfl (Or.inl rfl)) cq)))
   (af (aF (i:=18) sc.nd rfl (Or.inl rfl) (aK (CX:=bE P w) ybb (hr.mono nofun) rfl bg (aa (al 16) (aa (al 7) ad))))
   (af (bF (PW.pt (i6 (gH (ja (aK zLa (hr.mono nofun) rfl aY (aa (al 18) ad)) λ_=>rfl)) (gZ (gH (vg (bf.m0 lW) (bf.m0 pX) aj (al 18) (al 15))))))
   (ai (aI CI))
   aO)
   (ai (bF (gH (ja (aK zqb (hr.mono nofun) rfl aY (aa (aK (CX:=bE P w) ya8 (hr.mono nofun) rfl bg (aa (al 17) (aa (al 8) (aa (al 13) (aa (al 14) (aa (al 10) (aa (al 18) ad))))))) (aa (al 7) ad))) λ_=>rfl))
   (ai (aI CI))
   aO)))))
   (ai (aI (lZ ij (aK (CX:=bE P w) yaU (hr.mono nofun) rfl bg (aa (al 12) (aa (al 8) (aa (al 13) (aa (al 14) (aa (al 10) ad)))))) (al 15) (aS _))))))))))))))),?_⟩
  walk_at "n";refine⟨ak nofun,λp0 hp0=>⟨ak nofun,λp1 hp1=>⟨ak nofun,λp2 hp2=>⟨ak nofun,λp3 hp3=>?_⟩⟩⟩⟩;have s1:=ae (o:=.tup [V.int 2,V.int 3,V.int 10]) hp0;have e1:aA H p0 (.tup [V.int 2,V.int 3,V.int 10]) p0=some (.tup [V.int 2,V.int 3,V.int 10]):=ac;generalize aA H p0 (.tup [V.int 2,V.int 3,V.int 10])=H1 at s1 e1 hp1 hp2 hp3 ⊢;have s2:=ae (o:=.tup [V.int 9,V.int 3,V.int 16]) hp1;have e2:aA H1 p1 (.tup [V.int 9,V.int 3,V.int 16]) p1=some (.tup [V.int 9,V.int 3,V.int 16]):=ac;generalize aA H1 p1 (.tup [V.int 9,V.int 3,V.int 16])=H2 at s2 e2 hp2 hp3 ⊢;have s3:=ae (o:=.tup [V.int 1,V.int 6,V.int 11]) hp2;have e3:aA H2 p2 (.tup [V.int 1,V.int 6,V.int 11]) p2=some (.tup [V.int 1,V.int 6,V.int 11]):=ac;generalize aA H2 p2 (.tup [V.int 1,V.int 6,V.int 11])=H3 at s3 e3 hp3 ⊢;have s4:=ae (o:=.lst [V.ref p0,V.ref p1,V.ref p2]) hp3;have e4:aA H3 p3 (.lst [V.ref p0,V.ref p1,V.ref p2]) p3=some (.lst [V.ref p0,V.ref p1,V.ref p2]):=ac;generalize aA H3 p3 (.lst [V.ref p0,V.ref p1,V.ref p2])=H4 at s4 e4 ⊢;have s04:=((s1.trans s2).trans s3).trans s4;refine⟨a,ns,2,rfl,s04.seq ha,⋯,λc2=>⟨_,rfl,_,aU.of e4,?_⟩⟩;obtain⟨pt,de,si,li,hat,hpt,d1,d9,dl,si6,li16⟩:∃(pt:Addr) (de si li:Int),h_ [V.ref p0,V.ref p1,V.ref p2] (c2/1024%3)=some (V.ref pt)/\H4 pt=some (.tup [V.int de,V.int si,V.int li])/\1<=de/\de<=9/\de<=li/\si<=6/\li<=16:=by
   have:c2/1024%3=0\/c2/1024%3=1\/c2/1024%3=2:=by omega
   rcases this with e | e | e<;>rw[e]
   ·exact⟨p0,2,3,10,rfl,s4 _ _ (s3 _ _ (s2 _ _ e1)),nofun,nofun,nofun,nofun,nofun⟩
   ·exact⟨p1,9,3,16,rfl,s4 _ _ (s3 _ _ e2),nofun,nofun,nofun,nofun,nofun⟩
   ·exact⟨p2,1,6,11,rfl,s4 _ _ e3,nofun,nofun,nofun,nofun,nofun⟩
  refine⟨_,hat,_,rfl,_,ba.of hpt,rfl,_,_,rfl,_,_,rfl,_,_,rfl,rfl,h1 _ _ ?_⟩;clear h1 e1 e2 e3 e4 s1 s2 s3 s4 hpt hat hp0 hp1 hp2 hp3 H1 H2 H3 p0 p1 p2 p3 pt;walk_at "n";refine⟨a,ns,0,rfl,s04.seq ha,⋯,λc0=>⟨c0,rfl,λsg H5 hsg s5=>⟨a,ns,1,rfl,(s04.trans s5).seq ha,⋯,λc1=>⟨c1,rfl,λlb p H6 hb0 hb hp4 hpn s6=>⟨ak nofun,λtd htd=>h1 _ _ ?_⟩⟩⟩⟩⟩;clear h1;have s7:=ae (o:=.tup [V.str (tx sg),V.ref lb,V.int de,V.int si,V.int li]) htd;have etd:aA H6 td (.tup [V.str (tx sg),V.ref lb,V.int de,V.int si,V.int li]) td=some (.tup [V.str (tx sg),V.ref lb,V.int de,V.int si,V.int li]):=ac;have hb7:=s7 _ _ hb;have s07:=((s04.trans s5).trans s6).trans s7;generalize aA H6 td (.tup [V.str (tx sg),V.ref lb,V.int de,V.int si,V.int li])=H7 at s07 etd hb7 ⊢;clear s7 s6 s5 s04 hb hb0 htd;walk_at "n";refine⟨a,ns,3,14,rfl,s07.seq ha,⋯,⋯,⋯,λlc cs H8 hlc0 hlc cs1 cs14 s8=>⟨lc,td,lb,cs,p,sg,de,si,li,rfl,hlc,cs1,cs14,s8 _ _ etd,s8 _ _ hb7,hp4,hpn,hsg,d1,d9,dl,si6,λtp lr ls ts rs zs H9 htp g h14 hz0 hz14 s9=>⟨tp,rfl,_,ba.of htp,rfl,_,_,rfl,_,_,rfl,rfl,h1 _ _ ?_⟩⟩⟩;clear h1;have s09:=(s07.trans s8).trans s9;have etd9:=s9 _ _ (s8 _ _ etd);have hb9:=s9 _ _ (s8 _ _ hb7);clear s9 s8 s07 htp hlc0 hlc etd hb7;walk_at "n";have hzl:0<zs.length:=Nat.pos_of_ne_zero λe=>hz0 (Kx.mp e);refine⟨a,ns,2,rfl,s09.seq ha,⋯,λc4=>⟨_,aU.of g.st,_,rfl,by rw[JU];omega,_,aU.of g.st,?_⟩⟩;obtain⟨z,hzm,hzat⟩:∃z∈zs,h_ (zs.map λz=>V.ref z.a) (-1-c4%((zs.map λz=>V.ref z.a).length:Nat)/2)=some (V.ref z.a):=by
   rw[JU];have h0:0<=c4%(zs.length:Int):=KD _ ⋯;have h1:c4%(zs.length:Int)<zs.length:=KF _ ⋯;obtain⟨j,hj⟩:∃j:Nat,c4%(zs.length:Int)/2=(j:Int):=⟨(c4%(zs.length:Int)/2).toNat,⋯⟩;have hj2:j<zs.length:=by omega
   refine⟨zs[zs.length-1-j]'⋯,J1 _,?_⟩;rw[hj];exact Bo (by rw[JU];exact hj2) (by rw[JU,JW,JR ⋯];rfl)
  have za:=g.at_ z hzm;have zg:=g.good z hzm;obtain⟨rr,cc,zsd⟩:=zg.sd;have yar:∀r∈rs,fG r:=λr hr=>(g.ro r hr).good;have zp:fA z.x.p rr cc:=zsd.pic yar;have rr6:rr<=6:=zp.r6;have cc6:cc<=6:=zp.c6;have zlow:=(zsd.low yar).2;have zlow:((z.x.t.cnt:Nat):Int)<=z.x.c:=zlow;have zcnt:=z.x.t.cnt1;have zdep:=z.x.t.dep_cnt;have zc16:z.x.c<=16:=by have:=zg.le;omega
  refine⟨_,hzat,_,rfl,_,ba.of za.1,rfl,_,_,rfl,_,_,rfl,_,_,rfl,_,_,rfl,rfl,h1 _ _ ?_⟩;clear h1 hzat;have ybw:=g.rows;have hro:=g.ro;have gc:=wV yar;have hpl:1<p.length:=by omega
  have hp0:p[0]?=some (p[0]'⋯):=JR ⋯;have hp1:p[1]?=some (p[1]'hpl):=JR hpl;have hst0:p[0]'⋯∈p:=J1 _;have hst1:p[1]'hpl∈p:=J1 hpl;generalize p[0]'⋯=FU at hp0 hst0;generalize p[1]'hpl=st1 at hp1 hst1;have at0:h_ (aE p) 0=some (V.str (tx FU)):=(show h_ _ ((0:Nat):Int)=_ from bt (by unfold aE;rw[JW,hp0];rfl));have at1:h_ (aE p) 1=some (V.str (tx st1)):=(show h_ _ ((1:Nat):Int)=_ from bt (by unfold aE;rw[JW,hp1];rfl));have hsl:=lI hsg;have hn0:=hV (hpn _ hst0);have hn1:=hV (hpn _ hst1);have mk:∀{st},st∈p->gM sg st rs=none:=λhst=>zF hsg hst hpn ⋯ ⋯ hro;have krs:∀{st:KO},tx z.x.nm∈(a_ (tx st) rs).map (·.1):=fun{st}=>by
   obtain⟨nn,q0,ps,_,hq0,hqn,_⟩:=zsd.node yar;have hqn:q0.2.n=z.x.nm:=hqn;rw[<- hqn];exact(pr _ _ _).mpr (.inr ⟨(tx q0.2.n,(bi q0.1 q0.2).map tx),by unfold Fz;exact List.mem_map_of_mem (f:=λr:Nat×RV=>(tx r.2.n,(bi r.1 r.2).map tx)) (JX hq0),.inl rfl⟩)
  have cok:∀{st},st∈p->vJ st rs 6:=fun{st} hst=>⟨gc,λq hq=>(yar q hq).good.t0,λp a b c=>EK gc h14 a b c,nofun,⋯,by
   have:=mk hst;unfold gM at this
   split at this
   ·cases this
   ·split at this
    ·cases this
    ·omega⟩
  have dom:∀{st:KO},qW st rs 6 (z.x.nm,rr,cc,z.x.c):=fun{st}=>⟨krs,zp.r0,zp.r6,zp.c0,zp.c6,by show -8<=z.x.c;omega,zc16⟩;walk_at "n";refine⟨_,ba.of etd9,_,rfl,_,ba.of etd9,_,rfl,_,rfl,_,aU.of hb9,_,at0,lr,sg,FU,ts,rs,rfl,ybw,yar,⋯,⋯,⋯,mk hst0,λg0 d0 a0 H10 G0 s10=>h1 _ _ ?_⟩;walk_at "nc";refine⟨_,ba.of (s10 _ _ etd9),_,rfl,_,ba.of (s10 _ _ etd9),_,rfl,_,rfl,_,aU.of (s10 _ _ hb9),_,at1,lr,sg,st1,ts,rs,rfl,ybw.up s10,yar,⋯,⋯,⋯,mk hst1,λg1 d1' a1 H11 G1 s11=>h1 _ _ ?_⟩;clear h1;have s911:=s10.trans s11;have G0:=G0.up s11;have za11:=za.up s911;clear s10 etd9 hb9 at0 at1;walk_at "n";obtain⟨hl0,hc0⟩:=fo zp.rc zp.r0;refine⟨_,aU.of za11.2.2.1,h1 _ _ ?_⟩;clear h1;rw[av,zp.rc.1];walk_at "n";refine⟨_,aU.of za11.2.2.1,_,(show h_ _ ((0:Nat):Int)=_ from bt (bc hl0)),_,rfl,by rw[ax];exact ak ⋯,h1 _ _ ?_⟩;clear h1;rw[ax,hc0];walk_at "n";refine⟨g0,d0,sg,FU,a0,rs,6,(z.x.nm,rr,cc,z.x.c),rfl,G0,cok hst0,.inl ⟨dom,λH12 s12=>h1 _ _ ?_⟩⟩;clear h1;have G0:=G0.up s12;have G1:=G1.up s12;have za12:=za11.up s12;obtain⟨zt,zv,zl,zn⟩:=za12;walk_at "n";refine⟨ak nofun,λt0 ht0=>⟨ak nofun,λt1 ht1=>⟨ak nofun,λtt htt=>?_⟩⟩⟩;have s13:=ae (o:=.tup [V.ref g0,V.ref g1]) ht0;have e13:aA H12 t0 (.tup [V.ref g0,V.ref g1]) t0=some (.tup [V.ref g0,V.ref g1]):=ac;generalize aA H12 t0 (.tup [V.ref g0,V.ref g1])=H13 at s13 e13 ht1 htt ⊢;have s14:=ae (o:=.tup [V.ref g1,V.ref g0]) ht1;have e14:aA H13 t1 (.tup [V.ref g1,V.ref g0]) t1=some (.tup [V.ref g1,V.ref g0]):=ac;generalize aA H13 t1 (.tup [V.ref g1,V.ref g0])=H14 at s14 e14 htt ⊢;have s15:=ae (o:=.tup [V.ref t0,V.ref t1]) htt;have e15:aA H14 tt (.tup [V.ref t0,V.ref t1]) tt=some (.tup [V.ref t0,V.ref t1]):=ac;generalize aA H14 tt (.tup [V.ref t0,V.ref t1])=H15 at s15 e15 ⊢;have f14:=s15 _ _ e14;have f13:=s15 _ _ (s14 _ _ e13);have s35:=(s13.trans s14).trans s15;have G0:=G0.up s35;have G1:=G1.up s35;have zv15:=zv.up (gu.of s35) _;clear s13 e13 s14 e14 s15 ht0 ht1 htt H13 H14 s12 zv;refine⟨⟨_,ba.of e15⟩,?_⟩;refine pR (xs:=[V.ref t0,V.ref t1]) (λi σ H'=>aC H15 H'/\∃y1 y2 y3,σ=[some (V.ref a),some (V.int de),some (V.int si),some (V.int li),some (V.ref td),some (V.ref lr),some (V.ref ls),some z.v,some (V.str (tx z.x.nm)),some (V.ref z.lp),some (V.int z.x.c),some (V.ref g0),some (V.ref g1),some (V.int (rr:Int)),some (V.int (cc:Int)),some (V.int (CN rs (z.x.nm,rr,cc,z.x.c):Nat)),y1,y2,y3]) ⟨aC.refl _,_,_,_,rfl⟩ (λi σ H' _ h=>ba.of (h.1 _ _ e15)) ?_ ?_
  ·rintro i x σ H16 hx ⟨s16,y1,y2,y3,rfl⟩
   obtain⟨tx_,go,gq,dgo,dgq,sto,stq,ao,aq,rfl,ht,hso,hsq,Go,Gq⟩:∃(tx_ go gq dgo dgq:Addr) (sto stq:KO) (ao aq:KR),x=V.ref tx_/\H16 tx_=some (.tup [V.ref go,V.ref gq])/\sto∈p/\stq∈p/\dA R H16 CG dgo go sg sto ao rs/\dA R H16 CG dgq gq sg stq aq rs:=by
    match i,hx with
    |0,hx=>cases hx;exact⟨_,_,_,_,_,_,_,_,_,rfl,s16 _ _ f13,hst0,hst1,G0.up s16,G1.up s16⟩
    |1,hx=>cases hx;exact⟨_,_,_,_,_,_,_,_,_,rfl,s16 _ _ f14,hst1,hst0,G1.up s16,G0.up s16⟩
    |i+2,hx=>simp at hx
   walk_at "wp";refine⟨_,ba.of ht,rfl,_,_,rfl,_,_,rfl,rfl,?_⟩;refine⟨go,dgo,sg,sto,ao,rs,6,z.v,z.x.t,(z.x.nm,rr,cc,z.x.c),z.x.p,rfl,Go,cok hso,yar,zv15.up (gu.of s16) _,zsd,dom,λk H17 hk s17=>⟨_,rfl,_,rfl,?_⟩⟩;have hlt:=(JS.mp hk).1;rw[cH gc ((dom (st:=sto)).row nofun)]at hlt;rw[if_neg nofun];refine⟨_,rfl,?_⟩;rw[if_pos ⋯];refine⟨_,rfl,?_⟩;rw[if_neg (λh=>h ⋯)];have s67:=s16.trans s17;refine⟨gq,dgq,sg,stq,aq,rs,6,(z.x.nm,rr,cc,z.x.c),(k:Int),rfl,Gq.up s17,cok hsq,.inl ⟨dom,λj t hj ht v H18 s18 hv=>?_,λh=>absurd h ⋯⟩⟩;have hj:k=j:=by omega
   subst hj;rw[hk]at ht;cases ht;refine⟨v,z.v,z.x.t,rfl,hv,zv15.up (gu.of (s67.trans s18)) _,⋯,λH19 s19=>⟨_,rfl,?_⟩⟩;rw[if_neg nofun];exact(s67.trans s18).trans s19
  ·rintro σ H16 ⟨s16,y1,y2,y3,rfl⟩
   refine h1 _ _ ?_;walk_at "wp";refine⟨g1,d1',sg,st1,a1,rs,6,(z.x.nm,rr,cc,z.x.c),rfl,G1.up s16,cok hst1,.inl ⟨dom,λH17 s17=>⟨rfl,?_⟩⟩⟩;rw[decide_eq_true rfl];exact q H17
end
theorem bd1{P:List Value->Prop}(h:∀a,P [a]):∀us:List Value,us.length=1->P us:=λus e=>match us,e with|[_],_=>h _
theorem bd2{P:List Value->Prop}(h:∀a b,P [a,b]):∀us:List Value,us.length=2->P us:=λus e=>match us,e with|[_,_],_=>h _ _
theorem bd3{P:List Value->Prop}(h:∀a b c,P [a,b,c]):∀us:List Value,us.length=3->P us:=λus e=>match us,e with|[_,_,_],_=>h _ _ _
theorem bd4{P:List Value->Prop}(h:∀a b c d,P [a,b,c,d]):∀us:List Value,us.length=4->P us:=λus e=>match us,e with|[_,_,_,_],_=>h _ _ _ _
theorem bd5{P:List Value->Prop}(h:∀a b c d e,P [a,b,c,d,e]):∀us:List Value,us.length=5->P us:=λus e=>match us,e with|[_,_,_,_,_],_=>h _ _ _ _ _
theorem bd6{P:List Value->Prop}(h:∀a b c d e f,P [a,b,c,d,e,f]):∀us:List Value,us.length=6->P us:=λus e=>match us,e with|[_,_,_,_,_,_],_=>h _ _ _ _ _ _
noncomputable def FK(K:W.Frag)(x:Str)(st:Stmt)(f:Addr):Prop:=W.nsIn K mainGlobals x=some (some (.ref f))/\∃oc od osl kV doc pm an cdv ct,K.lookup f=some ⟨oc,od,.func (W.fnOf x x (aR st) (aP st) (ah st) .none kV doc pm an cdv ct),osl⟩/\W.codeIn K cdv x=true/\W.keepIn K (.ref f)=true
theorem fk_mk{K:W.Frag}{x:Str}{st:Stmt}{f:Addr}{oc:Value}{od an:K1}{osl:Array (Option Value)}{kV doc pm cdv ct:Value}(a:W.nsIn K mainGlobals x=some (some (.ref f)))(l:K.lookup f=some ⟨oc,od,.func (W.fnOf x x (aR st) (aP st) (ah st) .none kV doc pm an cdv ct),osl⟩)(c:W.codeIn K cdv x=true)(k:W.keepIn K (.ref f)=true):FK K x st f:=⟨a,oc,od,osl,kV,doc,pm,an,cdv,ct,l,c,k⟩
theorem FK.cal{K:W.Frag}{x:Str}{st:Stmt}{f:Addr}{h base:Heap}{mg:KS}{P:KW}{w:K0}{CX:k7}{k:Nat}{ps:KY}{sp:Sp}(q:FK K x st f)(X:K.In h)(G:h.Ns mainGlobals mg)
  (ok:∀fd,cw K x x st f fd->mg x=some (.ref f)->W.keepIn K (.ref f)=true->b7 K fd ps []->aQ P w K mg base CX k f fd ps sp)
  (hb:∀(kV doc pm:Value) (an:K1) (cdv ct:Value) (us:KQ),us.length=ps.length->bindArgs (W.fnOf x x (aR st) (aP st) (ah st) .none kV doc pm an cdv ct) ⟨us,[]⟩=pure (ps.zip us)):eO P w K mg base CX k x ps sp:=by
 obtain⟨a,oc,od,osl,kV,doc,pm,an,cdv,ct,l,c,kk⟩:=q;have F:=bx l c kk;have b:=F.binds hb;exact⟨_,_,ok _ F (W.mg_of X G a) kk b,W.mg_of X G a,kk,b⟩
theorem all_mk{l:W.OpenLaw}{w:K0}{K:W.Frag}{h:Heap}{mg:KS}{fa f1 f2 f3 f4 f5 f6 f7 f8 f9 f10 f11 f12 f13 f14 f15 f16 f17 f18 f19 f20 f21 f22 f23 f24 f25 f26 f27 f28 f29 f30 f31 f32 f33 f34 f35 f36 f37 f38:Addr}(X:K.In h)(G:h.Ns mainGlobals mg)(Iw:mg "law"=some (.ref fa))
  (a1:FK K "only_of" ni f1) (a2:FK K "is_name" mQ f2) (a3:FK K "are_signs" jk f3) (a4:FK K "check_made_of" fu f4) (a5:FK K "numbers_by_name" d8 f5) (a6:FK K "beside" qm f6) (a7:FK K "above" uC f7) (a8:FK K "mirror" pZ f8) (a9:FK K "column_from_below" dy f9) (IY:FK K "quarter" mR f10) (IQ:FK K "turned" qH f11) (JF:FK K "check_form" iL f12) (IG:FK K "lay" BI f13) (JN:FK K "laid" wU f14) (HG:FK K "numbers_in" iV f15) (HK:FK K "cost_of" nj f16) (IS:FK K "size_of" mJ f17) (Hx:FK K "fewest" o9 f18) (Ji:FK K "paired_rows" gX f19) (Jv:FK K "row_of" pk f20) (ID:FK K "count_trees" gR f21) (JE:FK K "tree_at" mV f22) (IM:FK K "number_of" jy f23) (I0:FK K "_law_cell" qJ f24) (Ir:FK K "_law_cells" nB f25) (Hr:FK K "_law_whole" nk f26) (IX:FK K "_law_signs" mS f27) (Jy:FK K "_law_names" mM f28) (Is:FK K "_law_rule" o6 f29) (IJ:FK K "_law_grammar" jz f30) (JL:FK K "_law_turned" lP f31) (JA:FK K "_law_joined" lG f32) (HJ:FK K "_law_noted" nM f33) (Iv:FK K "_law_put" sN f34) (I9:FK K "_law_step" qN f35) (H_:FK K "_law_grown" nN f36) (IU:FK K "_law_alike" mT f37) (IR:FK K "law" se f38)
  {zfa zia yaa yac zda zPa yae yaM yak zza zea zsa zaa zla zba zoa zca zta zja zAa zpa zwa zka zya zma zBa zqa zga zva zFa zGa zra yab yaI yaK yaQ yaE yaJ yaL yaP yaN:Addr} {ydc ydr ydd ycy ybU ydJ ydk:Tok} {ydG ycB ycI yds yce yde ycH ycf ycp yb0 zSe zTe zvd zwd zcc zdc zJc zKc zxd zyd zbg zcg zUe zVe zLc zMc zke zle zQb zRb zEe zFe zec zfc zWe zXe zNc zOc zVd zWd zFf zGf zHf zIf zPc zQc ydl yc9 ych yb8 ycA ybR yb5 ycP ybZ yck ydp ydx ybP yb3 ycu yca:K1} {zbh zdh ydy ycl zEa yas:ClassData} {zch zeh ycm ydI zsg ydf ydK yda zYe zzd zgc zRc zAd zdg zZe zSc zme zSb zGe zhc zaf zTc zXd zJf zKf zUc ybT yc5 yc7 yc4 ybW yc1 ycD ycs:Array (Option Value)} {ycJ ycz ydt ycS ybI ycC ydE ydu ycX yb7 ybJ ycd zbf zcf zdf zef zFb zff zBd zCd zDd zEd zkb zFd zic zjc zkc zlc zTa zmc zVc zWc zXc zYc zYa zZc zGd zHd zId zJd zlb zKd zeg zfg zgg zhg zYd zig zgf zhf zif zjf zGb zkf zad zbd zcd zdd zZa zed zne zoe zpe zqe zub zre zTb zUb zVb zWb zQa zXb zHe zIe zJe zKe zAb zLe znc zoc zpc zqc zUa zrc zlf zmf znf zof zHb zpf zfd zgd zhd zid zab zjd zZd zae zbe zce zrb zde zLf zMf zNf zOf zsc zPf zQf zRf zSf zTf ztc zUf zkd zld zmd znd zbb zod ydo ycE ybQ ydh ybE ydB ydw yb9 ydF ycV ybu yct yb2 ydn ycO yc8 ybo ydC yco yc3 ycF ydA ybO ycG ydH ycx yci ycY ybC ycc ydi yb6 yb4 ycZ yby ydz ycv ydm yc0 ycq ybM ycT ycM ybS ycK ybY ybm ycL:Value}  (DW:W.nsIn K mainGlobals "NoRule"=some (some (.ref zfa))) (Co:K.lookup zfa=some ⟨.type "type",ydG,.cls zbh,zch⟩) (vy:W.excIn K zfa [.type "ValueError",.type "Exception",.type "BaseException",.type "object"] "ValueError.__new__"=true) (zh:W.findIn K (.ref zfa) "__getattribute__"=some (some (.builtin "BaseException.__getattribute__"))) (AG:W.findIn K (.ref zfa) "__getattr__"=some none) (An:W.mroIn K zfa (.type "BaseException")=some true) (Az:W.mroIn K zfa (.type "object")=some true) (Ai:W.findIn K (.ref zfa) "__class__"=some (some (.builtin "object.__class__"))) (A1:W.specialIn K (.builtin "object.__class__") "__get__"=some (some (.builtin "getset_descriptor.__get__"))) (A0:W.takesIn K (.builtin "object.__class__")=some true) (Fk:W.nsIn K mainGlobals "NoFit"=some (some (.ref zia))) (Ee:K.lookup zia=some ⟨.type "type",ycB,.cls zdh,zeh⟩) (yx:W.excIn K zia [.type "ValueError",.type "Exception",.type "BaseException",.type "object"] "ValueError.__new__"=true) (A':W.findIn K (.ref zia) "__getattribute__"=some (some (.builtin "BaseException.__getattribute__"))) (Bg:W.findIn K (.ref zia) "__getattr__"=some none) (BX:W.mroIn K zia (.type "BaseException")=some true) (Bs:W.mroIn K zia (.type "object")=some true) (Bq:W.findIn K (.ref zia) "__class__"=some (some (.builtin "object.__class__"))) (DJ:W.nsIn K mainGlobals "NoName"=some (some (.ref yaa))) (Ci:K.lookup yaa=some ⟨.type "type",ycI,.cls ydy,ycm⟩) (v7:W.excIn K yaa [.type "ValueError",.type "Exception",.type "BaseException",.type "object"] "ValueError.__new__"=true) (zU:W.findIn K (.ref yaa) "__getattribute__"=some (some (.builtin "BaseException.__getattribute__"))) (zA:W.findIn K (.ref yaa) "__getattr__"=some none) (AW:W.mroIn K yaa (.type "BaseException")=some true) (zT:W.mroIn K yaa (.type "object")=some true) (AO:W.findIn K (.ref yaa) "__class__"=some (some (.builtin "object.__class__"))) (yQ:W.nsIn K mainGlobals "NoNumber"=some (some (.ref yac))) (wJ:K.lookup yac=some ⟨.type "type",yds,.cls ycl,ydI⟩) (qD:W.excIn K yac [.type "ValueError",.type "Exception",.type "BaseException",.type "object"] "ValueError.__new__"=true) (vf:W.findIn K (.ref yac) "__getattribute__"=some (some (.builtin "BaseException.__getattribute__"))) (vO:W.findIn K (.ref yac) "__getattr__"=some none) (we:W.mroIn K yac (.type "BaseException")=some true) (vA:W.mroIn K yac (.type "object")=some true) (vL:W.findIn K (.ref yac) "__class__"=some (some (.builtin "object.__class__"))) (wX:W.nsIn K mainGlobals "NoGrammar"=some (some (.ref zda))) (og:K.lookup zda=some ⟨.type "type",yce,.cls zEa,zsg⟩) (uA:W.excOut K zda [.type "ValueError",.type "Exception",.type "BaseException",.type "object"] "ValueError.__new__"=true) (uL:W.findIn K (.ref zda) "__getattribute__"=some (some (.builtin "BaseException.__getattribute__"))) (uh:W.findIn K (.ref zda) "__getattr__"=some none) (uJ:W.mroIn K zda (.type "BaseException")=some true) (tV:W.mroIn K zda (.type "object")=some true) (sS:W.findIn K (.ref zda) "__class__"=some (some (.builtin "object.__class__"))) (uS:W.findIn K (.ref zda) "__init__"=some (some (.ref zPa))) (tK:W.typeIn K (.ref zPa)=some (.type "function")) (tM:K.lookup zPa=some ⟨ycJ,yde,.func (W.fnOf "__init__" "NoGrammar.__init__" (aR j9) (aP j9) (ah j9) .none ycz ydt ycS ycH ybI ycC),ydf⟩) (uz:W.codeIn K ybI "NoGrammar.__init__"=true) (uI:W.keepIn K (.ref zPa)=true) (uB:W.findIn K (.ref zda) "__setattr__"=some (some (.builtin "object.__setattr__"))) (tN:W.strip zEa.mro=[.type "ValueError",.type "Exception",.type "BaseException",.type "object"]) (mh:zEa.hasDict=true) (tQ:zEa.mro.contains (.type "object")=true) (ut:zEa.mro.isEmpty=false) (tF:W.findIn K (.ref zda) "why"=some none) (Do:W.nsIn K mainGlobals "NoTree"=some (some (.ref yae))) (vT:K.lookup yae=some ⟨.type "type",ycf,.cls yas,ydK⟩) (zu:W.excOut K yae [.type "ValueError",.type "Exception",.type "BaseException",.type "object"] "ValueError.__new__"=true) (AK:W.findIn K (.ref yae) "__getattribute__"=some (some (.builtin "BaseException.__getattribute__"))) (zG:W.findIn K (.ref yae) "__getattr__"=some none) (Aq:W.mroIn K yae (.type "BaseException")=some true) (yW:W.mroIn K yae (.type "object")=some true) (Ad:W.findIn K (.ref yae) "__class__"=some (some (.builtin "object.__class__"))) (Aa:W.findIn K (.ref yae) "__init__"=some (some (.ref yaM))) (y6:W.typeIn K (.ref yaM)=some (.type "function")) (zD:K.lookup yaM=some ⟨ydE,ycp,.func (W.fnOf "__init__" "NoTree.__init__" (aR km) (aP km) (ah km) .none ydu ycX yb7 yb0 ybJ ycd),yda⟩) (zW:W.codeIn K ybJ "NoTree.__init__"=true) (AQ:W.keepIn K (.ref yaM)=true) (Ag:W.findIn K (.ref yae) "__setattr__"=some (some (.builtin "object.__setattr__"))) (zS:W.strip yas.mro=[.type "ValueError",.type "Exception",.type "BaseException",.type "object"]) (rB:yas.hasDict=true) (y7:yas.mro.contains (.type "object")=true) (AB:yas.mro.isEmpty=false) (zw:W.findIn K (.ref yae) "why"=some none) (z_:W.nsIn K mainGlobals "CAPITALS"=some (some (.str "ABCDEFGHIJKLMNOPQRSTUVWXYZ" ydc))) (Dq:W.nsIn K mainGlobals "SMALLS"=some (some (.str "abcdefghijklmnopqrstuvwxyz" ydr))) (rp:W.nsIn K mainGlobals "LONGEST_NAME"=some (some (.int 4 ydd))) (FV:W.nsIn K mainGlobals "Rule"=some (some (.ref yak))) (ES:W.specialIn K (.ref yak) "__getattribute__"=some (some (.builtin "type.__getattribute__"))) (EE:W.readsIn K yak (.type "type")=true) (ou:W.findCls K (.ref yak) (.type "type") "__init__"=some (.val (.ref zza))) (oM:K.lookup zza=some ⟨zbf,zSe,.func (W.fnOf "__init__" "Rule.__init__" (aR dO) (aP dO) (ah dO) .none zcf zdf zef zTe zFb zff),zYe⟩) (on:W.codeIn K zFb "Rule.__init__"=true) (Hf:W.keepIn K (.ref zza)=true) (A3:W.isFn K (.ref zza)=true) (Ao:W.nsIn K mainGlobals "CellRule"=some (some (.ref zea))) (Jj:W.plainGet K zea Str.empty=true) (Ht:W.hasDictIn K zea=true) (Ja:W.plainOver K zea=true) (Iu:W.findIn K (.ref zea) "__setattr__"=some (some (.builtin "object.__setattr__"))) (Ib:W.findIn K (.ref zea) "__class__"=some (some (.builtin "object.__class__"))) (HE:W.mroIn K zea (.type "object")=some true) (HD:W.findIn K (.ref zea) "name"=some none) (Jc:W.findIn K (.ref zea) "cost"=some none) (JB:W.findIn K (.ref zea) "part_names"=some none) (Jg:W.findIn K (.ref zea) "sign"=some none) (wQ:W.makesIn K zea=true) (wT:W.findIn K (.ref zea) "__init__"=some (some (.ref zsa))) (kG:K.lookup zsa=some ⟨zBd,zvd,.func (W.fnOf "__init__" "CellRule.__init__" (aR dU) (aP dU) (ah dU) .none zCd zDd zEd zwd zkb zFd),zzd⟩) (kF:W.codeIn K zkb "CellRule.__init__"=true) (IL:W.keepIn K (.ref zsa)=true) (kt:W.isFn K (.ref zsa)=true) (xE:W.keepIn K (.ref zea)=true) (Ik:W.kitOne K (.ref zea) (.ref yak)=some true) (G4:W.kitOne K (.ref zea) (.ref zea)=some true) (v6:W.nsIn K mainGlobals "BesideRule"=some (some (.ref zaa))) (Je:W.plainGet K zaa Str.empty=true) (I8:W.hasDictIn K zaa=true) (HU:W.plainOver K zaa=true) (Jk:W.findIn K (.ref zaa) "__setattr__"=some (some (.builtin "object.__setattr__"))) (HQ:W.findIn K (.ref zaa) "__class__"=some (some (.builtin "object.__class__"))) (HZ:W.mroIn K zaa (.type "object")=some true) (HB:W.findIn K (.ref zaa) "name"=some none) (Jd:W.findIn K (.ref zaa) "cost"=some none) (HC:W.findIn K (.ref zaa) "part_names"=some none) (JM:W.findIn K (.ref zaa) "one"=some none) (JG:W.findIn K (.ref zaa) "other"=some none) (sG:W.makesIn K zaa=true) (uu:W.findIn K (.ref zaa) "__init__"=some (some (.ref zla))) (jb:K.lookup zla=some ⟨zic,zcc,.func (W.fnOf "__init__" "BesideRule.__init__" (aR cR) (aP cR) (ah cR) .none zjc zkc zlc zdc zTa zmc),zgc⟩) (jf:W.codeIn K zTa "BesideRule.__init__"=true) (IP:W.keepIn K (.ref zla)=true) (jg:W.isFn K (.ref zla)=true) (uN:W.keepIn K (.ref zaa)=true) (Jb:W.kitOne K (.ref zaa) (.ref yak)=some true) (Hn:W.kitOne K (.ref zaa) (.ref zaa)=some true) (yd:W.nsIn K mainGlobals "AboveRule"=some (some (.ref zba))) (HM:W.plainGet K zba Str.empty=true) (Jn:W.hasDictIn K zba=true) (Ie:W.plainOver K zba=true) (Js:W.findIn K (.ref zba) "__setattr__"=some (some (.builtin "object.__setattr__"))) (JJ:W.findIn K (.ref zba) "__class__"=some (some (.builtin "object.__class__"))) (Jl:W.mroIn K zba (.type "object")=some true) (Ix:W.findIn K (.ref zba) "name"=some none) (HR:W.findIn K (.ref zba) "cost"=some none) (HI:W.findIn K (.ref zba) "part_names"=some none) (Ig:W.findIn K (.ref zba) "one"=some none) (Hz:W.findIn K (.ref zba) "other"=some none) (vQ:W.makesIn K zba=true) (vZ:W.findIn K (.ref zba) "__init__"=some (some (.ref zoa))) (ju:K.lookup zoa=some ⟨zVc,zJc,.func (W.fnOf "__init__" "AboveRule.__init__" (aR dc) (aP dc) (ah dc) .none zWc zXc zYc zKc zYa zZc),zRc⟩) (jP:W.codeIn K zYa "AboveRule.__init__"=true) (Hu:W.keepIn K (.ref zoa)=true) (jW:W.isFn K (.ref zoa)=true) (u8:W.keepIn K (.ref zba)=true) (IB:W.kitOne K (.ref zba) (.ref yak)=some true) (Ha:W.kitOne K (.ref zba) (.ref zba)=some true) (zZ:W.nsIn K mainGlobals "TurnRule"=some (some (.ref zca))) (HP:W.plainGet K zca Str.empty=true) (Jq:W.hasDictIn K zca=true) (IA:W.plainOver K zca=true) (Ic:W.findIn K (.ref zca) "__setattr__"=some (some (.builtin "object.__setattr__"))) (HY:W.findIn K (.ref zca) "__class__"=some (some (.builtin "object.__class__"))) (Io:W.mroIn K zca (.type "object")=some true) (HV:W.findIn K (.ref zca) "name"=some none) (Ih:W.findIn K (.ref zca) "cost"=some none) (Iq:W.findIn K (.ref zca) "part_names"=some none) (Jw:W.findIn K (.ref zca) "part"=some none) (JH:W.findIn K (.ref zca) "turning"=some none) (wz:W.makesIn K zca=true) (xL:W.findIn K (.ref zca) "__init__"=some (some (.ref zta))) (kM:K.lookup zta=some ⟨zGd,zxd,.func (W.fnOf "__init__" "TurnRule.__init__" (aR dX) (aP dX) (ah dX) .none zHd zId zJd zyd zlb zKd),zAd⟩) (kN:W.codeIn K zlb "TurnRule.__init__"=true) (Hv:W.keepIn K (.ref zta)=true) (kE:W.isFn K (.ref zta)=true) (wO:W.keepIn K (.ref zca)=true) (JC:W.kitOne K (.ref zca) (.ref yak)=some true) (Hi:W.kitOne K (.ref zca) (.ref zca)=some true) (ve:W.nsIn K mainGlobals "MOST_SIGNS"=some (some (.int 4 ycy))) (u6:W.nsIn K mainGlobals "MOST_RULES"=some (some (.int 24 ybU))) (v_:W.nsIn K mainGlobals "MOST_NAMES"=some (some (.int 8 ydJ))) (FW:W.nsIn K mainGlobals "MOST"=some (some (.int 6 ydk))) (HF:W.kitOne K (.ref zea) (.ref zaa)=some false) (IZ:W.kitOne K (.ref zea) (.ref zba)=some false) (Hs:W.kitOne K (.ref zea) (.ref zca)=some false) (Jp:W.kitOne K (.ref zaa) (.ref zea)=some false) (IV:W.kitOne K (.ref zaa) (.ref zba)=some false) (Jr:W.kitOne K (.ref zaa) (.ref zca)=some false) (IN:W.kitOne K (.ref zba) (.ref zea)=some false) (Hw:W.kitOne K (.ref zba) (.ref zaa)=some false) (JD:W.kitOne K (.ref zba) (.ref zca)=some false) (Jo:W.kitOne K (.ref zca) (.ref zea)=some false) (Jh:W.kitOne K (.ref zca) (.ref zaa)=some false) (Jm:W.kitOne K (.ref zca) (.ref zba)=some false) (nc:W.findIn K (.ref zea) "parts"=some (some (.ref zja))) (uF:K.lookup zja=some ⟨zeg,zbg,.func (W.fnOf "parts" "Rule.parts" (aR du) (aP du) (ah du) .none zfg zgg zhg zcg zYd zig),zdg⟩) (uU:W.codeIn K zYd "Rule.parts"=true) (Gb:W.keepIn K (.ref zja)=true) (fM:W.isFn K (.ref zja)=true) (ol:W.findIn K (.ref zea) "made"=some (some (.ref zAa))) (om:K.lookup zAa=some ⟨zgf,zUe,.func (W.fnOf "made" "CellRule.made" (aR dG) (aP dG) (ah dG) .none zhf zif zjf zVe zGb zkf),zZe⟩) (oG:W.codeIn K zGb "CellRule.made"=true) (Hb:W.keepIn K (.ref zAa)=true) (oF:W.isFn K (.ref zAa)=true) (jM:W.findIn K (.ref zea) "part_rows"=some (some (.ref zpa))) (jH:K.lookup zpa=some ⟨zad,zLc,.func (W.fnOf "part_rows" "CellRule.part_rows" (aR dL) (aP dL) (ah dL) .none zbd zcd zdd zMc zZa zed),zSc⟩) (jS:W.codeIn K zZa "CellRule.part_rows"=true) (G8:W.keepIn K (.ref zpa)=true) (jF:W.isFn K (.ref zpa)=true) (lD:W.findIn K (.ref zaa) "parts"=some (some (.ref zja))) (mn:W.findIn K (.ref zaa) "made"=some (some (.ref zwa))) (mj:K.lookup zwa=some ⟨zne,zke,.func (W.fnOf "made" "BesideRule.made" (aR cU) (aP cU) (ah cU) .none zoe zpe zqe zle zub zre),zme⟩) (mE:W.codeIn K zub "BesideRule.made"=true) (G':W.keepIn K (.ref zwa)=true) (lY:W.isFn K (.ref zwa)=true) (iY:W.findIn K (.ref zaa) "part_rows"=some (some (.ref zka))) (iR:K.lookup zka=some ⟨zTb,zQb,.func (W.fnOf "part_rows" "BesideRule.part_rows" (aR cT) (aP cT) (ah cT) .none zUb zVb zWb zRb zQa zXb),zSb⟩) (iG:W.codeIn K zQa "BesideRule.part_rows"=true) (Hk:W.keepIn K (.ref zka)=true) (iN:W.isFn K (.ref zka)=true) (mF:W.findIn K (.ref zba) "parts"=some (some (.ref zja))) (nI:W.findIn K (.ref zba) "made"=some (some (.ref zya))) (mX:K.lookup zya=some ⟨zHe,zEe,.func (W.fnOf "made" "AboveRule.made" (aR c_) (aP c_) (ah c_) .none zIe zJe zKe zFe zAb zLe),zGe⟩) (nu:W.codeIn K zAb "AboveRule.made"=true) (Hl:W.keepIn K (.ref zya)=true) (m9:W.isFn K (.ref zya)=true) (je:W.findIn K (.ref zba) "part_rows"=some (some (.ref zma))) (jj:K.lookup zma=some ⟨znc,zec,.func (W.fnOf "part_rows" "AboveRule.part_rows" (aR dv) (aP dv) (ah dv) .none zoc zpc zqc zfc zUa zrc),zhc⟩) (jd:W.codeIn K zUa "AboveRule.part_rows"=true) (Hc:W.keepIn K (.ref zma)=true) (ji:W.isFn K (.ref zma)=true) (nr:W.findIn K (.ref zca) "parts"=some (some (.ref zja))) (oJ:W.findIn K (.ref zca) "made"=some (some (.ref zBa))) (oI:K.lookup zBa=some ⟨zlf,zWe,.func (W.fnOf "made" "TurnRule.made" (aR dP) (aP dP) (ah dP) .none zmf znf zof zXe zHb zpf),zaf⟩) (oq:W.codeIn K zHb "TurnRule.made"=true) (G_:W.keepIn K (.ref zBa)=true) (oB:W.isFn K (.ref zBa)=true) (jw:W.findIn K (.ref zca) "part_rows"=some (some (.ref zqa))) (jC:K.lookup zqa=some ⟨zfd,zNc,.func (W.fnOf "part_rows" "TurnRule.part_rows" (aR dQ) (aP dQ) (ah dQ) .none zgd zhd zid zOc zab zjd),zTc⟩) (jT:W.codeIn K zab "TurnRule.part_rows"=true) (Ho:W.keepIn K (.ref zqa)=true) (jL:W.isFn K (.ref zqa)=true) (Bp:W.nsIn K mainGlobals "Grammar"=some (some (.ref zga))) (Il:W.plainGet K zga Str.empty=true) (JK:W.hasDictIn K zga=true) (IF:W.plainOver K zga=true) (Jz:W.findIn K (.ref zga) "__setattr__"=some (some (.builtin "object.__setattr__"))) (Ju:W.findIn K (.ref zga) "__class__"=some (some (.builtin "object.__class__"))) (Jt:W.mroIn K zga (.type "object")=some true) (HS:W.findIn K (.ref zga) "signs"=some none) (IE:W.findIn K (.ref zga) "start"=some none) (Jf:W.findIn K (.ref zga) "kept"=some none) (JI:W.findIn K (.ref zga) "numbers"=some none) (yX:W.makesIn K zga=true) (Ay:W.findIn K (.ref zga) "__init__"=some (some (.ref zva))) (lH:K.lookup zva=some ⟨zZd,zVd,.func (W.fnOf "__init__" "Grammar.__init__" (aR dR) (aP dR) (ah dR) .none zae zbe zce zWd zrb zde),zXd⟩) (lz:W.codeIn K zrb "Grammar.__init__"=true) (IT:W.keepIn K (.ref zva)=true) (lR:W.isFn K (.ref zva)=true) (zd:W.keepIn K (.ref zga)=true) (qt:W.findIn K (.ref zga) "rule"=some (some (.ref zFa))) (qd:K.lookup zFa=some ⟨zLf,zFf,.func (W.fnOf "rule" "Grammar.rule" (aR dW) (aP dW) (ah dW) .none zMf zNf zOf zGf zsc zPf),zJf⟩) (qk:W.codeIn K zsc "Grammar.rule"=true) (He:W.keepIn K (.ref zFa)=true) (qI:W.isFn K (.ref zFa)=true) (pV:W.findIn K (.ref zga) "many"=some (some (.ref zGa))) (qB:K.lookup zGa=some ⟨zQf,zHf,.func (W.fnOf "many" "Grammar.many" (aR dF) (aP dF) (ah dF) .none zRf zSf zTf zIf ztc zUf),zKf⟩) (p_:W.codeIn K ztc "Grammar.many"=true) (Hh:W.keepIn K (.ref zGa)=true) (py:W.isFn K (.ref zGa)=true) (jq:W.findIn K (.ref zga) "numbers_of"=some (some (.ref zra))) (jv:K.lookup zra=some ⟨zkd,zPc,.func (W.fnOf "numbers_of" "Grammar.numbers_of" (aR bS) (aP bS) (ah bS) .none zld zmd znd zQc zbb zod),zUc⟩) (jm:W.codeIn K zbb "Grammar.numbers_of"=true) (Hq:W.keepIn K (.ref zra)=true) (jG:W.isFn K (.ref zra)=true) (Ae:W.nsIn K mainGlobals "TreeRows"=some (some (.ref yab))) (xP:W.plainGet K yab Str.empty=true) (xx:W.hasDictIn K yab=true) (wA:W.plainOver K yab=true) (xI:W.findIn K (.ref yab) "__setattr__"=some (some (.builtin "object.__setattr__"))) (xy:W.findIn K (.ref yab) "__class__"=some (some (.builtin "object.__class__"))) (ww:W.mroIn K yab (.type "object")=some true) (lA:W.findIn K (.ref yab) "grammar"=some none) (nL:W.findIn K (.ref yab) "steps"=some none) (mv:W.findIn K (.ref yab) "totals"=some none) (x_:W.makesIn K yab=true) (xO:W.findIn K (.ref yab) "__init__"=some (some (.ref yaI))) (kr:K.lookup yaI=some ⟨ydo,ydl,.func (W.fnOf "__init__" "TreeRows.__init__" (aR fQ) (aP fQ) (ah fQ) .none ycE ybQ ydh yc9 ybE ydB),ybT⟩) (kK:W.codeIn K ybE "TreeRows.__init__"=true) (kR:W.keepIn K (.ref yaI)=true) (kJ:W.isFn K (.ref yaI)=true) (xb:W.keepIn K (.ref yab)=true) (lS:W.findIn K (.ref yab) "many_in"=some (some (.ref yaK))) (lw:K.lookup yaK=some ⟨ydw,ych,.func (W.fnOf "many_in" "TreeRows.many_in" (aR b0) (aP b0) (ah b0) .none yb9 ydF ycV yb8 ybu yct),yc5⟩) (lM:W.codeIn K ybu "TreeRows.many_in"=true) (fZ:W.keepIn K (.ref yaK)=true) (ll:W.isFn K (.ref yaK)=true) (kI:W.findIn K (.ref yab) "steps_of"=some (some (.ref yaQ))) (kH:K.lookup yaQ=some ⟨yb2,ycA,.func (W.fnOf "steps_of" "TreeRows.steps_of" (aR b_) (aP b_) (ah b_) .none ydn ycO yc8 ybR ybo ydC),yc7⟩) (kP:W.codeIn K ybo "TreeRows.steps_of"=true) (fF:W.keepIn K (.ref yaQ)=true) (ky:W.isFn K (.ref yaQ)=true) (kq:W.findIn K (.ref yab) "reckoned"=some (some (.ref yaE))) (kO:K.lookup yaE=some ⟨yco,yb5,.func (W.fnOf "reckoned" "TreeRows.reckoned" (aR b9) (aP b9) (ah b9) .none yc3 ycF ydA ycP ybO ycG),yc4⟩) (kS:W.codeIn K ybO "TreeRows.reckoned"=true) (fD:W.keepIn K (.ref yaE)=true) (kA:W.isFn K (.ref yaE)=true) (gY:W.findIn K (.ref yab) "many_together"=some (some (.ref yaJ))) (gN:K.lookup yaJ=some ⟨ydH,ybZ,.func (W.fnOf "many_together" "TreeRows.many_together" (aR bh) (aP bh) (ah bh) .none ycx yci ycY yck ybC ycc),ybW⟩) (gJ:W.codeIn K ybC "TreeRows.many_together"=true) (dz:W.keepIn K (.ref yaJ)=true) (gO:W.isFn K (.ref yaJ)=true) (lN:W.findIn K (.ref yab) "tree_in"=some (some (.ref yaL))) (lB:K.lookup yaL=some ⟨ydi,ydp,.func (W.fnOf "tree_in" "TreeRows.tree_in" (aR cu) (aP cu) (ah cu) .none yb6 yb4 ycZ ydx yby ydz),yc1⟩) (lu:W.codeIn K yby "TreeRows.tree_in"=true) (gb:W.keepIn K (.ref yaL)=true) (lK:W.isFn K (.ref yaL)=true) (ku:W.findIn K (.ref yab) "trees_in"=some (some (.ref yaP))) (kL:K.lookup yaP=some ⟨ycv,ybP,.func (W.fnOf "trees_in" "TreeRows.trees_in" (aR cz) (aP cz) (ah cz) .none ydm yc0 ycq yb3 ybM ycT),ycD⟩) (kT:W.codeIn K ybM "TreeRows.trees_in"=true) (fH:W.keepIn K (.ref yaP)=true) (kU:W.isFn K (.ref yaP)=true) (jK:W.findIn K (.ref yab) "number_in"=some (some (.ref yaN))) (jZ:K.lookup yaN=some ⟨ycM,ycu,.func (W.fnOf "number_in" "TreeRows.number_in" (aR bO) (aP bO) (ah bO) .none ybS ycK ybY yca ybm ycL),ycs⟩) (jR:W.codeIn K ybm "TreeRows.number_in"=true) (fh:W.keepIn K (.ref yaN)=true) (jU:W.isFn K (.ref yaN)=true)
  (z0:W.nsIn K mainGlobals "len"=some none) (z1:W.nsIn K mainGlobals "range"=some none) (z2:W.nsIn K mainGlobals "list"=some none) (z3:W.nsIn K mainGlobals "tuple"=some none) (z4:W.nsIn K mainGlobals "isinstance"=some none) (z5:W.nsIn K mainGlobals "int"=some none) (z6:W.nsIn K mainGlobals "bool"=some none) (z7:W.nsIn K mainGlobals "str"=some none) (z8:W.nsIn K mainGlobals "reversed"=some none) (z9:W.nsIn K mainGlobals "all"=some none) (Ii:W.nsIn K mainGlobals "enumerate"=some none) (HL:W.nsIn K mainGlobals "zip"=some none) (HW:W.nsIn K mainGlobals "sorted"=some none) (HH:W.nsIn K mainGlobals "set"=some none) (Ia:W.nsIn K mainGlobals "dict"=some none) (HA:W.nsIn K mainGlobals "min"=some none) (Hy:W.nsIn K mainGlobals "max"=some none) (IW:W.nsIn K mainGlobals "sum"=some none) (HX:W.nsIn K mainGlobals "ValueError"=some none) :
  ∃fd:FuncData,(∀(s:KP) (v:Value),BindsTo s fd ⟨[v],[]⟩ [("_law_script",v)])/\∀base:Heap,K.In base->base.Ns mainGlobals mg->aQ l.prog w K mg base bC 109 fa fd ["_law_script"] (tZ K):=by
 obtain⟨an,oc,od,osl,kV,doc,pm,ann,cdv,ct,hl,hc,hk⟩:=IR;have e:=Iw.symm.trans (W.mg_of X G an);cases e;have FL:=bx hl hc hk;have nb:NB mg:=⟨W.mg_none_of X G z0,W.mg_none_of X G z1,W.mg_none_of X G z2,W.mg_none_of X G z3,W.mg_none_of X G z4,W.mg_none_of X G z5,W.mg_none_of X G z6,W.mg_none_of X G z7,W.mg_none_of X G z8,W.mg_none_of X G z9,W.mg_none_of X G Ii,W.mg_none_of X G HL,W.mg_none_of X G HW,W.mg_none_of X G HH,W.mg_none_of X G Ia,W.mg_none_of X G HA,W.mg_none_of X G Hy,W.mg_none_of X G IW,W.mg_none_of X G HX⟩;refine⟨W.fnOf "law" "law" (aR se) (aP se) (ah se) .none kV doc pm ann cdv ct,λs v=>.of_eq rfl,λbase _ _=>?_⟩;have zCa:=W.mg_of X G DW;have xc_NoRule:v8 K zfa [.type "ValueError",.type "Exception",.type "BaseException",.type "object"] "ValueError.__new__":=⟨vy⟩;have zxa:XR K zfa:=⟨_,_,_,_,_,_,_,_,⟨vy⟩,PySem.F.excBase_ValueError,rfl,PySem.F.excBase_ValueError⟩;have xt_NoRule:W.XTy K zfa:=⟨zh,AG,An,Az,Ai,A1,A0,_,_,_,Co⟩;have zyb:=W.mg_of X G Fk;have xc_NoFit:v8 K zia [.type "ValueError",.type "Exception",.type "BaseException",.type "object"] "ValueError.__new__":=⟨yx⟩;have zob:XR K zia:=⟨_,_,_,_,_,_,_,_,⟨yx⟩,PySem.F.excBase_ValueError,rfl,PySem.F.excBase_ValueError⟩;have xt_NoFit:W.XTy K zia:=⟨A',Bg,BX,Bs,Bq,A1,A0,_,_,_,Ee⟩;have ya7:=W.mg_of X G DJ;have xc_NoName:v8 K yaa [.type "ValueError",.type "Exception",.type "BaseException",.type "object"] "ValueError.__new__":=⟨v7⟩;have ya0:XR K yaa:=⟨_,_,_,_,_,_,_,_,⟨v7⟩,PySem.F.excBase_ValueError,rfl,PySem.F.excBase_ValueError⟩;have xt_NoName:W.XTy K yaa:=⟨zU,zA,AW,zT,AO,A1,A0,_,_,_,Ci⟩;have yaD:=W.mg_of X G yQ;have xc_NoNumber:v8 K yac [.type "ValueError",.type "Exception",.type "BaseException",.type "object"] "ValueError.__new__":=⟨qD⟩;have yaz:XR K yac:=⟨_,_,_,_,_,_,_,_,⟨qD⟩,PySem.F.excBase_ValueError,rfl,PySem.F.excBase_ValueError⟩;have xt_NoNumber:W.XTy K yac:=⟨vf,vO,we,vA,vL,A1,A0,_,_,_,wJ⟩;have zua:=W.mg_of X G wX;have zpg:zN K zda [.type "ValueError",.type "Exception",.type "BaseException",.type "object"] "ValueError.__new__":=⟨uA⟩;have xt_NoGrammar:W.XTy K zda:=⟨uL,uh,uJ,tV,sS,A1,A0,_,_,_,og⟩;have ybA:W.clsIn K zda=some zEa:=by unfold W.clsIn;rw[og]
 have xh_NoGrammar:W.hasDictIn K zda=true:=by unfold W.hasDictIn;rw[ybA];exact mh
 have ybs:=bx (st:=j9) tM uz uI;have ycg:W.XSt K zda "why":=⟨uB,⟨zEa,ybA,tN,mh,tQ,ut⟩,tF⟩;have ybV:=ybs.binds (ps:=["self","why"]) λ_ _ _ _ _ _=>bd2 λ_ _=>rfl
 have zna:XI l.prog w K mg base 1 zda "why":=⟨_,_,_,_,_,_,_,_,zPa,_,_,zpg,PySem.F.excBase_ValueError,rfl,PySem.F.excBase_ValueError,uS,tK,Bf ybs ycg,ybV⟩;have yaC:=W.mg_of X G Do;have ydq:zN K yae [.type "ValueError",.type "Exception",.type "BaseException",.type "object"] "ValueError.__new__":=⟨zu⟩;have xt_NoTree:W.XTy K yae:=⟨AK,zG,Aq,yW,Ad,A1,A0,_,_,_,vT⟩;have ybz:W.clsIn K yae=some yas:=by unfold W.clsIn;rw[vT]
 have xh_NoTree:W.hasDictIn K yae=true:=by unfold W.hasDictIn;rw[ybz];exact rB
 have ybp:=bx (st:=km) zD zW AQ;have ycr:W.XSt K yae "why":=⟨Ag,⟨yas,ybz,zS,rB,y7,AB⟩,zw⟩;have yb1:=ybp.binds (ps:=["self","why"]) λ_ _ _ _ _ _=>bd2 λ_ _=>rfl
 have yax:XI l.prog w K mg base 1 yae "why":=⟨_,_,_,_,_,_,_,_,yaM,_,_,ydq,PySem.F.excBase_ValueError,rfl,PySem.F.excBase_ValueError,Aa,y6,BW ybp ycr,yb1⟩;have ya2:=W.mg_of X G z_;have yaA:=W.mg_of X G Dq;have ybk:=W.mg_of X G rp;have ycb:=W.mg_of X G FV;have zLb:=bx (st:=dO) oM on Hf;have zAf:=zLb.binds (ps:=["self","name","cost","part_names"]) λ_ _ _ _ _ _=>bd4 λ_ _ _ _=>rfl
 have ycw:Da K yak "__init__" zza:=⟨ES,EE,ou,Hf⟩;have zxb:=W.mg_of X G Ao;have zJa:fz K zea:=⟨⟨Jj,Ht,Ja,Iu⟩,Ib,A1,A0,HE⟩;have zmb:=bx (st:=dU) kG kF IL;have zNd:=zmb.binds (ps:=["self","name","cost","sign"]) λ_ _ _ _ _ _=>bd4 λ_ _ _ _=>rfl
 have zAg:Mk K zea zsa:=⟨wQ,wT,kt,xE⟩;have zqg:=W.mg_of X G v6;have zIa:fz K zaa:=⟨⟨Je,I8,HU,Jk⟩,HQ,A1,A0,HZ⟩;have zWa:=bx (st:=cR) jb jf IP;have zzc:=zWa.binds (ps:=["self","name","cost","one","other"]) λ_ _ _ _ _ _=>bd5 λ_ _ _ _ _=>rfl
 have zag:Mk K zaa zla:=⟨sG,uu,jg,uN⟩;have zBg:=W.mg_of X G yd;have zNa:fz K zba:=⟨⟨HM,Jn,Ie,Js⟩,JJ,A1,A0,Jl⟩;have zfb:=bx (st:=dc) ju jP Hu;have zqd:=zfb.binds (ps:=["self","name","cost","one","other"]) λ_ _ _ _ _ _=>bd5 λ_ _ _ _ _=>rfl
 have zrg:Mk K zba zoa:=⟨vQ,vZ,jW,u8⟩;have zQg:=W.mg_of X G zZ;have zKa:fz K zca:=⟨⟨HP,Jq,IA,Ic⟩,HY,A1,A0,Io⟩;have znb:=bx (st:=dX) kM kN Hv;have zOd:=znb.binds (ps:=["self","name","cost","part","turning"]) λ_ _ _ _ _ _=>bd5 λ_ _ _ _ _=>rfl
 have zCg:Mk K zca zta:=⟨wz,xL,kE,wO⟩
 let R:RC:=⟨yak,zea,zaa,zba,zca⟩
 have rk:ow K R:=⟨zJa,zIa,zNa,zKa,⟨HD,Jc,JB,Jg⟩,⟨HB,Jd,HC,JM,JG⟩,⟨Ix,HR,HI,Ig,Hz⟩,⟨HV,Ih,Iq,Jw,JH⟩,Ik,Jb,IB,JC,G4,Hn,Ha,Hi⟩;have ybe:=W.mg_of X G ve;have yaZ:=W.mg_of X G u6;have ya4:=W.mg_of X G v_;have yag:=W.mg_of X G FW;have rk4:Eu K R:=⟨λi j hi hj=>by rcases kg hi with rfl | rfl | rfl | rfl<;>rcases kg hj with rfl | rfl | rfl | rfl;exact G4;exact HF;exact IZ;exact Hs;exact Jp;exact Hn;exact IV;exact Jr;exact IN;exact Hw;exact Ha;exact JD;exact Jo;exact Jh;exact Jm;exact Hi⟩;have zOa:=bx (st:=du) uF uU Gb;have zgb:=zOa.binds (ps:=["self"]) λ_ _ _ _ _ _=>bd1 λ_=>rfl
 have zwe:cQ K zea "parts" zja:=⟨nc,fM,Gb⟩;have zMb:=bx (st:=dG) om oG Hb;have zBf:=zMb.binds (ps:=["self","pictures"]) λ_ _ _ _ _ _=>bd2 λ_ _=>rfl
 have zPe:cQ K zea "made" zAa:=⟨ol,oF,Hb⟩;have zhb:=bx (st:=dL) jH jS G8;have zrd:=zhb.binds (ps:=["self","rows","columns","cost"]) λ_ _ _ _ _ _=>bd4 λ_ _ _ _=>rfl
 have zAc:cQ K zea "part_rows" zpa:=⟨jM,jF,G8⟩;have zPd:cQ K zaa "parts" zja:=⟨lD,fM,Gb⟩;have zwb:=bx (st:=cU) mj mE G';have zxe:=zwb.binds (ps:=["self","pictures"]) λ_ _ _ _ _ _=>bd2 λ_ _=>rfl
 have zhe:cQ K zaa "made" zwa:=⟨mn,lY,G'⟩;have zSa:=bx (st:=cT) iR iG Hk;have zZb:=zSa.binds (ps:=["self","rows","columns","cost"]) λ_ _ _ _ _ _=>bd4 λ_ _ _ _=>rfl
 have zEb:cQ K zaa "part_rows" zka:=⟨iY,iN,Hk⟩;have zie:cQ K zba "parts" zja:=⟨mF,fM,Gb⟩;have zCb:=bx (st:=c_) mX nu Hl;have zQe:=zCb.binds (ps:=["self","pictures"]) λ_ _ _ _ _ _=>bd2 λ_ _=>rfl
 have zye:cQ K zba "made" zya:=⟨nI,m9,Hl⟩;have zXa:=bx (st:=dv) jj jd Hc;have zBc:=zXa.binds (ps:=["self","rows","columns","cost"]) λ_ _ _ _ _ _=>bd4 λ_ _ _ _=>rfl
 have zac:cQ K zba "part_rows" zma:=⟨je,ji,Hc⟩;have zze:cQ K zca "parts" zja:=⟨nr,fM,Gb⟩;have zNb:=bx (st:=dP) oI oq G_;have zCf:=zNb.binds (ps:=["self","pictures"]) λ_ _ _ _ _ _=>bd2 λ_ _=>rfl
 have zRe:cQ K zca "made" zBa:=⟨oJ,oB,G_⟩;have zib:=bx (st:=dQ) jC jT Ho;have ztd:=zib.binds (ps:=["self","rows","columns","cost"]) λ_ _ _ _ _ _=>bd4 λ_ _ _ _=>rfl
 have zCc:cQ K zca "part_rows" zqa:=⟨jw,jL,Ho⟩;have zah:=W.mg_of X G Bp;have zHa:fz K zga:=⟨⟨Il,JK,IF,Jz⟩,Ju,A1,A0,Jt⟩;have zsb:=bx (st:=dR) lH lz IT;have zje:=zsb.binds (ps:=["self","signs","start","rules"]) λ_ _ _ _ _ _=>bd4 λ_ _ _ _=>rfl
 have zRg:Mk K zga zva:=⟨yX,Ay,lR,zd⟩;have gk:Hj K zga:=⟨zHa,HS,IE,Jf,JI⟩;have zDc:=bx (st:=dW) qd qk He;have zWf:=zDc.binds (ps:=["self","k"]) λ_ _ _ _ _ _=>bd2 λ_ _=>rfl
 have zDf:cQ K zga "rule" zFa:=⟨qt,qI,He⟩;have zEc:=bx (st:=dF) qB p_ Hh;have zXf:=zEc.binds (ps:=["self"]) λ_ _ _ _ _ _=>bd1 λ_=>rfl
 have zEf:cQ K zga "many" zGa:=⟨pV,py,Hh⟩;have zjb:=bx (st:=bS) jv jm Hq;have zud:=zjb.binds (ps:=["self","name"]) λ_ _ _ _ _ _=>bd2 λ_ _=>rfl
 have zFc:cQ K zga "numbers_of" zra:=⟨jq,jG,Hq⟩;have ycR:=W.mg_of X G Ae;have yaw:fz K yab:=⟨⟨xP,xx,wA,xI⟩,xy,A1,A0,ww⟩;have ybF:=bx (st:=fQ) kr kK kR;have ycU:=ybF.binds (ps:=["self","grammar"]) λ_ _ _ _ _ _=>bd2 λ_ _=>rfl
 have ycW:Mk K yab yaI:=⟨x_,xO,kJ,xb⟩;have nt:au K yab "grammar"/\au K yab "steps"/\au K yab "totals":=⟨lA,nL,mv⟩;have ya6:=bx (st:=b0) lw lM fZ;have ybG:=ya6.binds (ps:=["self","row"]) λ_ _ _ _ _ _=>bd2 λ_ _=>rfl
 have ybn:cQ K yab "many_in" yaK:=⟨lS,ll,fZ⟩;have yaY:=bx (st:=b_) kH kP fF;have ybt:=yaY.binds (ps:=["self","row"]) λ_ _ _ _ _ _=>bd2 λ_ _=>rfl
 have ybx:cQ K yab "steps_of" yaQ:=⟨kI,ky,fF⟩;have ybi:=bx (st:=b9) kO kS fD;have ybH:=ybi.binds (ps:=["self","row"]) λ_ _ _ _ _ _=>bd2 λ_ _=>rfl
 have ybl:cQ K yab "reckoned" yaE:=⟨kq,kA,fD⟩;have ya1:=bx (st:=bh) gN gJ dz;have ybv:=ya1.binds (ps:=["self","rows"]) λ_ _ _ _ _ _=>bd2 λ_ _=>rfl
 have ybB:cQ K yab "many_together" yaJ:=⟨gY,gO,dz⟩;have ybN:=bx (st:=cu) lB lu gb;have ycQ:=ybN.binds (ps:=["self","row","k"]) λ_ _ _ _ _ _=>bd3 λ_ _ _=>rfl
 have yc6:cQ K yab "tree_in" yaL:=⟨lN,lK,gb⟩;have ybK:=bx (st:=cz) kL kT fH;have ycj:=ybK.binds (ps:=["self","rows","k"]) λ_ _ _ _ _ _=>bd3 λ_ _ _=>rfl
 have yc2:cQ K yab "trees_in" yaP:=⟨ku,kU,fH⟩;have ybr:=bx (st:=bO) jZ jR fh;have ybX:=ybr.binds (ps:=["self","tree"]) λ_ _ _ _ _ _=>bd2 λ_ _=>rfl
 have ycN:cQ K yab "number_in" yaN:=⟨jK,jU,fh⟩;have yap:=a1.cal (P:=l.prog) (w:=w) (base:=base) X G (λ_ F m k b=>xq F nb) (λ_ _ _ _ _ _=>bd2 λ_ _=>rfl);have yaB:=a2.cal (P:=l.prog) (w:=w) (base:=base) X G (λ_ F m k b=>x6 F nb ybk ya2 yap) (λ_ _ _ _ _ _=>bd1 λ_=>rfl);have zha:At l.prog w K mg base (bE l.prog w) 3 "Rule" "__init__" ["self","name","cost","part_names"] (dm K zfa):=⟨_,_,_,s_ zLb nb zCa zxa yaB,ycb,ycw,zAf⟩;have zOb:lC l.prog w K mg base (bE l.prog w) 4 "CellRule" zea ["self","name","cost","sign"] (iX K zfa):=⟨_,_,ur zmb nb yaA zCa zxa yap zha,zxb,zAg,zNd⟩;have ztb:lC l.prog w K mg base (bE l.prog w) 4 "BesideRule" zaa ["self","name","cost","one","other"] (dr K zfa):=⟨_,_,pP zWa nb zha,zqg,zag,zzc⟩;have zzb:lC l.prog w K mg base (bE l.prog w) 4 "AboveRule" zba ["self","name","cost","one","other"] (dr K zfa):=⟨_,_,ri zfb nb zha,zBg,zrg,zqd⟩;have zPb:lC l.prog w K mg base (bE l.prog w) 4 "TurnRule" zca ["self","name","cost","part","turning"] (iW K zfa):=⟨_,_,uO znb nb zCa zxa zha,zQg,zCg,zOd⟩;have yav:oy l.prog w K mg base bC 1 "parts" (nw K R):=CD ⟨_,_,_,fg zOa nb,zJa.cl,zwe,zgb⟩ ⟨_,_,_,fg zOa nb,zIa.cl,zPd,zgb⟩ ⟨_,_,_,fg zOa nb,zNa.cl,zie,zgb⟩ ⟨_,_,_,fg zOa nb,zKa.cl,zze,zgb⟩;have ya5:=a3.cal (P:=l.prog) (w:=w) (base:=base) X G (λ_ F m k b=>ul F nb ybe yaA yap) (λ_ _ _ _ _ _=>bd1 λ_=>rfl);have ybf:=a4.cal (P:=l.prog) (w:=w) (base:=base) X G (λ_ F m k b=>nh F nb rk rk4 yaZ zxb zua zna ya5 yaB) (λ_ _ _ _ _ _=>bd3 λ_ _ _=>rfl);have ybh:=a5.cal (P:=l.prog) (w:=w) (base:=base) X G (λ_ F m k b=>ly F nb rk yav) (λ_ _ _ _ _ _=>bd2 λ_ _=>rfl);have zGc:lC l.prog w K mg base (bE l.prog w) 4 "Grammar" zga ["self","signs","start","rules"] (i5 K R zda):=⟨_,_,uq zsb nb ya4 zua zna ybf ybh,zah,zRg,zje⟩;have yad:b6 l.prog w K mg base bC 1 zga "rule" ["self","k"] (b5 R zga):=⟨_,_,uy zDc nb zHa.cl gk.na,zHa.cl,zDf,zWf⟩;have yaT:b6 l.prog w K mg base bC 1 zga "many" ["self"] (iM R zga):=⟨_,_,tz zEc nb zHa.cl gk.na,zHa.cl,zEf,zXf⟩;have yam:b6 l.prog w K mg base (bE l.prog w) 1 zga "numbers_of" ["self","name"] (ck R zga yaa):=⟨_,_,lE zjb nb zHa.cl gk.na ya7 ya0,zHa.cl,zFc,zud⟩;have yba:=a6.cal (P:=l.prog) (w:=w) (base:=base) X G (λ_ F m k b=>AX F nb yag zyb zob) (λ_ _ _ _ _ _=>bd2 λ_ _=>rfl);have ybc:=a7.cal (P:=l.prog) (w:=w) (base:=base) X G (λ_ F m k b=>CZ F nb yag zyb zob) (λ_ _ _ _ _ _=>bd2 λ_ _=>rfl);have ya9:=a8.cal (P:=l.prog) (w:=w) (base:=base) X G (λ_ F m k b=>zy F nb) (λ_ _ _ _ _ _=>bd1 λ_=>rfl);have ybg:=a9.cal (P:=l.prog) (w:=w) (base:=base) X G (λ_ F m k b=>zo F nb) (λ_ _ _ _ _ _=>bd2 λ_ _=>rfl);have ybd:=IY.cal (P:=l.prog) (w:=w) (base:=base) X G (λ_ F m k b=>wR F nb ybg) (λ_ _ _ _ _ _=>bd1 λ_=>rfl);have zBe:=IQ.cal (P:=l.prog) (w:=w) (base:=base) X G (λ_ F m k b=>AS F nb ya9 ybd) (λ_ _ _ _ _ _=>bd2 λ_ _=>rfl);have yaW:oy l.prog w K mg base (bE l.prog w) 4 "made" (qq K R zia):=CD ⟨_,_,_,(sZ zMb zJa.cl rk.a0.2.2.2).lift.mono nofun,zJa.cl,zPe,zBf⟩ ⟨_,_,_,(pI zwb yba).mono nofun,zIa.cl,zhe,zxe⟩ ⟨_,_,_,(qZ zCb ybc).mono nofun,zNa.cl,zye,zQe⟩ ⟨_,_,_,(uD zNb zKa.cl rk.a3.2.2.2.2 zBe).lift,zKa.cl,zRe,zCf⟩;have yaG:=JF.cal (P:=l.prog) (w:=w) (base:=base) X G (λ_ F m k b=>lj F nb rk yaC yax yav yad yaT m k b 18 nofun) (λ_ _ _ _ _ _=>bd4 λ_ _ _ _=>rfl);have yaF:=IG.cal (P:=l.prog) (w:=w) (base:=base) X G (λ_ F m k b=>C9 F nb yaW yad m k b 18 nofun) (λ_ _ _ _ _ _=>bd3 λ_ _ _=>rfl);have yao:=JN.cal (P:=l.prog) (w:=w) (base:=base) X G (λ_ F m k b=>Dv F nb yaG yaF) (λ_ _ _ _ _ _=>bd2 λ_ _=>rfl);have yaO:=HG.cal (P:=l.prog) (w:=w) (base:=base) X G (λ_ F m k b=>k_ F nb m k b 18 nofun) (λ_ _ _ _ _ _=>bd1 λ_=>rfl);have ya3:=HK.cal (P:=l.prog) (w:=w) (base:=base) X G (λ_ F m k b=>w6 F nb nb.sum rk yad yao yaO) (λ_ _ _ _ _ _=>bd2 λ_ _=>rfl);have yaX:=IS.cal (P:=l.prog) (w:=w) (base:=base) X G (λ_ F m k b=>xU F nb) (λ_ _ _ _ _ _=>bd1 λ_=>rfl);have yai:=Hx.cal (P:=l.prog) (w:=w) (base:=base) X G (λ_ F m k b=>zQ F) (λ_ _ _ _ _ _=>bd1 λ_=>rfl);have yay:=Ji.cal (P:=l.prog) (w:=w) (base:=base) X G (λ_ F m k b=>ql F nb yai) (λ_ _ _ _ _ _=>bd3 λ_ _ _=>rfl);have yal:oy l.prog w K mg base bC 3 "part_rows" (lg R):=CD ⟨_,_,_,(uW zhb nb zJa.cl rk.a0.2.1).mono nofun,zJa.cl,zAc,zrd⟩ ⟨_,_,_,qw zSa nb zIa.cl ⟨rk.a1.2.1,rk.a1.2.2.2.1,rk.a1.2.2.2.2⟩ yay,zIa.cl,zEb,zZb⟩ ⟨_,_,_,rf zXa nb zNa.cl ⟨rk.a2.2.1,rk.a2.2.2.2.1,rk.a2.2.2.2.2⟩ yay,zNa.cl,zac,zBc⟩ ⟨_,_,_,(sK zib nb zKa.cl ⟨rk.a3.2.1,rk.a3.2.2.2.1,rk.a3.2.2.2.2⟩).mono nofun,zKa.cl,zCc,ztd⟩;have yaq:lC l.prog w K mg base bC 1 "TreeRows" yab ["self","grammar"] (gj K):=⟨_,_,wB ybF nb,ycR,ycW,ycU⟩;have yaf:=jx (P:=l.prog) (w:=w) (base:=base) (R:=R) ya6 yaY ybi ya1 nb nb.sum yag yaw nt ybn ybx ybl ybB ybG ybt ybH ybv yai yam yad yal 17;have yah:=zm (P:=l.prog) (w:=w) (base:=base) (R:=R) ya6 yaY ybi ya1 nb nb.sum yag yaw nt ybn ybx ybl ybB ybG ybt ybH ybv yai yam yad yal;have yaH:=nX (P:=l.prog) (w:=w) (base:=base) (R:=R) ybN ybK nb yaw yaD yaz yc6 yc2 ycQ ycj yaf yah 17;have yat:=Jv.cal (P:=l.prog) (w:=w) (base:=base) X G (λ_ F m k b=>Ax F nb rk yad yao yaX ya3) (λ_ _ _ _ _ _=>bd2 λ_ _=>rfl)
 have yaS:=kZ (P:=l.prog) (w:=w) (base:=base) (R:=R) ybr nb yaw nt ycN ybX yat yah yaf 16 nofun;have yaU:=ID.cal (P:=l.prog) (w:=w) (base:=base) X G (λ_ F m k b=>qA F nb yaw nt yaq yaf) (λ_ _ _ _ _ _=>bd5 λ_ _ _ _ _=>rfl);have ya8:=JE.cal (P:=l.prog) (w:=w) (base:=base) X G (λ_ F m k b=>xc F nb yaw nt yaq yaH) (λ_ _ _ _ _ _=>bd6 λ_ _ _ _ _ _=>rfl);have ybb:=IM.cal (P:=l.prog) (w:=w) (base:=base) X G (λ_ F m k b=>tY F nb yaw nt yao yaq yaS) (λ_ _ _ _ _ _=>bd2 λ_ _=>rfl);have zDa:=I0.cal (P:=l.prog) (w:=w) (base:=base) X G (λ_ F m k b=>Ap F nb) (λ_ _ _ _ _ _=>bd2 λ_ _=>rfl);have zRd:=Ir.cal (P:=l.prog) (w:=w) (base:=base) X G (λ_ F m k b=>xw F nb zDa) (λ_ _ _ _ _ _=>bd3 λ_ _ _=>rfl);have zLa:=Hr.cal (P:=l.prog) (w:=w) (base:=base) X G (λ_ F m k b=>x4 F nb) (λ_ _ _ _ _ _=>bd1 λ_=>rfl);have zSd:=IX.cal (P:=l.prog) (w:=w) (base:=base) X G (λ_ F m k b=>xj F nb) (λ_ _ _ _ _ _=>bd2 λ_ _=>rfl);have zTd:=Jy.cal (P:=l.prog) (w:=w) (base:=base) X G (λ_ F m k b=>xM F nb) (λ_ _ _ _ _ _=>bd1 λ_=>rfl);have zCe:=Is.cal (P:=l.prog) (w:=w) (base:=base) X G (λ_ F m k b=>zP F nb rk zOb ztb zzb zPb) (λ_ _ _ _ _ _=>bd1 λ_=>rfl);have zpb:=IJ.cal (P:=l.prog) (w:=w) (base:=base) X G (λ_ F m k b=>sH F nb gk zCe zGc) (λ_ _ _ _ _ _=>bd3 λ_ _ _=>rfl);have zHc:=JL.cal (P:=l.prog) (w:=w) (base:=base) X G (λ_ F m k b=>wl F nb) (λ_ _ _ _ _ _=>bd2 λ_ _=>rfl);have zIc:=JA.cal (P:=l.prog) (w:=w) (base:=base) X G (λ_ F m k b=>wc F nb) (λ_ _ _ _ _ _=>bd4 λ_ _ _ _=>rfl);have zQd:=HJ.cal (P:=l.prog) (w:=w) (base:=base) X G (λ_ F m k b=>xp F nb) (λ_ _ _ _ _ _=>bd3 λ_ _ _=>rfl);have zbc:=Iv.cal (P:=l.prog) (w:=w) (base:=base) X G (λ_ F m k b=>BQ F nb nb.sum zQd) (λ_ _ _ _ _ _=>bd6 λ_ _ _ _ _ _=>rfl);have zDe:=I9.cal (P:=l.prog) (w:=w) (base:=base) X G (λ_ F m k b=>Ac F nb zbc zHc zIc) (λ_ _ _ _ _ _=>bd4 λ_ _ _ _=>rfl);have zUd:=H_.cal (P:=l.prog) (w:=w) (base:=base) X G (λ_ F m k b=>wy F nb zDe) (λ_ _ _ _ _ _=>bd2 λ_ _=>rfl);have zqb:=IU.cal (P:=l.prog) (w:=w) (base:=base) X G (λ_ F m k b=>pJ F nb zLa m k b 60 nofun) (λ_ _ _ _ _ _=>bd2 λ_ _=>rfl);exact EL FL nb zDa zRd zLa zSd zTd zUd zpb zqb yaU ya8 ybb
theorem walk{l:W.OpenLaw}{q:KW}{loose:KY}{XP:(Str->Option Value)->Heap->Prop}{YP:World->Heap->Prop}{d:DefRec}{K:Params->W.Frag}(hn:l.most=some 63)(hdf:d.params.defaults=[])
  (hY:∀(w:K0) (h:Heap),YP w h->(K w.params).In h)
  (F:∀(w:K0) (mg:KS) (fa:Addr) (h:Heap),(K w.params).In h->h.Ns mainGlobals mg->mg d.name=some (.ref fa) ->
   ∃fd:FuncData,(∀(s:KP) (u:Value),BindsTo s fd ⟨[u],[]⟩ [("_law_script",u)])/\∀base:Heap,(K w.params).In base->base.Ns mainGlobals mg->aQ l.prog w (K w.params) mg base bC 109 fa fd ["_law_script"] (tZ (K w.params))) :
  W.WalkO q loose XP YP l.row.toRowW d [] (λf vs=>PySem.call f vs):=
 L2.walk_of (n:=63) (k:=109) (x:="_law_script") (CX:=λ_=>bC) (sp:=λw=>tZ (K w.params)) hn nofun hdf ⟨rfl,nofun,nofun⟩ hY F (λ_ _ a ns hl _ hS=>⟨a,ns,rfl,hS,λ_=>rfl⟩) λ_ _ _ _ _ z=>z
end Q33
open PySem PySem.W PyProof.Rows
local macro_rules | `(tactic| walk_at "kk")=>`(tactic| first | (refine' Q33.fk_mk ?p ?q ?r ?s;(case p=>k_is);(case q=>k_is);(case r=>k_is);(case s=>k_is)) | k_is | kernel_rfl | rfl | decide +kernel)
set_option maxRecDepth 100000 in
set_option maxHeartbeats 0 in
theorem PySem.Challenge.cw_quiltlaw_k33_grown_trees_numbered_holds : PySem.Challenge.rw_quiltlaw_k33_grown_trees_numbered.Holds := by
 w_on;o_law;k_head;(case hw=>w_witness2)
 k_fill
 refine Q33.walk (l:=PySem.Challenge.rw_quiltlaw_k33_grown_trees_numbered) rfl rfl (λw h Y=>PySem.W.kIn_of Y) ?F
 case F=>
  intro w mg fa h KX G hmg
  refine' Q33.all_mk KX G hmg ?_ ?_ ?_ ?_ ?_ ?_ ?_ ?_ ?_ ?_ ?_ ?_ ?_ ?_ ?_ ?_ ?_ ?_ ?_ ?_ ?_ ?_ ?_ ?_ ?_ ?_ ?_ ?_ ?_ ?_ ?_ ?_ ?_ ?_ ?_ ?_ ?_ ?_ ?_ ?_ ?_ ?_ ?_ ?_ ?_ ?_ ?_ ?_ ?_ ?_ ?_ ?_ ?_ ?_ ?_ ?_ ?_ ?_ ?_ ?_ ?_ ?_ ?_ ?_ ?_ ?_ ?_ ?_ ?_ ?_ ?_ ?_ ?_ ?_ ?_ ?_ ?_ ?_ ?_ ?_ ?_ ?_ ?_ ?_ ?_ ?_ ?_ ?_ ?_ ?_ ?_ ?_ ?_ ?_ ?_ ?_ ?_ ?_ ?_ ?_ ?_ ?_ ?_ ?_ ?_ ?_ ?_ ?_ ?_ ?_ ?_ ?_ ?_ ?_ ?_ ?_ ?_ ?_ ?_ ?_ ?_ ?_ ?_ ?_ ?_ ?_ ?_ ?_ ?_ ?_ ?_ ?_ ?_ ?_ ?_ ?_ ?_ ?_ ?_ ?_ ?_ ?_ ?_ ?_ ?_ ?_ ?_ ?_ ?_ ?_ ?_ ?_ ?_ ?_ ?_ ?_ ?_ ?_ ?_ ?_ ?_ ?_ ?_ ?_ ?_ ?_ ?_ ?_ ?_ ?_ ?_ ?_ ?_ ?_ ?_ ?_ ?_ ?_ ?_ ?_ ?_ ?_ ?_ ?_ ?_ ?_ ?_ ?_ ?_ ?_ ?_ ?_ ?_ ?_ ?_ ?_ ?_ ?_ ?_ ?_ ?_ ?_ ?_ ?_ ?_ ?_ ?_ ?_ ?_ ?_ ?_ ?_ ?_ ?_ ?_ ?_ ?_ ?_ ?_ ?_ ?_ ?_ ?_ ?_ ?_ ?_ ?_ ?_ ?_ ?_ ?_ ?_ ?_ ?_ ?_ ?_ ?_ ?_ ?_ ?_ ?_ ?_ ?_ ?_ ?_ ?_ ?_ ?_ ?_ ?_ ?_ ?_ ?_ ?_ ?_ ?_ ?_ ?_ ?_ ?_ ?_ ?_ ?_ ?_ ?_ ?_ ?_ ?_ ?_ ?_ ?_ ?_ ?_ ?_ ?_ ?_ ?_ ?_ ?_ ?_ ?_ ?_ ?_ ?_ ?_ ?_ ?_ ?_ ?_ ?_ ?_ ?_ ?_ ?_ ?_ ?_ ?_ ?_ ?_ ?_ ?_ ?_ ?_ ?_ ?_ ?_ ?_ ?_ ?_ ?_ ?_ ?_ ?_ ?_ ?_ ?_ ?_ ?_ ?_ ?_ ?_ ?_ ?_ ?_ ?_ ?_ ?_ ?_ ?_ ?_ ?_ ?_ ?_ ?_ ?_ ?_ ?_ ?_ ?_ ?_ ?_ ?_ ?_ ?_ ?_ ?_ ?_ ?_ ?_ ?_ ?_ ?_ ?_ ?_ ?_ ?_ ?_ ?_ ?_ ?_ ?_ ?_ ?_ ?_ ?_ ?_ ?_ ?_ ?_ ?_ ?_ ?_
  all_goals (try walk_at "kk")
