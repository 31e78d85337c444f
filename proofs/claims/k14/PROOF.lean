import PyProof.Rows.All
import Wide.All
import OpenK.AllK
import Wide.FinOn
import Lean
import PyProof.EqAt
import PyProof.EqKinds
import PyProof.TupleCall
import PyProof.CollectIter
import PyProof.JoinWalk
import PyProof.StrOps
import PyProof.ListOps
import PyProof.StrLawsJoin
import KE.KRevIter
import PyProof.StrLawsFirst
import PyProof.Rows.StrNews2
import PyProof.StrLawsTight
import PyProof.StrLawsChain
import KE.KIntText
import KE.IntTextLaws
import PyProof.ListStr
import KE.KDictLaws
import KE.KDictList
import PyProof.Rows.SetFrom
import PyProof.FitsReplace
import KE.KEqDict
import PyProof.Rows.SumAny
import PyProof.Rows.CallKwBuiltin
import PyProof.EnumMake
import PyProof.TupleIter
import PyProof.Rows.TupIter
import PyProof.FactsAll.range_2
import PyProof.AutoSeq1
import PySem.Challenge.RW_quiltlaw_k14_first_fault
namespace PySem.W.Fast
def tw15716863424342667264:=0
def tw3785266251249179808:=0
def tw6192643431474447616:=0
def tw12831308226461760768:=0
def tw14160985649286239520:=0
def tw7358586118862303584:=0
def tw3043768435877340544:=0
def tw14671933295783406016:=0
def tw7756055159441844928:=0
def tw13402120013370696448:=0
def tw2315303009362719616:=0
def tw7061283154653515680:=0
def tw8563268680575952001:=0
def tw12476865821013427457:=0
def tw1145869539402340609:=0
def tw10223923816754864417:=0
def tw5044231480258306433:=0
def tw5924034913939816833:=0
def tw16220618754966509985:=0
def tw17307263788195403201:=0
def tw8692611337473067489:=0
def tw9816370083241196033:=0
def tw18040757174316432961:=0
def tw17599425906267106977:=0
def tw1539302209854045857:=0
def tw10725820246176217857:=0
def tw16341228964229406497:=0
def tw15544682555361802113:=0
def tw12629836521122261921:=0
def tw3767928779296403361:=0
def tw3059003689785604033:=0
def tw462656283758357538:=0
def tw13332012688432655394:=0
def tw78646029006169154:=0
def tw17310145444519493762:=0
def tw9508071316186988898:=0
def tw4982332161795586594:=0
def tw1485928688132569666:=0
def tw4018461089507264130:=0
def tw13337509447872194210:=0
def tw15066396950554116866:=0
def tw9438289953099343682:=0
def tw9788663150507103074:=0
def tw1551171302814183298:=0
def tw6552985586070898658:=0
def tw580369533511714851:=0
def tw8559270429738475651:=0
def tw4451133556640590979:=0
def tw6689979693770336547:=0
def tw17003467714466778563:=0
def tw9284734541891575235:=0
def tw14167781732228336163:=0
def tw14591802891374323331:=0
def tw6891131641944510115:=0
def tw6623036988136532835:=0
def tw12641632917216616323:=0
def tw4532804067570235299:=0
def tw14387161421855944740:=0
def tw12905350821752529956:=0
def tw9220836214302282884:=0
def tw15363890110862924932:=0
def tw10426058246207380612:=0
def tw15448471164183455876:=0
def tw7760376534756479140:=0
def tw15665664629717193892:=0
def tw17556233262696357028:=0
def tw10303629612257495268:=0
def tw4039113902766817636:=0
def tw6683495883852284260:=0
def tw8833388646995134820:=0
def tw13700172980550475108:=0
def tw6612650912879836516:=0
def tw5080243254117598596:=0
def tw10132066763241954724:=0
def tw18396926965099905444:=0
def tw9537774648490912164:=0
def tw392090824368884164:=0
def tw6745138553112851940:=0
def tw3747424250772868580:=0
def tw16425466126858479140:=0
def tw15636475284744285764:=0
def tw1639100238777529924:=0
def tw6098689262955594372:=0
def tw15380328056271907620:=0
def tw3104539002873666372:=0
def tw16831748416486947652:=0
def tw11285125003044774788:=0
def tw11036418966065528740:=0
def tw14818543094715291588:=0
def tw15925414121193234437:=0
def tw18093892430825835557:=0
def tw8396923603437672517:=0
def tw16056540432517919813:=0
def tw821100371899611205:=0
def tw11535300357205686341:=0
def tw2143057384216624197:=0
def tw429476780879927397:=0
def tw15838360393917037669:=0
def tw3983892814052815109:=0
def tw887225494672303461:=0
def tw4533353738710684133:=0
def tw5916326690961770053:=0
def tw4377100044125392453:=0
def tw10017900443485891269:=0
def tw1640210903146994437:=0
def tw335760593487324933:=0
def tw11836080613627712325:=0
def tw9344383883545944901:=0
def tw9311911573680928613:=0
def tw13242654140950124421:=0
def tw17668274149058801573:=0
def tw8210025001398182885:=0
def tw15753465251093905381:=0
def tw15947324647119902758:=0
def tw5557399427178028134:=0
def tw1094451716005190758:=0
def tw2608195875904139398:=0
def tw1241144079895173318:=0
def tw10247209014228305126:=0
def tw4558311308243013894:=0
def tw15294524704835987750:=0
def tw13466497309076555110:=0
def tw10444022963036067174:=0
def tw16968854137331959206:=0
def tw7123335599562940870:=0
def tw15762768581738761702:=0
def tw16752685461444887046:=0
def tw4561881433079375398:=0
def tw3173587855888689734:=0
def tw2391137106951886406:=0
def tw13920655983004701318:=0
def tw5292473894550953606:=0
def tw14712220273263494822:=0
def tw3096422316973773542:=0
def tw14324720093659201286:=0
def tw18408666544282158918:=0
def tw9913271816085457798:=0
def tw16458739651202944966:=0
def tw8156758757689264199:=0
def tw8787549241704482919:=0
def tw2359068705051440231:=0
def tw5446300458819395719:=0
def tw2961413993169598631:=0
def tw6153460391222001831:=0
def tw7809849212124022951:=0
def tw4069289078435385543:=0
def tw1767076214409428167:=0
def tw10361342801069332743:=0
def tw14489177480634177863:=0
def tw11295333024683901447:=0
def tw16257550078202433063:=0
def tw3786249175345861287:=0
def tw1417090249038091015:=0
def tw8067484196989662087:=0
def tw13654311327370264487:=0
def tw760202349031697351:=0
def tw12718708061015908295:=0
def tw12120048119274574823:=0
def tw4302264966643870728:=0
def tw579013139381572744:=0
def tw4291544827372124328:=0
def tw10385404543507139912:=0
def tw1194928756561675752:=0
def tw7179581983288526376:=0
def tw15431142762756947496:=0
def tw2875820013345660456:=0
def tw15078156848086619880:=0
def tw14354565866901446376:=0
def tw5790363019790676840:=0
def tw10063684630147844968:=0
def tw7573198299997620104:=0
def tw6584593673944409000:=0
def tw5992422190699074472:=0
def tw12201918175640772520:=0
def tw14764146149559322568:=0
def tw2574835175970365416:=0
def tw12861426631942447113:=0
def tw13902142858766432265:=0
def tw5096582521960807433:=0
def tw10811234591661353993:=0
def tw8931163214933716041:=0
def tw6753983550245535849:=0
def tw9212899988036072553:=0
def tw13159748821354570857:=0
def tw13520502844021991529:=0
def tw12213903691824818313:=0
def tw2510084123338535049:=0
def tw11731384807578152169:=0
def tw17731386757192481129:=0
def tw4295134557292564905:=0
def tw10101163383506813385:=0
def tw4056469253037354441:=0
def tw17651519224218376681:=0
def tw749261194913734153:=0
def tw6871092833247547945:=0
def tw9870023773519533609:=0
def tw8574103548024328969:=0
def tw7362374473098630921:=0
def tw1754051821899420457:=0
def tw2234419049719362377:=0
def tw16489265809891222409:=0
def tw2146392459822341097:=0
def tw18312150333170312202:=0
def tw17787925889415965866:=0
def tw12851852296141338858:=0
def tw7911562532322670890:=0
def tw4301172997606066538:=0
def tw446651663228270954:=0
def tw12160973884238221706:=0
def tw7205625954682443178:=0
def tw13058396249274212842:=0
def tw18110148739015947818:=0
def tw10760992228313756202:=0
def tw8086380674514580074:=0
def tw11854050898311028362:=0
def tw3140975038669271690:=0
def tw10734454713890612906:=0
def tw12209973253332862698:=0
def tw10454275473684906730:=0
def tw15939770502207587050:=0
def tw16213123245317291754:=0
def tw7326466459652051722:=0
def tw1587388965035765610:=0
def tw4913569051022493546:=0
def tw7579240570680915946:=0
def tw11148945649939008523:=0
def tw11272750966445495307:=0
def tw8760837300772841547:=0
def tw762438378671092811:=0
def tw16756290380897973323:=0
def tw2752799034574437675:=0
def tw9062358018088939883:=0
def tw189065931490584043:=0
def tw11547824668463211051:=0
def tw12520041543672824395:=0
def tw43730575226150475:=0
def tw4168198800553072235:=0
def tw1486464626975037131:=0
def tw3817167800368081643:=0
def tw17495055442519871211:=0
def tw9183012198079503083:=0
def tw5337851260271299371:=0
def tw16968793972181169995:=0
def tw5265358597090930539:=0
def tw15095064107150717931:=0
def tw16309370964484604940:=0
def tw14403028680494982188:=0
def tw12567191415321269420:=0
def tw17621847418441427148:=0
def tw16314365158305427692:=0
def tw8211251479454198124:=0
def tw11892523654987734412:=0
def tw15014143303070993836:=0
def tw9873179806633768428:=0
def tw16299817760125446636:=0
def tw3239538438262439436:=0
def tw3127338989525448236:=0
def tw13894377556562268748:=0
def tw18281481575100031660:=0
def tw7117012342265460396:=0
def tw11740086020378618540:=0
def tw4576548333374014220:=0
def tw17317576729238768492:=0
def tw10173037389100807052:=0
def tw16768728971080712108:=0
def tw11298449996996530253:=0
def tw15447196963571821709:=0
def tw8385550882051086509:=0
def tw17663981040042206445:=0
def tw7330132461417363725:=0
def tw8671939542356432141:=0
def tw15953309395409047853:=0
def tw8822469456606294349:=0
def tw8746214904017897837:=0
def tw16017978441551370765:=0
def tw14622334744642341421:=0
def tw17429521568556162637:=0
def tw8706623758276925101:=0
def tw10114789474933290701:=0
def tw1900808937433173773:=0
def tw13536309037178957581:=0
def tw467854619851379533:=0
def tw5707821239133127565:=0
def tw11440391491959973805:=0
def tw15684337860641087437:=0
def tw3350353861275194349:=0
def tw7902786432303866861:=0
def tw10532858535322014734:=0
def tw10801837897623540782:=0
def tw6926152910692291694:=0
def tw17051796468953483438:=0
def tw8158522458458934446:=0
def tw14334339300828128462:=0
def tw6861049391824939246:=0
def tw92125313598960878:=0
def tw746041734897852686:=0
def tw1921838247723947310:=0
def tw13511881653969378670:=0
def tw11713582060916964814:=0
def tw13972966137969752686:=0
def tw1381689666367410798:=0
def tw8554745024992028366:=0
def tw17371058648060813070:=0
def tw7855597182630884174:=0
def tw3967145628663560110:=0
def tw4083075290749376494:=0
def tw4287954427955549231:=0
def tw6410077342363931727:=0
def tw5671431418362604655:=0
def tw327766706273651887:=0
def tw14192101537380241615:=0
def tw17378534402052166927:=0
def tw10557960958307389743:=0
def tw8291583872336083247:=0
def tw18033259544453807439:=0
def tw10727399975712395855:=0
def tw8122713123154540111:=0
def tw13416491288375969359:=0
def tw13688230257535350415:=0
def tw2812259736460399247:=0
def tw3487733455521090255:=0
def tw1813682616598860495:=0
def tw10918964682689644303:=0
def tw14387390045170661231:=0
def tw5154598977774485359:=0
def tw5460160339688431664:=0
def tw6744745020107287696:=0
def tw4684735682319207568:=0
def tw9879692383955295408:=0
def tw17649294132830159024:=0
def tw13816097293282264272:=0
def tw13585776545835293968:=0
def tw8889383797618536720:=0
def tw13702103260839440784:=0
def tw2815952897226771952:=0
def tw12417228276506219024:=0
def tw1016525581223753296:=0
def tw16181203973041751696:=0
def tw10831324871322078864:=0
def tw388849497034880656:=0
def tw9574079282999261840:=0
def tw866653851042094800:=0
def tw15838885439927923408:=0
def tw11736525277802565424:=0
def tw2141288492941566800:=0
def tw5903541354663963472:=0
def tw2510174738218535856:=0
def tw5830650259838881776:=0
def tw5738345943695066096:=0
def tw549650334749322257:=0
def tw8128833681251142737:=0
def tw10702211762720134417:=0
def tw1910960908160717105:=0
def tw6340117955238795601:=0
def tw9542135906637897041:=0
def tw219396569397474673:=0
def tw11517149714714896913:=0
def tw6585528835935885905:=0
def tw5654582823044560497:=0
def tw18303715540089975473:=0
def tw15756873300509544113:=0
def tw9206443636623081169:=0
def tw6024003476632725265:=0
def tw4524731666101324625:=0
def tw4774727090148543345:=0
def tw7318216806889592753:=0
def tw7325166468638629809:=0
def tw8298098780505223186:=0
def tw1412573247493309458:=0
def tw5334805570079002738:=0
def tw7849286774834103474:=0
def tw18117211090222045394:=0
def tw5360604057599280466:=0
def tw2360543896187874642:=0
def tw13223076185139771890:=0
def tw17842415009487034898:=0
def tw2151123578291355154:=0
def tw15156556764262264498:=0
def tw5349151720057947858:=0
def tw7297174639452731090:=0
def tw2967926180428184306:=0
def tw14967556489468575538:=0
def tw2050708664993848146:=0
def tw9587391368970888018:=0
def tw4739541122098011122:=0
def tw17617536337813362707:=0
def tw7157608063118010387:=0
def tw5927842898456551475:=0
def tw2804401517529944115:=0
def tw10550887753218309171:=0
def tw14575758592862418003:=0
def tw2693975833083947123:=0
def tw6897064729031702739:=0
def tw5782612779960680755:=0
def tw4966022050502016339:=0
def tw12990061936951246163:=0
def tw2012508209897611795:=0
def tw832110262411974291:=0
def tw2543432340996858547:=0
def tw11617450158695352051:=0
def tw6678030414200418067:=0
def tw7480051194563398483:=0
def tw1114051804697571187:=0
def tw4140244588539552659:=0
def tw10245780280818364307:=0
def tw14328747991257610195:=0
def tw7666734097388977172:=0
def tw3675086457159546996:=0
def tw17758449207815092468:=0
def tw11805382981571992820:=0
def tw11190372413510966516:=0
def tw18184962539227399444:=0
def tw3323670673442084116:=0
def tw13876420360868612436:=0
def tw3361800438824964436:=0
def tw1457983616509232628:=0
def tw14829222878533932532:=0
def tw13234386927222557204:=0
def tw9891706762737596948:=0
def tw5665306455271770804:=0
def tw14826991654321918644:=0
def tw6983405228420332276:=0
def tw14091296230218452756:=0
def tw8030008820053842772:=0
def tw1206427683996666740:=0
def tw13510763913254761396:=0
def tw3924478554274762773:=0
def tw11800677401071551573:=0
def tw13224276466424925269:=0
def tw11560509971885190261:=0
def tw13641095473574834389:=0
def tw16660763114481327349:=0
def tw12080400184323544309:=0
def tw378742704130139413:=0
def tw1236604839396945173:=0
def tw6060664496291051797:=0
def tw16503165739569654069:=0
def tw5404102718719621493:=0
def tw9544428104306768277:=0
def tw2353373395507598805:=0
def tw3089452725349700085:=0
def tw15175811796322823701:=0
def tw12423160484203346581:=0
def tw11937565090639995541:=0
def tw8127487483582234325:=0
def tw7043363010718349045:=0
def tw13373646229562165077:=0
def tw12561059584079266677:=0
def tw7696518149398818741:=0
def tw17267215599422136470:=0
def tw1723096281681245366:=0
def tw4862937092653999350:=0
def tw18433830252462798166:=0
def tw5262263794881955190:=0
def tw6918265478277030262:=0
def tw2808930248590636470:=0
def tw13175418855926483478:=0
def tw12167637846575909494:=0
def tw4055434464044876502:=0
def tw12352728143113834230:=0
def tw14750232699199464278:=0
def tw5060866174303118262:=0
def tw14323684602682729430:=0
def tw17767575535403599862:=0
def tw16689376830440924215:=0
def tw11928981419565520055:=0
def tw4980693435912110327:=0
def tw6560904478019669335:=0
def tw5865061045613659575:=0
def tw14848536183980403127:=0
def tw1952867303025831415:=0
def tw1555734552107037303:=0
def tw7638581099495791255:=0
def tw2611885867296692919:=0
def tw2454287217950114519:=0
def tw17262788202079365911:=0
def tw17040401893866477495:=0
def tw7722040918831398936:=0
def tw6683503332178455576:=0
def tw746196142446281816:=0
def tw5253962800226907448:=0
def tw6594962870356254104:=0
def tw3027914081962438104:=0
def tw1285030665130086904:=0
def tw18033177992845952536:=0
def tw512926908379992696:=0
def tw5088412242830823032:=0
def tw15370351564469744312:=0
def tw11420214314025707256:=0
def tw15995017421517020984:=0
def tw16284466727671904120:=0
def tw11589053443832626040:=0
def tw9687003156538219512:=0
def tw2973639566231556121:=0
def tw10447620779686951993:=0
def tw18122567002695617753:=0
def tw9872455481606338777:=0
def tw16209098279636582745:=0
def tw15811953602622215577:=0
def tw8065163730106629529:=0
def tw1322755197704932793:=0
def tw5527402195052694009:=0
def tw12374233627525322265:=0
def tw10884153123509921305:=0
def tw1852286465806386745:=0
def tw17740973883610192441:=0
def tw1391379424887573113:=0
def tw17865989789936288409:=0
def tw181804870203650745:=0
def tw16109623110693502649:=0
def tw3053378745129574073:=0
def tw15941493997866117849:=0
def tw13200811555097137913:=0
def tw9716660713326774137:=0
def tw2736955861109222297:=0
def tw14280810391251220409:=0
def tw2654223963586074585:=0
def tw13214904538123971577:=0
def tw3921426557993176090:=0
def tw2596573751688150106:=0
def tw18375237233443324058:=0
def tw7052850460137707770:=0
def tw11861499625051479290:=0
def tw13900971624179681594:=0
def tw17840903099866264890:=0
def tw18055631872298985818:=0
def tw17035734500599337402:=0
def tw6791725460305885658:=0
def tw2518424015418891770:=0
def tw13109415433669484026:=0
def tw16626534821411328634:=0
def tw17931479440199459450:=0
def tw11664430470099980026:=0
def tw11427061505121211130:=0
def tw12376481501879568154:=0
def tw14675815415799188250:=0
def tw10354020073578558298:=0
def tw12772526817731623802:=0
def tw9854352008432310170:=0
def tw3540698681785586618:=0
def tw8891249073848230842:=0
def tw6922797004437731290:=0
def tw13710011297085556763:=0
def tw6971527492158653531:=0
def tw16805095435372271707:=0
def tw11256329086884180091:=0
def tw4679368150548858011:=0
def tw16515725983190014171:=0
def tw15579465073754823963:=0
def tw9235144428465880443:=0
def tw17037142826385517051:=0
def tw2419037233996963355:=0
def tw2295547627562951259:=0
def tw6964678137456406107:=0
def tw2741223510397465339:=0
def tw11915766214331813627:=0
def tw4720766128722534139:=0
def tw11006632678421438235:=0
def tw15236621349474271067:=0
def tw235267653094797147:=0
def tw9284710424257134555:=0
def tw4517639567537225852:=0
def tw5900917624340873372:=0
def tw12956367508250988764:=0
def tw4554235781571850556:=0
def tw16853695622018554172:=0
def tw11565217494896734524:=0
def tw7435939050479029596:=0
def tw12116153756513388924:=0
def tw16802082614660123004:=0
def tw17229035127497239996:=0
def tw12713030997451794940:=0
def tw1955579765671161372:=0
def tw15033486139851098684:=0
def tw13948273757216262716:=0
def tw14838022131576015516:=0
def tw6753730025742328540:=0
def tw15633695473473986268:=0
def tw1617190583199933180:=0
def tw17335673422814664540:=0
def tw123022358635026268:=0
def tw17435980396657815388:=0
def tw7194343148386293660:=0
def tw8158917190291760124:=0
def tw12255836139279840252:=0
def tw3539250987592281181:=0
def tw18319705431617270877:=0
def tw17290588244174242973:=0
def tw5678980500738795741:=0
def tw16133345308247709981:=0
def tw7053693854737503677:=0
def tw5458921678862789053:=0
def tw8242868408626944477:=0
def tw14639786007680002653:=0
def tw10439894022284627549:=0
def tw17639525378581255773:=0
def tw5143013387262627517:=0
def tw14044905802125778621:=0
def tw6948639609409080029:=0
def tw16515846493636770557:=0
def tw16052775610010617629:=0
def tw3012692445423255357:=0
def tw2216811835249208157:=0
def tw5372378393708071805:=0
def tw2694886812538542174:=0
def tw14927188347698343198:=0
def tw8284136323499673982:=0
def tw16422180141780291998:=0
def tw13153867348227552990:=0
def tw10660875153712212766:=0
def tw4433941844082281278:=0
def tw5339564443976131422:=0
def tw12259609459280452542:=0
def tw15420607254933360606:=0
def tw7166487735303936031:=0
def tw4920607224280463391:=0
def tw13925808427032696895:=0
def tw14914305463837510751:=0
def tw8935858443921533055:=0
def tw6465737743423593727:=0
def tw6766043530836748543:=0
def tw1451202397060851999:=0
def tw13177846571163058655:=0
def tw6870148360227544575:=0
def tw5573925309308497407:=0
def tw5222470028618237471:=0
def tw2593264774414275199:=0
def tw14954000694662819551:=0
def tw8666439076829556479:=0
def tw7073533943655368479:=0
def tw9831759198364603167:=0
def tw18414328065393279775:=0
def tw10536342259699243839:=0
def tw9525902012458780575:=0
def tw8975022272260592607:=0
def tw14268679284989888511:=0
def tw4468539022558637993:=0
end PySem.W.Fast
set_option linter.all false
set_option Elab.async false
set_option maxRecDepth 100000
abbrev Hj:=@List.getElem?_eq_getElem
abbrev Hk:=@List.getElem?_eq_some_iff
abbrev Hl:=@PySem.Heap.get?_push_of_some
abbrev Hm:=@List.length_map
abbrev Hn:=@List.mem_singleton
abbrev Ho:=@List.getElem?_map
abbrev Hq:=@List.mem_of_getElem?
abbrev Hr:=@PySem.Heap.get?_update_other
abbrev Hs:=@PySem.Heap.get?_push_size
abbrev Ht:=@List.size_toArray
abbrev Hu:=@List.getElem_mem
abbrev Hv:=@Int.toNat_natCast
abbrev Hw:=@PySem.Heap.get?_update_self
abbrev Hx:=@List.length_cons
abbrev Hy:=@List.map_append
abbrev Hz:=@List.mem_append
abbrev HE:=@List.map_map
abbrev HF:=@List.mem_cons
abbrev HH:=@List.mem_cons_of_mem
abbrev HI:=@List.length_reverse
abbrev HJ:=@Nat.lt_of_lt_of_le
abbrev HK:=@Nat.ne_of_lt
abbrev HL:=@List.getElem?_append_right
abbrev HM:=@List.getElem?_append_left
abbrev HN:=@List.length_append
abbrev HP:=@Nat.le_refl
abbrev HQ:=@Nat.zero_le
abbrev HR:=@Bool.false_ne_true
abbrev HS:=@PySem.Heap.lt_size
abbrev HU:=@Option.map_eq_some_iff
abbrev HV:=@List.getElem?_cons_succ
abbrev HW:=@List.map_cons
abbrev HX:=@List.reverse_cons
abbrev HY:=@Nat.le_trans
abbrev HZ:=@Nat.lt_irrefl
abbrev H_:=@Nat.lt_succ_self
abbrev Ia:=@List.append_nil
abbrev Ib:=@List.getElem?_set_self
abbrev Ic:=@List.take_length
abbrev Ie:=@List.length_take
abbrev Ig:=@List.take_succ
abbrev Ih:=@Nat.lt_of_le_of_lt
abbrev Ii:=@List.length_eq_zero_iff
abbrev Ij:=@List.mem_map
abbrev Ik:=@List.all_eq_true
abbrev Il:=@List.getElem_toArray
abbrev Io:=@List.nil_append
abbrev Iq:=@List.length_set
abbrev Ir:=@Int.emod_nonneg
abbrev Iu:=@Int.emod_lt_of_pos
abbrev Iv:=@Int.toNat_of_nonneg
abbrev Iw:=@Nat.min_eq_left
abbrev Ix:=@List.take_zero
abbrev Iy:=@List.drop_zero
abbrev Iz:=@List.concat_eq_append
namespace L2
open PySem PySem.Spec PyProof.Rows
noncomputable abbrev gs:=Sum Int Str
noncomputable def qW:gs->Value->Bool
 | .inl k,v=>Value.isInt k v
 | .inr x,v=>Value.isStrOf x v
noncomputable def Fs(w:World):gs->Int
 | .inl k=>hashInt k
 | .inr x=>hashStr w x
theorem bT:∀{k:gs} {v:Value},qW k v=true->(∃i t,k=Sum.inl i/\v=Value.int i t)\/(∃x t,k=Sum.inr x/\v=Value.str x t)
 | .inl i,v,h=>by
  obtain⟨t,e⟩:=Value.isInt_shape (k:=i) (v:=v) h;exact .inl ⟨i,t,rfl,e⟩
 | .inr x,v,h=>by
  obtain⟨t,e⟩:=Value.isStrOf_shape (x:=x) (v:=v) h;exact .inr ⟨x,t,rfl,e⟩
theorem xj(i:Int)(t:Tok):qW (.inl i) (.int i t)=true:=by simp[qW,Value.isInt]
theorem w9(x:Str)(t:Tok):qW (.inr x) (.str x t)=true:=by simp[qW,Value.isStrOf]
theorem CI(a b:Int):decide ((Sum.inl a:gs)=Sum.inl b)=(a==b):=by
 by_cases e:a=b
 ·subst e;simp
 ·have h:¬ (Sum.inl a:gs)=Sum.inl b:=fun q=>e (Sum.inl.inj q)
  rw[decide_eq_false h];exact(beq_eq_false_iff_ne.mpr e).symm
theorem Cr(a b:Str):decide ((Sum.inr a:gs)=Sum.inr b)=decide (a=b):=by
 by_cases e:a=b
 ·subst e;simp
 ·have h:¬ (Sum.inr a:gs)=Sum.inr b:=fun q=>e (Sum.inr.inj q)
  rw[decide_eq_false h,decide_eq_false e]
theorem Cc(a:Int)(b:Str):decide ((Sum.inl a:gs)=Sum.inr b)=false:=decide_eq_false (fun q=>nomatch q)
theorem CO(a:Str)(b:Int):decide ((Sum.inr a:gs)=Sum.inl b)=false:=decide_eq_false (fun q=>nomatch q)
noncomputable def bW(prog:Program)(w:World):PySem.KeyKind prog w gs where
 is:=qW
 hash:=Fs w
 inj:=fun v a b ha hb=>by
  rcases bT ha with⟨i,t,rfl,rfl⟩ | ⟨x,t,rfl,rfl⟩
  ·rcases bT hb with⟨j,u,rfl,e⟩ | ⟨y,u,rfl,e⟩
   ·injection e with e1 _;rw[e1]
   ·exact nomatch e
  ·rcases bT hb with⟨j,u,rfl,e⟩ | ⟨y,u,rfl,e⟩
   ·exact nomatch e
   ·injection e with e1 _;rw[e1]
 byValue:=fun k v h=>by
  rcases bT h with⟨i,t,rfl,rfl⟩ | ⟨x,t,rfl,rfl⟩<;>rfl
 pyHash:=fun hv h=>by
  rcases bT hv with⟨i,t,rfl,rfl⟩ | ⟨x,t,rfl,rfl⟩
  ·exact wpAny_pyHash_int h
  ·exact wpAny_pyHash_str h
 eqBool:=fun hu hv h=>by
  rcases bT hu with⟨i,t,rfl,rfl⟩ | ⟨x,t,rfl,rfl⟩
  ·rcases bT hv with⟨j,u,rfl,rfl⟩ | ⟨y,u,rfl,rfl⟩
   ·rw[CI]at h;exact wpAny_eqBool_int h
   ·rw[Cc]at h;exact SeqAt.EqAt.int_str i t y u _ _ _ _ h
  ·rcases bT hv with⟨j,u,rfl,rfl⟩ | ⟨y,u,rfl,rfl⟩
   ·rw[CO]at h;exact SeqAt.EqAt.str_int x t j u _ _ _ _ h
   ·rw[Cr]at h;exact wpAny_eqBool_str h
 «strs»:=fun k x t v h=>by
  rcases bT h with⟨i,u,rfl,e⟩ | ⟨y,u,rfl,e⟩
  ·exact nomatch e
  ·injection e with e1 _
   subst e1;cases v<;>rfl
theorem uR(prog:Program)(w:World)(i:Int)(t:Tok):(bW prog w).is (.inl i) (.int i t)=true:=xj i t
theorem uj(prog:Program)(w:World)(x:Str)(t:Tok):(bW prog w).is (.inr x) (.str x t)=true:=w9 x t
inductive V where
 |non | bl (b:Bool) | int (i:Int) | str (x:Str) | byt (b:Array UInt8) | flt (b:UInt64) | ref (a:Addr) | ty (n:String)
 deriving DecidableEq
noncomputable def bq:V->Value->Prop
 | .non,u=>u=Value.none
 | .bl b,u=>u=Value.bool b
 | .int i,u=>∃t,u=Value.int i t
 | .str x,u=>∃t,u=Value.str x t
 | .byt b,u=>∃t,u=Value.bytes b t
 | .flt b,u=>∃t,u=Value.float b t
 | .ref a,u=>u=Value.ref a
 | .ty n,u=>u=Value.type n
noncomputable abbrev aZ:List V->List Value->Prop:=Paired bq
theorem aZ.length{xs:List V}{us:List Value}(r:aZ xs us):xs.length=us.length:=Paired.length r
theorem aZ.get:∀{xs:List V} {us:List Value} {i:Nat} {x:V},aZ xs us->xs[i]?=some x->∃u,us[i]?=some u/\bq x u
 |_,_,_,_,.nil,e=>by simp at e
 |_,_,0,_,.cons r _,e=>by simp at e;subst e;exact⟨_,rfl,r⟩
 |_,_,i+1,x,.cons _ t,e=>by
  obtain⟨u,h1,h2⟩:=aZ.get (i:=i) (x:=x) t (by simpa using e);exact⟨u,by simpa using h1,h2⟩
theorem aZ.set{x:V}{u:Value}(r:bq x u):∀{xs:List V} {us:List Value} (i:Nat),aZ xs us->aZ (xs.set i x) (us.set i u)
 |_,_,_,.nil=>.nil
 |_,_,0,.cons _ t=>.cons r t
 |_,_,i+1,.cons q t=>.cons q (aZ.set r i t)
theorem aZ.append:∀{xs ys:List V} {us ws:List Value},aZ xs us->aZ ys ws->aZ (xs++ys) (us++ws)
 |_,_,_,_,.nil,s=>s
 |_,_,_,_,.cons r t,s=>.cons r (aZ.append t s)
theorem aZ.take:∀{xs:List V} {us:List Value} (n:Nat),aZ xs us->aZ (xs.take n) (us.take n)
 |_,_,0,_=>.nil
 |_,_,_+1,.nil=>.nil
 |_,_,n+1,.cons r t=>.cons r (aZ.take n t)
theorem aZ.drop:∀{xs:List V} {us:List Value} (n:Nat),aZ xs us->aZ (xs.drop n) (us.drop n)
 |_,_,0,r=>r
 |_,_,_+1,.nil=>.nil
 |_,_,n+1,.cons _ t=>aZ.drop n t
noncomputable def m5:Option V->Option Value->Prop
 |some v,some u=>bq v u
 |none,none=>True
 |_,_=>False
noncomputable def KV{κ:Type}:List (κ×V)->List (κ×Value)->Prop:=Paired fun(p:κ×V) (q:κ×Value)=>p.1=q.1/\bq p.2 q.2
noncomputable def kV:gs->V
 | .inl i=>.int i
 | .inr x=>.str x
inductive HO where
  |lst (xs:List V)
  |tup (xs:List V)
  |dK (kvs:List (gs×V)) | dT (kvs:List (List gs×V))
  |set(S:Int->Bool) (n:Nat)
  |ins (C dx:Addr) (fs:List (Str×V))
  |own (x:Addr)
  |xd (fs:List (Str×V))
  |met (f x:Addr)
  |rng (lo hi:Int)
  |frz (o:Obj) (u:HO)
  |tbl (ps:Array Value)
  |ext (φ:Heap->Prop)
noncomputable abbrev Hp:=Addr->Option HO
noncomputable def aB(H:Hp)(a:Addr)(o:HO):Hp:=fun b=>if b=a then some o else H b
theorem ac{H:Hp}{a:Addr}{o:HO}:aB H a o a=some o:=by unfold aB;rw[if_pos rfl]
theorem ai{H:Hp}{a b:Addr}{o:HO}(h:b≠a):aB H a o b=H b:=by unfold aB;rw[if_neg h]
theorem lZ{H:Hp}{a:Addr}{o u:HO}:aB (aB H a o) a u=aB H a u:=by
 funext b;unfold aB;split<;>rfl
theorem aG{H:Hp}{a b:Addr}{o:HO}(h:H a=some o)(h':H b=none):a≠b:=by
 intro e;subst e;rw[h]at h';cases h'
section
variable (P:Program)(w:World)
noncomputable def bz(H:Hp)(h:Heap)(a:Addr):HO->Prop
 | .lst xs=>xs.length<=sizeLine/\∃(its:List Value) (n:Nat),aZ xs its/\h.get? a=some {cls:=.type "list",data:=.seq its.toArray n}
 | .tup xs=>xs.length<=sizeLine/\∃its:List Value,aZ xs its/\IsTup h a its.toArray
 | .dK kvs=>kvs.length<=sizeLine/\(a==sysModules)=false/\∃vs,KV kvs vs/\h.DictOf (bW P w) a vs
 | .dT kvs=>kvs.length<=sizeLine/\(a==sysModules)=false/\∃xs:List (List gs×Addr×Value),
   Paired (fun(p:List gs×V) (q:List gs×Addr×Value)=>p.1=q.1/\H q.2.1=some (.tup (p.1.map kV))/\bq p.2 q.2.2) kvs xs /\
   ∃o es ep,h.get? a=some o/\o.ExactDict/\o.data=.dict es ep/\es.toList=xs.map (entryOfKey (tupleKind (bW P w)))/\(xs.map (·.1)).Nodup
 | .set S n=>h.SetOf (intKind P w) a S n
 | .ins C dx fs=>H dx=some (.own a)/\fs.length<=1000/\dx≠a/\h.get? a=some (PySem.W.instObj C dx) /\
   ∃mA,h.Ns1 dx mA/\(∀f,m5 (fs.lookup f) (mA f))/\PySem.Within mA (fs.map (·.1))
 | .own _=>∃o,h.get? a=some o
 | .xd fs=>∃mA,h.Ns1 a mA/\∀f,m5 (fs.lookup f) (mA f)
 | .rng lo hi=>∃t u v,h.get? a=some {cls:=.type "range",data:=.fields #[.int lo t,.int hi u,.int 1 v]}
 | .frz o u=>h.get? a=some o/\bz H h a u
 | .tbl ps=>h.get? a=some {cls:=.none,data:=.fields ps}
 | .met f x=>h.get? a=some (PySem.W.methodObj (.ref f) (.ref x))
 | .ext φ=>φ h/\(∃o,h.get? a=some o)/\∀h1 h2:Heap,φ h1->(∀o,h1.get? a=some o->h2.get? a=some o)->φ h2
noncomputable def kh(H:Hp)(h:Heap):Prop:=∀a o,H a=some o->bz P w H h a o
end
section
variable {P:Program}{w:World}{H H':Hp}{h h':Heap}{a:Addr}{o:HO}
theorem bz.lt(x:bz P w H h a o):a<h.objs.size:=by
 cases o with
 |lst xs=>obtain⟨_,_,_,_,e⟩:=x;exact HS e
 |tup xs=>obtain⟨_,_,_,p⟩:=x;exact p.lt
 |dK kvs=>obtain⟨_,_,_,_,o,_,_,e,_⟩:=x;exact HS e
 |dT kvs=>obtain⟨_,_,_,_,o,_,_,e,_⟩:=x;exact HS e
 |set S n=>obtain⟨o,_,_,_,e,_⟩:=x;exact HS e
 |ins C dx fs=>obtain⟨_,_,_,e,_⟩:=x;exact HS e
 |own y=>obtain⟨_,e⟩:=x;exact HS e
 |xd fs=>obtain⟨_,⟨_,_,_,e,_⟩,_⟩:=x;exact HS e
 |rng lo hi=>obtain⟨_,_,_,e⟩:=x;exact HS e
 |frz ob u=>obtain⟨e,_⟩:=x;exact HS e
 |tbl ps=>exact HS (show h.get? a=some _ from x)
 |met f y=>exact HS (show h.get? a=some _ from x)
 |ext φ=>obtain⟨_,⟨_,e⟩,_⟩:=x;exact HS e
theorem Paired.mapP{α β:Type}{F G:α->β->Prop}:∀{l₁:List α} {l₂:List β},Paired F l₁ l₂->(∀a b,F a b->G a b)->Paired G l₁ l₂
 |_,_,.nil,_=>.nil
 |_,_,.cons r t,f=>.cons (f _ _ r) (Paired.mapP t f)
theorem bz.stay(x:bz P w H h a o)(k:∀b u,(b=a\/H b=some (.own a))->h.get? b=some u->h'.get? b=some u)
  (ho:∀b,H b=some (.own a)->H' b=some (.own a)) (ht:∀b xs,H b=some (.tup xs)->H' b=some (.tup xs)):bz P w H' h' a o:=by
 induction o with
 |lst xs=>obtain⟨z,its,n,r,e⟩:=x;exact⟨z,its,n,r,k _ _ (.inl rfl) e⟩
 |tup xs=>obtain⟨z,its,r,ob,e,c⟩:=x;exact⟨z,its,r,ob,k _ _ (.inl rfl) e,c⟩
 |dK kvs=>obtain⟨z,y,vs,r,ob,es,ep,e,c⟩:=x;exact⟨z,y,vs,r,ob,es,ep,k _ _ (.inl rfl) e,c⟩
 |dT kvs=>
  obtain⟨z,y,xs,r,ob,es,ep,e,c⟩:=x;exact⟨z,y,xs,Paired.mapP r fun p q z=>⟨z.1,ht _ _ z.2.1,z.2.2⟩,ob,es,ep,k _ _ (.inl rfl) e,c⟩
 |set S n=>obtain⟨ob,es,ep,t,e,c⟩:=x;exact⟨ob,es,ep,t,k _ _ (.inl rfl) e,c⟩
 |ins C dx fs=>
  obtain⟨d,z,ne,e,mA,⟨od,es,ep,e2,c⟩,r⟩:=x;exact⟨ho _ d,z,ne,k _ _ (.inl rfl) e,mA,⟨od,es,ep,k _ _ (.inr d) e2,c⟩,r⟩
 |own y=>obtain⟨ob,e⟩:=x;exact⟨ob,k _ _ (.inl rfl) e⟩
 |xd fs=>obtain⟨mA,⟨od,es,ep,e,c⟩,r⟩:=x;exact⟨mA,⟨od,es,ep,k _ _ (.inl rfl) e,c⟩,r⟩
 |rng lo hi=>obtain⟨t,u,v,e⟩:=x;exact⟨t,u,v,k _ _ (.inl rfl) e⟩
 |frz ob u ih=>obtain⟨e,q⟩:=x;exact⟨k _ _ (.inl rfl) e,ih q⟩
 |tbl ps=>
  have e:h.get? a=some {cls:=.none,data:=.fields ps}:=x;show h'.get? a=some {cls:=.none,data:=.fields ps};exact k a _ (.inl rfl) e
 |met f y=>
  have e:h.get? a=some (PySem.W.methodObj (.ref f) (.ref y)):=x;show h'.get? a=some (PySem.W.methodObj (.ref f) (.ref y));exact k a _ (.inl rfl) e
 |ext φ=>obtain⟨p,⟨o,e⟩,st⟩:=x;exact⟨st _ _ p fun o q=>k _ _ (.inl rfl) q,⟨o,k _ _ (.inl rfl) e⟩,st⟩
theorem kh.lt(x:kh P w H h)(e:H a=some o):a<h.objs.size:=(x a o e).lt
theorem kh.fresh(x:kh P w H h)(e:h.objs.size<=a):H a=none:=by
 cases q:H a with
 |none=>rfl
 |some u=>exact absurd (HJ (x.lt q) e) (HZ _)
theorem kh.kept(x:kh P w H h)(k:∀b u,h.get? b=some u->h'.get? b=some u):kh P w H h':=fun a o e=>
 (x a o e).stay (fun b u _ q=>k b u q) (fun _ q=>q) fun _ _ q=>q
theorem kh.laid(x:kh P w H h)(k:∀b u,h.get? b=some u->h'.get? b=some u)(hp:h.objs.size<=a)(new:bz P w (aB H a o) h' a o):kh P w (aB H a o) h':=fun b u e=>by
 have hn:=x.fresh hp
 by_cases hb:b=a
 ·subst hb;rw[ac]at e;cases e;exact new
 ·rw[ai hb]at e
  exact(x b u e).stay (fun c v _ q=>k c v q) (fun c q=>by rw[ai (aG q hn)];exact q) fun c xs q=>by rw[ai (aG q hn)];exact q
end
noncomputable def Rd(H:Hp)(a:Addr)(u:HO):Prop:=H a=some u\/∃o,H a=some (.frz o u)
theorem Rd.ok{P:Program}{w:World}{H:Hp}{h:Heap}{a:Addr}{u:HO}(r:Rd H a u)(x:kh P w H h):bz P w H h a u:=by
 rcases r with r | ⟨o,r⟩
 ·exact x a u r
 ·obtain⟨_,q⟩:=x a _ r
  exact q
noncomputable def DN:Option HO->Prop
 |some (.lst _)=>True
 |some (.dK _)=>True
 |some (.dT _)=>True
 |some (.set _ _)=>True
 |some (.ins _ _ _)=>True
 |some (.ext _)=>True
 |_=>False
section
variable {P:Program}{w:World}{H:Hp}{h h':Heap}{x e:Addr}{o':HO}
theorem kh.write(ok:kh P w H h)(mu:DN (H x))(he:e=x\/H e=some (.own x))(k:∀b u,b≠e->h.get? b=some u->h'.get? b=some u)(heo:∃u,h'.get? e=some u)
  (new:bz P w (aB H x o') h' x o'):kh P w (aB H x o') h':=fun b u q=>by
 have nown:∀c y,H c=some (.own y)->c≠x:=fun c y r z=>by subst z;rw[r]at mu;exact mu
 have ntup:∀c xs,H c=some (.tup xs)->c≠x:=fun c xs r z=>by subst z;rw[r]at mu;exact mu
 by_cases hb:b=x
 ·subst hb;rw[ac]at q;cases q;exact new
 ·rw[ai hb]at q
  by_cases hbe:b=e
  ·have q':H b=some (.own x):=by
    rcases he with z | z
    ·exact absurd (hbe.trans z) hb
    ·rw[hbe];exact z
   rw[q]at q';cases q'
   obtain⟨v,hv⟩:=heo;exact⟨v,by rw[hbe];exact hv⟩
  ·refine(ok b u q).stay (fun c v hc r=>k c v ?_ r) (fun c r=>by rw[ai (nown c b r)];exact r) fun c xs r=>by rw[ai (ntup c xs r)];exact r
   rcases hc with rfl | hc
   ·exact hbe
   ·rintro rfl
    rcases he with z | z
    ·exact nown c b hc z
    ·rw[hc]at z;cases z;exact hb rfl
end
structure Un(fs ex:List Addr)(H H':Hp)(h h':Heap):Prop where
 keep:∀b o,h.get? b=some o->H b=none->b∉fs->b∉ex->h'.get? b=some o
 slot:∀b o,h.get? b=some o->H b=none->b∈fs->b∉ex->∃sl,h'.get? b=some {o with slots:=sl}
 free:∀b o,h.get? b=some o->H b=none->b∉ex->H' b=none
 there:∀b o,h.get? b=some o->b∉ex->∃o',h'.get? b=some o'
 tups:∀b xs,H b=some (.tup xs)->H' b=some (.tup xs)
 frzs:∀b o u,H b=some (.frz o u)->H' b=some (.frz o u)
 tbls:∀b ps,H b=some (.tbl ps)->∃more,H' b=some (.tbl (ps++more))
section
variable {fs fs' ex ex':List Addr}{H H1 H2:Hp}{h h1 h2 h':Heap}{a x e:Addr}{o:HO}
theorem Un.any(u:Un fs ex H H1 h h1){b:Addr}{ob:Obj}(q:h.get? b=some ob)(n:H b=none)(hx:b∉ex):∃sl,h1.get? b=some {ob with slots:=sl}:=by
 by_cases hb:b∈fs
 ·exact u.slot b ob q n hb hx
 ·exact⟨ob.slots,u.keep b ob q n hb hx⟩
theorem Un.kept(k:∀b u,h.get? b=some u->h'.get? b=some u):Un fs ex H H h h':=
 ⟨fun b ob q _ _ _=>k b ob q,fun b ob q _ _ _=>⟨ob.slots,k b ob q⟩,fun _ _ _ n _=>n,fun b ob q _=>⟨ob,k b ob q⟩,fun _ _ q=>q,fun _ _ _ q=>q,fun _ ps q=>⟨#[],by rw[q];simp⟩⟩
theorem Un.refl:Un fs ex H H h h:=Un.kept fun _ _ q=>q
theorem Un.laid(k:∀b u,h.get? b=some u->h'.get? b=some u)(hp:h.objs.size<=a)(hn:H a=none):Un fs ex H (aB H a o) h h' where
 keep:=fun b u q _ _ _=>k b u q
 slot:=fun b u q _ _ _=>⟨u.slots,k b u q⟩
 free:=fun b u q n _=>by rw[ai (HK (HJ (HS q) hp))];exact n
 there:=fun b u q _=>⟨u,k b u q⟩
 tups:=fun b xs q=>by rw[ai (aG q hn)];exact q
 frzs:=fun b u xs q=>by rw[ai (aG q hn)];exact q
 tbls:=fun b ps q=>⟨#[],by rw[ai (aG q hn),q];simp⟩
theorem Un.write(mu:DN (H x))(he:e=x\/H e=some (.own x))(k:∀b u,b≠e->h.get? b=some u->h'.get? b=some u)(heo:∃u,h'.get? e=some u):Un fs ex H (aB H x o) h h':=by
 have hx:∀b,H b=none->b≠x:=fun b n z=>by subst z;rw[n]at mu;exact mu
 have hb:∀b,H b=none->b≠e:=fun b n z=>by
  subst z;rcases he with r | r
  ·exact hx b n r
  ·rw[n]at r;cases r
 have hm:∀b u,H b=some u->¬ DN (some u)->b≠x:=fun b u q nm z=>by subst z;rw[q]at mu;exact nm mu
 refine⟨fun b u q n _ _=>k b u (hb b n) q,fun b u q n _ _=>⟨u.slots,k b u (hb b n) q⟩,fun b u q n _=>by rw[ai (hx b n)];exact n,fun b u q _=>?_,
  fun b xs q=>by rw[ai (hm b _ q fun z=>z)];exact q,fun b u xs q=>by rw[ai (hm b _ q fun z=>z)];exact q,fun b ps q=>⟨#[],by rw[ai (hm b _ q fun z=>z),q];simp⟩⟩
 by_cases hbe:b=e
 ·subst hbe;exact heo
 ·exact⟨u,k b u hbe q⟩
end
noncomputable def D0(h:Heap)(H:Hp):List Addr:=(List.range h.objs.size).filter fun a=>(H a).isSome
noncomputable def sI(h:Heap)(H:Hp):Heap:=PySem.W.hideAll h (D0 h H)
theorem xF(h:Heap)(H:Hp):(sI h H).objs.size=h.objs.size:=PySem.W.hideAll_size _ _
theorem yQ{h:Heap}{H:Hp}{b:Addr}{o:Obj}(e:h.get? b=some o)(n:H b=none):(sI h H).get? b=some o:=
 PySem.W.hideAll_get _ e fun hm=>by
  have q:(H b).isSome=true:=(List.mem_filter.mp hm).2;rw[n]at q;simp at q
theorem BI{h:Heap}{H:Hp}{b:Addr}{o:Obj}(e:(sI h H).get? b=some o):h.get? b=some o/\H b=none:=by
 have e':h.get? b=some o:=PySem.W.of_hideAll (D0 h H) e;refine⟨e',?_⟩;cases q:H b with
 |none=>rfl
 |some x=>
  have hm:b∈D0 h H:=List.mem_filter.mpr ⟨List.mem_range.mpr (HS e'),by simp[q]⟩;have z:(sI h H).get? b=none:=PySem.W.hideAll_none (D0 h H) hm;rw[z]at e;cases e
noncomputable def AW(g h:Heap)(L:Addr):List (Addr×Obj):=(List.range h.objs.size).filterMap fun a=>if a=L\/(g.get? a).isSome=true then none else(h.get? a).map fun o=>(a,o)
noncomputable def bt(g h:Heap)(L d:Addr):List (Addr×Obj):=(AW g h L).filter fun p=>decide (p.1≠d)
structure Mod(K:PySem.W.Frag)(mg:Str->Option Value)(base:Heap):Prop where
 kin:K.In base
 glob:base.Ns mainGlobals mg
 blt:∃mb,base.Ns builtinsNs mb/\∀x:Str,x≠"__name__"->mb x=bootBuiltins x
 nolimit:base.NoLimit
structure Cx where
 prog:Program
 w:World
 K:PySem.W.Frag
 mg:Str->Option Value
 base:Heap
 A:Around
 N:List Str
 s₀:Shared
 H₀:Hp
 env:Env
 outer:List Env
 stack:List Env
 ex:List Addr
 fn:Str->Bool
 calm:Bool
 pn:List (Addr×Obj)
 xe:Value->Shared->Prop
noncomputable def il(l:List Env):List Addr:=l.filterMap (·.frame)
noncomputable abbrev Cx.fs(X:Cx):List Addr:=il X.outer
noncomputable def D4(sc:Scope)(x:Str):Prop:=sc.names.lookup x=some .local\/sc.names.lookup x=some .cell\/sc.names.lookup x=some .free
noncomputable def Loc(sc:Scope)(x:Str):Prop:=sc.names.lookup x=some .local\/sc.names.lookup x=some .cell
noncomputable def Ec(env:Env)(h:Heap)(m:Str->Option Value)(x:Str)(u:Value):Prop:=
 (env.kindOf x=some .local/\m x=some u)\/((env.kindOf x=some .cell\/env.kindOf x=some .free)/\∃c,env.cells.lookup x=some c/\h.IsCell c (some u))
structure Cx.Ok(X:Cx):Prop where
 mod:Mod X.K X.mg X.base
 kind:X.env.scope.kind=.function
 glob:X.env.globals=mainGlobals
 blt:X.env.builtins=builtinsNs
 above:X.s₀.heap.objs.size<=X.env.locals
 inj:∀x y c,X.env.cells.lookup x=some c->X.env.cells.lookup y=some c->x=y
 has:∀x,(X.env.kindOf x=some .cell\/X.env.kindOf x=some .free)->∃c,X.env.cells.lookup x=some c
 cab:∀x c,X.fn x=true->X.env.cells.lookup x=some c->X.s₀.heap.objs.size<=c
 hd:X.calm=true->X.A.handled=none
 frames:X.A.frames=some X.stack
 stk:X.stack=X.outer\/(X.stack=X.env::X.outer/\X.env.frame=some X.env.locals)
 exf:∀b∈X.ex,b≠X.env.locals/\∀x c,X.env.cells.lookup x=some c->c≠b
 bs:∀b o,X.base.get? b=some o->X.s₀.heap.get? b=some o/\X.H₀ b=none
 bsz:X.base.objs.size<=X.s₀.heap.objs.size
 noex:∀b o,X.base.get? b=some o->b∉X.ex
 exfs:∀b∈X.ex,b∉X.fs
 funs:X.s₀.heap.FunFrames X.base X.outer
 frf:∀b∈X.fs,X.H₀ b=none
structure Inv(X:Cx)(pins:List (Addr×Obj))(σ:List (Option V))(H:Hp)(s:Shared):Prop where
 ok:X.Ok
 os:s.os=X.s₀.os
 bare:AllBare s.gens
 base:Un X.fs X.ex X.H₀ H X.s₀.heap s.heap
 loc:∃m,s.heap.Ns X.env.locals m/\∀(i:Nat) (x:Str) (v:V),X.N[i]?=some x->σ[i]?=some (some v)->D4 X.env.scope x->∃u,bq v u/\Ec X.env s.heap m x u
 cell:∀x c,X.env.cells.lookup x=some c->∃v,s.heap.IsCell c v
 free:H X.env.locals=none
 freeC:∀x c,X.env.cells.lookup x=some c->H c=none
 pin:∀p∈X.pn++pins,s.heap.get? p.1=some p.2/\H p.1=none/\p.1≠X.env.locals/\p.1∉X.fs/\∀v,p.2.data≠.cell v
 hok:kh X.prog X.w H s.heap
 len:σ.length=X.N.length
section
variable {X:Cx}{pins:List (Addr×Obj)}{σ:List (Option V)}{H H':Hp}{s:Shared}{h':Heap}
theorem Cx.Ok.nofr(ok:X.Ok){b:Addr}{o:Obj}(e:X.base.get? b=some o):b∉X.fs:=fun hb=>by
 have:=(ok.funs.mem hb).1;rw[e]at this;cases this
theorem Inv.bs(I:Inv X pins σ H s):∀b o,X.base.get? b=some o->s.heap.get? b=some o/\H b=none:=fun b o e=>
 ⟨I.base.keep b o (I.ok.bs b o e).1 (I.ok.bs b o e).2 (I.ok.nofr e) (I.ok.noex b o e),I.base.free b o (I.ok.bs b o e).1 (I.ok.bs b o e).2 (I.ok.noex b o e)⟩
theorem Inv.bk(I:Inv X pins σ H s):∀b o,X.base.get? b=some o->s.heap.get? b=some o:=fun b o e=>(I.bs b o e).1
theorem Inv.mod(I:Inv X pins σ H s):Mod X.K X.mg X.base:=I.ok.mod
theorem Inv.kIn(I:Inv X pins σ H s):X.K.In s.heap:=I.ok.mod.kin.keeps I.bk
theorem Inv.lt(I:Inv X pins σ H s):X.env.locals<s.heap.objs.size:=let ⟨_,hn,_⟩:=I.loc;hn.lt
theorem Inv.sz(I:Inv X pins σ H s):X.s₀.heap.objs.size<=s.heap.objs.size:=HY I.ok.above (Nat.le_of_lt I.lt)
theorem Inv.nofs(I:Inv X pins σ H s){a:Addr}(h:s.heap.objs.size<=a):a∉X.fs:=fun hb=>by
 obtain⟨_,o,ho,_⟩:=I.ok.funs.mem hb;exact absurd (HJ (HS ho) (HY I.sz h)) (HZ _)
theorem Inv.cne(I:Inv X pins σ H s):∀x c,X.env.cells.lookup x=some c->c≠X.env.locals:=fun x c e z=>by
 obtain⟨v,o,ho,hd⟩:=I.cell x c e;obtain⟨m,⟨o',es,ep,ho',hd',_⟩,_⟩:=I.loc;rw[z,ho']at ho;cases ho;rw[hd']at hd;cases hd
theorem Inv.funs(I:Inv X pins σ H s):s.heap.FunFrames X.base X.outer:=by
 have all:∀(l:List Env),(∀b∈il l,b∈X.fs)->X.s₀.heap.FunFrames X.base l->s.heap.FunFrames X.base l:=by
  intro l
  induction l with
  |nil=>intro _ _;trivial
  |cons env r ih=>
   intro hs hl;obtain⟨hk,⟨L,o,hf,hn,ho,hd⟩,hr⟩:=hl;have hL:L∈X.fs:=hs L (by unfold il;rw[List.filterMap_cons,hf];exact List.mem_cons_self);obtain⟨sl,e⟩:=I.base.slot L o ho (I.ok.frf L hL) hL fun z=>I.ok.exfs L z hL;exact⟨hk,⟨L,_,hf,hn,e,hd⟩,ih (fun b hb=>hs b (by unfold il;rw[List.filterMap_cons,hf];exact HH _ hb)) hr⟩
 exact all X.outer (fun _ hb=>hb) I.ok.funs
theorem Inv.stack(I:Inv X pins σ H s):s.heap.FunFrames X.base X.stack:=by
 rcases I.ok.stk with e | ⟨e,hf⟩
 ·rw[e];exact I.funs
 ·rw[e]
  obtain⟨m,hn,_⟩:=I.loc;refine .cons (by rw[I.ok.kind];decide) hf hn ?_ I.funs;exact Heap.get?_none_of_le (HY I.ok.bsz I.ok.above)
theorem Inv.stkSub(I:Inv X pins σ H s):∀b∈il X.stack,b∈X.env.locals::X.fs:=fun b hb=>by
 rcases I.ok.stk with e | ⟨e,hf⟩
 ·rw[e]at hb;exact HH _ hb
 ·rw[e]at hb
  unfold il at hb;rw[List.filterMap_cons,hf]at hb;exact hb
theorem Inv.stkFree(I:Inv X pins σ H s):∀b∈il X.stack,H b=none:=fun b hb=>by
 rcases HF.mp (I.stkSub b hb) with e | hb
 ·rw[e];exact I.free
 ·obtain⟨_,o,ho,_⟩:=I.ok.funs.mem hb
  exact I.base.free b o ho (I.ok.frf b hb) fun z=>I.ok.exfs b z hb
theorem Inv.step{g':Array GenState}{t':Nat}{d':Drawn}{ch:List Addr}(I:Inv X pins σ H s)
  (hch:∀b∈ch,(b∈X.ex\/X.s₀.heap.objs.size<=b)/\b≠X.env.locals/\(∀x c,X.env.cells.lookup x=some c->c≠b)/\∀p∈X.pn++pins,p.1≠b)
  (keep:∀b o,b≠X.env.locals->b∉X.fs->b∉ch->s.heap.get? b=some o->H b=none->h'.get? b=some o)
  (slot:∀b o,b≠X.env.locals->b∈X.fs->b∉ch->s.heap.get? b=some o->H b=none->∃sl,h'.get? b=some {o with slots:=sl}) (free:∀b o,b∉ch->s.heap.get? b=some o->H b=none->H' b=none)
  (there:∀b o,b∉ch->s.heap.get? b=some o->∃o',h'.get? b=some o')
  (tups:∀b xs,H b=some (.tup xs)->H' b=some (.tup xs)) (frzs:∀b o u,H b=some (.frz o u)->H' b=some (.frz o u)) (tbls:∀b ps,H b=some (.tbl ps)->∃more,H' b=some (.tbl (ps++more)))
  (ns:∀m,s.heap.Ns X.env.locals m->h'.Ns X.env.locals m) (hok:kh X.prog X.w H' h') (hg:AllBare g') :
  Inv X pins σ H' {s with heap:=h',gens:=g',drawn:=d',toks:=t' }:=by
 have neL:∀b o,X.s₀.heap.get? b=some o->b≠X.env.locals:=fun b o e=>HK (HJ (HS e) I.ok.above);have neC:∀b o,X.s₀.heap.get? b=some o->b∉X.ex->b∉ch:=fun b o e hx hb=>by
  rcases(hch b hb).1 with z | z
  ·exact hx z
  ·exact absurd (HJ (HS e) z) (HZ _)
 have cellK:∀x c,X.env.cells.lookup x=some c->∀v,s.heap.IsCell c v->h'.IsCell c v:=fun x c e v ⟨o,ho,hd⟩=>by
  have nch:c∉ch:=fun z=>(hch c z).2.2.1 x c e rfl
  by_cases hc:c∈X.fs
  ·obtain⟨sl,q⟩:=slot c o (I.cne x c e) hc nch ho (I.freeC x c e)
   exact⟨_,q,hd⟩
  ·exact⟨o,keep c o (I.cne x c e) hc nch ho (I.freeC x c e),hd⟩
 refine⟨I.ok,I.os,hg,⟨fun b o e n hb hx=>?_,fun b o e n hb hx=>?_,fun b o e n hx=>?_,fun b o e hx=>?_,fun b xs e=>tups b xs (I.base.tups b xs e),fun b o xs e=>frzs b o xs (I.base.frzs b o xs e),fun b ps e=>?_⟩,?_,fun x c e=>?_,?_,fun x c e=>?_,fun p hp=>?_,hok,I.len⟩
 ·exact keep b o (neL b o e) hb (neC b o e hx) (I.base.keep b o e n hb hx) (I.base.free b o e n hx)
 ·obtain⟨sl,e1⟩:=I.base.slot b o e n hb hx
  obtain⟨sl',e2⟩:=slot b _ (neL b o e) hb (neC b o e hx) e1 (I.base.free b o e n hx);exact⟨sl',e2⟩
 ·obtain⟨o',e1⟩:=I.base.there b o e hx
  exact free b o' (neC b o e hx) e1 (I.base.free b o e n hx)
 ·obtain⟨o',e1⟩:=I.base.there b o e hx
  exact there b o' (neC b o e hx) e1
 ·obtain⟨m1,e1⟩:=I.base.tbls b ps e
  obtain⟨m2,e2⟩:=tbls b _ e1;exact⟨m1++m2,by rw[e2,Array.append_assoc]⟩
 ·obtain⟨m,hn,hl⟩:=I.loc
  refine⟨m,ns m hn,fun i x v e1 e2 e3=>?_⟩;obtain⟨u,r,l⟩:=hl i x v e1 e2 e3;refine⟨u,r,?_⟩;rcases l with l | ⟨k,c,e,z⟩
  ·exact .inl l
  ·exact .inr ⟨k,c,e,cellK x c e _ z⟩
 ·obtain⟨v,z⟩:=I.cell x c e
  exact⟨v,cellK x c e v z⟩
 ·obtain⟨m,⟨o,_,_,ho,_⟩,_⟩:=I.loc
  exact free _ o (fun z=>(hch _ z).2.1 rfl) ho I.free
 ·obtain⟨v,o,ho,hd⟩:=I.cell x c e
  exact free c o (fun z=>(hch c z).2.2.1 x c e rfl) ho (I.freeC x c e)
 ·obtain⟨e,n,ne,nf,d⟩:=I.pin p hp
  have nch:p.1∉ch:=fun z=>(hch p.1 z).2.2.2 p hp rfl;exact⟨keep p.1 p.2 ne nf nch e n,free p.1 p.2 nch e n,ne,nf,d⟩
theorem Inv.un{t':Nat}(I:Inv X pins σ H s)(u:Un X.fs [] H H' s.heap h')(hok:kh X.prog X.w H' h'):Inv X pins σ H' {s with heap:=h',toks:=t' }:=by
 obtain⟨m,⟨o,es,ep,ho,r⟩,_⟩:=id I.loc;obtain⟨sl,hL⟩:=u.any ho I.free (by simp);exact I.step (g':=s.gens) (d':=s.drawn) (ch:=[]) (fun _ z=>nomatch z) (fun b o _ hb _ e n=>u.keep b o e n hb (by simp)) (fun b o _ hb _ e n=>u.slot b o e n hb (by simp)) (fun b o _ e n=>u.free b o e n (by simp)) (fun b o _ e=>u.there b o e (by simp)) u.tups u.frzs u.tbls (fun m' hm=>by
  obtain⟨o',es',ep',ho',r'⟩:=hm;rw[ho]at ho';cases ho'
  exact⟨_,es',ep',hL,r'⟩) hok I.bare
theorem Inv.call{g':Array GenState}{t':Nat}{d':Drawn}{ch:List Addr}(I:Inv X pins σ H s)(u:Un (il X.stack) ch H H' s.heap h')(hok:kh X.prog X.w H' h')(hg:AllBare g')
  (hch:∀b∈ch,(b∈X.ex\/X.s₀.heap.objs.size<=b)/\b≠X.env.locals/\(∀x c,X.env.cells.lookup x=some c->c≠b)/\∀p∈X.pn++pins,p.1≠b) :
  Inv X pins σ H' {s with heap:=h',gens:=g',drawn:=d',toks:=t' }:=by
 obtain⟨m,⟨o,es,ep,ho,r⟩,_⟩:=id I.loc;obtain⟨sl,hL⟩:=u.any ho I.free fun z=>(hch _ z).2.1 rfl;exact I.step (ch:=ch) hch (fun b o hL hb hc e n=>u.keep b o e n (fun z=>(HF.mp (I.stkSub b z)).elim hL hb) hc) (fun b o _ _ hc e n=>u.any e n hc) (fun b o hc e n=>u.free b o e n hc) (fun b o hc e=>u.there b o e hc) u.tups u.frzs u.tbls (fun m' hm=>by
  obtain⟨o',es',ep',ho',r'⟩:=hm;rw[ho]at ho';cases ho'
  exact⟨_,es',ep',hL,r'⟩) hok hg
theorem Inv.turned{t':Nat}{it:Addr}(I:Inv X pins σ H s)(k:∀b o,b≠it->s.heap.get? b=some o->h'.get? b=some o)(hn:H it=none)(hL:it≠X.env.locals)
  (h1:it∈X.ex\/X.s₀.heap.objs.size<=it) (h2:∀x c,X.env.cells.lookup x=some c->c≠it) (h3:∀p∈X.pn++pins,p.1≠it):Inv X pins σ H {s with heap:=h',toks:=t' }:=by
 have nit:∀b u,H b=some u->b≠it:=fun b u e z=>by rw[z,hn]at e;cases e
 refine I.step (g':=s.gens) (d':=s.drawn) (ch:=[it]) (fun b hb=>?_) (fun b o _ _ hc e _=>k b o (fun z=>hc (by simp[z])) e) (fun b o _ _ hc e _=>⟨o.slots,k b o (fun z=>hc (by simp[z])) e⟩) (fun _ _ _ _ n=>n)
  (fun b o hc e=>⟨o,k b o (fun z=>hc (by simp[z])) e⟩) (fun _ _ e=>e) (fun _ _ _ e=>e) (fun b ps e=>⟨#[],by rw[e];simp⟩) (fun m hm=>?_) (fun b u e=>?_) I.bare
 ·have e:b=it:=by simpa using hb
  subst e;exact⟨h1,hL,h2,h3⟩
 ·obtain⟨o,es,ep,ho,r⟩:=hm
  exact⟨o,es,ep,k _ o (Ne.symm hL) ho,r⟩
 ·refine(I.hok b u e).stay (fun c v hc q=>k c v ?_ q) (fun _ q=>q) fun _ _ q=>q
  rcases hc with z | z
  ·rw[z];exact nit b u e
  ·exact nit c _ z
theorem Inv.tok(I:Inv X pins σ H s)(t:Nat):Inv X pins σ H {s with toks:=t}:=I.un (h':=s.heap) (t':=t) Un.refl I.hok
theorem Inv.kept{t':Nat}(I:Inv X pins σ H s)(k:∀b u,s.heap.get? b=some u->h'.get? b=some u):Inv X pins σ H {s with heap:=h',toks:=t' }:=I.un (Un.kept k) (I.hok.kept k)
theorem Inv.laid{a:Addr}{o:HO}{t':Nat}(I:Inv X pins σ H s)(k:∀b u,s.heap.get? b=some u->h'.get? b=some u)(hp:s.heap.objs.size<=a)(new:bz X.prog X.w (aB H a o) h' a o) :
  Inv X pins σ (aB H a o) {s with heap:=h',toks:=t' }:=I.un (Un.laid k hp (I.hok.fresh hp)) (I.hok.laid k hp new)
theorem Inv.write{x e:Addr}{o:HO}{t':Nat}(I:Inv X pins σ H s)(mu:DN (H x))(he:e=x\/H e=some (.own x))(k:∀b u,b≠e->s.heap.get? b=some u->h'.get? b=some u)(heo:∃u,h'.get? e=some u)
  (new:bz X.prog X.w (aB H x o) h' x o):Inv X pins σ (aB H x o) {s with heap:=h',toks:=t' }:=I.un (Un.write mu he k heo) (I.hok.write mu he k heo new)
theorem Inv.pins_of{pins':List (Addr×Obj)}(I:Inv X pins σ H s)(h:∀p∈pins',s.heap.get? p.1=some p.2/\H p.1=none/\p.1≠X.env.locals/\p.1∉X.fs/\∀v,p.2.data≠.cell v):Inv X pins' σ H s:=
 ⟨I.ok,I.os,I.bare,I.base,I.loc,I.cell,I.free,I.freeC,fun p hp=>(Hz.mp hp).elim (fun z=>I.pin p (List.mem_append_left _ z)) (h p),I.hok,I.len⟩
theorem pU{N:List Str}(hN:N.Nodup){i j:Nat}{x:Str}(a:N[i]?=some x)(b:N[j]?=some x):i=j:=by
 obtain⟨h1,e1⟩:=Hk.mp a;obtain⟨h2,e2⟩:=Hk.mp b;exact(List.getElem_inj hN).mp (e1.trans e2.symm)
theorem qX{M:Model}{A:Around}{E:Value->Shared->Prop}{i:Nat}{x:Str}{v:V}{u:Value}{Q:Unit->Shared->Prop}(I:Inv X pins σ H s)(hN:X.N.Nodup)(hi:X.N[i]?=some x)(hx:Loc X.env.scope x)(r:bq v u)
  (h:∀s',Inv X pins (σ.set i (some v)) H s'->(∃a,Heap.SameBut a s.heap s'.heap/\(a=X.env.locals\/X.env.cells.lookup x=some a))->Q () s') (hf:X.fn x=true\/X.env.scope.names.lookup x=some .local:=by first | exact .inl rfl | exact .inr rfl | assumption):wpAny M A (storeName X.env x u) Q E s:=by
 obtain⟨m,hn,hl⟩:=id I.loc;have hcls:(X.env.scope.kind==.class||(X.env.scope.kind==.module&&X.env.locals != X.env.globals))=false:=by rw[I.ok.kind];rfl
 have hiσ:i<σ.length:=by rw[I.len];exact(Hk.mp hi).1
 have cne:=I.cne;have tracked:∀{a:Addr} {h':Heap},(∃o,s.heap.get? a=some o/\H a=none)->Heap.SameBut a s.heap h'->kh X.prog X.w H h':=fun{a h'} ha hs b ob e=>by
  obtain⟨_,_,hfree⟩:=ha;refine(I.hok b ob e).stay (fun c w' hc q=>(hs.2 c ?_).trans q) (fun _ q=>q) fun _ _ q=>q;rintro rfl;rcases hc with rfl | hc
  ·rw[hfree]at e;cases e
  ·rw[hfree]at hc;cases hc
 rcases hx with hk | hk
 ·refine wpAny_storeName_local hk hn (fun h' hn' hs=>?_) hcls
  obtain⟨oL,_,_,hoL,_⟩:=id hn;refine h _ ⟨I.ok,I.os,I.bare,⟨fun b o e n hb hx=>?_,fun b o e n hb hx=>?_,I.base.free,fun b o e hx=>?_,I.base.tups,I.base.frzs,I.base.tbls⟩,⟨_,hn',fun j y v' e1 e2 e3=>?_⟩,fun y c e=>?_,I.free,I.freeC,fun p hp=>?_,tracked ⟨oL,hoL,I.free⟩ hs,by simpa using I.len⟩ ⟨_,hs,.inl rfl⟩
  ·exact(hs.2 b (HK (HJ (HS e) I.ok.above))).trans (I.base.keep b o e n hb hx)
  ·obtain⟨sl,e1⟩:=I.base.slot b o e n hb hx
   exact⟨sl,(hs.2 b (HK (HJ (HS e) I.ok.above))).trans e1⟩
  ·obtain⟨o',e1⟩:=I.base.there b o e hx
   exact⟨o',(hs.2 b (HK (HJ (HS e) I.ok.above))).trans e1⟩
  ·by_cases hj:j=i
   ·subst hj
    rw[hi]at e1;cases e1
    rw[Ib hiσ]at e2;cases e2;exact⟨u,r,.inl ⟨hk,by simp⟩⟩
   ·rw[List.getElem?_set_ne (Ne.symm hj)]at e2
    obtain⟨u',r',q⟩:=hl j y v' e1 e2 e3;refine⟨u',r',?_⟩;rcases q with⟨k,e⟩ | ⟨k,c,e,z⟩
    ·refine .inl ⟨k,?_⟩
     have:y≠x:=fun e=>hj (pU hN e1 (e▸hi));simp[this,e]
    ·exact .inr ⟨k,c,e,z.sameBut hs (cne y c e)⟩
  ·obtain⟨w',z⟩:=I.cell y c e
   exact⟨w',z.sameBut hs (cne y c e)⟩
  ·obtain⟨e,n,ne,nf,d⟩:=I.pin p hp
   exact⟨(hs.2 p.1 ne).trans e,n,ne,nf,d⟩
 ·have hfn:X.fn x=true:=by
   rcases hf with z | z
   ·exact z
   ·rw[z]at hk;cases hk
  obtain⟨c,hc⟩:=I.ok.has x (.inl hk);obtain⟨w',z⟩:=I.cell x c hc;refine wpAny_storeName_cell I.ok.kind hk hc z (fun h' hc' hs=>?_);obtain⟨oc,hoc,hocd⟩:=id z;refine h {s with heap:=h' } ⟨I.ok,I.os,I.bare,⟨fun b o e n hb hx=>?_,fun b o e n hb hx=>?_,I.base.free,fun b o e hx=>?_,I.base.tups,I.base.frzs,I.base.tbls⟩,⟨m,hn.sameBut hs (Ne.symm (cne x c hc)),fun j y v' e1 e2 e3=>?_⟩,fun y c' e=>?_,I.free,I.freeC,fun p hp=>?_,tracked ⟨oc,hoc,I.freeC x c hc⟩ hs,by simpa using I.len⟩ ⟨c,hs,.inr hc⟩
  ·exact(hs.2 b (HK (HJ (HS e) (I.ok.cab x c hfn hc)))).trans (I.base.keep b o e n hb hx)
  ·obtain⟨sl,e1⟩:=I.base.slot b o e n hb hx
   exact⟨sl,(hs.2 b (HK (HJ (HS e) (I.ok.cab x c hfn hc)))).trans e1⟩
  ·obtain⟨o',e1⟩:=I.base.there b o e hx
   exact⟨o',(hs.2 b (HK (HJ (HS e) (I.ok.cab x c hfn hc)))).trans e1⟩
  ·by_cases hj:j=i
   ·subst hj
    rw[hi]at e1;cases e1
    rw[Ib hiσ]at e2;cases e2;exact⟨u,r,.inr ⟨.inl hk,c,hc,hc'⟩⟩
   ·rw[List.getElem?_set_ne (Ne.symm hj)]at e2
    obtain⟨u',r',q⟩:=hl j y v' e1 e2 e3;refine⟨u',r',?_⟩;rcases q with q | ⟨k,c',e,z'⟩
    ·exact .inl q
    ·refine .inr ⟨k,c',e,z'.sameBut hs ?_⟩
     rintro rfl;exact hj (pU hN e1 (I.ok.inj _ _ _ e hc▸hi))
  ·by_cases hcc:c'=c
   ·subst hcc;exact⟨_,hc'⟩
   ·obtain⟨w2,z2⟩:=I.cell y c' e
    exact⟨w2,z2.sameBut hs hcc⟩
  ·obtain⟨e,n,ne,nf,d⟩:=I.pin p hp
   refine⟨(hs.2 p.1 ?_).trans e,n,ne,nf,d⟩;intro q;rw[q,hoc]at e;have q':oc=p.2:=Option.some.inj e;exact d w' (by rw[<- q'];exact hocd)
theorem lP{M:Model}{A:Around}{E:Value->Shared->Prop}{i:Nat}{x:Str}{v:V}{u:Value}{Q:Unit->Shared->Prop}(I:Inv X pins σ H s)(hN:X.N.Nodup)(hi:X.N[i]?=some x)(hx:Loc X.env.scope x)(r:bq v u)
  (h:∀s',Inv X pins (σ.set i (some v)) H s'->Q () s') (hf:X.fn x=true\/X.env.scope.names.lookup x=some .local:=by first | exact .inl rfl | exact .inr rfl | assumption):wpAny M A (storeName X.env x u) Q E s:=
 qX I hN hi hx r (fun s' I' _=>h s' I') hf
theorem Inv.call'{s':Shared}{ch:List Addr}(I:Inv X pins σ H s)(ho:s'.os=s.os)(u:Un (il X.stack) ch H H' s.heap s'.heap)(hok:kh X.prog X.w H' s'.heap)(hg:AllBare s'.gens)
  (hch:∀b∈ch,(b∈X.ex\/X.s₀.heap.objs.size<=b)/\b≠X.env.locals/\(∀x c,X.env.cells.lookup x=some c->c≠b)/\∀p∈X.pn++pins,p.1≠b):Inv X pins σ H' s':=by
 obtain⟨h',g',d',t',o'⟩:=s';have e:o'=s.os:=ho;subst e;exact I.call (g':=g') (t':=t') (d':=d') u hok hg hch
end
noncomputable abbrev XK:=Value->Option Addr->Hp->Prop
noncomputable abbrev St:=List (Option V)
noncomputable abbrev VK:=V->Hp->Prop
noncomputable abbrev TE:=St->Hp->VK->Prop
noncomputable abbrev TT:=St->Hp->(Bool->Hp->Prop)->Prop
noncomputable abbrev TA:=St->Hp->(List V->Hp->Prop)->Prop
structure jf where
 nx:St->Hp->Prop
 rt:VK
 bk:St->Hp->Prop:=fun _ _=>False
 ct:St->Hp->Prop:=fun _ _=>False
noncomputable abbrev TS:=jf->St->Hp->Prop
noncomputable def EP(X:Cx)(pins:List (Addr×Obj))(σ:St)(Q:VK)(u:Value)(s':Shared):Prop:=∃v H',Inv X pins σ H' s'/\bq v u/\Q v H'
noncomputable def TP(X:Cx)(pins:List (Addr×Obj))(σ:St)(Q:Bool->Hp->Prop)(b:Bool)(s':Shared):Prop:=∃H',Inv X pins σ H' s'/\Q b H'
noncomputable def AP(X:Cx)(pins:List (Addr×Obj))(σ:St)(Q:List V->Hp->Prop)(us:List Value)(s':Shared):Prop:=∃vs H',Inv X pins σ H' s'/\aZ vs us/\Q vs H'
noncomputable def SP(X:Cx)(pins:List (Addr×Obj))(D:jf)(f:Flow)(s':Shared):Prop:=
 match f with
 | .next=>∃σ' H',Inv X pins σ' H' s'/\D.nx σ' H'
 | .brk=>∃σ' H',Inv X pins σ' H' s'/\D.bk σ' H'
 | .cont=>∃σ' H',Inv X pins σ' H' s'/\D.ct σ' H'
 | .ret u=>∃v σ' H',Inv X pins σ' H' s'/\bq v u/\D.rt v H'
noncomputable def PE(X:Cx)(e:Expr)(t:TE):Prop:=
 ∀(pins:List (Addr×Obj)) (s:Shared) (σ:St) (H:Hp) (Q:VK),Inv X pins σ H s->t σ H Q->wpAny (model X.prog X.w) X.A (eval e X.env) (EP X pins σ Q) X.xe s
noncomputable def PT(X:Cx)(e:Expr)(t:TT):Prop:=
 ∀(pins:List (Addr×Obj)) (s:Shared) (σ:St) (H:Hp) (Q:Bool->Hp->Prop),Inv X pins σ H s->t σ H Q->wpAny (model X.prog X.w) X.A (isTrue e X.env (eval e X.env)) (TP X pins σ Q) X.xe s
noncomputable def PW(X:Cx)(e:Expr)(t:TT):Prop:=
 ∀(whole:Sem Value) (pins:List (Addr×Obj)) (s:Shared) (σ:St) (H:Hp) (Q:Bool->Hp->Prop),Inv X pins σ H s->t σ H Q->wpAny (model X.prog X.w) X.A (isTrue e X.env whole) (TP X pins σ Q) X.xe s
theorem PW.pt{X:Cx}{e:Expr}{t:TT}(h:PW X e t):PT X e t:=h _
noncomputable def PA(X:Cx)(es:List Expr)(t:TA):Prop:=
 ∀(pos:Pos) (pins:List (Addr×Obj)) (s:Shared) (σ:St) (H:Hp) (Q:List V->Hp->Prop),Inv X pins σ H s->t σ H Q->wpAny (model X.prog X.w) X.A (spliced (backTo pos (starEach es X.env))) (AP X pins σ Q) X.xe s
noncomputable def PS(X:Cx)(st:Stmt)(t:TS):Prop:=
 ∀(pins:List (Addr×Obj)) (s:Shared) (σ:St) (H:Hp) (D:jf),Inv X pins σ H s->t D σ H->wpAny (model X.prog X.w) X.A (exec st X.env) (SP X pins D) X.xe s
noncomputable def qg(X:Cx)(st:List Stmt)(t:TS):Prop:=
 ∀(pins:List (Addr×Obj)) (s:Shared) (σ:St) (H:Hp) (D:jf),Inv X pins σ H s->t D σ H->wpAny (model X.prog X.w) X.A (execs st X.env) (SP X pins D) X.xe s
theorem bF{α:Type}{t:Sem α}{Q Q':α->Shared->Prop}{M:Model}{A:Around}{E:Value->Shared->Prop}{s:Shared}(h:wpAny M A t Q E s)(hQ:∀a s,Q a s->Q' a s):wpAny M A t Q' E s:=wpAny_mono h hQ fun _ _ x=>x
section
variable {X:Cx}
theorem Hi{a b:Expr}{ta tb:TE}(ha:PE X a ta)(hb:PE X b tb){pins:List (Addr×Obj)}{s:Shared}{σ:St}{H:Hp}{R:V->V->Hp->Prop}(I:Inv X pins σ H s)(h:ta σ H fun x H1=>tb σ H1 fun y H2=>R x y H2)
  {α:Type} {Q:α->Shared->Prop} {f:Value->Value->Sem α}
  (hf:∀v u s2 x y H2,Inv X pins σ H2 s2->bq x v->bq y u->R x y H2->wpAny (model X.prog X.w) X.A (f v u) Q X.xe s2) :
  wpAny (model X.prog X.w) X.A (eval a X.env) (fun v s₁=>wpAny (model X.prog X.w) X.A (eval b X.env) (fun u s₂=>wpAny (model X.prog X.w) X.A (f v u) Q X.xe s₂) X.xe s₁) X.xe s:=by
 refine bF (ha pins s σ H _ I h) fun v s1 ⟨x,H1,I1,r1,q1⟩=>?_;refine bF (hb pins s1 σ H1 _ I1 q1) fun u s2 ⟨y,H2,I2,r2,q2⟩=>?_;exact hf v u s2 x y H2 I2 r1 r2 q2
noncomputable def x8(i:Nat):TE:=fun σ H Q=>∃v,σ[i]?=some (some v)/\Q v H
noncomputable def tC(v:V):TE:=fun _ H Q=>Q v H
theorem CW{i:Nat}{x:Str}{pos:Pos}(hN:X.N[i]?=some x)(hv:D4 X.env.scope x)(hd:(x==("__debug__":Str))=false:=by decide)(hcd:(x==("__classdict__":Str))=false:=by decide):PE X (.Name x pos) (x8 i):=by
 intro pins s σ H Q I h;obtain⟨v,e,h⟩:=h;obtain⟨m,hn,hl⟩:=I.loc;obtain⟨u,r,l⟩:=hl i x v hN e hv;have fin:EP X pins σ Q u s:=⟨v,H,I,r,h⟩;rcases l with⟨hk,hm⟩ | ⟨hk,c,hc,hcell⟩
 ·exact wpAny_Name (wpAny_loadName_local I.ok.kind hk hn hm fin) hd
 ·rcases hk with hk | hk
  ·exact wpAny_Name (wpAny_loadName_cell I.ok.kind hk hc hcell fin) hd
  ·exact wpAny_Name (wpAny_loadName_free I.ok.kind hk hc hcell fin hcd) hd
theorem af{i j pos}:PE X (.Constant (.int i) j pos) (tC (.int i)):=fun _ _ _ H _ I h=>wpAny_Constant_int ⟨.int i,H,I.tok _,⟨_,rfl⟩,h⟩
theorem B3{b j pos}:PE X (.Constant (.bool b) j pos) (tC (.bl b)):=fun _ _ _ H _ I h=>Constant_bool ⟨.bl b,H,I,rfl,h⟩
theorem cn{j pos}:PE X (.Constant .none j pos) (tC .non):=fun _ _ _ H _ I h=>Constant_none ⟨.non,H,I,rfl,h⟩
theorem cV{x j pos}:PE X (.Constant (.str x) j pos) (tC (.str x)):=fun _ _ _ H _ I h=>Calls.Constant_str ⟨.str x,H,I.tok _,⟨_,rfl⟩,h⟩
noncomputable def Gl(X:Cx)(x:Str):Prop:=X.env.kindOf x=some .globalImplicit
theorem eV{E:Value->Shared->Prop}{pins:List (Addr×Obj)}{s:Shared}{σ:St}{H:Hp}{x:Str}{u:Value}{pos:Pos}{Q:Value->Shared->Prop}(I:Inv X pins σ H s)(hg:Gl X x)(hm:X.mg x=some u)(h:Q u s)
  (hd:(x==("__debug__":Str))=false:=by decide):wpAny (model X.prog X.w) X.A (eval (.Name x pos) X.env) Q E s:=
 Calls.Name_function_global I.ok.kind hg (Calls.loadGlobal_global (by rw[I.ok.glob];exact I.mod.glob.keeps I.bk) hm h) hd
theorem bY{E:Value->Shared->Prop}{pins:List (Addr×Obj)}{s:Shared}{σ:St}{H:Hp}{x:Str}{u:Value}{pos:Pos}{Q:Value->Shared->Prop}(I:Inv X pins σ H s)(hg:Gl X x)(hm:X.mg x=none)(hv:bootBuiltins x=some u)(h:Q u s)
  (hn:x≠"__name__":=by decide) (hd:(x==("__debug__":Str))=false:=by decide):wpAny (model X.prog X.w) X.A (eval (.Name x pos) X.env) Q E s:=by
 obtain⟨mb,h1,h2⟩:=I.mod.blt;exact Calls.Name_function_global I.ok.kind hg (Calls.loadGlobal_builtin (by rw[I.ok.glob];exact I.mod.glob.keeps I.bk) hm (by rw[I.ok.blt];exact h1.keeps I.bk) ((h2 x hn).trans hv) h) hd
theorem eY{x:Str}{v:V}{u:Value}{pos:Pos}(hg:Gl X x)(hm:X.mg x=some u)(r:bq v u)(hd:(x==("__debug__":Str))=false:=by decide):PE X (.Name x pos) (tC v):=
 fun _ _ _ H _ I h=>eV I hg hm ⟨v,H,I,r,h⟩ hd
theorem nY{x:Str}{v:V}{u:Value}{pos:Pos}(hg:Gl X x)(hm:X.mg x=none)(hv:bootBuiltins x=some u)(r:bq v u)(hn:x≠"__name__":=by decide)(hd:(x==("__debug__":Str))=false:=by decide):PE X (.Name x pos) (tC v):=
 fun _ _ _ H _ I h=>bY I hg hm hv ⟨v,H,I,r,h⟩ hn hd
variable {a b:Expr}{ta tb:TE}{pos:Pos}
variable {tA tB':TT}{bt:List Expr}
noncomputable def Cd(t u:TT):TT:=fun σ H Q=>t σ H fun c H1=>if c=true then u σ H1 Q else Q false H1
noncomputable def EM(t u:TT):TT:=fun σ H Q=>t σ H fun c H1=>if c=true then Q true H1 else u σ H1 Q
noncomputable def CT(t:TT):TT:=fun σ H Q=>t σ H fun c H1=>Q (!c) H1
theorem lU(ha:PT X a tA):PW X (.BoolOp .And [a] pos) tA:=by
 intro wh pins s σ H Q I h;refine isTrue_and (bF (ha pins s σ H Q I h) fun c s1 e=>?_);cases c with
 |true=>exact isTrue_and_nil e
 |false=>exact e
theorem fq(ha:PT X a tA):PW X (.BoolOp .Or [a] pos) tA:=by
 intro wh pins s σ H Q I h;refine isTrue_or (bF (ha pins s σ H Q I h) fun c s1 e=>?_);cases c with
 |false=>exact isTrue_or_nil e
 |true=>exact e
theorem kP(ha:PT X a tA)(hb:PW X (.BoolOp .And (b::bt) pos) tB'):PW X (.BoolOp .And (a::b::bt) pos) (Cd tA tB'):=by
 intro wh pins s σ H Q I h;refine isTrue_and (bF (ha pins s σ H _ I h) fun c s1 ⟨H1,I1,q1⟩=>?_);cases c with
 |true=>exact hb wh pins s1 σ H1 Q I1 q1
 |false=>exact⟨H1,I1,q1⟩
theorem hJ(ha:PT X a tA)(hb:PW X (.BoolOp .Or (b::bt) pos) tB'):PW X (.BoolOp .Or (a::b::bt) pos) (EM tA tB'):=by
 intro wh pins s σ H Q I h;refine isTrue_or (bF (ha pins s σ H _ I h) fun c s1 ⟨H1,I1,q1⟩=>?_);cases c with
 |true=>exact⟨H1,I1,q1⟩
 |false=>exact hb wh pins s1 σ H1 Q I1 q1
theorem ky(ha:PT X a tA):PT X (.UnaryOp .Not a pos) (CT tA):=by
 intro pins s σ H Q I h;exact isTrue_not (ha pins s σ H (fun c H1=>Q (!c) H1) I h)
noncomputable def zO(ta tb:TE):TE:=fun σ H Q=>ta σ H fun x H1=>∃c,x=.bl c/\if c=true then tb σ H1 Q else Q (.bl false) H1
noncomputable def zI(ta:TE):TE:=fun σ H Q=>ta σ H fun x H1=>∃c,x=.bl c/\Q (.bl (!c)) H1
theorem sQ{op}{t:TE}(h:PE X a t):PE X (.BoolOp op [a] pos) t:=fun pins s σ H Q I hw=>BoolOp_one (h pins s σ H Q I hw)
theorem pZ(ha:PE X a ta)(hb:PE X (.BoolOp .And (b::bt) pos) tb):PE X (.BoolOp .And (a::b::bt) pos) (zO ta tb):=by
 intro pins s σ H Q I h;refine BoolOp_and (bF (ha pins s σ H _ I h) fun v s1 ⟨x,H1,I1,r1,q1⟩=>?_);obtain⟨c,rfl,q1⟩:=q1;cases r1;refine wpAny_truthy_bool ?_;cases c with
 |true=>exact hb pins s1 σ H1 Q I1 q1
 |false=>exact⟨.bl false,H1,I1,rfl,q1⟩
theorem CA(ha:PE X a ta):PE X (.UnaryOp .Not a pos) (zI ta):=by
 intro pins s σ H Q I h;refine UnaryOp_ (bF (ha pins s σ H _ I h) fun v s1 ⟨x,H1,I1,r1,q1⟩=>?_);obtain⟨c,rfl,q1⟩:=q1;cases r1;exact not_of (wpAny_truthy_bool ⟨.bl (!c),H1,I1,rfl,q1⟩)
noncomputable def D'(t:TT)(ta tb:TE):TE:=fun σ H Q=>t σ H fun c H1=>if c=true then ta σ H1 Q else tb σ H1 Q
theorem tW{c:Expr}(hc:PT X c tA)(ha:PE X a ta)(hb:PE X b tb):PE X (.IfExp c a b pos) (D' tA ta tb):=by
 intro pins s σ H Q I h;refine wpAny_IfExp (bF (hc pins s σ H _ I h) fun d s1 ⟨H1,I1,q1⟩=>?_);cases d with
 |true=>exact ha pins s1 σ H1 Q I1 q1
 |false=>exact hb pins s1 σ H1 Q I1 q1
end
noncomputable def aW(K:PySem.W.Frag)(H:Hp)(a:Addr)(xs:List V):Prop:=
 Rd H a (.lst xs) \/
  ∃(o:Obj) (its:Array Value) (n:Nat),K.lookup a=some o/\o.cls=.type "list"/\o.dict=none/\o.data=.seq its n/\its.size<=sizeLine/\aZ xs its.toList
noncomputable def bd(K:PySem.W.Frag)(H:Hp)(a:Addr)(xs:List V):Prop:=
 Rd H a (.tup xs) \/
  ∃(o:Obj) (its:Array Value) (n:Nat),K.lookup a=some o/\o.cls=.type "tuple"/\o.data=.seq its n/\its.size<=sizeLine/\aZ xs its.toList
noncomputable def Em:Value->Option V
 | .none=>some .non
 | .bool b=>some (.bl b)
 | .int i _=>some (.int i)
 | .str x _=>some (.str x)
 | .bytes b _=>some (.byt b)
 | .float b _=>some (.flt b)
 | .ref a=>some (.ref a)
 | .type n=>some (.ty n)
 |_=>none
theorem bq.abs{x:V}{u:Value}(r:bq x u):Em u=some x:=by
 cases x with
 |non=>cases r;rfl
 |bl _=>cases r;rfl
 |int _=>obtain⟨t,rfl⟩:=r;rfl
 |str _=>obtain⟨t,rfl⟩:=r;rfl
 |byt _=>obtain⟨t,rfl⟩:=r;rfl
 |flt _=>obtain⟨t,rfl⟩:=r;rfl
 |ref _=>cases r;rfl
 |ty _=>cases r;rfl
theorem bq.inj{x y:V}{u:Value}(r:bq x u)(q:bq y u):x=y:=Option.some.inj (r.abs.symm.trans q.abs)
theorem aZ.inj:∀{xs ys:List V} {us:List Value},aZ xs us->aZ ys us->xs=ys
 |_,_,_,.nil,.nil=>rfl
 |_,_,_,.cons r t,.cons r' t'=>by rw[r.inj r',aZ.inj t t']
section
variable {X:Cx}{pins:List (Addr×Obj)}{σ:St}{H:Hp}{s:Shared}{a:Addr}{xs ys:List V}
theorem aW.of{K:PySem.W.Frag}(h:H a=some (.lst xs)):aW K H a xs:=.inl (.inl h)
theorem bd.of{K:PySem.W.Frag}(h:H a=some (.tup xs)):bd K H a xs:=.inl (.inl h)
theorem Inv.list(I:Inv X pins σ H s)(h:aW X.K H a xs):∃its:List Value,aZ xs its/\PlainL s.heap a its.toArray/\xs.length<=sizeLine:=by
 rcases h with h | ⟨o,its,n,hk,hc,hd,hs,hz,r⟩
 ·obtain⟨z,its,n,r,e⟩:=h.ok I.hok
  exact⟨its,r,⟨_,n,e,rfl,rfl,rfl⟩,z⟩
 ·refine⟨its.toList,r,⟨o,n,I.kIn a o hk,hc,hd,by simpa using hs⟩,?_⟩
  have e:=r.length;simp only[Array.length_toList]at e;omega
theorem Inv.tuple(I:Inv X pins σ H s)(h:bd X.K H a xs):∃its:List Value,aZ xs its/\IsTup s.heap a its.toArray/\xs.length<=sizeLine:=by
 rcases h with h | ⟨o,its,n,hk,hc,hs,hz,r⟩
 ·obtain⟨z,its,r,p⟩:=h.ok I.hok
  exact⟨its,r,p,z⟩
 ·refine⟨its.toList,r,⟨o,I.kIn a o hk,hc,n,by simpa using hs⟩,?_⟩
  have e:=r.length;simp only[Array.length_toList]at e;omega
theorem Inv.list_inj(I:Inv X pins σ H s)(h:aW X.K H a xs)(h':aW X.K H a ys):xs=ys:=by
 obtain⟨its,r,⟨o,n,e,_,_,d⟩,_⟩:=I.list h;obtain⟨its',r',⟨o',n',e',_,_,d'⟩,_⟩:=I.list h';rw[e]at e';cases e'
 rw[d]at d'
 injection d' with d1 _
 have:its=its':=by simpa using congrArg Array.toList d1
 subst this;exact r.inj r'
theorem Inv.tuple_inj(I:Inv X pins σ H s)(h:bd X.K H a xs)(h':bd X.K H a ys):xs=ys:=by
 obtain⟨its,r,⟨o,e,_,n,d⟩,_⟩:=I.tuple h;obtain⟨its',r',⟨o',e',_,n',d'⟩,_⟩:=I.tuple h';rw[e]at e';cases e'
 rw[d]at d'
 injection d' with d1 _
 have:its=its':=by simpa using congrArg Array.toList d1
 subst this;exact r.inj r'
end
noncomputable abbrev Cx.wish(X:Cx)(E:Value->Shared->Prop):Cx:={X with xe:=E}
noncomputable abbrev Cx.nox(X:Cx):Cx:=X.wish fun _ _=>False
theorem Cx.Ok.wish{X:Cx}(ok:X.Ok)(E:Value->Shared->Prop):(X.wish E).Ok:=
 ⟨ok.mod,ok.kind,ok.glob,ok.blt,ok.above,ok.inj,ok.has,ok.cab,ok.hd,ok.frames,ok.stk,ok.exf,ok.bs,ok.bsz,ok.noex,ok.exfs,ok.funs,ok.frf⟩
theorem Cx.Ok.unwish{X:Cx}{E:Value->Shared->Prop}(ok:(X.wish E).Ok):X.Ok:=
 ⟨ok.mod,ok.kind,ok.glob,ok.blt,ok.above,ok.inj,ok.has,ok.cab,ok.hd,ok.frames,ok.stk,ok.exf,ok.bs,ok.bsz,ok.noex,ok.exfs,ok.funs,ok.frf⟩
section
variable {X:Cx}{pins:List (Addr×Obj)}{σ:St}{H:Hp}{s:Shared}{E:Value->Shared->Prop}
theorem Inv.wish(I:Inv X pins σ H s)(E:Value->Shared->Prop):Inv (X.wish E) pins σ H s:=⟨I.ok.wish E,I.os,I.bare,I.base,I.loc,I.cell,I.free,I.freeC,I.pin,I.hok,I.len⟩
theorem Inv.unwish(I:Inv (X.wish E) pins σ H s):Inv X pins σ H s:=⟨I.ok.unwish,I.os,I.bare,I.base,I.loc,I.cell,I.free,I.freeC,I.pin,I.hok,I.len⟩
theorem SP.unwish{D:jf}{f:Flow}{s':Shared}(h:SP (X.wish E) pins D f s'):SP X pins D f s':=by
 cases f with
 |next=>obtain⟨σ',H',I,q⟩:=h;exact⟨σ',H',I.unwish,q⟩
 |brk=>obtain⟨σ',H',I,q⟩:=h;exact⟨σ',H',I.unwish,q⟩
 |cont=>obtain⟨σ',H',I,q⟩:=h;exact⟨σ',H',I.unwish,q⟩
 |ret u=>obtain⟨v,σ',H',I,r,q⟩:=h;exact⟨v,σ',H',I.unwish,r,q⟩
theorem qg.nox{st:List Stmt}{t:TS}(h:qg X.nox st t):qg X st t:=fun pins s σ H D I hw=>
 wpAny_mono (h pins s σ H D (I.wish _) hw) (fun _ _ q=>q.unwish) fun _ _ z=>False.elim z
end
section
variable {X:Cx}{st:Stmt}{bt:List Stmt}{t u:TS}{e:Expr}{te:TE}{pos:Pos}
noncomputable def zP:TS:=fun D σ H=>D.nx σ H
noncomputable def vC(t u:TS):TS:=fun D σ H=>t {D with nx:=u D} σ H
theorem aN:qg X [] zP:=fun _ _ σ H _ I h=>wpAny_execs_nil ⟨σ,H,I,h⟩
theorem ag(h1:PS X st t)(h2:qg X bt u):qg X (st::bt) (vC t u):=by
 intro pins s σ H D I h;refine wpAny_execs_cons (bF (h1 pins s σ H {D with nx:=u D} I h) fun f s1 q=>?_);cases f with
 |next=>
  obtain⟨σ',H',I',q⟩:=q;exact h2 pins s1 σ' H' D I' q
 |ret v=>exact q
 |brk=>exact q
 |cont=>exact q
theorem ah(h1:PS X st t):qg X [st] t:=by
 intro pins s σ H D I h;refine wpAny_execs_cons (bF (h1 pins s σ H D I h) fun f s1 q=>?_);cases f with
 |next=>exact wpAny_execs_nil q
 |ret v=>exact q
 |brk=>exact q
 |cont=>exact q
theorem Inv.quiet{pins:List (Addr×Obj)}{σ:St}{H:Hp}{s:Shared}(I:Inv X pins σ H s):interactive X.env=false:=by simp[interactive,I.ok.kind]
noncomputable def AG(te:TE):TS:=fun D σ H=>te σ H fun _ H1=>D.nx σ H1
theorem bN(he:PE X e te)(hs:swapsWith e none pos.line X.env=pure false:=by rfl):PS X (.Expr e pos) (AG te):=by
 intro pins s σ H D I h;exact wpAny_Expr_any (bF (he pins s σ H _ I h) fun v s1 ⟨x,H1,I1,r1,q1⟩=>⟨σ,H1,I1,q1⟩) I.quiet hs
noncomputable def Cy(te:TE):TS:=fun D σ H=>te σ H D.rt
theorem aI(he:PE X e te):PS X (.Return (some e) pos) (Cy te):=by
 intro pins s σ H D I h;exact wpAny_Return_some (bF (he pins s σ H _ I h) fun v s1 ⟨x,H1,I1,r1,q1⟩=>⟨x,σ,H1,I1,r1,q1⟩)
noncomputable def zr(c:TT)(t u:TS):TS:=fun D σ H=>c σ H fun b H1=>if b=true then t D σ H1 else u D σ H1
theorem bg{c:Expr}{a b:List Stmt}{tc:TT}(hc:PT X c tc)(ha:qg X a t)(hb:qg X b u):PS X (.If c a b pos) (zr tc t u):=by
 intro pins s σ H D I h;refine wpAny_If (bF (hc pins s σ H _ I h) fun d s1 ⟨H1,I1,q1⟩=>?_);cases d with
 |true=>exact ha pins s1 σ H1 D I1 q1
 |false=>exact hb pins s1 σ H1 D I1 q1
end
noncomputable abbrev TG:=V->St->Hp->(St->Hp->Prop)->Prop
noncomputable abbrev AR:=List V->St->Hp->(St->Hp->Prop)->Prop
noncomputable def PG(X:Cx)(target:Expr)(t:TG):Prop:=
 ∀(pins:List (Addr×Obj)) (s:Shared) (σ:St) (H:Hp) (v:V) (u:Value) (Q:St->Hp->Prop),Inv X pins σ H s->bq v u->t v σ H Q ->
  wpAny (model X.prog X.w) X.A (assign target X.env u) (fun _ s'=>∃σ' H',Inv X pins σ' H' s'/\Q σ' H') X.xe s
noncomputable def Dq(X:Cx)(ts:List Expr)(t:AR):Prop:=
 ∀(pins:List (Addr×Obj)) (s:Shared) (σ:St) (H:Hp) (vs:List V) (us:List Value) (Q:St->Hp->Prop),Inv X pins σ H s->aZ vs us->t vs σ H Q ->
  wpAny (model X.prog X.w) X.A (assignInOrder ((assignEach ts X.env).map (·.2)) us) (fun _ s'=>∃σ' H',Inv X pins σ' H' s'/\Q σ' H') X.xe s
noncomputable abbrev Cu:=V->V->V->Hp->(Hp->Prop)->Prop
noncomputable def DD(X:Cx)(t:Cu):Prop:=
 ∀(pins:List (Addr×Obj)) (s:Shared) (σ:St) (H:Hp) (o i v:V) (ov iv u:Value) (Q:Hp->Prop),Inv X pins σ H s->bq o ov->bq i iv->bq v u->t o i v H Q ->
  wpAny (model X.prog X.w) X.A (setItem ov iv u) (fun _ s'=>∃H',Inv X pins σ H' s'/\Q H') X.xe s
section
variable {X:Cx}{pos:Pos}
noncomputable def jd(i:Nat):TG:=fun v σ H Q=>Q (σ.set i (some v)) H
theorem aH{i:Nat}{x:Str}(hN:X.N.Nodup)(hi:X.N[i]?=some x)(hx:Loc X.env.scope x)(hf:X.fn x=true\/X.env.scope.names.lookup x=some .local:=by first | exact .inl rfl | exact .inr rfl | assumption):PG X (.Name x pos) (jd i):=by
 intro pins s σ H v u Q I r h;exact wpAny_assign_Name (lP I hN hi hx r (fun s' I'=>⟨_,H,I',h⟩) hf)
noncomputable def BH:AR:=fun vs σ H Q=>vs=[]/\Q σ H
noncomputable def w4(t:TG)(u:AR):AR:=fun vs σ H Q=>∃v r,vs=v::r/\t v σ H fun σ' H'=>u r σ' H' Q
theorem cM:Dq X [] BH:=by
 intro pins s σ H vs us Q I r h;obtain⟨e,h⟩:=h;subst e;cases r;exact assignInOrder_nil ⟨σ,H,I,h⟩
theorem aY{e:Expr}{es:List Expr}{t:TG}{u:AR}(h1:PG X e t)(h2:Dq X es u)
  (hs:(assignEach (e::es) X.env).map (·.2)=assign e X.env::(assignEach es X.env).map (·.2):=by rfl):Dq X (e::es) (w4 t u):=by
 intro pins s σ H vs us Q I r h;obtain⟨v,vr,e1,h⟩:=h;subst e1;cases r with
 |cons r rr=>
  rw[hs];refine assignInOrder_cons (bF (h1 pins s σ H _ _ _ I r h) fun _ s1 ⟨σ1,H1,I1,q1⟩=>?_);exact h2 pins s1 σ1 H1 _ _ Q I1 rr q1
noncomputable def zC(K:PySem.W.Frag)(n:Nat)(t:AR):TG:=fun v σ H Q=>∃a xs,v=.ref a/\bd K H a xs/\xs.length=n/\t xs σ H Q
theorem fj{es:List Expr}{k:Nat}{t:AR}{n:Nat}(hc:X.calm=true)(h:Dq X es t)
  (hn:(assignEach es X.env).length=n:=by rfl) (hst:(assignEach es X.env).findIdx? (·.1)=none:=by rfl):PG X (.Tuple es k pos) (zC X.K n t):=by
 intro pins s σ H v u Q I r hw;obtain⟨a,xs,e1,hq,hl,hw⟩:=hw;subst e1;cases r;obtain⟨its,rv,ht,hz⟩:=I.tuple hq;refine assign_Tuple_tuple (I.ok.hd hc) ht (by simp[hn,<- hl,rv.length]) hst fun h' hx=>?_;have I1:Inv X pins σ H {s with heap:=h' }:=I.kept (t':=s.toks) fun b o e=>hx b o (HK (HS e)) e;exact h pins _ σ H xs _ Q I1 (by simpa using rv) hw
noncomputable def Db(to ti:TE)(t:Cu):TG:=fun v σ H Q=>to σ H fun o H1=>ti σ H1 fun i H2=>t o i v H2 fun H3=>Q σ H3
theorem CD{o i:Expr}{to ti:TE}{t:Cu}(ho:PE X o to)(hi:PE X i ti)(hs:DD X t)
  (ha:∀v,assign (.Subscript o i pos) X.env v=(do
   let ov <- holding [v] (eval o X.env)
   let iv <- holding [v,ov] (eval i X.env)
   standAt pos
   holding [v,ov,iv] (setItem ov iv v)
   release [v,ov,iv] []):=by intro _;rfl):PG X (.Subscript o i pos) (Db to ti t):=by
 intro pins s σ H v u Q I r h;rw[ha];refine wpAny_bind (wpAny_holding (bF (ho pins s σ H _ I h) fun ov s1 ⟨x,H1,I1,r1,q1⟩=>?_));refine wpAny_bind (wpAny_holding (bF (hi pins s1 σ H1 _ I1 q1) fun iv s2 ⟨y,H2,I2,r2,q2⟩=>?_));refine wpAny_bind (wpAny_standAt (wpAny_bind (wpAny_holding (bF (hs pins s2 σ H2 x y v ov iv u _ I2 r1 r2 r q2) fun _ s3 ⟨H3,I3,q3⟩=>?_))));exact wpAny_release ⟨σ,H3,I3,q3⟩
noncomputable def vg(te:TE)(g:TG):TS:=fun D σ H=>te σ H fun x H1=>g x σ H1 D.nx
theorem jy{tg e:Expr}{te:TE}{g:TG}(he:PE X e te)(hg:PG X tg g)(hs:swapsWithSole [tg] e pos.line X.env=pure false:=by rfl)(hw:swappedStores [tg] e X.env=pure none:=by rfl)
  (h1:(assignEach [tg] X.env).map (·.2)=[assign tg X.env]:=by rfl):PS X (.Assign [tg] e pos) (vg te g):=by
 intro pins s σ H D I h;refine wpAny_Assign_stores (bF (he pins s σ H _ I h) fun v s1 ⟨x,H1,I1,r1,q1⟩=>?_) hs hw;rw[h1];exact bF (hg pins s1 σ H1 x v _ I1 r1 q1) fun _ s2 q=>q
theorem aK{i:Nat}{x:Str}{e:Expr}{te:TE}{pos':Pos}(hN:X.N.Nodup)(hi:X.N[i]?=some x)(hx:Loc X.env.scope x)(he:PE X e te)(hs:swapsWith e (some (.Name x pos')) pos.line X.env=pure false:=by rfl)(hf:X.fn x=true\/X.env.scope.names.lookup x=some .local:=by first | exact .inl rfl | exact .inr rfl | assumption) :
  PS X (.Assign [.Name x pos'] e pos) (vg te (jd i)):=by
 intro pins s σ H D I h;refine wpAny_Assign_Name (bF (he pins s σ H _ I h) fun v s1 ⟨y,H1,I1,r1,q1⟩=>?_) hs;exact lP I1 hN hi hx r1 (fun s2 I2=>⟨_,H1,I2,q1⟩) hf
end
section
variable {X:Cx}{pos:Pos}
noncomputable def v1(c:TT)(tb:TS):TS:=fun D σ H=>∃W:Nat->St->Hp->Prop,(∃m,W m σ H)/\∀m σ H,W m σ H ->
 c σ H fun b H1=>if b=true then ∃N:St->Hp->Prop,(∀σ' H',N σ' H'->∃m',m'<m/\W m' σ' H')/\tb {D with nx:=N,ct:=N,bk:=D.nx} σ H1 else D.nx σ H1
theorem uJ{c:Expr}{body:List Stmt}{tc:TT}{tb:TS}(hp:PassesOwn (model X.prog X.w) X.A X.env X.xe)(hc:PT X c tc)(hb:qg X body tb):PS X (.While c body [] pos) (v1 tc tb):=by
 intro pins s σ H D I h;obtain⟨W,⟨m0,w0⟩,turn⟩:=h;refine wpAny_While (codeAny_whileLoop (fun n s'=>∃σ' H',Inv X pins σ' H' s'/\W n σ' H') ?_ m0 ⟨σ,H,I,w0⟩);rintro n s1 ⟨σ1,H1,I1,w1⟩;refine wpAny_passesOwn hp (bF (hc pins s1 σ1 H1 _ I1 (turn n σ1 H1 w1)) fun b s2 ⟨H2,I2,q2⟩=>?_);cases b with
 |true=>
  obtain⟨N,hN,q2⟩:=q2;rw[if_pos rfl];refine wpAny_passesOwn hp (bF (hb pins s2 σ1 H2 _ I2 q2) fun f s3 q3=>?_);cases f with
  |next=>
   obtain⟨σ3,H3,I3,n3⟩:=q3;obtain⟨m',hm,w3⟩:=hN σ3 H3 n3;exact⟨m',hm,σ3,H3,I3,w3⟩
  |cont=>
   obtain⟨σ3,H3,I3,n3⟩:=q3;obtain⟨m',hm,w3⟩:=hN σ3 H3 n3;exact⟨m',hm,σ3,H3,I3,w3⟩
  |brk=>exact q3
  |ret v=>exact q3
 |false=>
  rw[if_neg HR];exact wpAny_execs_nil ⟨σ1,H2,I2,q2⟩
end
structure It where
 go:Nat->Hp->Prop
 yld:Nat->Hp->V->Hp->Prop
 stop:Nat->Hp->Prop
noncomputable def nN(X:Cx)(pins:List (Addr×Obj))(H:Hp)(b:Addr):Prop:=
 H b=none/\b≠X.env.locals/\b∉X.fs/\(b∈X.ex\/X.s₀.heap.objs.size<=b)/\(∀x c,X.env.cells.lookup x=some c->c≠b)/\∀p∈X.pn++pins,p.1≠b
theorem Inv.fpOk{X:Cx}{pins:List (Addr×Obj)}{σ:St}{H H':Hp}{s:Shared}{b:Addr}(I:Inv X pins σ H s)(hb:s.heap.objs.size<=b)(hn:H' b=none):nN X pins H' b:=by
 refine⟨hn,Nat.ne_of_gt (HJ I.lt hb),I.nofs hb,.inr (HY I.sz hb),fun x c e z=>?_,fun p hp z=>?_⟩
 ·obtain⟨v,q⟩:=I.cell x c e
  exact absurd (HJ q.lt (by rw[z];exact hb)) (HZ _)
 ·exact absurd (HJ (HS (I.pin p hp).1) (by rw[z];exact hb)) (HZ _)
structure oq(P:Program)(w:World)(K:PySem.W.Frag)(tg:Expr)(J:It)(fp:List Addr)(it:Addr)(tn:Nat->Heap->Prop):Prop where
 mem:it∈fp
 obj:∀i h,tn i h->∀b∈fp,∃o,h.get? b=some o/\∀v,o.data≠.cell v
 keep:∀i h h',tn i h->(∀b∈fp,∀o,h.get? b=some o->h'.get? b=some o)->tn i h'
 item:∀(X:Cx),X.prog=P->X.w=w->X.K=K->X.calm=true->∀(i:Nat) (pins:List (Addr×Obj)) (s:Shared) (σ:St) (H:Hp) (E:Value->Shared->Prop),Inv X pins σ H s->(∀b∈fp,nN X pins H b)->tn i s.heap->J.go i H ->
  wpAny (model P w) X.A (pyNext (.ref it)) (fun r s1=>∃u,r=some u /\
   wpAny (model P w) X.A (letOwnedTupleGo tg (.ref it) u) (fun _ s2=>∃x H',Inv X pins σ H' s2/\bq x u/\J.yld i H x H'/\tn (i+1) s2.heap/\∀b∈fp,H' b=none) E s1) E s
 done:∀(X:Cx),X.prog=P->X.w=w->X.K=K->X.calm=true->∀(i:Nat) (pins:List (Addr×Obj)) (s:Shared) (σ:St) (H:Hp) (E:Value->Shared->Prop),Inv X pins σ H s->(∀b∈fp,nN X pins H b)->tn i s.heap->J.stop i H ->
  wpAny (model P w) X.A (pyNext (.ref it)) (fun r s1=>r=none/\Inv X pins σ H s1) E s
 self:∀(A:Around) (i:Nat) (s:Shared) (Q:Value->Shared->Prop) (E:Value->Shared->Prop),tn i s.heap->Q (.ref it) s->wpAny (model P w) A (pyIter (.ref it)) Q E s
noncomputable abbrev TI:=St->Hp->(It->Hp->Prop)->Prop
noncomputable def Fl(X:Cx)(pins:List (Addr×Obj))(σ:St)(tg:Expr)(R:It->Hp->Prop)(itv:Value)(s2:Shared):Prop:=
 ∃(it:Addr) (fp:List Addr) (tn:Nat->Heap->Prop) (J:It) (H':Hp),itv=.ref it/\Inv X pins σ H' s2/\oq X.prog X.w X.K tg J fp it tn/\tn 0 s2.heap/\(∀b∈fp,nN X pins H' b)/\R J H'
noncomputable def PI(X:Cx)(tg iter:Expr)(wi:TI):Prop:=
 ∀(pins:List (Addr×Obj)) (s:Shared) (σ:St) (H:Hp) (R:It->Hp->Prop),Inv X pins σ H s->wi σ H R ->
  wpAny (model X.prog X.w) X.A (eval iter X.env) (fun v s1=>wpAny (model X.prog X.w) X.A (pyIter v) (Fl X pins σ tg R) X.xe s1) X.xe s
theorem rG{M:Model}{A:Around}{E:Value->Shared->Prop}{s:Shared}{tg:Expr}{it:Addr}{u:Value}{o:Obj}{n:String}{vs:Array Value}{Q:Unit->Shared->Prop}(ho:s.heap.get? it=some o)(hc:o.cls=.type n)(hd:o.data=.fields vs)
  (hn:["enumerate","zip","dict_itemiterator","dict_reverseitemiterator","odict_iterator","itertools.zip_longest","itertools.pairwise"].contains n=false) (hQ:Q () s):wpAny M A (letOwnedTupleGo tg (.ref it) u) Q E s:=by
 unfold letOwnedTupleGo;cases tg<;>first
  |exact wpAny_pure hQ
  | (cases u<;>first
    |exact wpAny_pure hQ
    | (refine wpAny_bind (wpAny_load ho ?_)
       rw[hc,hd];show wpAny M A (if(["enumerate","zip","dict_itemiterator","dict_reverseitemiterator","odict_iterator","itertools.zip_longest","itertools.pairwise"].contains n&&vs[0]?==some (rawInt _))=true then _ else _) Q E s;rw[if_neg (by intro h;rw[hn,Bool.false_and]at h;cases h)];exact wpAny_pure hQ))
noncomputable def AH(K:PySem.W.Frag)(a:Addr):It:=
 ⟨fun i H=>∃xs x,aW K H a xs/\xs[i]?=some x,fun i H x H'=>H'=H/\∀xs,aW K H a xs->xs[i]?=some x,fun i H=>∃xs,aW K H a xs/\xs.length<=i⟩
noncomputable def BU(K:PySem.W.Frag)(a:Addr):It:=
 ⟨fun i H=>∃xs x,bd K H a xs/\xs[i]?=some x,fun i H x H'=>H'=H/\∀xs,bd K H a xs->xs[i]?=some x,fun i H=>∃xs,bd K H a xs/\xs.length<=i⟩
noncomputable def yq(lo:Int)(n:Nat):It:=⟨fun i _=>i<n,fun i H x H'=>H'=H/\x=.int (lo+i),fun i _=>n<=i⟩
theorem xT{P:Program}{w:World}{K:PySem.W.Frag}{tg:Expr}(a it:Addr):oq P w K tg (AH K a) [it] it (fun i h=>h.IsListIter it a i) where
 mem:=by simp
 obj:=fun i h st b hb=>by
  have e:b=it:=by simpa using hb
  subst e;obtain⟨o,e,c,d⟩:=st;exact⟨o,e,fun v z=>by rw[d]at z;cases z⟩
 keep:=fun i h h' st k=>st.at fun o e=>k it (by simp) o e
 item:=by
  intro X hP hw hK hc i pins s σ H E I hf st hg;subst hP hw hK;obtain⟨xs,x,hq,hx⟩:=hg;obtain⟨its,rv,p,hz⟩:=I.list hq;obtain⟨u,hu,ru⟩:=rv.get hx;obtain⟨f0,f1,f2,f3,f4,f5⟩:=hf it (by simp);refine wpAny_pyNext_list_item st p.isList (x:=u) (by simpa using hu) fun h' st' sb=>?_;have I1:Inv X pins σ H {s with heap:=h' }:=I.turned (t':=s.toks) (fun b o hb e=>(sb.2 b hb).trans e) f0 f1 f3 f4 f5;obtain⟨o,e,c,d⟩:=id st';exact⟨u,rfl,rG (s:={s with heap:=h' }) e c d (by decide) ⟨x,H,I1,ru,⟨rfl,fun ys hy=>by rw[I.list_inj hy hq];exact hx⟩,st',fun b hb=>(hf b hb).1⟩⟩
 done:=by
  intro X hP hw hK hc i pins s σ H E I hf st hg;subst hP hw hK;obtain⟨xs,hq,hx⟩:=hg;obtain⟨its,rv,p,hz⟩:=I.list hq;obtain⟨f0,f1,f2,f3,f4,f5⟩:=hf it (by simp);have hl:=rv.length;exact wpAny_pyNext_list_end (I.ok.hd hc) st p.isList (by simp;omega) fun h' eb=>⟨rfl,I.turned (t':=s.toks) (fun b o hb e=>eb b o hb e) f0 f1 f3 f4 f5⟩
 self:=fun _ _ _ _ _ st h=>wpAny_pyIter_listiter st h
theorem we{P:Program}{w:World}{K:PySem.W.Frag}{tg:Expr}(a it:Addr):oq P w K tg (BU K a) [it] it (fun i h=>h.IsTupleIter it a i) where
 mem:=by simp
 obj:=fun i h st b hb=>by
  have e:b=it:=by simpa using hb
  subst e;obtain⟨o,e,c,d⟩:=st;exact⟨o,e,fun v z=>by rw[d]at z;cases z⟩
 keep:=fun i h h' st k=>st.at fun o e=>k it (by simp) o e
 item:=by
  intro X hP hw hK hc i pins s σ H E I hf st hg;subst hP hw hK;obtain⟨xs,x,hq,hx⟩:=hg;obtain⟨its,rv,p,hz⟩:=I.tuple hq;obtain⟨u,hu,ru⟩:=rv.get hx;obtain⟨f0,f1,f2,f3,f4,f5⟩:=hf it (by simp);refine wpAny_pyNext_tuple_item st (show s.heap.IsTuple a its.toArray from p) (x:=u) (by simpa using hu) fun h' st' sb=>?_;have I1:Inv X pins σ H {s with heap:=h' }:=I.turned (t':=s.toks) (fun b o hb e=>(sb.2 b hb).trans e) f0 f1 f3 f4 f5;obtain⟨o,e,c,d⟩:=id st';exact⟨u,rfl,rG (s:={s with heap:=h' }) e c d (by decide) ⟨x,H,I1,ru,⟨rfl,fun ys hy=>by rw[I.tuple_inj hy hq];exact hx⟩,st',fun b hb=>(hf b hb).1⟩⟩
 done:=by
  intro X hP hw hK hc i pins s σ H E I hf st hg;subst hP hw hK;obtain⟨xs,hq,hx⟩:=hg;obtain⟨its,rv,p,hz⟩:=I.tuple hq;obtain⟨f0,f1,f2,f3,f4,f5⟩:=hf it (by simp);have hl:=rv.length;exact wpAny_pyNext_tuple_end (I.ok.hd hc) st (show s.heap.IsTuple a its.toArray from p) (by simp;omega) fun h' eb=>⟨rfl,I.turned (t':=s.toks) (fun b o hb e=>eb b o hb e) f0 f1 f3 f4 f5⟩
 self:=fun _ _ _ _ _ st h=>wpAny_pyIter_tupleiter st h
theorem vY{P:Program}{w:World}{K:PySem.W.Frag}{tg:Expr}(it:Addr)(lo:Int)(n:Nat):oq P w K tg (yq lo n) [it] it (fun i h=>IsRangeIter h it (lo+(i:Nat)*1) ((n:Int)-(i:Nat)) 1) where
 mem:=by simp
 obj:=fun i h st b hb=>by
  have e:b=it:=by simpa using hb
  subst e;exact⟨_,st,fun v z=>by
   have z':Data.fields _=Data.cell v:=z;cases z'⟩
 keep:=fun i h h' st k=>k it (by simp) _ st
 item:=by
  intro X hP hw hK hc i pins s σ H E I hf st hg;subst hP hw hK;obtain⟨f0,f1,f2,f3,f4,f5⟩:=hf it (by simp);have W:=Walks.range (prog:=X.prog) (w:=X.w) (I.ok.hd hc) it lo 1 n;refine W.item i s _ _ hg st fun v h' tk hv st' kk=>?_;obtain⟨t,rfl⟩:=hv;have I1:Inv X pins σ H {s with heap:=h',toks:=tk}:=I.turned (fun b o hb e=>kk b o (by simpa using hb) e) f0 f1 f3 f4 f5;refine⟨_,rfl,rG (s:={s with heap:=h',toks:=tk}) (n:="range_iterator") st' rfl rfl (by decide) ⟨.int (lo+i),H,I1,⟨t,?_⟩,⟨rfl,rfl⟩,st',fun b hb=>(hf b hb).1⟩⟩;rw[Int.mul_one]
 done:=by
  intro X hP hw hK hc i pins s σ H E I hf st hg;subst hP hw hK;obtain⟨f0,f1,f2,f3,f4,f5⟩:=hf it (by simp);exact wpAny_pyNext_range_end (I.ok.hd hc) st (by have:n<=i:=hg;omega) fun h' eb=>⟨rfl,I.turned (t':=s.toks) (fun b o hb e=>eb b o hb e) f0 f1 f3 f4 f5⟩
 self:=fun _ _ _ _ _ st h=>wpAny_pyIter_rangeiter st h
section
variable {X:Cx}{tg:Expr}
noncomputable def zQ(K:PySem.W.Frag)(tl:TE):TI:=fun σ H R=>tl σ H fun x H1=>∃a,x=.ref a/\(∃xs,aW K H1 a xs)/\R (AH K a) H1
noncomputable def CC(K:PySem.W.Frag)(tl:TE):TI:=fun σ H R=>tl σ H fun x H1=>∃a,x=.ref a/\(∃xs,bd K H1 a xs)/\R (BU K a) H1
theorem dU{l:Expr}{tl:TE}(hl:PE X l tl):PI X tg l (zQ X.K tl):=by
 intro pins s σ H R I h;refine bF (hl pins s σ H _ I h) fun v s1 ⟨x,H1,I1,r1,q1⟩=>?_;obtain⟨a,e,⟨xs,hq⟩,q⟩:=q1;subst e;cases r1;obtain⟨its,rv,p,hz⟩:=I1.list hq;refine wpAny_pyIter_list p.isList ?_;refine⟨s1.heap.objs.size,[s1.heap.objs.size],_,_,H1,rfl,I1.kept (t':=s1.toks) fun b o e=>Hl _ e,xT a _,⟨_,Hs _ rfl,rfl,rfl⟩,fun b hb=>?_,q⟩;have e:b=s1.heap.objs.size:=by simpa using hb
 subst e;exact I1.fpOk (HP _) (I1.hok.fresh (HP _))
theorem vi{l:Expr}{tl:TE}(hl:PE X l tl):PI X tg l (CC X.K tl):=by
 intro pins s σ H R I h;refine bF (hl pins s σ H _ I h) fun v s1 ⟨x,H1,I1,r1,q1⟩=>?_;obtain⟨a,e,⟨xs,hq⟩,q⟩:=q1;subst e;cases r1;obtain⟨its,rv,p,hz⟩:=I1.tuple hq;refine wpAny_pyIter_tuple (show s1.heap.IsTuple a its.toArray from p) ?_;refine⟨s1.heap.objs.size,[s1.heap.objs.size],_,_,H1,rfl,I1.kept (t':=s1.toks) fun b o e=>Hl _ e,we a _,⟨_,Hs _ rfl,rfl,rfl⟩,fun b hb=>?_,q⟩;have e:b=s1.heap.objs.size:=by simpa using hb
 subst e;exact I1.fpOk (HP _) (I1.hok.fresh (HP _))
theorem uI{pins:List (Addr×Obj)}{σ:St}{H:Hp}{s:Shared}{R:It->Hp->Prop}{E:Value->Shared->Prop}{lo hi:Int}{t u v:Tok}{tk:Nat}(I:Inv X pins σ H s)(h1:-(2 ^ 62)<=lo)(h2:lo<2 ^ 62)(h3:-(2 ^ 62)<=hi)(h4:hi<2 ^ 62)
  (q:R (yq lo (hi-lo).toNat) H):wpAny (model X.prog X.w) X.A (pyIter (.ref s.heap.objs.size)) (Fl X pins σ tg R) E {s with heap:=s.heap.push {cls:=.type "range",data:=.fields #[.int lo t,.int hi u,.int 1 v]},toks:=tk}:=by
 refine wpAny_pyIter_range (IsRange.new ..) (small_one h1 h2 h3 h4) ?_;have I1:Inv X pins σ H {s with heap:=s.heap.push {cls:=.type "range",data:=.fields #[.int lo t,.int hi u,.int 1 v]},toks:=tk}:=I.kept fun b o e=>Hl _ e;refine⟨(s.heap.push {cls:=.type "range",data:=.fields #[.int lo t,.int hi u,.int 1 v]}).objs.size,[(s.heap.push {cls:=.type "range",data:=.fields #[.int lo t,.int hi u,.int 1 v]}).objs.size],_,_,H,rfl,
  I1.kept (t':=tk) fun b o e=>Hl _ e,vY _ lo (hi-lo).toNat,?_,fun b hb=>?_,q⟩
 ·have e1:lo+((0:Nat):Int)*1=lo:=by simp
  have e2:(((hi-lo).toNat:Nat):Int)-((0:Nat):Int)=Builtin.Range.rangeSize lo hi 1:=by rw[rangeSize_one];split<;>omega
  show IsRangeIter _ _ (lo+((0:Nat):Int)*1) ((((hi-lo).toNat:Nat):Int)-((0:Nat):Int)) 1;rw[e1,e2];exact Hs _ rfl
 ·have e:b=(s.heap.push {cls:=.type "range",data:=.fields #[.int lo t,.int hi u,.int 1 v]}).objs.size:=by simpa using hb
  subst e;exact I1.fpOk (HP _) (I1.hok.fresh (HP _))
noncomputable def zv(ta:TA):TI:=fun σ H R=>ta σ H fun vs H1=>∃j:Int,vs=[.int j]/\-(2 ^ 62)<=j/\j<2 ^ 62/\R (yq 0 j.toNat) H1
noncomputable def y0(ta:TA):TI:=fun σ H R=>ta σ H fun vs H1=>∃i j:Int,vs=[.int i,.int j]/\(-(2 ^ 62)<=i/\i<2 ^ 62/\-(2 ^ 62)<=j/\j<2 ^ 62)/\R (yq i (j-i).toNat) H1
theorem bQ{a:Expr}{ta:TA}{p pos:Pos}(hg:Gl X "range")(hm:X.mg "range"=none)(ha:PA X [a] ta)(hs:starEach [a] X.env=[(false,eval a X.env)]:=by rfl):PI X tg (.Call (.Name "range" p) [a] [] pos) (zv ta):=by
 intro pins s σ H R I h;refine Call_ (bY I hg hm boot_range (PyProof.Rows.callWith_type1 (bF (ha pos pins s σ H _ I h) fun us s1 ⟨vs,H1,I1,r1,q1⟩=>?_) hs rfl));obtain⟨j,e,q1,q2,q⟩:=q1;subst e;cases r1 with
 |cons r rr=>
  cases rr;obtain⟨t,rfl⟩:=r;exact call_range_1 (uI I1 (by omega) (by omega) q1 q2 (by simpa using q))
theorem xY{a b:Expr}{ta:TA}{p pos:Pos}(hg:Gl X "range")(hm:X.mg "range"=none)(ha:PA X [a,b] ta)(hs:starEach [a,b] X.env=[(false,eval a X.env),(false,eval b X.env)]:=by rfl)(hs2:starEach [b] X.env=[(false,eval b X.env)]:=by rfl) :
  PI X tg (.Call (.Name "range" p) [a,b] [] pos) (y0 ta):=by
 intro pins s σ H R I h;refine Call_ (bY I hg hm boot_range (PyProof.Rows.callWith_type1 (bF (ha pos pins s σ H _ I h) fun us s1 ⟨vs,H1,I1,r1,q1⟩=>?_) (by rw[hs,hs2]) (by rw[hs2];rfl)));obtain⟨i,j,e,⟨q1,q2,q3,q4⟩,q⟩:=q1;subst e;cases r1 with
 |cons r rr=>
  cases rr with
  |cons r' rr=>
   cases rr;obtain⟨t,rfl⟩:=r;obtain⟨t',rfl⟩:=r';exact call_range_2 (uI I1 q1 q2 q3 q4 q)
noncomputable def Ez(wi:TI)(g:TG)(tb:TS):TS:=fun D σ H=>wi σ H fun J H1=>∃W:Nat->Nat->St->Hp->Prop,(∃m,W 0 m σ H1)/\∀i m σ H,W i m σ H ->
 (J.stop i H/\D.nx σ H)\/(J.go i H/\∃N:St->Hp->Prop,(∀σ' H',N σ' H'->∃m',m'<m/\W (i+1) m' σ' H')/\∀x H',J.yld i H x H'->g x σ H' fun σ2 H2=>tb {D with nx:=N,ct:=N,bk:=D.nx} σ2 H2)
noncomputable def pB(fp:List Addr)(h:Heap):List (Addr×Obj):=fp.filterMap fun b=>(h.get? b).map fun o=>(b,o)
theorem h_{fp:List Addr}{h:Heap}{b:Addr}{o:Obj}(hb:b∈fp)(e:h.get? b=some o):(b,o)∈pB fp h:=List.mem_filterMap.mpr ⟨b,hb,by rw[e];rfl⟩
theorem xk{fp:List Addr}{h:Heap}{p:Addr×Obj}(hp:p∈pB fp h):p.1∈fp/\h.get? p.1=some p.2:=by
 obtain⟨b,hb,e⟩:=List.mem_filterMap.mp hp;cases q:h.get? b with
 |none=>rw[q]at e;cases e
 |some o=>
  rw[q]at e;have e':(b,o)=p:=Option.some.inj e;subst e';exact⟨hb,q⟩
theorem Inv.pinned{pins:List (Addr×Obj)}{σ:St}{H:Hp}{s:Shared}{fp:List Addr}(I:Inv X pins σ H s)(hf:∀b∈fp,nN X pins H b)(ho:∀b∈fp,∃o,s.heap.get? b=some o/\∀v,o.data≠.cell v):Inv X (pins++pB fp s.heap) σ H s:=
 I.pins_of fun p hp=>(Hz.mp hp).elim (fun z=>I.pin p (List.mem_append_right _ z)) fun z=>by
  obtain⟨hb,e⟩:=xk z;obtain⟨f0,f1,f2,_⟩:=hf p.1 hb;obtain⟨o,e',d⟩:=ho p.1 hb;rw[e]at e';cases e'
  exact⟨e,f0,f1,f2,d⟩
theorem Inv.unpinned{pins pl:List (Addr×Obj)}{σ:St}{H:Hp}{s:Shared}(I:Inv X (pins++pl) σ H s):Inv X pins σ H s:=I.pins_of fun p hp=>I.pin p (List.mem_append_right _ (List.mem_append_left _ hp))
theorem Dd{iter:Expr}{body:List Stmt}{wi:TI}{g:TG}{tb:TS}{pos:Pos}(hp:PassesOwn (model X.prog X.w) X.A X.env X.xe)(hc:X.calm=true)(hi:PI X tg iter wi)(hg:PG X tg g)(hb:qg X body tb)
  (hs:∀x,foldedSetIterable iter X.env x=pure x:=by intro _;rfl):PS X (.For tg iter body [] pos) (Ez wi g tb):=by
 intro pins s σ H D I h;refine wpAny_For (bF (hi pins s σ H _ I h) fun v s1 h1=>bF h1 fun itv s2 h2=>?_) hs;obtain⟨it,fp,tn,J,H2,e,I2,T,st2,f2,W,⟨m0,w0⟩,turn⟩:=h2;subst e
 -- what stays true of the iterator's objects through the loop
 have stat:∀{H':Hp},(∀b∈fp,H' b=none)->∀b∈fp,nN X pins H' b:=fun hn b hb=>⟨hn b hb,(f2 b hb).2⟩;refine codeAny_forLoop_any (fun n s'=>∃i σ' H',Inv X pins σ' H' s'/\tn i s'.heap/\(∀b∈fp,H' b=none)/\W i n σ' H') ?_ m0 ⟨0,σ,H2,I2,st2,fun b hb=>(f2 b hb).1,w0⟩;rintro n s3 ⟨i,σ3,H3,I3,st3,fr3,w3⟩;rcases turn i n σ3 H3 w3 with⟨stop,qn⟩ | ⟨go,N,hN,step⟩
 ·refine wpAny_passesOwn hp (bF (T.done X rfl rfl rfl hc i pins s3 σ3 H3 X.xe I3 (stat fr3) st3 stop) fun r s4 ⟨hr,I4⟩=>?_)
  subst hr;exact wpAny_execs_nil ⟨σ3,H3,I4,qn⟩
 ·refine wpAny_passesOwn hp (bF (T.item X rfl rfl rfl hc i pins s3 σ3 H3 X.xe I3 (stat fr3) st3 go) fun r s4 ⟨u,hr,h4⟩=>?_)
  subst hr;refine wpAny_passesOwn hp (bF h4 fun _ s5 ⟨x,H5,I5,r5,y5,st5,fr5⟩=>?_);have I5':=I5.pinned (stat fr5) (T.obj _ _ st5);refine wpAny_passesOwn hp (bF (hg _ s5 σ3 H5 x u _ I5' r5 (step x H5 y5)) fun _ s6 ⟨σ6,H6,I6,q6⟩=>?_);refine wpAny_passesOwn hp (bF (hb _ s6 σ6 H6 _ I6 q6) fun f s7 q7=>?_);have again:∀{σ7:St} {H7:Hp},Inv X (pins++pB fp s5.heap) σ7 H7 s7->N σ7 H7->∃m,m<n/\∃i σ' H',Inv X pins σ' H' s7/\tn i s7.heap/\(∀b∈fp,H' b=none)/\W i m σ' H':=fun{σ7 H7} I7 n7=>by
   obtain⟨m',hm,w7⟩:=hN σ7 H7 n7;refine⟨m',hm,i+1,σ7,H7,I7.unpinned,T.keep _ _ _ st5 fun b hb o e=>(I7.pin (b,o) (List.mem_append_right _ (List.mem_append_right _ (h_ hb e)))).1,fun b hb=>?_,w7⟩;obtain⟨o,e,d⟩:=T.obj _ _ st5 b hb;exact(I7.pin (b,o) (List.mem_append_right _ (List.mem_append_right _ (h_ hb e)))).2.1
  cases f with
  |next=>obtain⟨σ7,H7,I7,n7⟩:=q7;exact again I7 n7
  |cont=>obtain⟨σ7,H7,I7,n7⟩:=q7;exact again I7 n7
  |brk=>obtain⟨σ7,H7,I7,q7⟩:=q7;exact⟨σ7,H7,I7.unpinned,q7⟩
  |ret v=>obtain⟨x7,σ7,H7,I7,r7,q7⟩:=q7;exact⟨x7,σ7,H7,I7.unpinned,r7,q7⟩
end
theorem Ap{K:PySem.W.Frag}{a:Addr}{xs:List V}{g:TG}{tb:TS}{D:jf}{σ:St}{H:Hp}(Pv:Nat->St->Hp->Prop)(h0:Pv 0 σ H)(hl:∀i σ H,i<=xs.length->Pv i σ H->aW K H a xs)
  (hs:∀i x σ H,xs[i]?=some x->Pv i σ H->g x σ H fun σ2 H2=>tb {D with nx:=Pv (i+1),ct:=Pv (i+1),bk:=D.nx} σ2 H2) (hd:∀σ H,Pv xs.length σ H->D.nx σ H) :
  ∃W:Nat->Nat->St->Hp->Prop,(∃m,W 0 m σ H)/\∀i m σ H,W i m σ H ->
   ((AH K a).stop i H/\D.nx σ H)\/((AH K a).go i H/\∃N:St->Hp->Prop,(∀σ' H',N σ' H'->∃m',m'<m/\W (i+1) m' σ' H')/\∀x H',(AH K a).yld i H x H'->g x σ H' fun σ2 H2=>tb {D with nx:=N,ct:=N,bk:=D.nx} σ2 H2):=by
 refine⟨fun i m σ H=>m=xs.length-i/\i<=xs.length/\Pv i σ H,⟨xs.length,by simp,HQ _,h0⟩,?_⟩;rintro i m σ H ⟨rfl,hi,p⟩;have q:=hl i σ H hi p
 by_cases hlt:i<xs.length
 ·refine .inr ⟨⟨xs,xs[i],q,by simp[hlt]⟩,Pv (i+1),fun σ' H' p'=>⟨xs.length-(i+1),by omega,rfl,hlt,p'⟩,fun x H' y=>?_⟩
  obtain⟨e,y⟩:=y;subst e;exact hs i x σ _ (y xs q) p
 ·have e:i=xs.length:=by omega
  subst e;exact .inl ⟨⟨xs,q,HP _⟩,hd σ H p⟩
theorem A6{K:PySem.W.Frag}{a:Addr}{xs:List V}{g:TG}{tb:TS}{D:jf}{σ:St}{H:Hp}(Pv:Nat->St->Hp->Prop)(h0:Pv 0 σ H)(hl:∀i σ H,i<=xs.length->Pv i σ H->bd K H a xs)
  (hs:∀i x σ H,xs[i]?=some x->Pv i σ H->g x σ H fun σ2 H2=>tb {D with nx:=Pv (i+1),ct:=Pv (i+1),bk:=D.nx} σ2 H2) (hd:∀σ H,Pv xs.length σ H->D.nx σ H) :
  ∃W:Nat->Nat->St->Hp->Prop,(∃m,W 0 m σ H)/\∀i m σ H,W i m σ H ->
   ((BU K a).stop i H/\D.nx σ H)\/((BU K a).go i H/\∃N:St->Hp->Prop,(∀σ' H',N σ' H'->∃m',m'<m/\W (i+1) m' σ' H')/\∀x H',(BU K a).yld i H x H'->g x σ H' fun σ2 H2=>tb {D with nx:=N,ct:=N,bk:=D.nx} σ2 H2):=by
 refine⟨fun i m σ H=>m=xs.length-i/\i<=xs.length/\Pv i σ H,⟨xs.length,by simp,HQ _,h0⟩,?_⟩;rintro i m σ H ⟨rfl,hi,p⟩;have q:=hl i σ H hi p
 by_cases hlt:i<xs.length
 ·refine .inr ⟨⟨xs,xs[i],q,by simp[hlt]⟩,Pv (i+1),fun σ' H' p'=>⟨xs.length-(i+1),by omega,rfl,hlt,p'⟩,fun x H' y=>?_⟩
  obtain⟨e,y⟩:=y;subst e;exact hs i x σ _ (y xs q) p
 ·have e:i=xs.length:=by omega
  subst e;exact .inl ⟨⟨xs,q,HP _⟩,hd σ H p⟩
theorem xG{lo:Int}{n:Nat}{g:TG}{tb:TS}{D:jf}{σ:St}{H:Hp}(Pv:Nat->St->Hp->Prop)(h0:Pv 0 σ H)
  (hs:∀i σ H,i<n->Pv i σ H->g (.int (lo+i)) σ H fun σ2 H2=>tb {D with nx:=Pv (i+1),ct:=Pv (i+1),bk:=D.nx} σ2 H2) (hd:∀σ H,Pv n σ H->D.nx σ H) :
  ∃W:Nat->Nat->St->Hp->Prop,(∃m,W 0 m σ H)/\∀i m σ H,W i m σ H ->
   ((yq lo n).stop i H/\D.nx σ H)\/((yq lo n).go i H/\∃N:St->Hp->Prop,(∀σ' H',N σ' H'->∃m',m'<m/\W (i+1) m' σ' H')/\∀x H',(yq lo n).yld i H x H'->g x σ H' fun σ2 H2=>tb {D with nx:=N,ct:=N,bk:=D.nx} σ2 H2):=by
 refine⟨fun i m σ H=>m=n-i/\i<=n/\Pv i σ H,⟨n,by simp,HQ _,h0⟩,?_⟩;rintro i m σ H ⟨rfl,hi,p⟩
 by_cases hlt:i<n
 ·refine .inr ⟨hlt,Pv (i+1),fun σ' H' p'=>⟨n-(i+1),by omega,rfl,hlt,p'⟩,fun x H' y=>?_⟩
  obtain⟨e,y⟩:=y;subst e y;exact hs i σ _ hlt p
 ·have e:i=n:=by omega
  subst e;exact .inl ⟨HP _,hd σ H p⟩
noncomputable abbrev R2:=V->V->Hp->VK->Prop
noncomputable def a_(X:Cx)(f:Value->Value->Sem Value)(r:R2):Prop:=
 ∀(pins:List (Addr×Obj)) (s:Shared) (σ:St) (H:Hp) (x y:V) (v u:Value) (Q:VK),Inv X pins σ H s->bq x v->bq y u->r x y H Q ->
  wpAny (model X.prog X.w) X.A (f v u) (EP X pins σ Q) X.xe s
noncomputable def ED(X:Cx)(f:Value->Sem Value)(r:V->Hp->VK->Prop):Prop:=
 ∀(pins:List (Addr×Obj)) (s:Shared) (σ:St) (H:Hp) (x:V) (v:Value) (Q:VK),Inv X pins σ H s->bq x v->r x H Q ->
  wpAny (model X.prog X.w) X.A (f v) (EP X pins σ Q) X.xe s
noncomputable def gz(X:Cx)(f:Value)(r:List V->Hp->VK->Prop):Prop:=
 ∀(pins:List (Addr×Obj)) (s:Shared) (σ:St) (H:Hp) (xs:List V) (us:List Value) (Q:VK),Inv X pins σ H s->aZ xs us->r xs H Q ->
  wpAny (model X.prog X.w) X.A (call f us) (EP X pins σ Q) X.xe s
noncomputable def B1(r:R2)(ta tb:TE):TE:=fun σ H Q=>ta σ H fun x H1=>tb σ H1 fun y H2=>r x y H2 Q
noncomputable def Eu(r:V->Hp->VK->Prop)(ta:TE):TE:=fun σ H Q=>ta σ H fun x H1=>r x H1 Q
noncomputable def rI(C:Int->Int->Prop)(g:Int->Int->V):R2:=fun x y H Q=>∃i j,x=.int i/\y=.int j/\C i j/\Q (g i j) H
noncomputable def xZ(g:Int->Int->V):R2:=fun x y H Q=>∃i j,x=.int i/\y=.int j/\Q (g i j) H
noncomputable def rU(g:Int->V):V->Hp->VK->Prop:=fun x H Q=>∃i,x=.int i/\Q (g i) H
section
variable {X:Cx}{a b c:Expr}{ta tb tc:TE}{pos:Pos}
theorem B_(ha:PE X a ta)(hb:PE X b tb){pins:List (Addr×Obj)}{s:Shared}{σ:St}{H:Hp}{R:V->V->Hp->Prop}(I:Inv X pins σ H s)
  (h:ta σ H fun x H1=>tb σ H1 fun y H2=>R x y H2) {Q:Value->Shared->Prop} {f:Value->Value->Sem Value}
  (hf:∀v u s2 x y H2,Inv X pins σ H2 s2->bq x v->bq y u->R x y H2->wpAny (model X.prog X.w) X.A (f v u) Q X.xe s2) :
  wpAny (model X.prog X.w) X.A (eval a X.env) (fun v s₁=>wpAny (model X.prog X.w) X.A (eval b X.env) (fun u s₂=>wpAny (model X.prog X.w) X.A (f v u) Q X.xe s₂) X.xe s₁) X.xe s:=by
 refine bF (ha pins s σ H _ I h) fun v s1 ⟨x,H1,I1,r1,q1⟩=>?_;refine bF (hb pins s1 σ H1 _ I1 q1) fun u s2 ⟨y,H2,I2,r2,q2⟩=>?_;exact hf v u s2 x y H2 I2 r1 r2 q2
theorem aq{op:Operator}{r:R2}(ho:a_ X (binaryOp op) r)(ha:PE X a ta)(hb:PE X b tb):PE X (.BinOp a op b pos) (B1 r ta tb):=by
 intro pins s σ H Q I h;exact wpAny_BinOp (B_ ha hb I h fun v u s2 x y H2 I2 rx ry q=>ho pins s2 σ H2 x y v u Q I2 rx ry q)
theorem tY{op:UnaryOp}{r:V->Hp->VK->Prop}(ho:ED X (unaryOp op) r)(ha:PE X a ta):PE X (.UnaryOp op a pos) (Eu r ta):=by
 intro pins s σ H Q I h;exact UnaryOp_ (bF (ha pins s σ H _ I h) fun v s1 ⟨x,H1,I1,r1,q1⟩=>ho pins s1 σ H1 x v Q I1 r1 q1)
theorem DS{f:Value->Value->Sem Value}{C:Int->Int->Prop}{g:Int->Int->Int}
  (rule:∀(i j:Int) (t u:Tok) (s:Shared) (Q:Value->Shared->Prop) (E:Value->Shared->Prop),C i j->Q (.int (g i j) s.toks) {s with toks:=s.toks+1}->wpAny (model X.prog X.w) X.A (f (.int i t) (.int j u)) Q E s) :
  a_ X f (rI C fun i j=>.int (g i j)):=by
 intro pins s σ H x y v u Q I rx ry h;obtain⟨i,j,rfl,rfl,hc,q⟩:=h;obtain⟨t,rfl⟩:=rx;obtain⟨t',rfl⟩:=ry;exact rule i j t t' s _ _ hc ⟨.int (g i j),H,I.tok _,⟨_,rfl⟩,q⟩
theorem DI{f:Value->Value->Sem Value}{g:Int->Int->Int}
  (rule:∀(i j:Int) (t u:Tok) (s:Shared) (Q:Value->Shared->Prop) (E:Value->Shared->Prop),Q (.int (g i j) s.toks) {s with toks:=s.toks+1}->wpAny (model X.prog X.w) X.A (f (.int i t) (.int j u)) Q E s) :
  a_ X f (xZ fun i j=>.int (g i j)):=by
 intro pins s σ H x y v u Q I rx ry h;obtain⟨i,j,rfl,rfl,q⟩:=h;obtain⟨t,rfl⟩:=rx;obtain⟨t',rfl⟩:=ry;exact rule i j t t' s _ _ ⟨.int (g i j),H,I.tok _,⟨_,rfl⟩,q⟩
theorem AZ{f:Value->Value->Sem Value}{g:Int->Int->Bool}
  (rule:∀(i j:Int) (t u:Tok) (s:Shared) (Q:Value->Shared->Prop) (E:Value->Shared->Prop),Q (.bool (g i j)) s->wpAny (model X.prog X.w) X.A (f (.int i t) (.int j u)) Q E s) :
  a_ X f (xZ fun i j=>.bl (g i j)):=by
 intro pins s σ H x y v u Q I rx ry h;obtain⟨i,j,rfl,rfl,q⟩:=h;obtain⟨t,rfl⟩:=rx;obtain⟨t',rfl⟩:=ry;exact rule i j t t' s _ _ ⟨.bl (g i j),H,I,rfl,q⟩
noncomputable def DP(i j:Int):Prop:=0<=j/\j<=1000000/\i.natAbs<2 ^ 64
noncomputable def y_(i j:Int):Prop:=(-(2 ^ 64)<i/\i<2 ^ 64)\/(-(2 ^ 64)<j/\j<2 ^ 64)
theorem y_.ok{i j:Int}(h:y_ i j):IntMulOk i j:=by
 rcases h with⟨h1,h2⟩ | ⟨h1,h2⟩
 ·exact .of_left (intBits_le_64 h1 h2)
 ·exact .of_right (intBits_le_64 h1 h2)
theorem bA:a_ X (binaryOp .Add) (xZ fun i j=>.int (i+j)):=DI fun _ _ _ _ _ _ _ q=>add_int q
theorem i6:a_ X (binaryOp .Sub) (xZ fun i j=>.int (i-j)):=DI fun _ _ _ _ _ _ _ q=>sub_int q
theorem f_:a_ X (binaryOp .Mult) (rI y_ fun i j=>.int (i*j)):=DS fun _ _ _ _ _ _ _ hc q=>mul_int q hc.ok
theorem aX:a_ X (binaryOp .Mod) (rI (fun _ j=>0<j) fun i j=>.int (i%j)):=DS fun i j _ _ _ _ _ hc q=>by
 have h1:(0:Int)<j:=hc;exact mod_int' (by omega) (by rw[Int.fmod_eq_emod_of_nonneg i (by omega)];exact q)
theorem zD:a_ X (binaryOp .Pow) (rI DP fun i j=>.int (i ^ j.toNat)):=DS fun _ _ _ _ _ _ _ hc q=>pow_int_small hc.1 hc.2.1 hc.2.2 q
theorem F8{f:Value->Sem Value}{g:Int->Int}
  (rule:∀(i:Int) (t:Tok) (s:Shared) (Q:Value->Shared->Prop) (E:Value->Shared->Prop),Q (.int (g i) s.toks) {s with toks:=s.toks+1}->wpAny (model X.prog X.w) X.A (f (.int i t)) Q E s) :
  ED X f (rU fun i=>.int (g i)):=by
 intro pins s σ H x v Q I rx h;obtain⟨i,rfl,q⟩:=h;obtain⟨t,rfl⟩:=rx;exact rule i t s _ _ ⟨.int (g i),H,I.tok _,⟨_,rfl⟩,q⟩
theorem on:ED X (unaryOp .USub) (rU fun i=>.int (-i)):=F8 fun _ _ _ _ _ q=>neg_int q
end
noncomputable def Ba:V->V->Bool
 | .non,.non=>true | .non,.int _=>true | .int _,.non=>true | .non,.bl _=>true | .bl _,.non=>true | .non,.str _=>true | .str _,.non=>true
 | .int _,.int _=>true | .bl _,.bl _=>true | .str _,.str _=>true | .byt _,.byt _=>true
 | .int _,.str _=>true | .str _,.int _=>true | .bl _,.str _=>true | .str _,.bl _=>true
 |_,_=>false
noncomputable def EH:R2:=fun x y H Q=>Ba x y=true/\Q (.bl (decide (x=y))) H
noncomputable def Fj:R2:=fun x y H Q=>Ba x y=true/\Q (.bl (!decide (x=y))) H
theorem wC{i j:Int}:decide (V.int i=V.int j)=(i==j):=by
 rw[Bool.eq_iff_iff];simp
theorem Ai{i j:Bool}:decide (V.bl i=V.bl j)=(i==j):=by
 rw[Bool.eq_iff_iff];simp
theorem wz{i j:Str}:decide (V.str i=V.str j)=(i==j):=by
 rw[Bool.eq_iff_iff];simp
theorem wO{i j:Array UInt8}:decide (V.byt i=V.byt j)=(i.toList==j.toList):=by
 rw[Bool.eq_iff_iff];cases i;cases j;simp
section
variable {X:Cx}{a b c:Expr}{ta tb tc:TE}{pos:Pos}
theorem bo{pins:List (Addr×Obj)}{σ:St}{H:Hp}{s:Shared}{Q:VK}{k k':Bool}(I:Inv X pins σ H s)(q:Q (.bl k) H)(e:k=k'):EP X pins σ Q (.bool k') s:=by
 subst e;exact⟨.bl k,H,I,rfl,q⟩
theorem dA:a_ X (compareOp .Eq) EH:=by
 intro pins s σ H x y v u Q I rx ry h;obtain⟨hs,q⟩:=h;cases x with
 |non=>
  cases rx;cases y with
  |non=>cases ry;exact PySem.EqNone.eq_none_none (bo I q (by simp))
  |bl j=>cases ry;exact PySem.EqNone.eq_none_bool (bo I q (by simp))
  |int j=>obtain⟨t',rfl⟩:=ry;exact PySem.EqNone.eq_none_int (bo I q (by simp))
  |str j=>obtain⟨t',rfl⟩:=ry;exact PySem.EqNone.eq_none_str (bo I q (by simp))
  |_=>exact absurd (show false=true from hs) HR
 |bl i=>
  cases rx;cases y with
  |non=>cases ry;exact PySem.EqNone.eq_bool_none (bo I q (by simp))
  |bl j=>cases ry;exact eq_bool (bo I q Ai)
  |str j=>obtain⟨t',rfl⟩:=ry;exact PySem.EqMixed.eq_bool_str (bo I q (by simp))
  |_=>exact absurd (show false=true from hs) HR
 |int i=>
  obtain⟨t,rfl⟩:=rx;cases y with
  |non=>cases ry;exact PySem.EqNone.eq_int_none (bo I q (by simp))
  |int j=>obtain⟨t',rfl⟩:=ry;exact eq_int (bo I q wC)
  |str j=>obtain⟨t',rfl⟩:=ry;exact PySem.EqMixed.eq_int_str (bo I q (by simp))
  |_=>exact absurd (show false=true from hs) HR
 |str i=>
  obtain⟨t,rfl⟩:=rx;cases y with
  |non=>cases ry;exact PySem.EqNone.eq_str_none (bo I q (by simp))
  |bl j=>cases ry;exact PySem.EqMixed.eq_str_bool (bo I q (by simp))
  |int j=>obtain⟨t',rfl⟩:=ry;exact PySem.EqMixed.eq_str_int (bo I q (by simp))
  |str j=>obtain⟨t',rfl⟩:=ry;exact eq_str (bo I q wz)
  |_=>exact absurd (show false=true from hs) HR
 |byt i=>
  obtain⟨t,rfl⟩:=rx;cases y with
  |byt j=>obtain⟨t',rfl⟩:=ry;exact PySem.W.eq_bytes (bo I q wO)
  |_=>exact absurd (show false=true from hs) HR
 |_=>cases y<;>exact absurd (show false=true from hs) HR
theorem kn:a_ X (compareOp .NotEq) Fj:=by
 intro pins s σ H x y v u Q I rx ry h;obtain⟨hs,q⟩:=h;cases x with
 |non=>
  cases rx;cases y with
  |non=>cases ry;exact PySem.EqNone.ne_none_none (bo I q (by simp))
  |bl j=>cases ry;exact PySem.EqNone.ne_none_bool (bo I q (by simp))
  |int j=>obtain⟨t',rfl⟩:=ry;exact PySem.EqNone.ne_none_int (bo I q (by simp))
  |str j=>obtain⟨t',rfl⟩:=ry;exact PySem.EqNone.ne_none_str (bo I q (by simp))
  |_=>exact absurd (show false=true from hs) HR
 |bl i=>
  cases rx;cases y with
  |non=>cases ry;exact PySem.EqNone.ne_bool_none (bo I q (by simp))
  |bl j=>cases ry;exact ne_bool (bo I q (congrArg not Ai))
  |str j=>obtain⟨t',rfl⟩:=ry;exact PySem.EqMixed.ne_bool_str (bo I q (by simp))
  |_=>exact absurd (show false=true from hs) HR
 |int i=>
  obtain⟨t,rfl⟩:=rx;cases y with
  |non=>cases ry;exact PySem.EqNone.ne_int_none (bo I q (by simp))
  |int j=>obtain⟨t',rfl⟩:=ry;exact ne_int (bo I q (congrArg not wC))
  |str j=>obtain⟨t',rfl⟩:=ry;exact PySem.EqMixed.ne_int_str (bo I q (by simp))
  |_=>exact absurd (show false=true from hs) HR
 |str i=>
  obtain⟨t,rfl⟩:=rx;cases y with
  |non=>cases ry;exact PySem.EqNone.ne_str_none (bo I q (by simp))
  |bl j=>cases ry;exact PySem.EqMixed.ne_str_bool (bo I q (by simp))
  |int j=>obtain⟨t',rfl⟩:=ry;exact PySem.EqMixed.ne_str_int (bo I q (by simp))
  |str j=>obtain⟨t',rfl⟩:=ry;exact ne_str (bo I q (congrArg not wz))
  |_=>exact absurd (show false=true from hs) HR
 |byt i=>
  obtain⟨t,rfl⟩:=rx;cases y with
  |byt j=>obtain⟨t',rfl⟩:=ry;exact PySem.W.ne_bytes (bo I q (congrArg not wO))
  |_=>exact absurd (show false=true from hs) HR
 |_=>cases y<;>exact absurd (show false=true from hs) HR
theorem nE:a_ X (compareOp .Lt) (xZ fun i j=>.bl (decide (i<j))):=AZ fun _ _ _ _ _ _ _ q=>lt_int q
theorem oO:a_ X (compareOp .LtE) (xZ fun i j=>.bl (decide (i<=j))):=AZ fun _ _ _ _ _ _ _ q=>le_int q
theorem jb:a_ X (compareOp .Gt) (xZ fun i j=>.bl (decide (j<i))):=AZ fun _ _ _ _ _ _ _ q=>gt_int q
theorem yO:a_ X (compareOp .GtE) (xZ fun i j=>.bl (decide (j<=i))):=AZ fun _ _ _ _ _ _ _ q=>ge_int q
theorem xf:a_ X (compareOp .In) (fun x y H Q=>∃i j,x=.str i/\y=.str j/\Q (.bl (!(Builtin.Str.occurrences j i 0 j.length 1).isEmpty)) H):=by
 intro pins s σ H x y v u Q I rx ry h;obtain⟨i,j,rfl,rfl,q⟩:=h;obtain⟨t,rfl⟩:=rx;obtain⟨t',rfl⟩:=ry;exact in_str (bo I q rfl)
theorem wo:a_ X (compareOp .Is) (fun x y H Q=>y=.non/\Q (.bl (decide (x=.non))) H):=by
 intro pins s σ H x y v u Q I rx ry h;obtain⟨rfl,q⟩:=h;cases ry;refine is_none_gen (bo I q ?_);cases x<;>first
  | (cases rx;rfl)
  | (obtain⟨t,rfl⟩:=rx;rfl)
theorem jV:a_ X (compareOp .IsNot) (fun x y H Q=>y=.non/\Q (.bl (!decide (x=.non))) H):=by
 intro pins s σ H x y v u Q I rx ry h;obtain⟨rfl,q⟩:=h;cases ry;refine isnot_none_gen (bo I q ?_);cases x<;>first
  | (cases rx;rfl)
  | (obtain⟨t,rfl⟩:=rx;rfl)
theorem tu:a_ X (compareOp .NotIn) (fun x y H Q=>∃i j,x=.str i/\y=.str j/\Q (.bl (!(!(Builtin.Str.occurrences j i 0 j.length 1).isEmpty))) H):=by
 intro pins s σ H x y v u Q I rx ry h;obtain⟨i,j,rfl,rfl,q⟩:=h;obtain⟨t,rfl⟩:=rx;obtain⟨t',rfl⟩:=ry;exact notIn_str (bo I q rfl)
theorem aJ(b:Expr){op:CmpOp}(h:op≠.In:=by decide)(h2:op≠.NotIn:=by decide):behindInMarks op b=false:=by
 have e1:(op==CmpOp.In)=false:=by cases op<;>first | rfl | exact absurd rfl h
 have e2:(op==CmpOp.NotIn)=false:=by cases op<;>first | rfl | exact absurd rfl h2
 cases b<;>simp[behindInMarks,e1,e2]
theorem lM{op:CmpOp}{r:R2}(ho:a_ X (compareOp op) r)(ha:PE X a ta)(hb:PE X b tb)(hm:behindInMarks op b=false):PE X (.Compare a [op] [b] pos) (B1 r ta tb):=by
 intro pins s σ H Q I h;exact wpAny_Compare1 (B_ ha hb I h fun v u s2 x y H2 I2 rx ry q=>ho pins s2 σ H2 x y v u Q I2 rx ry q) hm
noncomputable def wM(t:TE):TT:=fun σ H Q=>t σ H fun x H'=>∃k,x=.bl k/\Q k H'
theorem aA{op:CmpOp}{r:R2}(ho:a_ X (compareOp op) r)(ha:PE X a ta)(hb:PE X b tb)(hm:behindInMarks op b=false):PT X (.Compare a [op] [b] pos) (wM (B1 r ta tb)):=by
 intro pins s σ H Q I h;refine wpAny_isTrue_Compare1 (bF (ha pins s σ H _ I h) fun v s1 ⟨x,H1,I1,r1,q1⟩=>bF (hb pins s1 σ H1 _ I1 q1) fun u s2 ⟨y,H2,I2,r2,q2⟩=>
  bF (ho pins s2 σ H2 x y v u _ I2 r1 r2 q2) fun c s3 ⟨z,H3,I3,r3,k,e,q3⟩=>?_) hm
 subst e;cases r3;exact wpAny_truthy_bool ⟨H3,I3,q3⟩
noncomputable def wd(r r':R2)(ta tb tc:TE):TE:=fun σ H Q=>ta σ H fun x H1=>tb σ H1 fun y H2=>r x y H2 fun z H3=>∃k,z=.bl k /\
 (if k=true then tc σ H3 fun w' H4=>r' y w' H4 Q else Q (.bl false) H3)
theorem uO{op op':CmpOp}{r r':R2}(ho:a_ X (compareOp op) r)(ho':a_ X (compareOp op') r')(ha:PE X a ta)(hb:PE X b tb)(hc:PE X c tc)
  (hm:lastMarks [op,op'] [b,c]=false:=by with_unfolding_all rfl):PE X (.Compare a [op,op'] [b,c] pos) (wd r r' ta tb tc):=by
 intro pins s σ H Q I h;refine Compare_chain (bF (ha pins s σ H _ I h) fun v s1 ⟨x,H1,I1,r1,q1⟩=>chain_link (bF (hb pins s1 σ H1 _ I1 q1) fun u s2 ⟨y,H2,I2,r2,q2⟩=>
  bF (ho pins s2 σ H2 x y v u _ I2 r1 r2 q2) fun d s3 ⟨z,H3,I3,r3,k,e,q3⟩=>?_)) hm
 subst e;cases r3;refine wpAny_truthy_bool ?_;cases k with
 |false=>exact ite_ff ⟨.bl false,H3,I3,rfl,q3⟩
 |true=>exact ite_tt (chain_last (bF (hc pins s3 σ H3 _ I3 q3) fun w' s4 ⟨z',H4,I4,r4,q4⟩=>ho' pins s4 σ H4 y z' u w' Q I4 r2 r4 q4))
theorem mW:(sizeLine:Nat)<2 ^ 63:=by rw[sizeLine_eq];decide
theorem oV:a_ X (binaryOp .Add) (fun x y H Q=>∃i j,x=.str i/\y=.str j/\i.length+j.length<=sizeLine/\Q (.str (i++j)) H):=by
 intro pins s σ H x y v u Q I rx ry h;obtain⟨i,j,rfl,rfl,hz,q⟩:=h;obtain⟨t,rfl⟩:=rx;obtain⟨t',rfl⟩:=ry;exact add_str (fun t' tk=>⟨.str (i++j),H,I.tok _,⟨_,rfl⟩,q⟩) hz
theorem tV{x:V}{us:List Value}(r:aZ [x] us):∃u,us=[u]/\bq x u:=by
 cases r with
 |cons r1 r2=>cases r2;exact⟨_,rfl,r1⟩
end
structure v5(h:Heap)(x dx C:Addr)(mA:Str->Option Value):Prop where
 obj:h.get? x=some (PySem.W.instObj C dx)
 ns:h.Ns1 dx mA
 ne:dx≠x
theorem qO{h:Heap}{dx:Addr}{mA:Str->Option Value}(n:h.Ns1 dx mA):∃od,h.get? dx=some od/\∀name,PySem.W.lookIn name od=some (mA name):=by
 obtain⟨o,es,ep,ho,hd,hk,_,hm⟩:=n;refine⟨o,ho,fun name=>?_⟩;have e:=hm name;unfold nsFind findBy at e;rw[<- Array.find?_toList]at e;unfold PySem.W.lookIn;rw[hd];dsimp only
 split
 ·rename_i y q
  rw[q]at e;exact congrArg some e
 ·rename_i q
  rw[q]at e;have a:es.toList.any (·.refKey)=false:=by
   rw[List.any_eq_false];intro y hy;obtain⟨z,t,hkey⟩:=hk y (Array.mem_toList_iff.mp hy);simp[DictEntry.refKey,hkey]
  have a':¬ es.toList.any (·.refKey)=true:=by rw[a];exact HR
  rw[if_neg a'];exact congrArg some e
theorem v5.look{h:Heap}{x dx C:Addr}{mA:Str->Option Value}(I:v5 h x dx C mA):∃od,PySem.W.InstAt h x (PySem.W.instObj C dx) C (some od)/\∀name,PySem.W.lookIn name od=some (mA name):=
 let ⟨od,ho,hl⟩:=qO I.ns
 ⟨od,⟨I.obj,rfl,rfl,ho⟩,hl⟩
section
variable {prog:Program}{w:World}{A:Around}{E:Value->Shared->Prop}{s:Shared}{K:PySem.W.Frag}{x dx C f:Addr}{mA:Str->Option Value}{name:Str}{v:Value}
theorem BF{expr:Bool}{Q:Value->Shared->Prop}(X:K.In s.heap)(I:v5 s.heap x dx C mA)(hg:PySem.W.plainGet K C name=true)(hh:PySem.W.hasDictIn K C=true)
  (ha:PySem.W.findIn K (.ref C) name=some none) (hv:mA name=some v) (hv':PySem.W.handedIn v=true) (h:Q v {s with toks:=s.toks+1}) :
  wpAny (model prog w) A (getAttr (.ref x) name expr) Q E s:=by
 obtain⟨od,J,hl⟩:=I.look;exact PySem.W.get_value X J (PySem.W.plainGet_of hg).1 (PySem.W.findObj_own hh ha rfl (by rw[hl,hv])) hv' h
theorem Ag{pl:Sem Bool}{Q:Value×List Value->Shared->Prop}(X:K.In s.heap)(I:v5 s.heap x dx C mA)(hg:PySem.W.plainGet K C name=true)
  (hf:PySem.W.findIn K (.ref C) name=some (some (.ref f))) (ht:PySem.W.isFn K (.ref f)=true) (hv:mA name=none) (h:Q (.ref f,[.ref x]) s) :
  wpAny (model prog w) A (getMethod (.ref x) name pl) Q E s:=by
 obtain⟨od,J,hl⟩:=I.look;exact PySem.W.method_fn X J (PySem.W.plainGet_of hg).1 (PySem.W.plainGet_of hg).2 hf (beq_iff_eq.mp ht) (by show(PySem.W.lookIn name od).map (·.isSome)=some false;rw[hl,hv];rfl) h
theorem Bk{ns:List Str}{Q:Unit->Shared->Prop}(X:K.In s.heap)(I:v5 s.heap x dx C mA)
  (hs:PySem.W.findIn K (.ref C) "__setattr__"=some (some (.builtin "object.__setattr__"))) (hp:PySem.W.plainOver K C=true) (ht:PySem.W.takerIn K C name=some none) (hh:PySem.W.hasDictIn K C=true)
  (hw:PySem.Within mA ns) (hsz:ns.length<=sizeLine)
  (h:∀h',v5 h' x dx C (fun y=>if y=name then some v else mA y)->Heap.SameBut dx s.heap h'->Q () {s with heap:=h',toks:=s.toks+2}) :
  wpAny (model prog w) A (setAttr (.ref x) name v) Q E s:=by
 obtain⟨od,J,hl⟩:=I.look;refine PySem.W.set_plain X J hs (PySem.W.osa_open (s:={s with toks:=s.toks+1}) (r:=none) X J hp ht fun b=>?_);obtain⟨cd,hc,hd'⟩:=PySem.W.any_some hh;have hx:s.heap.get? x=some ⟨.ref C,some dx,.plain,#[]⟩:=I.obj;refine wpAny_bind (wpAny_pure (wpAny_bind (wpAny_bind (wpAny_loadPart hx (wpAny_bind (PySem.W.Looks.here (s:={s with toks:=s.toks+1}) (PySem.W.looks_clsIn X hc) ?_))))));rw[hd'];refine wpAny_pure (a:=some dx) (wpAny_bind (wpAny_pure (wpAny_bind ?_)));refine wpAny_nsSet1 (s:={s with toks:=s.toks+1}) I.ns fun h' hn2 hs2=>?_;obtain⟨oD,esD,epD,hoD,hdD,hcD⟩:=hn2.count (PySem.Within.cons name v hw);refine wpAny_bind (wpAny_lookBehind hoD (by rw[hdD];exact pastItsLine_dict (HY hcD (by rw[Hx];omega))) ?_);exact wpAny_pure (h _ ⟨(hs2.2 _ (Ne.symm I.ne)).trans I.obj,hn2,I.ne⟩ hs2)
theorem zj{R:Result->Shared->Prop}{vs:List Value}{kw:List (Str×Value)}(X:K.In s.heap)(hm:PySem.W.makesIn K C=true)
  (hi:PySem.W.findIn K (.ref C) "__init__"=some (some (.ref f))) (hf:PySem.W.typeIn K (.ref f)=some (.type "function"))
  (h:codeAny (model prog w) (A.under (.builtin "type.__call__" ⟨.ref C::vs,kw⟩)) (.call (.ref f) ⟨.ref (s.heap.objs.size+1)::vs,kw⟩) (PySem.W.InitBack (s.heap.objs.size+1) R)
   {s with heap:=(s.heap.push PySem.W.emptyDict).push (PySem.W.instObj C s.heap.objs.size)}) :
  codeAny (model prog w) A (.call (.ref C) ⟨vs,kw⟩) R s:=by
 obtain⟨hh,g,d,t,os⟩:=s;exact PySem.W.make_core (PySem.W.makes_of X hm) (PySem.W.looks_findIn X hi) (fun self=>PySem.W.bind_fn X self hf) (.inl rfl) h
end
noncomputable def cj(f:Str)(v:V):List (Str×V)->List (Str×V)
 | []=>[(f,v)]
 | (g,x)::r=>if g=f then(g,v)::r else(g,x)::cj f v r
theorem nJ(f g:Str)(v:V):∀fs:List (Str×V),(cj f v fs).lookup g=if g=f then some v else fs.lookup g
 | []=>by
  show List.lookup g [(f,v)]=_
  by_cases h:g=f
  ·have hb:(g==f)=true:=beq_iff_eq.mpr h
   simp only[List.lookup,hb,if_pos h]
  ·have hb:(g==f)=false:=beq_eq_false_iff_ne.mpr h
   simp only[List.lookup,hb,if_neg h]
 | (k,x)::r=>by
  have ih:=nJ f g v r;rw[show cj f v ((k,x)::r)=(if k=f then(k,v)::r else(k,x)::cj f v r) from rfl]
  by_cases hk:k=f
  ·rw[if_pos hk]
   by_cases h:g=k
   ·have hb:(g==k)=true:=beq_iff_eq.mpr h
    simp only[List.lookup,hb,if_pos (h.trans hk)]
   ·have hb:(g==k)=false:=beq_eq_false_iff_ne.mpr h
    simp only[List.lookup,hb,if_neg (fun e:g=f=>h (e.trans hk.symm))]
  ·rw[if_neg hk]
   by_cases h:g=k
   ·have hb:(g==k)=true:=beq_iff_eq.mpr h
    simp only[List.lookup,hb,if_neg (fun e:g=f=>hk (h.symm.trans e))]
   ·have hb:(g==k)=false:=beq_eq_false_iff_ne.mpr h
    simp only[List.lookup,hb];exact ih
theorem ml(f:Str)(v:V):∀fs:List (Str×V),f∈(cj f v fs).map (·.1)/\∀g,g∈fs.map (·.1)->g∈(cj f v fs).map (·.1)
 | []=>⟨by simp[cj],fun g h=>by simp at h⟩
 | (k,x)::r=>by
  obtain⟨i1,i2⟩:=ml f v r;rw[show cj f v ((k,x)::r)=(if k=f then(k,v)::r else(k,x)::cj f v r) from rfl]
  by_cases hk:k=f
  ·rw[if_pos hk]
   subst hk;exact⟨by simp,fun g h=>by simpa using h⟩
  ·rw[if_neg hk]
   refine⟨?_,fun g h=>?_⟩
   ·rw[HW]
    exact HH _ i1
   ·rw[HW]at h ⊢
    rcases HF.mp h with e | e
    ·exact HF.mpr (.inl e)
    ·exact HH _ (i2 g e)
theorem cE(f:Str)(v:V):∀fs:List (Str×V),(cj f v fs).length<=fs.length+1
 | []=>by simp[cj]
 | (k,x)::r=>by
  have ih:=cE f v r;rw[show cj f v ((k,x)::r)=(if k=f then(k,v)::r else(k,x)::cj f v r) from rfl]
  by_cases hk:k=f
  ·rw[if_pos hk,Hx,Hx];omega
  ·rw[if_neg hk,Hx,Hx];omega
theorem m5.some_of{v:V}{o:Option Value}(r:m5 (some v) o):∃u,o=some u/\bq v u:=by
 cases o with
 |none=>exact(show False from r).elim
 |some u=>exact⟨u,rfl,r⟩
theorem m5.none_of{o:Option Value}(r:m5 none o):o=none:=by
 cases o with
 |none=>rfl
 |some u=>exact(show False from r).elim
theorem rj{v:V}{u:Value}(r:bq v u):PySem.W.handedIn u=true:=by
 cases v with
 |non=>cases(show u=Value.none from r);rfl
 |bl b=>cases(show u=Value.bool b from r);rfl
 |int i=>obtain⟨t,e⟩:=(show ∃t,u=Value.int i t from r);cases e;rfl
 |str x=>obtain⟨t,e⟩:=(show ∃t,u=Value.str x t from r);cases e;rfl
 |byt b=>obtain⟨t,e⟩:=(show ∃t,u=Value.bytes b t from r);cases e;rfl
 |flt b=>obtain⟨t,e⟩:=(show ∃t,u=Value.float b t from r);cases e;rfl
 |ref a=>cases(show u=Value.ref a from r);rfl
 |ty n=>cases(show u=Value.type n from r);rfl
section
variable {P:Program}{w:World}{H H':Hp}{h h':Heap}{a C dx:Addr}{fs fs':List (Str×V)}
theorem og(hok:kh P w H h)(e:H a=some (.ins C dx fs)):∃mA,v5 h a dx C mA/\(∀f,m5 (fs.lookup f) (mA f))/\PySem.Within mA (fs.map (·.1))/\fs.length<=1000/\H dx=some (.own a):=by
 obtain⟨d,z,ne,ob,mA,n,r,q⟩:=(show bz P w H h a (.ins C dx fs) from hok a _ e);exact⟨mA,⟨ob,n,ne⟩,r,q,z,d⟩
end
structure oI(K:PySem.W.Frag)(C:Addr):Prop where
 pg:PySem.W.plainGet K C Str.empty=true
 hd:PySem.W.hasDictIn K C=true
 po:PySem.W.plainOver K C=true
 sa:PySem.W.findIn K (.ref C) "__setattr__"=some (some (.builtin "object.__setattr__"))
theorem oI.get{K:PySem.W.Frag}{C:Addr}(c:oI K C)(f:Str):PySem.W.plainGet K C f=true:=c.pg
noncomputable def aL(K:PySem.W.Frag)(C:Addr)(f:Str):Prop:=PySem.W.findIn K (.ref C) f=some none
theorem aL.taker{K:PySem.W.Frag}{C:Addr}{f:Str}(n:aL K C f):PySem.W.takerIn K C f=some none:=by
 unfold PySem.W.takerIn;rw[show PySem.W.findIn K (.ref C) f=some none from n]
 rfl
structure Hh(K:PySem.W.Frag)(C:Addr)(f:Str)(v:V)(u:Value):Prop where
 at_:PySem.W.findIn K (.ref C) f=some (some u)
 rel:bq v u
 get:PySem.W.specialIn K u "__get__"=some none
 cp:PySem.W.copiedNames.contains f=false
structure kX(K:PySem.W.Frag)(C:Addr)(m:Str)(f:Addr):Prop where
 at_:PySem.W.findIn K (.ref C) m=some (some (.ref f))
 fn:PySem.W.isFn K (.ref f)=true
 kp:PySem.W.keepIn K (.ref f)=true
section
variable {X:Cx}{pins:List (Addr×Obj)}{σ:St}{H:Hp}{s:Shared}{a C dx:Addr}{fs:List (Str×V)}{f:Str}{v:V}{A:Around}{E:Value->Shared->Prop}
theorem v6{b:Bool}{Q:Value->Shared->Prop}(I:Inv X pins σ H s)(e:H a=some (.ins C dx fs))(c:oI X.K C)(n:aL X.K C f)(l:fs.lookup f=some v)
  (h:∀u s',Inv X pins σ H s'->bq v u->Q u s'):wpAny (model X.prog X.w) A (getAttr (.ref a) f b) Q E s:=by
 obtain⟨mA,O,r,_,_,_⟩:=og I.hok e;obtain⟨u,hu,ru⟩:=m5.some_of (v:=v) (o:=mA f) (by rw[<- l];exact r f);exact BF I.kIn O (c.get f) c.hd n hu (rj ru) (h u _ (I.tok _) ru)
theorem eF{m:Str}{g:Addr}{pl:Sem Bool}{Q:Value×List Value->Shared->Prop}(I:Inv X pins σ H s)(e:H a=some (.ins C dx fs))(c:oI X.K C)(k:kX X.K C m g)(l:fs.lookup m=none)
  (h:Q (.ref g,[.ref a]) s):wpAny (model X.prog X.w) A (getMethod (.ref a) m pl) Q E s:=by
 obtain⟨mA,O,r,_,_,_⟩:=og I.hok e;have hn:mA m=none:=m5.none_of (by rw[<- l];exact r m);exact Ag I.kIn O (c.get m) k.at_ k.fn hn h
theorem v4{y:V}{u:Value}{Q:Unit->Shared->Prop}(I:Inv X pins σ H s)(e:H a=some (.ins C dx fs))(c:oI X.K C)(n:aL X.K C f)(hl:fs.length<1000)(ry:bq y u)
  (h:∀s',Inv X pins σ (aB H a (.ins C dx (cj f y fs))) s'->Q () s'):wpAny (model X.prog X.w) A (setAttr (.ref a) f u) Q E s:=by
 obtain⟨mA,O,r,wi,_,ho⟩:=og I.hok e;have hz:(fs.map (·.1)).length<=sizeLine:=by rw[Hm,sizeLine_eq];omega
 refine Bk I.kIn O c.sa c.po n.taker c.hd wi hz fun h' O' sb=>h _ ?_;have hd:∃o,h'.get? dx=some o:=let ⟨o,_,_,e',_⟩:=O'.ns;⟨o,e'⟩
 refine I.write (x:=a) (e:=dx) (by rw[e];exact True.intro) (.inr ho) (fun b q hb z=>(sb.2 b hb).trans z) hd ?_;refine⟨by rw[ai O.ne];exact ho,?_,O.ne,O'.obj,_,O'.ns,fun g=>?_,fun g hg=>?_⟩
 ·have:=cE f y fs;omega
 ·show m5 ((cj f y fs).lookup g) (if g=f then some u else mA g)
  rw[nJ]
  by_cases q:g=f
  ·rw[if_pos q,if_pos q];exact ry
  ·rw[if_neg q,if_neg q];exact r g
 ·by_cases q:g=f
  ·rw[q];exact(ml f y fs).1
  ·refine(ml f y fs).2 g (wi g fun z=>hg ?_)
   show(if g=f then some u else mA g)=none;rw[if_neg q];exact z
theorem Inv.made(I:Inv X pins σ H s):Inv X pins σ (aB (aB H s.heap.objs.size (.own (s.heap.objs.size+1))) (s.heap.objs.size+1) (.ins C s.heap.objs.size []))
  {s with heap:=(s.heap.push PySem.W.emptyDict).push (PySem.W.instObj C s.heap.objs.size)}:=by
 have e1:(s.heap.push PySem.W.emptyDict).get? s.heap.objs.size=some PySem.W.emptyDict:=Hs s.heap rfl;have e2:((s.heap.push PySem.W.emptyDict).push (PySem.W.instObj C s.heap.objs.size)).get? (s.heap.objs.size+1)=some (PySem.W.instObj C s.heap.objs.size):=by
  have:=Hs (s.heap.push PySem.W.emptyDict) (o:=PySem.W.instObj C s.heap.objs.size) rfl
  rwa [Heap.size_push]at this
 have e3:(s.heap.push PySem.W.emptyDict).Ns s.heap.objs.size (fun _=>none):=⟨PySem.W.emptyDict,#[],_,e1,rfl,(fun e he=>absurd he (by simp)),fun _=>rfl⟩;have I1:=I.laid (a:=s.heap.objs.size) (o:=.own (s.heap.objs.size+1)) (h':=s.heap.push PySem.W.emptyDict) (t':=s.toks) (fun b u q=>Hl _ q) (HP _) ⟨_,e1⟩;refine I1.laid (a:=s.heap.objs.size+1) (o:=.ins C s.heap.objs.size []) (t':=s.toks) (fun b u q=>Hl _ q) (Nat.le_of_eq (Heap.size_push _ _)) ?_;have ne:s.heap.objs.size≠s.heap.objs.size+1:=HK (H_ _);refine⟨by rw[ai ne,ac],HQ _,ne,e2,fun _=>none,(Heap.Ns1.of_empty e3).at fun o q=>Hl _ q,fun _=>True.intro,fun y hy=>absurd rfl hy⟩
theorem wq{prog:Program}{w:World}{env:Env}{e:Expr}{f:Str}{pos:Pos}{s:Shared}{Q:Value->Shared->Prop}(hb:attributeBase e f env (eval e env)=eval e env)
  (h:wpAny (model prog w) A (eval e env) (fun o s₁=>wpAny (model prog w) A (getAttr o f true) Q E s₁) E s):wpAny (model prog w) A (eval (.Attribute e f pos) env) Q E s:=
 Attribute_any_ h (by rw[arm_eval_Attribute,hb])
end
noncomputable def Dl(K:PySem.W.Frag)(ta:TE)(f:Str):TE:=fun σ H Q=>ta σ H fun x H1=>∃a C dx fs v,x=.ref a/\H1 a=some (.ins C dx fs)/\oI K C/\aL K C f/\fs.lookup f=some v/\Q v H1
noncomputable def Ce(K:PySem.W.Frag)(ta tv:TE)(f:Str):TS:=fun D σ H=>tv σ H fun y H1=>ta σ H1 fun x H2=>∃a C dx fs,x=.ref a/\H2 a=some (.ins C dx fs)/\oI K C/\aL K C f/\fs.length<1000 /\
 D.nx σ (aB H2 a (.ins C dx (cj f y fs)))
section
variable {X:Cx}{o e value:Expr}{f:Str}{pos pos' tpos:Pos}{ta tv:TE}
theorem gM(he:PE X e ta)(hb:attributeBase e f X.env (eval e X.env)=eval e X.env):PE X (.Attribute e f pos) (Dl X.K ta f):=by
 intro pins s σ H Q I h;refine wq hb (bF (he pins s σ H _ I h) fun u s1 ⟨x,H1,I1,rx,a,C,dx,fs,v,ex,ea,c,n,l,q⟩=>?_);subst ex;obtain rfl:u=Value.ref a:=rx;exact v6 I1 ea c n l fun u' s2 I2 ru=>⟨v,H1,I2,ru,q⟩
theorem dS(ha:PE X o ta)(hv:PE X value tv)(hs:swapsWith value (some (.Attribute o f pos')) pos.line X.env=pure false):PS X (.Assign [.Attribute o f pos'] value pos) (Ce X.K ta tv f):=by
 intro pins s σ H D I h;refine plainObj_wpAny_Assign_Attribute (bF (hv pins s σ H _ I h) fun u s1 ⟨y,H1,I1,ry,q⟩=>bF (ha pins s1 σ H1 _ I1 q) fun ov s2 ⟨x,H2,I2,rx,a,C,dx,fs,ex,ea,c,n,l,q2⟩=>?_) hs;subst ex;obtain rfl:ov=Value.ref a:=rx;exact v4 I2 ea c n l ry fun s3 I3=>⟨σ,_,I3,q2⟩
theorem BZ{pl:Sem Bool}{m:Str}{apos:Pos}{args:List Expr}{pins:List (Addr×Obj)}{s:Shared}{σ:St}{H:Hp}{Q:Value->Shared->Prop}{te:TE}(he:PE X e te)(I:Inv X pins σ H s)
  (h:te σ H fun x H1=>∃a C dx fs g,x=.ref a/\H1 a=some (.ins C dx fs)/\oI X.K C/\kX X.K C m g/\fs.lookup m=none /\
   ∀s1,Inv X pins σ H1 s1->wpAny (model X.prog X.w) X.A (callWith pos (.ref g) [.ref a] (backTo pos (starEach args X.env)) (backToKw pos (keywordEach [] X.env))) Q X.xe s1)
  (ht:eval (.Call (.Attribute e m apos) args [] pos) X.env=(do
   let ov <- eval e X.env
   standAt apos.atName
   let (f,first) <- holding [ov] (getMethod ov m pl)
   callWith pos f first (backTo pos (starEach args X.env)) (backToKw pos (keywordEach [] X.env)))) :
  wpAny (model X.prog X.w) X.A (eval (.Call (.Attribute e m apos) args [] pos) X.env) Q X.xe s:=by
 refine PySem.W.methodCall_KW (pl:=pl) (bF (he pins s σ H _ I h) fun u s1 ⟨x,H1,I1,rx,a,C,dx,fs,g,ex,ea,c,k,l,q⟩=>?_) ht;subst ex;obtain rfl:u=Value.ref a:=rx;exact eF I1 ea c k l (q s1 I1)
end
section
variable {X:Cx}{pins:List (Addr×Obj)}{σ:St}{H:Hp}{s:Shared}{A:Around}{E:Value->Shared->Prop}{Q:Value->Shared->Prop}{c:Value}{b:Bool}
inductive ke(K:PySem.W.Frag)(H:Hp):V->Value->Prop where
 |non:ke K H .non (.type "NoneType")
 |bl (x:Bool):ke K H (.bl x) (.type "bool")
 |int (i:Int):ke K H (.int i) (.type "int")
 |str (x:Str):ke K H (.str x) (.type "str")
 |flt (x:UInt64):ke K H (.flt x) (.type "float")
 |lst {a:Addr} {xs:List V} (e:H a=some (.lst xs)):ke K H (.ref a) (.type "list")
 |frz {a:Addr} {o:Obj} {xs:List V} (e:H a=some (.frz o (.lst xs))):ke K H (.ref a) (.type "list")
 |tup {a:Addr} {xs:List V} (e:H a=some (.tup xs)):ke K H (.ref a) (.type "tuple")
 |dK {a:Addr} {kvs:List (gs×V)} (e:H a=some (.dK kvs)):ke K H (.ref a) (.type "dict")
 |dT {a:Addr} {kvs:List (List gs×V)} (e:H a=some (.dT kvs)):ke K H (.ref a) (.type "dict")
 |ins {a C dx:Addr} {fs:List (Str×V)} (e:H a=some (.ins C dx fs)) (cl:oI K C) (ha:PySem.W.findIn K (.ref C) "__class__"=some (some (.builtin "object.__class__")))
   (hn:PySem.W.specialIn K (.builtin "object.__class__") "__get__"=some (some (.builtin "getset_descriptor.__get__"))) (htk:PySem.W.takesIn K (.builtin "object.__class__")=some true)
   (hm:PySem.W.mroIn K C (.type "object")=some true):ke K H (.ref a) (.ref C)
theorem xb{x:V}{u t:Value}(I:Inv X pins σ H s)(rx:bq x u)(ty:ke X.K H x t)(e:PySem.W.kitOne X.K t c=some b)(h:∀tk,Q (.bool b) {s with toks:=tk}) :
  wpAny (model X.prog X.w) A (call (.builtin "isinstance") [u,c]) Q E s:=by
 cases ty with
 |non=>cases(show u=Value.none from rx);exact PySem.W.kia_one PySem.W.kitx_none I.kIn True.intro e (fun z=>nomatch z) h
 |bl y=>cases(show u=Value.bool y from rx);exact PySem.W.kia_one PySem.W.kitx_bool I.kIn True.intro e (fun z=>nomatch z) h
 |int i=>obtain⟨t,q⟩:=(show ∃t,u=Value.int i t from rx);cases q;exact PySem.W.kia_one PySem.W.kitx_int I.kIn True.intro e (fun z=>nomatch z) h
 |str y=>obtain⟨t,q⟩:=(show ∃t,u=Value.str y t from rx);cases q;exact PySem.W.kia_one PySem.W.kitx_str I.kIn True.intro e (fun z=>nomatch z) h
 |flt y=>obtain⟨t,q⟩:=(show ∃t,u=Value.float y t from rx);cases q;exact PySem.W.kia_one PySem.W.kitx_float I.kIn True.intro e (fun z=>nomatch z) h
 | @lst a xs ea=>
  cases(show u=Value.ref a from rx);obtain⟨_,_,n,_,h1⟩:=(show bz X.prog X.w H s.heap a (.lst xs) from I.hok a _ ea);exact PySem.W.kia_one PySem.W.kitx_list I.kIn ⟨_,h1,rfl⟩ e (fun z=>nomatch z) h
 | @frz a ob xs ea=>
  cases(show u=Value.ref a from rx);obtain⟨_,_,_,n,_,h1⟩:=(show bz X.prog X.w H s.heap a (.frz ob (.lst xs)) from I.hok a _ ea);exact PySem.W.kia_one PySem.W.kitx_list I.kIn ⟨_,h1,rfl⟩ e (fun z=>nomatch z) h
 | @tup a xs ea=>
  cases(show u=Value.ref a from rx);obtain⟨_,_,_,p⟩:=(show bz X.prog X.w H s.heap a (.tup xs) from I.hok a _ ea);obtain⟨o,h1,h2,_⟩:=p;exact PySem.W.kia_one PySem.W.kitx_tuple I.kIn ⟨o,h1,h2⟩ e (fun z=>nomatch z) h
 | @dK a kvs ea=>
  cases(show u=Value.ref a from rx);obtain⟨_,_,vs,_,p⟩:=(show bz X.prog X.w H s.heap a (.dK kvs) from I.hok a _ ea);obtain⟨o,es,ep,h1,h2,_⟩:=p;exact PySem.W.kia_one PySem.W.kitx_dict I.kIn ⟨o,h1,h2.1⟩ e (fun z=>nomatch z) h
 | @dT a kvs ea=>
  cases(show u=Value.ref a from rx);obtain⟨_,_,xs,_,o,es,ep,h1,h2,_⟩:=(show bz X.prog X.w H s.heap a (.dT kvs) from I.hok a _ ea);exact PySem.W.kia_one PySem.W.kitx_dict I.kIn ⟨o,h1,h2.1⟩ e (fun z=>nomatch z) h
 | @ins a C dx fs ea cl ha hn htk hm=>
  cases(show u=Value.ref a from rx);obtain⟨mA,O,_⟩:=og I.hok ea;obtain⟨od,J,_⟩:=O.look;exact PySem.W.kia_one (PySem.W.kitx_own (cl.get _) cl.hd ha hn htk hm) I.kIn J e (fun z=>nomatch z) h
end
structure b5(k:Nat)(A:Around):Prop where
 hd:A.handled=none
 dp:A.depth+3*k+5<recursionLimit
 un:A.units+16*k+200<cLine
theorem b5.mono{j k:Nat}{A:Around}(r:b5 k A)(h:j<=k):b5 j A:=⟨r.hd,by have:=r.dp;omega,by have:=r.un;omega⟩
theorem b5.deeper{k:Nat}{A:Around}(r:b5 (k+1) A)(env:Env):b5 k (A.deeper env):=
 ⟨r.hd,by have:=r.dp;show A.depth+1+3*k+5<_;omega,by have:=r.un;show A.units+3+16*k+200<_;omega⟩
theorem ow{A:Around}{C:Addr}{us:List Value}{kw:List (Str×Value)}:(A.under (.builtin "type.__call__" ⟨.ref C::us,kw⟩)).depth=A.depth+1:=by
 first | rfl | simp[Around.under,Code.weight,Code.isCreation,Code.isGuard,Code.isCaller,Code.frames,Code.isFrame,guardIds]
theorem oA{A:Around}{C:Addr}{us:List Value}{kw:List (Str×Value)}:(A.under (.builtin "type.__call__" ⟨.ref C::us,kw⟩)).units=A.units+1:=by
 first | rfl | simp[Around.under,Code.cUnits,Code.frames,Code.isFrame]
theorem b5.make{k:Nat}{A:Around}(r:b5 (k+1) A)(C:Addr)(us:List Value)(kw:List (Str×Value)):b5 k (A.under (.builtin "type.__call__" ⟨.ref C::us,kw⟩)):=
 ⟨r.hd,by have:=r.dp;rw[ow];omega,by have:=r.un;rw[oA];omega⟩
theorem b5.depth{k:Nat}{A:Around}(r:b5 k A):A.depth<recursionLimit:=by have:=r.dp;omega
theorem b5.units{k:Nat}{A:Around}(r:b5 k A):A.units+64<cLine:=by have:=r.un;omega
noncomputable def pG:TA:=fun _ H Q=>Q [] H
noncomputable def jn(ta:TE)(tr:TA):TA:=fun σ H Q=>ta σ H fun x H1=>tr σ H1 fun xs H2=>Q (x::xs) H2
section
variable {X:Cx}{e:Expr}{es:List Expr}{te:TE}{t:TA}{pos:Pos}
theorem ad:PA X [] pG:=fun _ _ _ _ H Q I h=>Calls.spliced_nil ⟨[],H,I,.nil,h⟩
theorem aa(ha:PE X e te)(hr:PA X es t)(hs:starEach (e::es) X.env=(false,eval e X.env)::starEach es X.env:=by rfl):PA X (e::es) (jn te t):=by
 intro pos pins s σ H Q I h;rw[hs];show wpAny _ _ (spliced ((false,eval e X.env)::backTo pos (starEach es X.env))) _ _ s;refine Calls.spliced_cons (bF (ha pins s σ H _ I h) fun u s1 ⟨x,H1,I1,r1,q1⟩=>?_);exact bF (hr pos pins s1 σ H1 _ I1 q1) fun us s2 ⟨xs,H2,I2,r2,q2⟩=>⟨x::xs,H2,I2,.cons r1 r2,q2⟩
noncomputable def Bm(t:TA):TE:=fun σ H Q=>t σ H fun xs H1=>xs.length<=sizeLine/\∀p,H1 p=none->Q (.ref p) (aB H1 p (.tup xs))
noncomputable def zZ(t:TA):TE:=fun σ H Q=>t σ H fun xs H1=>xs.length<=sizeLine/\∀p,H1 p=none->Q (.ref p) (aB H1 p (.lst xs))
theorem aR{x1}(h:PA X es t):PE X (.Tuple es x1 pos) (Bm t):=by
 intro pins s σ H Q I hq;refine wpAny_Tuple_spliced (bF (h pos pins s σ H _ I hq) fun us s1 ⟨xs,H1,I1,r,z,q⟩=>⟨by rw[<- r.length];exact z,?_⟩);have hf:H1 s1.heap.objs.size=none:=I1.hok.fresh (HP _);refine⟨.ref s1.heap.objs.size,aB H1 s1.heap.objs.size (.tup xs),I1.laid (t':=s1.toks) (fun b u e=>Hl _ e) (HP _) ?_,rfl,q _ hf⟩;exact⟨z,us,r,⟨_,Hs _ rfl,rfl,_,rfl⟩⟩
theorem bv(h:PA X es t):PE X (.List es pos) (zZ t):=by
 intro pins s σ H Q I hq;refine wpAny_List_spliced (bF (h pos pins s σ H _ I hq) fun us s1 ⟨xs,H1,I1,r,z,q⟩=>⟨by rw[<- r.length];exact z,?_⟩);have hf:H1 s1.heap.objs.size=none:=I1.hok.fresh (HP _);refine⟨.ref s1.heap.objs.size,aB H1 s1.heap.objs.size (.lst xs),I1.laid (t':=s1.toks) (fun b u e=>Hl _ e) (HP _) ?_,rfl,q _ hf⟩;exact⟨z,us,0,r,Hs _ rfl⟩
end
noncomputable abbrev Sp:=List V->Hp->VK->XK->Prop
noncomputable abbrev jL:=List Env->Hp->Shared->XK->Value->Shared->Prop
structure pH(P:Program)(w:World)(K:PySem.W.Frag)(mg:Str->Option Value)(base:Heap)(A:Around)(outer:List Env)(s:Shared)(H:Hp):Prop where
 frames:A.frames=some outer
 mod:Mod K mg base
 bs:∀b o,base.get? b=some o->s.heap.get? b=some o/\H b=none
 bsz:base.objs.size<=s.heap.objs.size
 funs:s.heap.FunFrames base outer
 frf:∀b∈il outer,H b=none
 hok:kh P w H s.heap
 bare:AllBare s.gens
noncomputable def CE(outer:List Env)(P:Program)(w:World)(H:Hp)(s:Shared)(Q:VK)(u:Value)(s':Shared):Prop:=
 ∃v H',s'.os=s.os/\AllBare s'.gens/\Un (il outer) [] H H' s.heap s'.heap/\kh P w H' s'.heap/\bq v u/\Q v H'
noncomputable def CR(CX:jL)(outer:List Env)(P:Program)(w:World)(H:Hp)(s:Shared)(Q:VK)(E:XK)(r:Result)(s':Shared):Prop:=
 match r with
 | .ok (.ret u)=>CE outer P w H s Q u s'
 | .ok _=>False
 | .error e=>CX outer H s E e s'
structure bc(P:Program)(w:World)(K:PySem.W.Frag)(mg:Str->Option Value)(base:Heap)(CX:jL)(k:Nat)(f:Addr)(fd:FuncData)(ps:List Str)(sp:Sp):Prop where
 len:∀vs H Q E,sp vs H Q E->vs.length=ps.length
 run:∀(A:Around) (outer:List Env) (s:Shared) (H:Hp) (args:Args) (us:List Value) (vs:List V) (Q:VK) (E:XK),b5 k A->pH P w K mg base A outer s H->BindsTo s fd args (ps.zip us)->aZ vs us->sp vs H Q E ->
  codeAny (model P w) A (.call (.ref f) args) (CR CX outer P w H s Q E) s
theorem bc.mono{P:Program}{w:World}{K:PySem.W.Frag}{mg:Str->Option Value}{base:Heap}{CX:jL}{j k:Nat}{f:Addr}{fd:FuncData}{ps:List Str}{sp:Sp}(F:bc P w K mg base CX j f fd ps sp)(h:j<=k) :
  bc P w K mg base CX k f fd ps sp:=⟨F.len,fun A outer s H args us vs Q E hr=>F.run A outer s H args us vs Q E (hr.mono h)⟩
theorem pH.make{P:Program}{w:World}{K:PySem.W.Frag}{mg:Str->Option Value}{base:Heap}{A:Around}{outer:List Env}{s:Shared}{H:Hp}(e:pH P w K mg base A outer s H)(C:Addr)(us:List Value)(kw:List (Str×Value)) :
  pH P w K mg base (A.under (.builtin "type.__call__" ⟨.ref C::us,kw⟩)) outer s H:=⟨by first | exact e.frames | (simpa[Around.under,Code.envs,Code.isFrame,pushEnvs]using e.frames),e.mod,e.bs,e.bsz,e.funs,e.frf,e.hok,e.bare⟩
section
variable {X:Cx}{pins:List (Addr×Obj)}{σ:St}{H:Hp}{s s':Shared}
theorem Inv.env0(I:Inv X pins σ H s):pH X.prog X.w X.K X.mg X.base X.A X.stack s H:=
 ⟨I.ok.frames,I.ok.mod,I.bs,HY I.ok.bsz I.sz,I.stack,I.stkFree,I.hok,I.bare⟩
theorem Inv.after{Q:VK}{u:Value}(I:Inv X pins σ H s)(h:CE X.stack X.prog X.w H s Q u s'):EP X pins σ Q u s':=by
 obtain⟨v,H',os,bare,un,hok,r,q⟩:=h;obtain⟨hh,g,d,t,os'⟩:=s';obtain rfl:os'=s.os:=os;exact⟨v,H',I.call (h':=hh) (g':=g) (d':=d) (t':=t) (ch:=[]) un hok bare (fun b z=>absurd z (by simp)),r,q⟩
end
noncomputable def nC(sp:Sp)(dvs:List V)(E:XK)(t:TA):TE:=fun σ H Q=>t σ H fun vs H1=>sp (vs++dvs) H1 Q E
noncomputable def rF(C:Addr)(m:Str)(sp:Sp)(dvs:List V)(E:XK)(ta:TE)(t:TA):TE:=fun σ H Q=>ta σ H fun x H1=>∃a dx fs,x=.ref a/\H1 a=some (.ins C dx fs)/\fs.lookup m=none /\
 t σ H1 fun vs H2=>sp (x::(vs++dvs)) H2 Q E
noncomputable def wu(C:Addr)(sp:Sp)(dvs:List V)(E:XK)(t:TA):TE:=fun σ H Q=>t σ H fun vs H1=>∀x dx,H1 x=none->H1 dx=none->dx≠x ->
 sp (.ref x::(vs++dvs)) (aB (aB H1 dx (.own x)) x (.ins C dx [])) (fun v H2=>v=.non/\Q (.ref x) H2) E
noncomputable def dc(K:PySem.W.Frag)(fd:FuncData)(ps:List Str)(ds:List Value):Prop:=
 ∀(s:Shared) (us:List Value),K.In s.heap->(us++ds).length=ps.length->BindsTo s fd ⟨us,[]⟩ (ps.zip (us++ds))
theorem dc.all{K:PySem.W.Frag}{fd:FuncData}{ps:List Str}(h:∀us:List Value,us.length=ps.length->bindArgs fd ⟨us,[]⟩=pure (ps.zip us)):dc K fd ps []:=fun s us _ hl=>by
 rw[Ia]at hl ⊢;exact .of_eq (h us hl)
noncomputable def ck(CX:jL)(X:Cx)(E:XK):Prop:=∀(pins:List (Addr×Obj)) (σ:St) (H:Hp) (s:Shared) (e:Value) (s':Shared),Inv X pins σ H s->CX X.stack H s E e s'->X.xe e s'
section
variable {X:Cx}{CX:jL}{k:Nat}{f C:Addr}{fd:FuncData}{ps:List Str}{sp:Sp}{dvs:List V}{ds:List Value}{E:XK}{x m:Str}{p pos apos:Pos}{e o:Expr}{es:List Expr}{ta:TE}{t:TA}
theorem nu{pins:List (Addr×Obj)}{σ:St}{H:Hp}{s:Shared}{Q:VK}{us:List Value}{vs:List V}(F:bc X.prog X.w X.K X.mg X.base CX k f fd ps sp)(hr:b5 k X.A)(hb:dc X.K fd ps ds)(hd:aZ dvs ds)(hx:ck CX X E)
  (I:Inv X pins σ H s) (r:aZ vs us) (h:sp (vs++dvs) H Q E):wpAny (model X.prog X.w) X.A (call (.ref f) us) (EP X pins σ Q) X.xe s:=by
 have r2:aZ (vs++dvs) (us++ds):=r.append hd;have hl:(us++ds).length=ps.length:=by rw[<- r2.length];exact F.len _ _ _ _ h
 refine wpAny_call (codeAny_mono (F.run X.A X.stack s H ⟨us,[]⟩ (us++ds) (vs++dvs) Q E hr I.env0 (hb s us I.kIn hl) r2 h) fun r s' hq=>?_);cases r with
 |error e=>exact hx pins σ H s e s' I hq
 |ok fl=>
  cases fl with
  |ret u=>exact I.after hq
  |next=>exact False.elim hq
  |brk=>exact False.elim hq
  |cont=>exact False.elim hq
theorem BL(F:bc X.prog X.w X.K X.mg X.base CX k f fd ps sp)(hr:b5 k X.A)(hg:Gl X x)(hm:X.mg x=some (.ref f))(hk:PySem.W.keepIn X.K (.ref f)=true)(hb:dc X.K fd ps ds)(hd:aZ dvs ds)(hx:ck CX X E)
  (ha:PA X (e::es) t) (hdb:(x==("__debug__":Str))=false:=by decide) (he:starEach (e::es) X.env=(false,eval e X.env)::starEach es X.env:=by rfl) (hpl:(backTo pos (starEach es X.env)).any (·.1)=false:=by rfl) :
  PE X (.Call (.Name x p) (e::es) [] pos) (nC sp dvs E t):=by
 intro pins s σ H Q I h;refine wpAny_Call_Name_kw (eV I hg hm ?_ hdb);refine PySem.W.callWith_K (h₀:=X.base) I.ok.mod.kin hk (bF (ha pos pins s σ H _ I h) fun us s1 ⟨vs,H1,I1,r,q⟩=>⟨I1.kIn,?_⟩) he hpl;exact nu F hr hb hd hx I1 r q
theorem BK{pl:Sem Bool}(he:PE X o ta)(c:oI X.K C)(hm:kX X.K C m f)(F:bc X.prog X.w X.K X.mg X.base CX k f fd ps sp)(hr:b5 k X.A)(hb:dc X.K fd ps ds)(hd:aZ dvs ds)(hx:ck CX X E)(ha:PA X (e::es) t)
  (hst:starEach (e::es) X.env=(false,eval e X.env)::starEach es X.env:=by rfl) (hpl:(backTo pos (starEach es X.env)).any (·.1)=false:=by rfl)
  (ht:eval (.Call (.Attribute o m apos) (e::es) [] pos) X.env=(do
   let ov <- eval o X.env
   standAt apos.atName
   let (f,first) <- holding [ov] (getMethod ov m pl)
   callWith pos f first (backTo pos (starEach (e::es) X.env)) (backToKw pos (keywordEach [] X.env))):=by rfl) :
  PE X (.Call (.Attribute o m apos) (e::es) [] pos) (rF C m sp dvs E ta t):=by
 intro pins s σ H Q I h;refine PySem.W.methodCall_KW (pl:=pl) (bF (he pins s σ H _ I h) fun u s1 ⟨x,H1,I1,rx,a,dx,fs,ex,ea,l,q⟩=>?_) ht;subst ex;obtain rfl:u=Value.ref a:=rx;refine eF I1 ea c hm l ?_;refine PySem.W.callWith_K (first:=[.ref a]) (h₀:=X.base) I.ok.mod.kin hm.kp (bF (ha pos pins s1 σ H1 _ I1 q) fun us s2 ⟨vs,H2,I2,r,q2⟩=>⟨I2.kIn,?_⟩) hst hpl;exact nu (us:=.ref a::us) (vs:=.ref a::vs) F hr hb hd hx I2 (.cons rfl r) q2
theorem AL{pl:Sem Bool}(he:PE X o ta)(c:oI X.K C)(hm:kX X.K C m f)(F:bc X.prog X.w X.K X.mg X.base CX k f fd ps sp)(hr:b5 k X.A)(hb:dc X.K fd ps ds)(hd:aZ dvs ds)(hx:ck CX X E)
  (ht:eval (.Call (.Attribute o m apos) [] [] pos) X.env=(do
   let ov <- eval o X.env
   standAt apos.atName
   let (f,first) <- holding [ov] (getMethod ov m pl)
   callWith pos f first (backTo pos (starEach [] X.env)) (backToKw pos (keywordEach [] X.env))):=by rfl) :
  PE X (.Call (.Attribute o m apos) [] [] pos) (rF C m sp dvs E ta pG):=by
 intro pins s σ H Q I h;refine PySem.W.methodCall_KW (pl:=pl) (bF (he pins s σ H _ I h) fun u s1 ⟨x,H1,I1,rx,a,dx,fs,ex,ea,l,q⟩=>?_) ht;subst ex;obtain rfl:u=Value.ref a:=rx;refine eF I1 ea c hm l ?_;exact PySem.W.callWith_K0 (first:=[.ref a]) I1.kIn hm.kp (nu (us:=[.ref a]) (vs:=[.ref a]) F hr hb hd hx I1 (.cons rfl .nil) q)
structure Mk(K:PySem.W.Frag)(C f:Addr):Prop where
 makes:PySem.W.makesIn K C=true
 init:PySem.W.findIn K (.ref C) "__init__"=some (some (.ref f))
 fn:PySem.W.isFn K (.ref f)=true
 kp:PySem.W.keepIn K (.ref C)=true
theorem zL{pins:List (Addr×Obj)}{σ:St}{H:Hp}{s:Shared}{Q:VK}{us:List Value}{vs:List V}(M:Mk X.K C f)(F:bc X.prog X.w X.K X.mg X.base CX k f fd ps sp)(hr:b5 (k+1) X.A)(hb:dc X.K fd ps ds)(hd:aZ dvs ds)
  (hx:ck CX X E) (I:Inv X pins σ H s) (r:aZ vs us)
  (h:∀x dx,H x=none->H dx=none->dx≠x->sp (.ref x::(vs++dvs)) (aB (aB H dx (.own x)) x (.ins C dx [])) (fun v H2=>v=.non/\Q (.ref x) H2) E) :
  wpAny (model X.prog X.w) X.A (call (.ref C) us) (EP X pins σ Q) X.xe s:=by
 have hq:=h (s.heap.objs.size+1) s.heap.objs.size (I.hok.fresh (Nat.le_succ _)) (I.hok.fresh (HP _)) (HK (H_ _));have I2:=Inv.made (C:=C) I;have r2:aZ (V.ref (s.heap.objs.size+1)::(vs++dvs)) (Value.ref (s.heap.objs.size+1)::(us++ds)):=.cons rfl (r.append hd);have hl:(Value.ref (s.heap.objs.size+1)::us++ds).length=ps.length:=by
  have e:=r2.length;rw[F.len _ _ _ _ hq]at e;exact e.symm
 refine wpAny_call (zj (f:=f) I.kIn M.makes M.init (beq_iff_eq.mp M.fn) (codeAny_mono (F.run _ X.stack _ _ ⟨Value.ref (s.heap.objs.size+1)::us,[]⟩ (Value.ref (s.heap.objs.size+1)::(us++ds)) _ _ E (hr.make C us [])
  (I2.env0.make C us []) (hb _ (Value.ref (s.heap.objs.size+1)::us) I2.kIn hl) r2 hq) fun r s' hq'=>?_))
 cases r with
 |error e=>exact hx pins σ _ _ e s' I2 hq'
 |ok fl=>
  cases fl with
  |ret u=>
   obtain⟨v,H',I3,rv,ev,q3⟩:=I2.after hq';subst ev;exact⟨rv,⟨V.ref (s.heap.objs.size+1),H',I3,rfl,q3⟩⟩
  |next=>exact False.elim hq'
  |brk=>exact False.elim hq'
  |cont=>exact False.elim hq'
theorem BG(M:Mk X.K C f)(F:bc X.prog X.w X.K X.mg X.base CX k f fd ps sp)(hr:b5 (k+1) X.A)(hg:Gl X x)(hm:X.mg x=some (.ref C))(hb:dc X.K fd ps ds)(hd:aZ dvs ds)(hx:ck CX X E)
  (ha:PA X (e::es) t) (hdb:(x==("__debug__":Str))=false:=by decide) (he:starEach (e::es) X.env=(false,eval e X.env)::starEach es X.env:=by rfl) (hpl:(backTo pos (starEach es X.env)).any (·.1)=false:=by rfl) :
  PE X (.Call (.Name x p) (e::es) [] pos) (wu C sp dvs E t):=by
 intro pins s σ H Q I h;refine wpAny_Call_Name_kw (eV I hg hm ?_ hdb);refine PySem.W.callWith_K (h₀:=X.base) I.ok.mod.kin M.kp (bF (ha pos pins s σ H _ I h) fun us s1 ⟨vs,H1,I1,r,q⟩=>⟨I1.kIn,?_⟩) he hpl;exact zL M F hr hb hd hx I1 r q
end
noncomputable def PK(X:Cx)(kws:List Keyword)(t:TA):Prop:=
 ∀(pos:Pos) (pins:List (Addr×Obj)) (s:Shared) (σ:St) (H:Hp) (Q:List V->Hp->Prop),Inv X pins σ H s->t σ H Q->wpAny (model X.prog X.w) X.A (evalAll ((backToKw pos (keywordEach kws X.env)).map (·.2))) (AP X pins σ Q) X.xe s
section
variable {X:Cx}{CX:jL}{k:Nat}{f C:Addr}{fd:FuncData}{ps ks:List Str}{sp:Sp}{E:XK}{x m:Str}{p pos apos kpos:Pos}{e o:Expr}{es:List Expr}{kws:List Keyword}{te ta:TE}{t tk:TA}{nm:Option Str}
theorem C4:PK X [] pG:=fun _ _ _ _ H Q I h=>wpAny_evalAll_nil ⟨[],H,I,.nil,h⟩
theorem AT(ha:PE X e te)(hr:PK X kws t):PK X (⟨nm,e,kpos⟩::kws) (jn te t):=by
 intro pos pins s σ H Q I h;show wpAny _ _ (evalAll ((do let v <- eval e X.env;standAt pos;pure v)::(backToKw pos (keywordEach kws X.env)).map (·.2))) _ _ s;refine wpAny_evalAll_cons (wpAny_bind (bF (ha pins s σ H _ I h) fun u s1 ⟨x,H1,I1,r1,q1⟩=>wpAny_bind (wpAny_standAt (wpAny_pure ?_))));exact bF (hr pos pins s1 σ H1 _ I1 q1) fun us s2 ⟨xs,H2,I2,r2,q2⟩=>⟨x::xs,H2,I2,.cons r1 r2,q2⟩
structure Eo(K:PySem.W.Frag)(fd:FuncData)(ps ks:List Str)(g:List Value->List Value->List Value)(gV:List V->List V->List V):Prop where
 to:∀(s:Shared) (us ws:List Value),K.In s.heap->(g us ws).length=ps.length->BindsTo s fd ⟨us,ks.zip ws⟩ (ps.zip (g us ws))
 rel:∀{vs:List V} {us:List Value} {zs:List V} {ws:List Value},aZ vs us->aZ zs ws->aZ (gV vs zs) (g us ws)
variable {g:List Value->List Value->List Value}{gV:List V->List V->List V}
end
structure aF(N P:List Str)(sc:Scope):Prop where
 kind:sc.kind=.function
 co:sc.isCoroutine=false
 gen:sc.isGenerator=false
 nd:N.Nodup
 pre:N.take P.length=P
 par:∀x∈P,sc.names.lookup x=some .local\/sc.names.lookup x=some .cell
 nofree:∀y∈sc.names,y.2≠.free
theorem rn{kindOf:Str->Option NameKind}{x:Str}:∀{binds:List (Str×Value)} {m:Str->Option Value},(∀v,(x,v)∉binds)->bindL kindOf binds m x=m x
 | [],_,_=>rfl
 | (n,v)::r,m,h=>by
  unfold bindL;rw[rn fun w hw=>h w (HH _ hw)]
  split
  ·have:x≠n:=by rintro rfl;exact h v List.mem_cons_self
   simp[this]
  ·rfl
theorem qC{kindOf:Str->Option NameKind}{x:Str}:∀{binds:List (Str×Value)} {m:Str->Option Value},(∀v,(x,v)∉binds)->bindC kindOf binds m x=m x
 | [],_,_=>rfl
 | (n,v)::r,m,h=>by
  unfold bindC;rw[qC fun w hw=>h w (HH _ hw)]
  split
  ·rfl
  ·have:x≠n:=by rintro rfl;exact h v List.mem_cons_self
   simp[this]
theorem rD{kindOf:Str->Option NameKind}{x:Str}{v:Value}:∀{P:List Str} {vs:List Value} {i:Nat} {m:Str->Option Value},P.Nodup->P[i]?=some x->vs[i]?=some v->kindOf x=some .local ->
  bindL kindOf (P.zip vs) m x=some v
 | [],_,_,_,_,h,_,_=>by simp at h
 |_::_,[],_,_,_,_,h,_=>by simp at h
 |p::P,w::vs,0,m,nd,h1,h2,hk=>by
  simp at h1 h2;subst h1;subst h2
  show bindL kindOf ((p,w)::P.zip vs) m p=_;unfold bindL;rw[rn fun v hv=>(List.nodup_cons.mp nd).1 (List.of_mem_zip hv).1,if_pos hk];simp
 |p::P,w::vs,i+1,m,nd,h1,h2,hk=>by
  show bindL kindOf ((p,w)::P.zip vs) m x=_;unfold bindL;exact rD (i:=i) (List.nodup_cons.mp nd).2 (by simpa using h1) (by simpa using h2) hk
theorem qF{kindOf:Str->Option NameKind}{x:Str}{v:Value}:∀{P:List Str} {vs:List Value} {i:Nat} {m:Str->Option Value},P.Nodup->P[i]?=some x->vs[i]?=some v->kindOf x≠some .local ->
  bindC kindOf (P.zip vs) m x=some v
 | [],_,_,_,_,h,_,_=>by simp at h
 |_::_,[],_,_,_,_,h,_=>by simp at h
 |p::P,w::vs,0,m,nd,h1,h2,hk=>by
  simp at h1 h2;subst h1;subst h2
  show bindC kindOf ((p,w)::P.zip vs) m p=_;unfold bindC;rw[qC fun v hv=>(List.nodup_cons.mp nd).1 (List.of_mem_zip hv).1,if_neg hk];simp
 |p::P,w::vs,i+1,m,nd,h1,h2,hk=>by
  show bindC kindOf ((p,w)::P.zip vs) m x=_;unfold bindC;exact qF (i:=i) (List.nodup_cons.mp nd).2 (by simpa using h1) (by simpa using h2) hk
noncomputable def start(N:List Str)(vs:List V):St:=vs.map some++List.replicate (N.length-vs.length) none
noncomputable def dh(CX:jL)(P:Program)(w:World)(K:PySem.W.Frag)(mg:Str->Option Value)(base:Heap)(N:List Str)(qual:Str)(scope:Scope)(f:Addr)(cd:Value)(A:Around)(outer:List Env)(s:Shared)(H:Hp)(E:XK):Cx where
 prog:=P
 w:=w
 K:=K
 mg:=mg
 base:=base
 A:=A.deeper (envOfC qual scope s.heap.objs.size f cd)
 N:=N
 s₀:=s
 H₀:=H
 env:=envOfC qual scope s.heap.objs.size f cd
 outer:=outer
 stack:=envOfC qual scope s.heap.objs.size f cd::outer
 ex:=[]
 calm:=true
 fn:=fun _=>true
 pn:=[]
 xe:=fun e s'=>wpAny (model P w) (A.deeper (envOfC qual scope s.heap.objs.size f cd)) (leaving (envOfC qual scope s.heap.objs.size f cd) e) (fun _ s''=>CX outer H s E e s'') (fun e' s''=>CX outer H s E e' s'') s'
theorem uP{sc:Scope}{n:Nat}{x:Str}(h:sc.names.lookup x=some .cell):∃c,(cellsFrom n sc.names []).lookup x=some c:=by
 have q:=PySem.W.cellsFrom_some sc.names n [] (.inl h);exact Option.isSome_iff_exists.mp q
theorem qV{CX:jL}{P:Program}{w:World}{K:PySem.W.Frag}{mg:Str->Option Value}{base:Heap}{N ps:List Str}{qual:Str}{scope:Scope}{f:Addr}{cd:Value}{A:Around}{outer:List Env}{s s1:Shared}{H:Hp}{E:XK}{us:List Value}{vs:List V}
  (S:aF N ps scope) (hd:A.handled=none) (e0:pH P w K mg base A outer s H) (hl:vs.length=ps.length) (r:aZ vs us)
  (x:InCallC s s.heap.objs.size (bindL (envOfC qual scope s.heap.objs.size f cd).kindOf (ps.zip us) fun _=>none) (cellsFrom (s.heap.objs.size+1) scope.names []) (bindC (envOfC qual scope s.heap.objs.size f cd).kindOf (ps.zip us) fun _=>none) s1) :
  Inv (dh CX P w K mg base N qual scope f cd A outer s H E) [] (start N vs) H s1:=by
 have hpl:ps.length<=N.length:=by have:=congrArg List.length S.pre;rw[Ie]at this;omega
 obtain⟨h1,tk,rfl,hk⟩:=x.done;have noA:∀b:Addr,b∉(dh CX P w K mg base N qual scope f cd A outer s H E).ex:=fun b z=>absurd (show b∈([]:List Addr) from z) (by simp);refine⟨⟨e0.mod,S.kind,rfl,rfl,HP _,fun y z c h1 h2=>?_,fun y hy=>?_,fun y c _ h=>?_,fun _=>hd,Around.frames_deeper e0.frames,.inr ⟨rfl,rfl⟩,fun b z=>absurd z (noA b),e0.bs,e0.bsz,fun b _ _=>noA b,fun b z=>absurd z (noA b),e0.funs,e0.frf⟩,
  rfl,e0.bare,Un.kept hk,⟨_,x.toInCall.ns,fun i y v h1 h2 h3=>?_⟩,fun y c h=>⟨_,x.cell y c h⟩,e0.hok.fresh (HP _),fun y c h=>?_,fun p hp=>absurd (show p∈([]:List (Addr×Obj)) from hp) (by simp),e0.hok.kept hk,?_⟩
 ·exact name_of_addr x.apart (PySem.mem_of_lookup h1) (PySem.mem_of_lookup h2)
 ·have hy:scope.names.lookup y=some .cell\/scope.names.lookup y=some .free:=hy
  rcases hy with hy | hy
  ·exact uP hy
  ·exact absurd rfl (S.nofree _ (PySem.mem_of_lookup hy))
 ·exact Nat.le_of_lt (x.above y c (PySem.mem_of_lookup h))
 ·have hi:i<vs.length:=by
   unfold start at h2
   by_cases hi:i<vs.length
   ·exact hi
   ·rw[HL (by simpa using hi)]at h2
    rw[List.getElem?_replicate]at h2
    split at h2<;>cases h2
  have ha:vs[i]?=some v:=by
   unfold start at h2;rw[HM (by simpa using hi),Ho]at h2;cases e:vs[i]? with
   |none=>rw[e]at h2;cases h2
   |some a=>rw[e]at h2;cases h2;rfl
  obtain⟨u,hu,rv⟩:=r.get ha;have hp:ps[i]?=some y:=by
   rw[<- S.pre,List.getElem?_take_of_lt (by omega)];exact h1
  have ndP:ps.Nodup:=by rw[<- S.pre];exact S.nd.sublist (List.take_sublist _ _)
  refine⟨u,rv,?_⟩;rcases S.par y (Hq hp) with k | k
  ·exact .inl ⟨k,rD ndP hp hu k⟩
  ·obtain⟨c,e⟩:=uP (n:=s.heap.objs.size+1) k
   refine .inr ⟨.inl k,c,e,?_⟩;have q:=x.cell y c e;rw[qF ndP hp hu (by show scope.names.lookup y≠_;rw[k];decide)]at q;exact q
 ·exact e0.hok.fresh (Nat.le_of_lt (x.above y c (PySem.mem_of_lookup h)))
 ·unfold start
  show _=N.length;rw[HN,Hm,List.length_replicate];omega
theorem At{CX:jL}{P:Program}{w:World}{K:PySem.W.Frag}{mg:Str->Option Value}{base:Heap}{k:Nat}{f:Addr}{name qual:Str}{params:Arguments}{body:List Stmt}{scope:Scope}{dV kV doc pm cdv ct oc:Value}{an od:Option Addr}
  {osl:Array (Option Value)} {N ps:List Str} {sp:Sp} (lk:K.lookup f=some ⟨oc,od,.func (PySem.W.fnOf name qual params body scope dV kV doc pm an cdv ct),osl⟩) (hcd:PySem.W.codeIn K cdv qual=true) (S:aF N ps scope)
  (len:∀vs H Q E,sp vs H Q E->vs.length=ps.length)
  (hbody:∀(A:Around) (outer:List Env) (s:Shared) (H:Hp) (vs:List V) (Q:VK) (E:XK),b5 k (A.deeper (envOfC qual scope s.heap.objs.size f cdv))->sp vs H Q E ->
   ∃t,qg (dh CX P w K mg base N qual scope f cdv A outer s H E) body t/\t {nx:=fun _ H'=>Q .non H',rt:=Q} (start N vs) H) :
  bc P w K mg base CX (k+1) f (PySem.W.fnOf name qual params body scope dV kV doc pm an cdv ct) ps sp:=by
 refine⟨len,fun A outer s H args us vs Q E hr e0 hb r hsp=>?_⟩;have hl:=len _ _ _ _ hsp;have KX:K.In s.heap:=e0.mod.kin.keeps fun b o e=>(e0.bs b o e).1;have lim:s.heap.NoLimit:=e0.mod.nolimit.keeps fun b o e=>(e0.bs b o e).1;have hkind:∀y∈ps.zip us,scope.names.lookup y.1=some .local\/(scope.names.lookup y.1=some .cell/\((cellsFrom (s.heap.objs.size+1) scope.names []).lookup y.1).isSome=true):=fun⟨n,v⟩ hy=>by
  rcases S.par n (List.of_mem_zip hy).1 with q | q
  ·exact .inl q
  ·exact .inr ⟨q,PySem.W.cellsFrom_some _ _ _ (.inl q)⟩
 refine codeAny_call_function hr.depth (KX _ _ lk) rfl S.co S.gen rfl (PySem.W.codeRec_of KX hcd) (hb _ _ _ _ ?_);refine wpAny_newFunctionEnv_cells S.kind hkind fun env he s1 x=>?_;subst he;refine⟨lim.keeps x.toInCall.keep,codeAny_func ?_⟩;obtain⟨t,ht,hq⟩:=hbody A outer s H vs Q E (hr.deeper _) hsp;have I:Inv (dh CX P w K mg base N qual scope f cdv A outer s H E) [] (start N vs) H s1:=qV S hr.hd e0 hl r x;refine wpAny_mono (ht [] s1 (start N vs) H _ I hq) (fun fl s' hs=>?_) fun e s' hs=>hs;have fin:∀{σ':St} {H':Hp} {v:V} {u:Value},Inv (dh CX P w K mg base N qual scope f cdv A outer s H E) [] σ' H' s'->bq v u->Q v H'->CE outer P w H s Q u s':=
  fun{σ' H' v u} J rv q=>⟨v,H',J.os,J.bare,J.base,J.hok,rv,q⟩
 cases fl with
 |ret u=>
  obtain⟨v,σ',H',J,rv,q⟩:=hs;exact fin J rv q
 |next=>
  obtain⟨σ',H',J,q⟩:=hs;exact fin (v:=V.non) (u:=Value.none) J rfl q
 |brk=>
  obtain⟨_,_,_,q⟩:=hs;exact False.elim q
 |cont=>
  obtain⟨_,_,_,q⟩:=hs;exact False.elim q
section
variable {X:Cx}{x:Str}{p pos:Pos}{e:Expr}{es:List Expr}{t:TA}{id T:String}{r:List V->Hp->VK->Prop}
noncomputable def DZ(r:List V->Hp->VK->Prop)(t:TA):TE:=fun σ H Q=>t σ H fun vs H1=>r vs H1 Q
theorem av(hc:gz X (.builtin id) r)(hg:Gl X x)(hm:X.mg x=none)(hv:bootBuiltins x=some (.builtin id))(ha:PA X (e::es) t)(hn:x≠"__name__":=by decide)(hdb:(x==("__debug__":Str))=false:=by decide)
  (he:starEach (e::es) X.env=(false,eval e X.env)::starEach es X.env:=by rfl) (hpl:(backTo pos (starEach es X.env)).any (·.1)=false:=by rfl):PE X (.Call (.Name x p) (e::es) [] pos) (DZ r t):=by
 intro pins s σ H Q I h;refine wpAny_Call_Name_kw (bY I hg hm hv ?_ hn hdb);exact PyProof.Rows.callWith_builtin1 (bF (ha pos pins s σ H _ I h) fun us s1 ⟨vs,H1,I1,r1,q1⟩=>hc pins s1 σ H1 vs us Q I1 r1 q1) he hpl
theorem gQ(hc:gz X (.type T) r)(hg:Gl X x)(hm:X.mg x=none)(hv:bootBuiltins x=some (.type T))(ha:PA X (e::es) t)(hn:x≠"__name__":=by decide)(hdb:(x==("__debug__":Str))=false:=by decide)
  (he:starEach (e::es) X.env=(false,eval e X.env)::starEach es X.env:=by rfl) (hpl:(backTo pos (starEach es X.env)).any (·.1)=false:=by rfl):PE X (.Call (.Name x p) (e::es) [] pos) (DZ r t):=by
 intro pins s σ H Q I h;refine wpAny_Call_Name_kw (bY I hg hm hv ?_ hn hdb);exact PyProof.Rows.callWith_type1 (bF (ha pos pins s σ H _ I h) fun us s1 ⟨vs,H1,I1,r1,q1⟩=>hc pins s1 σ H1 vs us Q I1 r1 q1) he hpl
end
end L2
namespace HT
open PySem PyProof.Rows
section
open PySem.SeqAt
open PySem.AutoSeq1 (wpAny_loadPart')
open PySem.MeetsSeq PySem.MeetsSeq2 PySem.MeetsSeq3
end
section
variable {prog:Program}{w:World}{A:Around}{E:Value->Shared->Prop}{s:Shared}
theorem cat_tup{t b:Addr}{vs ws:List Value}{Q:Value->Shared->Prop}(ht:IsTup s.heap t vs.toArray)(hb:IsTup s.heap b ws.toArray)(hv:vs≠[])
  (h1:ws=[]->Q (.ref t) s) (h2:ws≠[]->Q (.ref s.heap.objs.size) {s with heap:=s.heap.push {cls:=.type "tuple",data:=.seq (vs++ws).toArray} })
  (hsz:vs.length+ws.length<=sizeLine):wpAny (model prog w) A (binaryOp .Add (.ref t) (.ref b)) Q E s:=by
 obtain⟨⟨cls,dd,data,sl⟩,ho,hc,n,hd⟩:=id ht;obtain⟨⟨cls2,dd2,data2,sl2⟩,ho2,hc2,n2,hd2⟩:=id hb;simp only at hc hd hc2 hd2;subst hc hd hc2 hd2;have e:vs.toArray++ws.toArray=(vs++ws).toArray:=by simp
 by_cases hw:ws=[]
 ·exact concat_meets ⟨_,ho,rfl⟩ ⟨_,ho2,rfl⟩ noFill_tuple_add seq_tuple_add PySem.F.slot_tuple_add PySem.F.entry_tuple_add (PySem.F.args_tuple_add_2 _ _)
   (tuple_addW1 t b vs.toArray ws.toArray n n2 dd dd2 sl sl2 (by simpa using hv) (by simp[hw])) ⟨ho,ho2,h1 hw⟩
 ·refine concat_meets ⟨_,ho,rfl⟩ ⟨_,ho2,rfl⟩ noFill_tuple_add seq_tuple_add PySem.F.slot_tuple_add PySem.F.entry_tuple_add (PySem.F.args_tuple_add_2 _ _)
   (tuple_addW2 t b vs.toArray ws.toArray n n2 dd dd2 sl sl2 (by simpa using hv) (by simpa using hw) (by rw[Ht,Ht];exact hsz)) ⟨ho,ho2,?_⟩
  rw[e];exact h2 hw
noncomputable def sIx(n d:Nat):Option Int->Nat
 |none=>d
 |some v=>if v<0 then(v+(n:Int)).toNat else min v.toNat n
theorem sIx_none(n d:Nat):sIx n d none=d:=rfl
theorem sIx_nat(n d k:Nat):sIx n d (some (k:Int))=min k n:=by
 show(if(k:Int)<0 then((k:Int)+(n:Int)).toNat else min (k:Int).toNat n)=min k n;rw[if_neg (by omega),Hv]
theorem CN(n d:Nat)(hd:d<=n)(o:Option Int):sIx n d o<=n:=by
 cases o with
 |none=>exact hd
 |some v=>
  show(if v<0 then(v+(n:Int)).toNat else min v.toNat n)<=n
  by_cases hv:v<0
  ·rw[if_pos hv];omega
  ·rw[if_neg hv];exact Nat.min_le_right _ _
theorem wL(v:Int)(n d:Nat):(if v<0 then max (v+(n:Int)) 0 else min v (n:Int))=((sIx n d (some v):Nat):Int):=by
 show(if v<0 then max (v+(n:Int)) 0 else min v (n:Int))=(((if v<0 then(v+(n:Int)).toNat else min v.toNat n):Nat):Int)
 by_cases hv:v<0
 ·simp only[if_pos hv];omega
 ·simp only[if_neg hv];omega
theorem vI(lo hi:Option Int)(n:Nat):Builtin.Slice.sliceAdjust lo hi 1 (n:Int)=(((sIx n 0 lo:Nat):Int),((sIx n n hi:Nat):Int)):=by
 have h1:¬ ((1:Int)<0):=by omega
 unfold Builtin.Slice.sliceAdjust;simp only[h1,if_false];refine Prod.ext ?_ ?_
 ·cases lo with
  |none=>rfl
  |some v=>exact wL v n 0
 ·cases hi with
  |none=>rfl
  |some v=>exact wL v n n
theorem wf(i j:Nat):Builtin.Slice.slicePlaces (i:Int) (j:Int) 1=j-i:=by
 unfold Builtin.Slice.slicePlaces;have h1:(1:Int)>0:=by omega
 simp only[h1,if_true,Int.ediv_one]
 split<;>omega
theorem pR{v:Value}{o:Option Int}{Q:Option Int->Shared->Prop}(p:IsPart v o)(h:Q o s):wpAny (model prog w) A (Builtin.Slice.slicePartIndex v) Q E s:=by
 cases p with
 |none=>exact slicePart_none h
 |int i t=>exact slicePart_int h
theorem gW{sl:Addr}{vl vu:Value}{lo hi:Option Int}{n:Nat}{Q:Int×Int×Nat->Shared->Prop}(hs:s.heap.IsSliceOf sl vl vu .none)(pl:IsPart vl lo)(pu:IsPart vu hi)
  (h:Q (((sIx n 0 lo:Nat):Int),1,sIx n n hi-sIx n 0 lo) s):wpAny (model prog w) A (Builtin.Slice.sliceApplied (.ref sl) (pure (n:Int))) Q E s:=by
 obtain⟨os,hos,hcs,hds⟩:=id hs;unfold Builtin.Slice.sliceApplied Builtin.Slice.sliceFields;refine wpAny_bind (wpAny_bind (wpAny_field hos hds (x:=vl) rfl (wpAny_bind (wpAny_field hos hds (x:=vu) rfl (wpAny_bind (wpAny_field hos hds (x:=.none) rfl (wpAny_pure ?_)))))));refine wpAny_bind (slicePart_none ?_);show wpAny _ _ (if((1:Int)==0)=true then _ else _) _ _ s;rw[if_neg (by decide)];refine wpAny_bind (pR pl (wpAny_bind (pR pu (wpAny_bind (wpAny_pure ?_)))));show wpAny _ _ (match Builtin.Slice.sliceAdjust lo hi 1 (n:Int) with | (lo,hi)=>pure (lo,(1:Int),Builtin.Slice.slicePlaces lo hi 1)) _ _ s;rw[vI lo hi n];show wpAny _ _ (pure (((sIx n 0 lo:Nat):Int),(1:Int),Builtin.Slice.slicePlaces ((sIx n 0 lo:Nat):Int) ((sIx n n hi:Nat):Int) 1)) _ _ s;rw[wf];exact wpAny_pure h
theorem zJ(xs:Array Value)(i k:Nat):((List.range k).filterMap fun(m:Nat)=>xs[((i:Int)+(m:Int)*1).toNat]?).toArray=((xs.toList.drop i).take k).toArray:=by
 have e:(fun(m:Nat)=>xs[((i:Int)+(m:Int)*1).toNat]?)=fun m=>xs[i+m]?:=by
  funext m
  have:((i:Int)+(m:Int)*1).toNat=i+m:=by omega
  rw[this]
 rw[e];have:=pick_run xs i k;rw[List.filterMap_map]at this;have e2:((fun x=>xs[x]?)∘fun x=>i+x)=fun m=>xs[i+m]?:=rfl;rw[e2]at this;rw[this]
theorem getItem_tuple_cut{t sl:Addr}{items:Array Value}{vl vu:Value}{lo hi:Option Int}{Q:Value->Shared->Prop}(ht:IsTup s.heap t items)(hs:s.heap.IsSliceOf sl vl vu .none)(pl:IsPart vl lo)(pu:IsPart vu hi)
  (hw:¬ (sIx items.size 0 lo=0/\sIx items.size items.size hi=items.size))
  (h:Q (.ref s.heap.objs.size) {s with heap:=s.heap.push {cls:=.type "tuple",data:=.seq ((items.toList.drop (sIx items.size 0 lo)).take (sIx items.size items.size hi-sIx items.size 0 lo)).toArray} })
  (hsz:items.size<=sizeLine):wpAny (model prog w) A (getItem (.ref t) (.ref sl)) Q E s:=by
 have htake:sizeOk (.seq ((items.toList.drop (sIx items.size 0 lo)).take (sIx items.size items.size hi-sIx items.size 0 lo)).toArray):=by
  show((items.toList.drop (sIx items.size 0 lo)).take (sIx items.size items.size hi-sIx items.size 0 lo)).toArray.size<=sizeLine;rw[Ht,Ie,List.length_drop,Array.length_toList];omega
 have hj:sIx items.size items.size hi<=items.size:=CN _ _ (HP _) hi;obtain⟨os,hos,hcs,hds⟩:=id hs;have hTs:s.TypeIs (.ref sl) "slice":=⟨os,hos,hcs⟩;unfold getItem
 try with_reducible refine wpAny_holding ?_
 first | refine wpAny_bind (wpAny_pure ?_) | skip
 refine wpAny_bind (wpAny_sequenceKey ht.typeIs (by decide) ?_);refine wpAny_bind (wpAny_callSpecial?_slot (name:=Str.ofString "__getitem__") ht.typeIs PyProof.Rows.slot_tuple_getitem
  (wpAny_call_entry PyProof.Rows.slot_tuple_getitem ht.typeIs entry_tuple_getitem ?_ (args_tuple_getitem _ _)))
 show wpAny _ _ (Builtin.Tuple.tupleItemsOf (.ref t) >>= _) _ _ s;refine wpAny_bind (tupleItemsOf_ ht ?_);refine wpAny_bind (wpAny_typeOf hTs ?_);rw[if_pos (by decide)];refine wpAny_bind (gW hs pl pu ?_);have hno:¬ ((((sIx items.size 0 lo:Nat):Int)==0&&(1:Int)==1&&(sIx items.size items.size hi-sIx items.size 0 lo)==items.size)=true):=by
  intro q;rw[Bool.and_eq_true,Bool.and_eq_true]at q;have q1:((sIx items.size 0 lo:Nat):Int)=0:=eq_of_beq q.1.1;have q2:sIx items.size items.size hi-sIx items.size 0 lo=items.size:=eq_of_beq q.2;exact hw ⟨by omega,by omega⟩
 show wpAny _ _ (if(((sIx items.size 0 lo:Nat):Int)==0&&(1:Int)==1&&(sIx items.size items.size hi-sIx items.size 0 lo)==items.size)=true then _ else _) _ _ s;rw[if_neg hno,zJ]
 first
  |exact wpAny_bind (m:=Builtin.Tuple.tupleExact _) (wpAny_newObj_type (wpAny_pure ⟨_,rfl,wpAny_pure h⟩) htake)
  |exact wpAny_bind (m:=Builtin.Tuple.tupleExact _) (wpAny_newObj_type (wpAny_bind (wpAny_pure (wpAny_pure ⟨_,rfl,wpAny_pure h⟩))) htake)
  |exact wpAny_bind (wpAny_bind (m:=Builtin.Tuple.tupleExact _) (wpAny_newObj_type (wpAny_pure (wpAny_pure ⟨_,rfl,wpAny_pure h⟩)) htake))
  |exact wpAny_bind (wpAny_bind (m:=Builtin.Tuple.tupleExact _) (wpAny_newObj_type (wpAny_pure ⟨_,rfl,wpAny_pure h⟩) htake))
end
end HT
namespace L2
open PySem PySem.Spec PyProof.Rows
noncomputable abbrev TO:=St->Hp->(Option Int->Hp->Prop)->Prop
noncomputable def PO(X:Cx)(e:Option Expr)(t:TO):Prop:=
 ∀(pins:List (Addr×Obj)) (s:Shared) (σ:St) (H:Hp) (Q:Option Int->Hp->Prop),Inv X pins σ H s->t σ H Q ->
  wpAny (model X.prog X.w) X.A (evalPart e X.env) (fun u s'=>∃o H',Inv X pins σ H' s'/\IsPart u o/\Q o H') X.xe s
noncomputable def tI:TO:=fun _ H Q=>Q none H
noncomputable def yT(t:TE):TO:=fun σ H Q=>t σ H fun x H1=>∃i,x=.int i/\Q (some i) H1
section
variable {X:Cx}{e:Expr}{te:TE}{lo hi:Option Expr}{tl th:TO}{pos p2:Pos}
theorem dj:PO X none tI:=by
 intro pins s σ H Q I h;rw[evalPart_none];exact wpAny_pure ⟨none,H,I,.none,h⟩
theorem dk(h:PE X e te):PO X (some e) (yT te):=by
 intro pins s σ H Q I hw;rw[evalPart_some];refine bF (h pins s σ H _ I hw) fun u s1 ⟨x,H1,I1,r1,q1⟩=>?_;obtain⟨i,rfl,q⟩:=q1;obtain⟨t,rfl⟩:=r1;exact⟨some i,H1,I1,.int i t,q⟩
noncomputable def DT(X:Cx)(r:V->Option Int->Option Int->Hp->VK->Prop):Prop:=
 ∀(pins:List (Addr×Obj)) (s:Shared) (σ:St) (H:Hp) (x:V) (v vl vu:Value) (lo hi:Option Int) (sl:Addr) (Q:VK),Inv X pins σ H s->bq x v->s.heap.IsSliceOf sl vl vu .none->IsPart vl lo->IsPart vu hi->r x lo hi H Q ->
  ∃T id,typeLookup (.type T) "__getitem__"=pure (some (.builtin id))/\s.TypeIs v T/\wpAny (model X.prog X.w) X.A (getItem v (.ref sl)) (EP X pins σ Q) X.xe s
noncomputable def EV(r:V->Option Int->Option Int->Hp->VK->Prop)(te:TE)(tl th:TO):TE:=fun σ H Q=>te σ H fun x H1=>tl σ H1 fun l H2=>th σ H2 fun u H3=>r x l u H3 Q
theorem b0{r:V->Option Int->Option Int->Hp->VK->Prop}(hr:DT X r)(he:PE X e te)(hl:PO X lo tl)(hu:PO X hi th):PE X (.Subscript e (.Slice lo hi none p2) pos) (EV r te tl th):=by
 intro pins s σ H Q I h;refine Subscript_ (bF (he pins s σ H _ I h) fun v s1 ⟨x,H1,I1,r1,q1⟩=>?_);refine wpAny_Slice (bF (hl pins s1 σ H1 _ I1 q1) fun vl s2 ⟨l,H2,I2,pl,q2⟩=>bF (hu pins s2 σ H2 _ I2 q2) fun vu s3 ⟨u,H3,I3,pu,q3⟩=>?_);rw[evalPart_none];refine wpAny_pure ?_;have I4:Inv X pins σ H3 {s3 with heap:=s3.heap.push {cls:=.type "slice",data:=.fields #[vl,vu,.none]} }:=I3.kept (t':=s3.toks) fun b ob q=>Hl _ q;obtain⟨T,id,hT,ht,hg⟩:=hr pins {s3 with heap:=s3.heap.push {cls:=.type "slice",data:=.fields #[vl,vu,.none]} } σ H3 x v vl vu l u s3.heap.objs.size Q I4 r1 (Heap.IsSliceOf.new ..) pl pu q3;show wpAny (model X.prog X.w) X.A (subscriptTail e (.Slice lo hi none p2) v (.ref s3.heap.objs.size)) (EP X pins σ Q) X.xe {s3 with heap:=s3.heap.push {cls:=.type "slice",data:=.fields #[vl,vu,.none]} };exact tail_any (ops:=[.ref s3.heap.objs.size,v]) ht hT hg (by with_unfolding_all rfl)
noncomputable def dZ(xs:List V)(lo hi:Option Int):List V:=(xs.drop (HT.sIx xs.length 0 lo)).take (HT.sIx xs.length xs.length hi-HT.sIx xs.length 0 lo)
theorem jv(xs:List V)(lo hi:Option Int):(dZ xs lo hi).length<=xs.length:=by
 unfold dZ;rw[Ie,List.length_drop];omega
noncomputable def CS(K:PySem.W.Frag):V->Option Int->Option Int->Hp->VK->Prop:=fun x lo hi H Q=>∃a xs,x=.ref a/\bd K H a xs /\
 ¬ (HT.sIx xs.length 0 lo=0/\HT.sIx xs.length xs.length hi=xs.length)/\∀p,H p=none->Q (.ref p) (aB H p (.tup (dZ xs lo hi)))
theorem sr:DT X (CS X.K):=by
 intro pins s σ H x v vl vu lo hi sl Q I rx hs pl pu h;obtain⟨a,xs,rfl,hx,hw,q⟩:=h;cases rx;obtain⟨its,r,ht,hz⟩:=I.tuple hx;have hlen:its.toArray.size=xs.length:=by rw[Ht];exact r.length.symm
 refine⟨"tuple",_,PyProof.Rows.slot_tuple_getitem.lookup,ht.typeIs,?_⟩;refine HT.getItem_tuple_cut ht hs pl pu (by rw[hlen];exact hw) ?_ (by rw[hlen];exact hz);rw[hlen];refine⟨.ref s.heap.objs.size,_,I.laid (t':=s.toks) (o:=.tup (dZ xs lo hi)) (fun b ob q=>Hl _ q) (HP _) ?_,rfl,q _ (I.hok.fresh (HP _))⟩;exact⟨HY (jv xs lo hi) hz,_,(r.drop (HT.sIx xs.length 0 lo)).take (HT.sIx xs.length xs.length hi-HT.sIx xs.length 0 lo),IsTup.new _ _⟩
noncomputable def zY(K:PySem.W.Frag):R2:=fun x y H Q=>∃a b xs ys,x=.ref a/\y=.ref b/\bd K H a xs/\bd K H b ys/\xs≠[]/\xs.length+ys.length<=sizeLine /\
 (ys=[]->Q (.ref a) H)/\(ys≠[]->∀p,H p=none->Q (.ref p) (aB H p (.tup (xs++ys))))
theorem aZ.nil_iff{xs:List V}{us:List Value}(r:aZ xs us):us=[]↔xs=[]:=by
 cases r with
 |nil=>simp
 |cons _ _=>simp
theorem bX:a_ X (binaryOp .Add) (zY X.K):=by
 intro pins s σ H x y v u Q I rx ry h;obtain⟨a,b,xs,ys,rfl,rfl,ha,hb,hx,hz,q1,q2⟩:=h;cases rx;cases ry;obtain⟨its,r1,p1,_⟩:=I.tuple ha;obtain⟨its2,r2,p2,_⟩:=I.tuple hb;refine HT.cat_tup p1 p2 (fun z=>hx (r1.nil_iff.mp z)) (fun z=>⟨.ref a,H,I,rfl,q1 (r2.nil_iff.mp z)⟩) (fun z=>?_) (by rw[<- r1.length,<- r2.length];exact hz);refine⟨.ref s.heap.objs.size,_,I.laid (t':=s.toks) (o:=.tup (xs++ys)) (fun b ob q=>Hl _ q) (HP _) ?_,rfl,q2 (fun w=>z (r2.nil_iff.mpr w)) _ (I.hok.fresh (HP _))⟩;exact⟨by rw[HN];exact hz,_,r1.append r2,IsTup.new _ _⟩
end
noncomputable def BB(n:Nat)(i:Int):Option Nat:=if 0<=i then(if i<n then some i.toNat else none) else if -(n:Int)<=i then some (i+n).toNat else none
noncomputable def gv{α:Type}(xs:List α)(i:Int):Option α:=(BB xs.length i).bind fun j=>xs[j]?
theorem wE{n:Nat}{i:Int}{j:Nat}(h:BB n i=some j):seqIndex? i n=some j/\j<n/\-(n:Int)<=i/\i<n:=by
 unfold BB at h
 by_cases h0:0<=i
 ·rw[if_pos h0]at h
  by_cases h1:i<n
  ·rw[if_pos h1]at h
   have e:i.toNat=j:=Option.some.inj h;exact⟨by rw[seqIndex_of h0 h1,e],by omega,by omega,h1⟩
  ·rw[if_neg h1]at h;cases h
 ·rw[if_neg h0]at h
  by_cases h1:-(n:Int)<=i
  ·rw[if_pos h1]at h
   have e:(i+n).toNat=j:=Option.some.inj h;exact⟨by rw[seqIndex_neg (by omega) h1,e],by omega,h1,by omega⟩
  ·rw[if_neg h1]at h;cases h
theorem rW{α:Type}{xs:List α}{i:Int}{v:α}(h:gv xs i=some v):∃j,seqIndex? i xs.length=some j/\xs[j]?=some v/\j<xs.length/\-(xs.length:Int)<=i/\i<xs.length:=by
 unfold gv at h;cases e:BB xs.length i with
 |none=>rw[e]at h;cases h
 |some j=>
  rw[e]at h;obtain⟨h1,h2,h3,h4⟩:=wE e;exact⟨j,h1,h,h2,h3,h4⟩
theorem aU{α:Type}{xs:List α}{j:Nat}{v:α}(h:xs[j]?=some v):gv xs (j:Int)=some v:=by
 have hj:j<xs.length:=(Hk.mp h).1;have e:BB xs.length (j:Int)=some j:=by
  unfold BB;rw[if_pos (by omega),if_pos (by omega)];simp
 unfold gv;rw[e];exact h
noncomputable def wW(b:Expr):Prop:=∀o i,subscripted b false o i=operate [o,i] (getItem o i)
noncomputable def B6(X:Cx)(r:R2):Prop:=
 ∀(value slice:Expr) (pins:List (Addr×Obj)) (s:Shared) (σ:St) (H:Hp) (x y:V) (v u:Value) (Q:VK),Inv X pins σ H s->bq x v->bq y u->r x y H Q ->
  subscripted slice false v u=operate [v,u] (getItem v u)->wpAny (model X.prog X.w) X.A (subscriptTail value slice v u) (EP X pins σ Q) X.xe s
noncomputable def Do(X:Cx)(id:String)(r:V->List V->Hp->VK->Prop):Prop:=
 ∀(pins:List (Addr×Obj)) (s:Shared) (σ:St) (H:Hp) (x:V) (xs:List V) (v:Value) (us:List Value) (Q:VK),Inv X pins σ H s->bq x v->aZ xs us->r x xs H Q ->
  wpAny (model X.prog X.w) X.A (call (.builtin id) (v::us)) (EP X pins σ Q) X.xe s
section
variable {X:Cx}{a b:Expr}{ta tb:TE}{pos:Pos}
theorem az{r:R2}(hr:B6 X r)(ha:PE X a ta)(hb:PE X b tb)(hs:wW b):PE X (.Subscript a b pos) (B1 r ta tb):=by
 intro pins s σ H Q I h;exact Subscript_ (B_ ha hb I h fun v u s2 x y H2 I2 rx ry q=>hr a b pins s2 σ H2 x y v u Q I2 rx ry q (hs _ _))
noncomputable def vk(K:PySem.W.Frag):R2:=fun x y H Q=>∃p xs i v,x=.ref p/\y=.int i/\aW K H p xs/\gv xs i=some v/\Q v H
noncomputable def vG(K:PySem.W.Frag):R2:=fun x y H Q=>∃p xs i v,x=.ref p/\y=.int i/\bd K H p xs/\gv xs i=some v/\Q v H
noncomputable def CL:R2:=fun x y H Q=>∃z i c,x=.str z/\y=.int i/\z.length<=sizeLine/\gv z.cps.toList i=some c/\Q (.str ⟨#[c]⟩) H
theorem lW:B6 X (vk X.K):=by
 intro value slice pins s σ H x y v u Q I rx ry h hs;obtain⟨p,xs,i,z,rfl,rfl,hq,he,q⟩:=h;cases rx;obtain⟨t,rfl⟩:=ry;obtain⟨its,r,pl,hz⟩:=I.list hq;obtain⟨j,h1,h2,h3,h4,h5⟩:=rW he;obtain⟨w,ew,rw'⟩:=r.get h2;have hl:=r.length;have hn:=mW;have fin:EP X pins σ Q w s:=⟨z,H,I,rw',q⟩
 by_cases h0:0<=i
 ·have hj:i.toNat=j:=by
   rw[seqIndex_of h0 h5]at h1;exact Option.some.inj h1
  exact item_listR pl.isList h0 (by omega) (by rw[hj];simpa using ew) fin hs
 ·have hj:(i+(its.toArray.size:Int)).toNat=j:=by
   rw[seqIndex_neg (by omega) h4]at h1;rw[Ht,<- hl];exact Option.some.inj h1
  exact subscriptTail_builtinR (x:=w) pl.isList.typeIs slot_list_getitem.lookup
   (wpAny_getItem_list_neg (Q:=fun r s'=>r=w/\EP X pins σ Q r s') pl.isList (by omega) (by rw[Ht]<;>omega) (by omega) (by rw[hj];simpa using ew) ⟨rfl,fin⟩) hs
theorem yG:B6 X (vG X.K):=by
 intro value slice pins s σ H x y v u Q I rx ry h hs;obtain⟨p,xs,i,z,rfl,rfl,hq,he,q⟩:=h;cases rx;obtain⟨t,rfl⟩:=ry;obtain⟨its,r,pl,hz⟩:=I.tuple hq;obtain⟨j,h1,h2,h3,h4,h5⟩:=rW he;obtain⟨w,ew,rw'⟩:=r.get h2;have hl:=r.length;have hn:=mW;have fin:EP X pins σ Q w s:=⟨z,H,I,rw',q⟩;exact subscriptTail_builtinR (x:=w) pl.typeIs slot_tuple_getitem.lookup
  (getItem_tuple (j:=j) (Q:=fun r s'=>r=w/\EP X pins σ Q r s') pl (by omega) (by omega) (by rw[Ht,<- hl];exact h1) (by simpa using ew) ⟨rfl,fin⟩) hs
theorem nj:B6 X CL:=by
 intro value slice pins s σ H x y v u Q I rx ry h hs;obtain⟨z,i,c,rfl,rfl,hz,he,q⟩:=h;obtain⟨t,rfl⟩:=rx;obtain⟨t',rfl⟩:=ry;obtain⟨j,h1,h2,h3,h4,h5⟩:=rW he;have hl:z.cps.toList.length=z.length:=by simp[Str.length]
 rw[hl]at h1 h4 h5;have hn:=mW;exact tail_any (typeIs_str s z t) slot_str_getitem.lookup (getItem_str (c:=c) (by
  have e1:decide (i < -(2 ^ 63:Int))=false:=decide_eq_false (by omega);have e2:decide (i≥2 ^ 63)=false:=decide_eq_false (by omega);rw[e1,e2,Bool.or_false]) (by rw[h1];simpa using h2) ⟨.str ⟨#[c]⟩,H,I.tok _,⟨_,rfl⟩,q⟩) hs
theorem vx(its:List Value)(n j:Nat)(u:Value):Obj.mapSeq (·.setIfInBounds j u) {cls:=.type "list",data:=.seq its.toArray n}={cls:=.type "list",data:=.seq (its.set j u).toArray n}:=by
 simp[Obj.mapSeq]
theorem Inv.lst{pins:List (Addr×Obj)}{σ:St}{H:Hp}{s:Shared}{p:Addr}{xs:List V}(I:Inv X pins σ H s)(h:H p=some (.lst xs)) :
  ∃(its:List Value) (n:Nat),aZ xs its/\s.heap.get? p=some {cls:=.type "list",data:=.seq its.toArray n}/\xs.length<=sizeLine:=by
 obtain⟨z,its,n,r,e⟩:=I.hok p _ h;exact⟨its,n,r,e,z⟩
theorem Inv.lstUpd{pins:List (Addr×Obj)}{σ:St}{H:Hp}{s:Shared}{p:Addr}{xs ys:List V}{its its':List Value}{n n':Nat}{f:Obj->Obj}(I:Inv X pins σ H s)(h:H p=some (.lst xs))
  (ho:s.heap.get? p=some {cls:=.type "list",data:=.seq its.toArray n}) (hf:f {cls:=.type "list",data:=.seq its.toArray n}={cls:=.type "list",data:=.seq its'.toArray n' }) (r:aZ ys its') (hz:ys.length<=sizeLine) (t:Nat) :
  Inv X pins σ (aB H p (.lst ys)) {s with heap:=s.heap.update p f,toks:=t}:=by
 have e:(s.heap.update p f).get? p=some {cls:=.type "list",data:=.seq its'.toArray n' }:=by
  rw[Hw f ho (by rw[hf]<;>rfl),hf]
 refine I.write (x:=p) (e:=p) (by rw[h];trivial) (.inl rfl) (fun b u hb q=>(Hr _ _ (Ne.symm hb)).trans q) ⟨_,e⟩ ?_;exact⟨hz,its',n',r,e⟩
noncomputable def zN:V->V->V->Hp->(Hp->Prop)->Prop:=fun o i v H Q=>∃p xs k j,o=.ref p/\i=.int k/\H p=some (.lst xs)/\BB xs.length k=some j/\Q (aB H p (.lst (xs.set j v)))
theorem zo:DD X zN:=by
 intro pins s σ H o i v ov iv u Q I ro ri rv h;obtain⟨p,xs,k,j,rfl,rfl,hp,hj,q⟩:=h;cases ro;obtain⟨t,rfl⟩:=ri;obtain⟨its,n,r,ho,hz⟩:=I.lst hp;obtain⟨h1,h2,h3,h4⟩:=wE hj;have hl:=r.length;have hn:=mW;have I':Inv X pins σ (aB H p (.lst (xs.set j v))) {s with heap:=s.heap.update p (Obj.mapSeq (·.setIfInBounds j u))}:=
  I.lstUpd hp ho (vx its n j u) (r.set rv j) (by rw[Iq];exact hz) s.toks
 by_cases h0:0<=k
 ·have hk:k.toNat=j:=by
   rw[seqIndex_of h0 h4]at h1;exact Option.some.inj h1
  exact PySem.W.ki_setAt ho h0 (by omega) (by rw[Ht,<- hl];exact h4) (by rw[hk];exact⟨_,I',q⟩)
 ·have hk:(k+(its.toArray.size:Int)).toNat=j:=by
   rw[seqIndex_neg (by omega) h3]at h1;rw[Ht,<- hl];exact Option.some.inj h1
  exact PySem.W.ki_setBack ho (by omega) (by rw[Ht,<- hl];exact h3) (by omega) (by rw[hk];exact⟨_,I',q⟩)
theorem tB(lo hi:Option Int)(n:Nat):(sliceBounds lo hi none n).1=((HT.sIx n 0 lo:Nat):Int)/\(sliceBounds lo hi none n).2.1=((HT.sIx n n hi:Nat):Int)/\(sliceBounds lo hi none n).2.2=1:=by
 refine⟨?_,?_,rfl⟩
 ·cases lo with
  |none=>simp[sliceBounds,HT.sIx]
  |some i=>
   simp only[sliceBounds,HT.sIx,Option.getD_none,show(1:Int)>0 by decide,if_true]
   by_cases h:i<0
   ·simp only[h,if_true]<;>omega
   ·simp only[h,if_false]<;>omega
 ·cases hi with
  |none=>simp[sliceBounds,HT.sIx]
  |some i=>
   simp only[sliceBounds,HT.sIx,Option.getD_none,show(1:Int)>0 by decide,if_true]
   by_cases h:i<0
   ·simp only[h,if_true]<;>omega
   ·simp only[h,if_false]<;>omega
theorem qv(its:List Value)(lo hi:Option Int):slicePick its.toArray lo hi none=((its.drop (HT.sIx its.length 0 lo)).take (HT.sIx its.length its.length hi-HT.sIx its.length 0 lo)).toArray:=by
 obtain⟨h1,h2,h3⟩:=tB lo hi its.toArray.size;unfold slicePick;rw[h1,h2,h3];simp only[sliceRange_one,pick_run,Ht]<;>rfl
noncomputable def Eb(K:PySem.W.Frag):V->Option Int->Option Int->Hp->VK->Prop:=fun x lo hi H Q=>∃a xs,x=.ref a/\aW K H a xs/\∀p,H p=none->Q (.ref p) (aB H p (.lst (dZ xs lo hi)))
theorem DY:DT X (Eb X.K):=by
 intro pins s σ H x v vl vu lo hi sl Q I rx hs pl pu h;obtain⟨a,xs,rfl,hx,q⟩:=h;cases rx;obtain⟨its,r,ht,hz⟩:=I.list hx;have hlen:=r.length;refine⟨"list",_,slot_list_getitem.lookup,ht.isList.typeIs,?_⟩;refine wpAny_getItem_list_slice ht.isList hs pl pu .none (by simp) ?_ (by rw[Ht]<;>omega);rw[qv,<- hlen];refine⟨.ref s.heap.objs.size,_,I.laid (t':=s.toks) (o:=.lst (dZ xs lo hi)) (fun b ob q=>Hl _ q) (HP _) ?_,rfl,q _ (I.hok.fresh (HP _))⟩;exact⟨HY (jv xs lo hi) hz,_,0,(r.drop (HT.sIx xs.length 0 lo)).take (HT.sIx xs.length xs.length hi-HT.sIx xs.length 0 lo),Hs _ rfl⟩
noncomputable def qI:V->Bool
 | .non=>true
 | .bl _=>true
 | .int _=>true
 | .str _=>true
 |_=>false
noncomputable def uU:V->V->Bool
 | .non,.non=>true
 | .bl a,.bl b=>a==b
 | .bl a,.int b=>(if a then 1 else 0)==b
 | .int a,.bl b=>a==(if b then 1 else 0)
 | .int a,.int b=>a==b
 | .str a,.str b=>a==b
 |_,_=>false
theorem iP{A:Around}{s:Shared}{y x:V}{u v:Value}(ry:bq y u)(rx:bq x v)(fy:qI y=true)(fx:qI x=true):SeqAt.EqAt A s u v (uU y x):=by
 cases y with
 |non=>
  cases ry;cases x with
  |non=>cases rx;exact SeqAt.EqAt.same _
  |bl b=>cases rx;exact SeqAt.EqAt.none_bool b
  |int b=>obtain⟨t,rfl⟩:=rx;exact SeqAt.EqAt.none_int b t
  |str b=>obtain⟨t,rfl⟩:=rx;exact SeqAt.EqAt.none_str b t
  |_=>exact absurd (show false=true from fx) HR
 |bl a=>
  cases ry;cases x with
  |non=>cases rx;exact SeqAt.EqAt.bool_none a
  |bl b=>cases rx;exact SeqAt.EqAt.bool_bool a b
  |int b=>obtain⟨t,rfl⟩:=rx;exact SeqAt.EqAt.bool_int a b t
  |str b=>obtain⟨t,rfl⟩:=rx;exact SeqAt.EqAt.bool_str a b t
  |_=>exact absurd (show false=true from fx) HR
 |int a=>
  obtain⟨t',rfl⟩:=ry;cases x with
  |non=>cases rx;exact SeqAt.EqAt.int_none a t'
  |bl b=>cases rx;exact SeqAt.EqAt.int_bool a t' b
  |int b=>obtain⟨t,rfl⟩:=rx;exact SeqAt.EqAt.int_int a t' b t
  |str b=>obtain⟨t,rfl⟩:=rx;exact SeqAt.EqAt.int_str a t' b t
  |_=>exact absurd (show false=true from fx) HR
 |str a=>
  obtain⟨t',rfl⟩:=ry;cases x with
  |non=>cases rx;exact SeqAt.EqAt.str_none a t'
  |bl b=>cases rx;exact SeqAt.EqAt.str_bool a t' b
  |int b=>obtain⟨t,rfl⟩:=rx;exact SeqAt.EqAt.str_int a t' b t
  |str b=>obtain⟨t,rfl⟩:=rx;exact SeqAt.EqAt.str_str a t' b t
  |_=>exact absurd (show false=true from fx) HR
 |_=>exact absurd (show false=true from fy) HR
theorem lV:gz X (.builtin "len") (fun xs H Q=>∃p ys,xs=[.ref p]/\(aW X.K H p ys\/bd X.K H p ys)/\Q (.int ys.length) H):=by
 intro pins s σ H xs us Q I r h;obtain⟨p,ys,rfl,hq,q⟩:=h;obtain⟨u,rfl,rx⟩:=tV r;cases rx;have hn:=mW;rcases hq with hq | hq
 ·obtain⟨its,r',pl,hz⟩:=I.list hq
  have hlen:=r'.length;exact Calls.call_len_list pl.isList (by simp only[Ht]<;>omega) ⟨.int ys.length,H,I.tok _,⟨s.toks+1,by rw[Ht,hlen]⟩,q⟩
 ·obtain⟨its,r',pl,hz⟩:=I.tuple hq
  have hlen:=r'.length;exact len_tuple pl (by simp only[Ht]<;>omega) ⟨.int ys.length,H,I.tok _,⟨s.toks+1,by rw[Ht,hlen]⟩,q⟩
theorem ba:gz X (.builtin "len") (fun xs H Q=>∃z,xs=[.str z]/\z.length<=sizeLine/\Q (.int z.length) H):=by
 intro pins s σ H xs us Q I r h;obtain⟨z,rfl,hz,q⟩:=h;obtain⟨u,rfl,t,rfl⟩:=tV r;have hn:=mW;exact len_str (by omega) ⟨.int z.length,H,I.tok _,⟨_,rfl⟩,q⟩
theorem iO:gz X (.type "list") (fun xs H Q=>∃p ys,xs=[.ref p]/\(aW X.K H p ys\/bd X.K H p ys)/\∀l,H l=none->Q (.ref l) (aB H l (.lst ys))):=by
 intro pins s σ H xs us Q I r h;obtain⟨p,ys,rfl,hq,q⟩:=h;obtain⟨u,rfl,rx⟩:=tV r;cases rx;have fin:∀(its:List Value),aZ ys its->ys.length<=sizeLine->∀(h':Heap) (c':Nat),(∀b o',s.heap.get? b=some o'->h'.get? b=some o') ->
   h'.get? s.heap.objs.size=some {cls:=.type "list",dict:=none,data:=.seq its.toArray c',slots:=#[]}->EP X pins σ Q (.ref s.heap.objs.size) {s with heap:=h' }:=fun its r' hz h' c' kp e=>
  ⟨.ref s.heap.objs.size,_,I.laid (t':=s.toks) kp (HP _) (show bz X.prog X.w _ h' _ (.lst ys) from⟨hz,its,c',r',e⟩),rfl,q _ (I.hok.fresh (HP _))⟩
 rcases hq with hq | hq
 ·obtain⟨its,r',pl,hz⟩:=I.list hq
  have hlen:=r'.length;obtain⟨o,ho,hc,n,hd⟩:=pl.isList;exact call_list_seq p (.inl rfl) ho hc hd (fun h' c' kp e=>fin its r' hz h' c' kp e) (by simp only[Ht]<;>omega)
 ·obtain⟨its,r',pl,hz⟩:=I.tuple hq
  have hlen:=r'.length;obtain⟨o,ho,hc,n,hd⟩:=pl;exact call_list_seq p (.inr rfl) ho hc hd (fun h' c' kp e=>fin its r' hz h' c' kp e) (by simp only[Ht]<;>omega)
theorem km:gz X (.type "tuple") (fun xs H Q=>∃p ys,xs=[.ref p]/\((aW X.K H p ys/\∀l,H l=none->Q (.ref l) (aB H l (.tup ys)))\/(bd X.K H p ys/\Q (.ref p) H))):=by
 intro pins s σ H xs us Q I r h;obtain⟨p,ys,rfl,h⟩:=h;obtain⟨u,rfl,rx⟩:=tV r;cases rx;rcases h with⟨hq,q⟩ | ⟨hq,q⟩
 ·obtain⟨its,r',pl,hz⟩:=I.list hq
  have hlen:=r'.length;refine call_tuple_list pl.isList (fun h' kp=>?_) (by simp only[Ht]<;>omega);have I1:Inv X pins σ H {s with heap:=h' }:=I.kept (t':=s.toks) kp;have I2:Inv X pins σ (aB H h'.objs.size (.tup ys)) {s with heap:=h'.push {cls:=.type "tuple",data:=.seq its.toArray} }:=
   I1.laid (t':=s.toks) (fun b o e=>Hl _ e) (HP _) (show bz X.prog X.w _ _ _ (.tup ys) from⟨hz,its,r',IsTup.new _ _⟩)
  exact⟨.ref h'.objs.size,_,I2,rfl,q _ (I1.hok.fresh (HP _))⟩
 ·obtain⟨its,r',pl,hz⟩:=I.tuple hq
  exact call_tuple_same pl ⟨.ref p,H,I,rfl,q⟩
noncomputable def D8(K:PySem.W.Frag)(T:String)(x:V)(H:Hp):Prop:=match x with
 | .str _=>T="str"
 | .int _=>T="int"
 | .ref p=>(T="list"/\∃xs,aW K H p xs)\/(T="tuple"/\∃o,K.lookup p=some o/\o.cls=.type "tuple"/\o.dict=none) \/
   (T="dict"/\((∃kvs,H p=some (.dK kvs))\/∃kvs,H p=some (.dT kvs)))\/(T="set"/\∃S n,H p=some (.set S n))
 |_=>False
theorem AQ{pins:List (Addr×Obj)}{σ:St}{H:Hp}{s:Shared}{T:String}{x:V}{v:Value}(I:Inv X pins σ H s)(r:bq x v)(ty:D8 X.K T x H) :
  s.TypeIs v T/\∀a,v=.ref a->∃ob,s.heap.get? a=some ob/\ob.dict=none:=by
 cases x with
 |str z=>
  obtain⟨t,rfl⟩:=r;cases(show T="str" from ty);exact⟨typeIs_str s z t,fun _ e=>nomatch e⟩
 |int i=>
  obtain⟨t,rfl⟩:=r;cases(show T="int" from ty);exact⟨typeIs_int s i t,fun _ e=>nomatch e⟩
 |ref p=>
  cases r;rcases ty with⟨rfl,xs,hq⟩ | ⟨rfl,o,hk,hc,hd⟩ | ⟨rfl,hk⟩ | ⟨rfl,S,n,hk⟩
  ·obtain⟨its,_,pl,_⟩:=I.list hq
   refine⟨pl.isList.typeIs,fun a e=>?_⟩;cases e;obtain⟨o,n,e,c,hd,_⟩:=pl;exact⟨o,e,hd⟩
  ·refine⟨⟨o,I.kIn p o hk,hc⟩,fun a e=>?_⟩
   cases e;exact⟨o,I.kIn _ o hk,hd⟩
  ·have z:∃o,s.heap.get? p=some o/\o.ExactDict:=by
    rcases hk with⟨kvs,hk⟩ | ⟨kvs,hk⟩
    ·obtain⟨_,_,_,_,o,_,_,e,ex,_⟩:=I.hok p _ hk
     exact⟨o,e,ex⟩
    ·obtain⟨_,_,_,_,o,_,_,e,ex,_⟩:=I.hok p _ hk
     exact⟨o,e,ex⟩
   obtain⟨o,e,ex⟩:=z;refine⟨⟨o,e,ex.1⟩,fun a e2=>?_⟩;cases e2;exact⟨o,e,ex.2.1⟩
  ·obtain⟨o,_,_,_,e,ex,_⟩:=I.hok p _ hk
   refine⟨⟨o,e,ex.1⟩,fun a e2=>?_⟩;cases e2;exact⟨o,e,ex.2.1⟩
 |_=>exact False.elim ty
noncomputable def Dk(K:PySem.W.Frag)(T:String)(r:V->List V->Hp->VK->Prop)(to:TE):TE:=fun σ H Q=>to σ H fun x H1=>D8 K T x H1/\r x [] H1 Q
noncomputable def D3(K:PySem.W.Frag)(T:String)(r:V->List V->Hp->VK->Prop)(to:TE)(t:TA):TE:=fun σ H Q=>to σ H fun x H1=>D8 K T x H1/\t σ H1 fun xs H2=>r x xs H2 Q
variable {o e:Expr}{es:List Expr}{to:TE}{t:TA}{name:Str}{apos cpos:Pos}{T id:String}{r:V->List V->Hp->VK->Prop}
theorem yZ(pa:PlainAttrs T)(slot:Slot T name id)(hty:typeOf (.builtin id)=pure (.type "method_descriptor"))(hm:Do X id r)(ho:PE X o to)
  (hbase:attributeBase o name X.env (eval o X.env)=eval o X.env:=by rfl) (hline:(apos.endLine==cpos.line)=true:=by rfl):PE X (.Call (.Attribute o name apos) [] [] cpos) (Dk X.K T r to):=by
 intro pins s σ H Q I h;refine wpAny_Call_method0_late hbase hline (bF (ho pins s σ H _ I h) fun v s1 ⟨x,H1,I1,r1,ty,q1⟩=>?_);obtain⟨h1,h2⟩:=AQ I1 r1 ty;exact⟨T,id,pa,slot,hty,h1,h2,Calls.callWith_builtin rfl (PySem.evalArgs_none (hm pins s1 σ H1 x [] v [] Q I1 r1 .nil q1))⟩
theorem gb(pa:PlainAttrs T)(slot:Slot T name id)(hty:typeOf (.builtin id)=pure (.type "method_descriptor"))(hm:Do X id r)(ho:PE X o to)(ha:PA X (e::es) t)
  (hbase:attributeBase o name X.env (eval o X.env)=eval o X.env:=by rfl)
  (hfew:((backTo cpos (starEach (e::es) X.env)).all (fun x=>!x.1)&&(backToKw cpos (keywordEach [] X.env)).all (fun x=>x.1.isSome)
   && decide ((e::es).length+([]:List Keyword).length+(if([]:List Keyword).isEmpty then 0 else 1)<30))=true:=by rfl)
  (hline:(apos.endLine==cpos.line)=true:=by rfl) (hs:starEach (e::es) X.env=(false,eval e X.env)::starEach es X.env:=by rfl) (hplain:(backTo cpos (starEach es X.env)).any (·.1)=false:=by rfl) :
  PE X (.Call (.Attribute o name apos) (e::es) [] cpos) (D3 X.K T r to t):=by
 intro pins s σ H Q I h;refine wpAny_Call_method_late hbase hfew hline rfl (bF (ho pins s σ H _ I h) fun v s1 ⟨x,H1,I1,r1,ty,q1⟩=>?_);obtain⟨h1,h2⟩:=AQ I1 r1 ty;refine⟨T,id,pa,slot,hty,h1,h2,?_⟩;have hA:=ha cpos pins s1 σ H1 _ I1 q1;rw[hs]at hA ⊢;refine Calls.callWith_builtin (by show(false||(backTo cpos (starEach es X.env)).any (·.1))=false;rw[hplain]<;>rfl) (Calls.evalArgs_plain ?_);exact bF hA fun us s2 ⟨vs,H2,I2,r2,q2⟩=>hm pins s2 σ H2 x vs v us Q I2 r1 r2 q2
end
noncomputable def Ft(X:Cx)(id:String)(r:V->List V->Hp->VK->Prop):Prop:=
 ∀(pins:List (Addr×Obj)) (s:Shared) (σ:St) (H:Hp) (x:V) (xs:List V) (v:Value) (us:List Value) (Q:VK),Inv X pins σ H s->bq x v->aZ xs us->r x xs H Q ->
  wpAny (model X.prog X.w) X.A (call (.builtin id) (v::us)) (EP X pins σ Q) X.xe s
theorem aZ.one:∀{x:V} {us:List Value},aZ [x] us->∃u,us=[u]/\bq x u
 |_,_,.cons r .nil=>⟨_,rfl,r⟩
theorem aZ.two:∀{x y:V} {us:List Value},aZ [x,y] us->∃u v,us=[u,v]/\bq x u/\bq y v
 |_,_,_,.cons r (.cons q .nil)=>⟨_,_,rfl,r,q⟩
theorem aZ.zero:∀{us:List Value},aZ [] us->us=[]
 |_,.nil=>rfl
theorem aZ.dropLast{xs:List V}{us:List Value}(h:aZ xs us):aZ xs.dropLast us.dropLast:=by
 induction h with
 |nil=>exact .nil
 |cons r t ih=>
  cases t with
  |nil=>exact .nil
  |cons q t'=>exact .cons r ih
theorem aZ.reverse{xs:List V}{us:List Value}(h:aZ xs us):aZ xs.reverse us.reverse:=by
 induction h with
 |nil=>exact .nil
 |cons r t ih=>rw[HX,HX];exact aZ.append ih (.cons r .nil)
theorem vW{α:Type}(l:List α):l.eraseIdx (l.length-1)=l.dropLast:=by
 induction l with
 |nil=>rfl
 |cons a r ih=>
  cases r with
  |nil=>rfl
  |cons b r=>
   have e:(a::b::r).length-1=((b::r).length-1)+1:=by
    have h1:(a::b::r).length=r.length+2:=rfl;have h2:(b::r).length=r.length+1:=rfl;omega
   rw[e,List.eraseIdx_cons_succ,ih]
   all_goals rfl
section
variable {X:Cx}{pins:List (Addr×Obj)}{σ:St}{H:Hp}{s:Shared}{l b:Addr}{xs ys zs:List V}
theorem Inv.lset{its its':List Value}{n:Nat}{f:Array Value->Array Value}{t':Nat}(I:Inv X pins σ H s)(hH:H l=some (.lst xs))
  (e:s.heap.get? l=some {cls:=.type "list",data:=.seq its.toArray n}) (hf:f its.toArray=its'.toArray) (hv:aZ ys its') (hz:ys.length<=sizeLine) :
  Inv X pins σ (aB H l (.lst ys)) {s with heap:=s.heap.update l (Obj.mapSeq f),toks:=t' }:=by
 have q:=PySem.IsL.update e f;rw[hf]at q;refine I.write (x:=l) (e:=l) (by rw[hH];exact trivial) (.inl rfl) (fun b' u hb hu=>(Hr s.heap (Obj.mapSeq f) (Ne.symm hb)).trans hu) ⟨_,q⟩ ?_;exact⟨hz,its',_,hv,q⟩
theorem Inv.lnew{its:List Value}{t':Nat}(I:Inv X pins σ H s)(hv:aZ ys its)(hz:ys.length<=sizeLine) :
  Inv X pins σ (aB H s.heap.objs.size (.lst ys)) {s with heap:=s.heap.push {cls:=.type "list",data:=.seq its.toArray},toks:=t' }:=
 I.laid (fun _ _ q=>Hl _ q) (HP _) ⟨hz,its,0,hv,Hs _ rfl⟩
theorem Inv.fresh(I:Inv X pins σ H s):H s.heap.objs.size=none:=I.hok.fresh (HP _)
theorem Inv.lstM(I:Inv X pins σ H s)(hH:H l=some (.lst xs)):xs.length<=sizeLine/\∃(its:List Value) (n:Nat),aZ xs its/\xs.length=its.length/\s.heap.get? l=some {cls:=.type "list",data:=.seq its.toArray n}:=by
 obtain⟨z,its,n,r,e⟩:=I.hok l _ hH;exact⟨z,its,n,r,r.length,e⟩
theorem ut{n:Nat}(h:n<=sizeLine):Builtin.List.listTooLong n=false:=by
 unfold Builtin.List.listTooLong;exact decide_eq_false (by omega)
end
section
variable {X:Cx}
noncomputable def sN:V->List V->Hp->VK->Prop:=fun x vs H Q=>∃l xs y,x=.ref l/\vs=[y]/\H l=some (.lst xs)/\xs.length<sizeLine/\Q .non (aB H l (.lst (xs++[y])))
theorem b6:Ft X "list.append" sN:=by
 intro pins s σ H x vs v us Q I rx rv h;obtain⟨l,xs,y,rfl,rfl,hH,hz,q⟩:=h;cases rx;obtain⟨u,rfl,ru⟩:=rv.one;obtain⟨z,its,n,r,hl,e⟩:=I.lstM hH;refine call_meets F.slot_list_append ⟨_,e,rfl⟩ F.entry_list_append (F.args_list_append_2 _ _) (PySem.list_append l its.toArray n u (by rw[Ht];omega)) ⟨e,?_⟩;refine⟨.non,_,I.lset (its':=its++[u]) hH e (by simp) (r.append (.cons ru .nil)) ?_,rfl,q⟩;rw[HN,List.length_singleton];omega
noncomputable def AV:V->List V->Hp->VK->Prop:=fun x vs H Q=>∃l b xs zs,x=.ref l/\vs=[.ref b]/\H l=some (.lst xs)/\H b=some (.lst zs)/\xs.length+zs.length<=sizeLine/\Q .non (aB H l (.lst (xs++zs)))
theorem Dm:Ft X "list.extend" AV:=by
 intro pins s σ H x vs v us Q I rx rv h;obtain⟨l,b,xs,zs,rfl,rfl,hH,hB,hz,q⟩:=h;cases rx;obtain⟨u,rfl,ru⟩:=rv.one;cases ru;obtain⟨z,its,n,r,hl,e⟩:=I.lstM hH;obtain⟨z2,its2,n2,r2,hl2,e2⟩:=I.lstM hB;have hsz:its.toArray.size+its2.toArray.size<=sizeLine:=by rw[Ht,Ht];omega
 have hlong:¬ (!its.toArray.isEmpty&&Builtin.List.listTooLong (its.toArray.size+its2.toArray.size))=true:=by
  rw[ut hsz,Bool.and_false];exact HR
 refine call_meets F.slot_list_extend ⟨_,e,rfl⟩ F.entry_list_extend (F.args_list_extend_2 _ _)
  (AutoSeq1.list_extend_list_list_0 l its.toArray n b its2.toArray n2 hlong (by rw[Ht];omega) (by omega)) ⟨e,e2,?_⟩
 refine⟨.non,_,I.lset (its':=its++its2) hH e (by simp) (r.append r2) ?_,rfl,q⟩;rw[HN];omega
noncomputable def CK:V->List V->Hp->VK->Prop:=fun x vs H Q=>∃l xs y,x=.ref l/\vs=[]/\H l=some (.lst xs)/\xs[xs.length-1]?=some y/\Q y (aB H l (.lst xs.dropLast))
theorem AA:Ft X "list.pop" CK:=by
 intro pins s σ H x vs v us Q I rx rv h;obtain⟨l,xs,y,rfl,rfl,hH,hy,q⟩:=h;cases rx;have hus:=rv.zero;subst hus;obtain⟨z,its,n,r,hl,e⟩:=I.lstM hH;obtain⟨u,hu,ru⟩:=r.get hy;have hy':its.toArray[its.toArray.size-1]?=some u:=by
  show its.toArray[its.length-1]?=some u;rw[<- Array.getElem?_toList,<- hl];exact hu
 refine call_meets F.slot_list_pop ⟨_,e,rfl⟩ F.entry_list_pop (F.args_list_pop_1 _) (MeetsSeq.list_pop_last l its.toArray n u hy' (by rw[Ht];omega)) ⟨e,?_⟩;refine⟨y,_,I.lset (its':=its.dropLast) hH e ?_ r.dropLast ?_,ru,q⟩
 ·show its.toArray.eraseIdxIfInBounds (its.toArray.size-1)=its.dropLast.toArray
  rw[Ht,List.eraseIdxIfInBounds_toArray,vW]
 ·rw[List.length_dropLast]
  omega
noncomputable def Cs:R2:=fun x y H Q=>∃l b xs zs,x=.ref l/\y=.ref b/\H l=some (.lst xs)/\H b=some (.lst zs)/\xs.length+zs.length<=sizeLine/\∀p,H p=none->Q (.ref p) (aB H p (.lst (xs++zs)))
theorem rR:a_ X (binaryOp .Add) Cs:=by
 intro pins s σ H x y v u Q I rx ry h;obtain⟨l,b,xs,zs,rfl,rfl,hH,hB,hz,q⟩:=h;cases rx;cases ry;obtain⟨z,its,n,r,hl,e⟩:=I.lstM hH;obtain⟨z2,its2,n2,r2,hl2,e2⟩:=I.lstM hB;refine PySem.P.add_list e e2 ?_ (by rw[Ht,Ht];omega);have ea:its.toArray++its2.toArray=(its++its2).toArray:=by simp
 rw[ea];exact⟨.ref _,_,I.lnew (t':=s.toks) (r.append r2) (by rw[HN];omega),rfl,q _ I.fresh⟩
end
section
variable {prog:Program}{w:World}{A:Around}{E:Value->Shared->Prop}{s:Shared}
end
section
variable {X:Cx}
end
section
variable {κ:Type}[DecidableEq κ]
noncomputable def gt(kvs:List (κ×V))(k:κ):Option V:=(kvs.find? fun kv=>decide (kv.1=k)).map (·.2)
noncomputable def kR(kvs:List (κ×V))(k:κ)(v:V):List (κ×V):=
 if(kvs.any fun kv=>decide (kv.1=k))=true then kvs.map (fun kv=>if kv.1=k then(kv.1,v) else kv) else kvs++[(k,v)]
theorem pO{p:κ×V}{r:List (κ×V)}{k:κ}(e:p.1=k):gt (p::r) k=some p.2:=by simp[gt,List.find?_cons,e]
theorem oP{p:κ×V}{r:List (κ×V)}{k:κ}(e:¬ p.1=k):gt (p::r) k=gt r k:=by simp[gt,List.find?_cons,e]
theorem py(k:κ):∀kvs:List (κ×V),(kvs.any fun kv=>decide (kv.1=k))=(gt kvs k).isSome
 | []=>rfl
 |p::r=>by
  rw[List.any_cons]
  by_cases e:p.1=k
  ·simp only[pO e,decide_eq_true e,Bool.true_or,Option.isSome_some]
  ·rw[oP e,decide_eq_false e,Bool.false_or];exact py k r
theorem nI(kvs:List (κ×V))(k:κ)(v:V):(kR kvs k v).length<=kvs.length+1:=by
 unfold kR
 split
 ·rw[Hm];omega
 ·rw[HN,Hx,List.length_nil];omega
theorem Am{kvs:List (κ×V)}{k:κ}(v:V)(h:gt kvs k=none):kR kvs k v=kvs++[(k,v)]:=by
 unfold kR;rw[py,h];exact if_neg (by decide)
theorem KV.val{kvs:List (κ×V)}{vs:List (κ×Value)}(r:KV kvs vs)(k:κ):m5 (gt kvs k) (valueAt vs k):=by
 unfold KV at r
 induction r with
 |nil=>exact True.intro
 | @cons p q ps qs h t ih=>
  obtain⟨h1,h2⟩:=h
  by_cases e:p.1=k
  ·have e':q.1=k:=h1.symm.trans e
   have b:valueAt (q::qs) k=some q.2:=by simp[valueAt,List.find?_cons,e']
   rw[pO e,b];exact h2
  ·have e':¬ q.1=k:=fun z=>e (h1.trans z)
   have b:valueAt (q::qs) k=valueAt qs k:=by simp[valueAt,List.find?_cons,e']
   rw[oP e,b];exact ih
theorem KV.any{kvs:List (κ×V)}{vs:List (κ×Value)}(r:KV kvs vs)(k:κ):(kvs.any fun kv=>decide (kv.1=k))=vs.any fun kv=>decide (kv.1=k):=by
 unfold KV at r
 induction r with
 |nil=>rfl
 |cons h t ih=>rw[List.any_cons,List.any_cons,ih,h.1]
theorem KV.repl{kvs:List (κ×V)}{vs:List (κ×Value)}(r:KV kvs vs)(k:κ){y:V}{u:Value}(ry:bq y u) :
  KV (kvs.map fun kv=>if kv.1=k then(kv.1,y) else kv) (vs.map fun kv=>if kv.1=k then(kv.1,u) else kv):=by
 unfold KV at r ⊢
 induction r with
 |nil=>exact .nil
 | @cons p q ps qs h t ih=>
  rw[HW,HW];refine .cons ?_ ih;obtain⟨h1,h2⟩:=h
  by_cases e:p.1=k
  ·rw[if_pos e,if_pos (h1.symm.trans e)];exact⟨h1,ry⟩
  ·rw[if_neg e,if_neg (fun z=>e (h1.trans z))];exact⟨h1,h2⟩
theorem KV.put{kvs:List (κ×V)}{vs:List (κ×Value)}(r:KV kvs vs)(k:κ){y:V}{u:Value}(ry:bq y u):KV (kR kvs k y) (stored vs k u):=by
 unfold kR stored;rw[r.any k]
 by_cases e:(vs.any fun kv=>decide (kv.1=k))=true
 ·rw[if_pos e,if_pos e];exact r.repl k ry
 ·rw[if_neg e,if_neg e];exact Paired.snoc r ⟨rfl,ry⟩
theorem KV.length{kvs:List (κ×V)}{vs:List (κ×Value)}(r:KV kvs vs):kvs.length=vs.length:=Paired.length r
end
theorem yt{P:Program}{w:World}{k:gs}{u:Value}(r:bq (kV k) u):(bW P w).is k u=true:=by
 cases k with
 |inl i=>obtain⟨t,e⟩:=(show ∃t,u=Value.int i t from r);subst e;exact uR P w i t
 |inr x=>obtain⟨t,e⟩:=(show ∃t,u=Value.str x t from r);subst e;exact uj P w x t
theorem qM{P:Program}{w:World}:∀{ks:List gs} {us:List Value},aZ (ks.map kV) us->ItemsAre (bW P w) ks us
 | [],_,r=>by rw[List.map_nil]at r;cases r;exact .nil
 |k::ks,_,r=>by
  rw[HW]at r;cases r with
  |cons h t=>exact .cons (yt h) (qM t)
noncomputable abbrev KT(H:Hp):List (List gs×V)->List (List gs×Addr×Value)->Prop:=Paired fun p q=>p.1=q.1/\H q.2.1=some (.tup (p.1.map kV))/\bq p.2 q.2.2
section
variable {P:Program}{w:World}{H:Hp}{h:Heap}{a:Addr}
theorem BW{u:HO}(ok:kh P w H h)(e:Rd H a u):bz P w H h a u:=e.ok ok
theorem zG{kvs:List (gs×V)}(ok:kh P w H h)(e:Rd H a (.dK kvs)):kvs.length<=sizeLine/\(a==sysModules)=false/\∃vs,KV kvs vs/\h.DictOf (bW P w) a vs:=
 show bz P w H h a (.dK kvs) from BW ok e
theorem BY{kvs:List (gs×V)}(ok:kh P w H h)(e:H a=some (.dK kvs)):kvs.length<=sizeLine/\(a==sysModules)=false/\∃vs,KV kvs vs/\h.DictOf (bW P w) a vs:=zG ok (.inl e)
theorem Ck{ks:List gs}(ok:kh P w H h)(e:H a=some (.tup (ks.map kV))):(tupleKind (bW P w)).is h ks a:=by
 obtain⟨_,its,r,o,h1,h2,n,h3⟩:=(show bz P w H h a (.tup (ks.map kV)) from ok a _ e);exact⟨o,its.toArray,n,h1,h2,h3,by simpa using qM r⟩
theorem DA{kvs:List (List gs×V)}(ok:kh P w H h)(e:Rd H a (.dT kvs)):kvs.length<=sizeLine/\(a==sysModules)=false /\
  ∃xs,KT H kvs xs/\h.DictOfH (tupleKind (bW P w)) a xs:=by
 obtain⟨z,y,xs,r,o,es,ep,h1,h2,h3,h4,h5⟩:=(show bz P w H h a (.dT kvs) from BW ok e);refine⟨z,y,xs,r,o,es,ep,h1,h2,h3,h4,fun x hx=>?_,h5⟩;have all:∀{l:List (List gs×V)} {m:List (List gs×Addr×Value)},KT H l m->∀x∈m,(tupleKind (bW P w)).is h x.1 x.2.1:=by
  intro l m q
  induction q with
  |nil=>intro x hx;exact nomatch hx
  | @cons p q ps qs hq t ih=>
   intro x hx;rcases HF.mp hx with e | hx
   ·subst e
    exact Ck ok (by rw[<- hq.1];exact hq.2.1)
   ·exact ih x hx
 exact all r x hx
end
section
variable {X:Cx}{pins:List (Addr×Obj)}{σ:St}{H:Hp}{s:Shared}{a:Addr}{y v:V}{u r:Value}{o:Option V}{A:Around}{E:Value->Shared->Prop}
theorem Inv.big(I:Inv X pins σ H s):sysModules<s.heap.objs.size:=by
 have h:mainGlobals<s.heap.objs.size:=(I.mod.glob.keeps I.bk).lt;exact Nat.lt_trans (by decide) h
theorem wB{h':Heap}{t':Nat}{ob:HO}(I:Inv X pins σ H s)(mu:DN (H a))(hs:Heap.SameBut a s.heap h')(he:∃q,h'.get? a=some q)(new:bz X.prog X.w (aB H a ob) h' a ob) :
  Inv X pins σ (aB H a ob) {s with heap:=h',toks:=t' }:=
 I.write (x:=a) (e:=a) mu (.inl rfl) (fun b q hb z=>(hs.2 b hb).trans z) he new
theorem Ax{P:Program}{w:World}{H':Hp}{h':Heap}{kvs:List (gs×V)}{vs:List (gs×Value)}(z:kvs.length<=sizeLine)(hd:(a==sysModules)=false)(rel:KV kvs vs)(dd:h'.DictOf (bW P w) a vs) :
  bz P w H' h' a (.dK kvs):=⟨z,hd,vs,rel,dd⟩
end
section
variable {X:Cx}{pins:List (Addr×Obj)}{σ:St}{H:Hp}{s:Shared}{a:Addr}{kvs:List (gs×V)}{k:gs}{u:Value}{A:Around}{E:Value->Shared->Prop}
theorem Dy{Q:Value->Shared->Prop}(I:Inv X pins σ H s)(e:Rd H a (.dK kvs))(h:∀t s',Inv X pins σ H s'->Q (.int kvs.length t) s'):wpAny (model X.prog X.w) A (call (.builtin "len") [.ref a]) Q E s:=by
 obtain⟨z,hd,vs,rel,dd⟩:=zG I.hok e;refine call_len_dict hd dd (by rw[<- rel.length];rw[sizeLine_eq]at z;omega) ?_;rw[<- rel.length];exact h _ _ (I.tok _)
end
section
variable {X:Cx}{o i e value:Expr}{pos pos' tpos:Pos}{td ty tv:TE}
end
theorem As{P:Program}{w:World}{H:Hp}(h:Heap)(hb:sysModules<h.objs.size):bz P w H (h.push {cls:=.type "dict",data:=.dict #[]}) h.objs.size (.dK []):=
 ⟨HQ _,beq_eq_false_iff_ne.mpr (Ne.symm (HK hb)),[],.nil,Heap.DictOf.new h⟩
section
variable {X:Cx}{pos:Pos}
end
noncomputable def p_:List (TE×TE)->St->Hp->(List (V×V)->Hp->Prop)->Prop
 | [],_,H,Q=>Q [] H
 | (tk,tv)::r,σ,H,Q=>tk σ H fun x H1=>tv σ H1 fun y H2=>p_ r σ H2 fun ps H3=>Q ((x,y)::ps) H3
noncomputable abbrev VV:List (V×V)->List (Value×Value)->Prop:=Paired fun p q=>bq p.1 q.1/\bq p.2 q.2
noncomputable def DR(X:Cx)(pos:Pos)(keys:List (Option Expr))(values:List Expr)(trs:List (TE×TE)):Prop:=
 ∀(pins:List (Addr×Obj)) (s:Shared) (σ:St) (H:Hp) (Q:List (V×V)->Hp->Prop),Inv X pins σ H s->p_ trs σ H Q ->
  wpAny (model X.prog X.w) X.A (evalPairs (pairTrees keys values X.env pos)) (fun vs s'=>∃ps H',Inv X pins σ H' s'/\VV ps vs/\Q ps H') X.xe s
theorem BA{X:Cx}{pos:Pos}:DR X pos [] [] []:=fun pins s σ H Q I h=>pairTrees_nil_walk ⟨[],H,I,.nil,h⟩
theorem Ay{X:Cx}{pos:Pos}{k v:Expr}{ks:List (Option Expr)}{vs:List Expr}{tk tv:TE}{trs:List (TE×TE)}(hk:PE X k tk)(hv:PE X v tv)(hr:DR X pos ks vs trs) :
  DR X pos (some k::ks) (v::vs) ((tk,tv)::trs):=fun pins s σ H Q I h=>
 pairTrees_cons_walk (bF (hk pins s σ H _ I h) fun u s1 ⟨x,H1,I1,rx,q1⟩=>bF (hv pins s1 σ H1 _ I1 q1) fun w2 s2 ⟨y,H2,I2,ry,q2⟩=>
  bF (hr pins s2 σ H2 _ I2 q2) fun ws s3 ⟨ps,H3,I3,rel,q3⟩=>⟨(x,y)::ps,H3,I3,.cons ⟨rx,ry⟩ rel,q3⟩)
noncomputable def qf(kvs more:List (gs×V)):List (gs×V):=more.foldl (fun acc kv=>kR acc kv.1 kv.2) kvs
theorem KV.merge:∀{more:List (gs×V)} {rs:List (gs×Value)} {kvs:List (gs×V)} {vs:List (gs×Value)},KV more rs->KV kvs vs->KV (qf kvs more) (merged vs rs):=by
 intro more rs kvs vs r;unfold KV at r
 induction r generalizing kvs vs with
 |nil=>intro q;exact q
 | @cons p q ps qs h t ih=>
  intro r0;have e:KV (kR kvs p.1 p.2) (stored vs q.1 q.2):=by
   have:=r0.put p.1 h.2;rw[<- h.1];exact this
  exact ih e
theorem ki:∀(more kvs:List (gs×V)),(qf kvs more).length<=kvs.length+more.length
 | [],kvs=>by show kvs.length<=kvs.length+0;omega
 |p::r,kvs=>by
  have h1:=ki r (kR kvs p.1 p.2);have h2:=nI kvs p.1 p.2;show(qf (kR kvs p.1 p.2) r).length<=_;rw[Hx];omega
theorem pi{P:Program}{w:World}:∀{kvs:List (gs×V)} {ws:List (Value×Value)},VV (kvs.map fun kv=>(kV kv.1,kv.2)) ws->∃rs,Carries (bW P w) ws rs/\KV kvs rs
 | [],_,r=>by rw[List.map_nil]at r;cases r;exact⟨[],True.intro,.nil⟩
 |p::kvs,_,r=>by
  rw[HW]at r;cases r with
  | @cons a b as bs h t=>
   obtain⟨rs,c,q⟩:=pi (P:=P) (w:=w) t;obtain⟨b1,b2⟩:=b;exact⟨(p.1,b2)::rs,⟨yt h.1,rfl,c⟩,.cons ⟨rfl,h.2⟩ q⟩
noncomputable def yw(trs:List (TE×TE)):TE:=fun σ H Q=>∀p,H p=none->p_ trs σ (aB H p (.dK [])) fun ps H2=>H2 p=some (.dK [])/\∃kvs:List (gs×V),ps=kvs.map (fun kv=>(kV kv.1,kv.2))/\kvs.length<=15/\Q (.ref p) (aB H2 p (.dK (qf [] kvs)))
theorem Bh{X:Cx}{pos:Pos}{keys:List (Option Expr)}{values:List Expr}{trs:List (TE×TE)}(h:DR X pos keys values trs)(hall:keys.all (·.isSome)=true)(hl:keys.length=values.length)(h0:keys≠[])
  (h15:keys.length<=15):PE X (.Dict keys values pos) (yw trs):=by
 intro pins s σ H Q I q;have hn:=I.hok.fresh (HP s.heap.objs.size);have I1:=I.laid (a:=s.heap.objs.size) (o:=.dK []) (h':=s.heap.push {cls:=.type "dict",data:=.dict #[]}) (t':=s.toks) (fun _ _ q=>Hl _ q) (HP _) (As s.heap I.big);refine wpAny_Dict_walk (knd:=bW X.prog X.w) hall hl h0 h15 (bF (h pins _ σ _ _ I1 (q _ hn)) fun ws s2 ⟨ps,H2,I2,rel,e,kvs,ep,lk,q2⟩=>?_);subst ep;obtain⟨rs,c,rk⟩:=pi (P:=X.prog) (w:=X.w) rel;obtain⟨z,hd,vs0,r0,dd⟩:=BY I2.hok e;cases r0;refine⟨rs,c,dd,fun h' dd' hs=>⟨.ref s.heap.objs.size,_,?_,rfl,q2⟩⟩;have hz:(qf [] kvs).length<=sizeLine:=by
  have h1:=ki kvs [];rw[List.length_nil]at h1;rw[sizeLine_eq];omega
 have he:∃q,h'.get? s.heap.objs.size=some q:=let ⟨q,_,_,hq,_⟩:=dd';⟨q,hq⟩
 exact wB I2 (by rw[e];exact True.intro) hs he (Ax hz hd (rk.merge .nil) dd')
structure M1(X:Cx)(o:Expr)(m:Str)(apos:Pos)(e:Expr)(cpos:Pos):Prop where
 base:attributeBase o m X.env (eval o X.env)=eval o X.env
 few:((backTo cpos (starEach [e] X.env)).all (fun x=>!x.1)&&(backToKw cpos (keywordEach [] X.env)).all (fun x=>x.1.isSome)
  && decide (([e]:List Expr).length+([]:List Keyword).length+(if([]:List Keyword).isEmpty then 0 else 1)<30))=true
 line:(apos.endLine==cpos.line)=true
 trees:backTo cpos (starEach [e] X.env)=[(false,eval e X.env)]
structure M2(X:Cx)(o:Expr)(m:Str)(apos:Pos)(e f:Expr)(cpos:Pos):Prop where
 base:attributeBase o m X.env (eval o X.env)=eval o X.env
 few:((backTo cpos (starEach [e,f] X.env)).all (fun x=>!x.1)&&(backToKw cpos (keywordEach [] X.env)).all (fun x=>x.1.isSome)
  && decide (([e,f]:List Expr).length+([]:List Keyword).length+(if([]:List Keyword).isEmpty then 0 else 1)<30))=true
 line:(apos.endLine==cpos.line)=true
 trees:backTo cpos (starEach [e,f] X.env)=[(false,eval e X.env),(false,eval f X.env)]
noncomputable def FC(H:Hp)(a:Addr):Prop:=(∃kvs,Rd H a (.dK kvs))\/∃kvs,Rd H a (.dT kvs)
theorem CZ{X:Cx}{pins:List (Addr×Obj)}{σ:St}{H:Hp}{s:Shared}{a:Addr}(I:Inv X pins σ H s)(d:FC H a) :
  s.TypeIs (.ref a) "dict"/\(∀b,Value.ref a=.ref b->∃ob,s.heap.get? b=some ob/\ob.dict=none)/\(a==sysModules)=false:=by
 rcases d with⟨kvs,e⟩ | ⟨kvs,e⟩
 ·obtain⟨_,hd,vs,_,dd⟩:=zG I.hok e
  refine⟨dd.typeIs,fun b q=>?_,hd⟩;cases q;obtain⟨ob,_,_,h1,h2,_⟩:=dd;exact⟨ob,h1,h2.2.1⟩
 ·obtain⟨_,hd,xs,_,dd⟩:=DA I.hok e
  refine⟨dd.typeIs,fun b q=>?_,hd⟩;cases q;obtain⟨ob,_,_,h1,h2,_⟩:=dd;exact⟨ob,h1,h2.2.1⟩
section
variable {X:Cx}{pins:List (Addr×Obj)}{σ:St}{H:Hp}{s:Shared}{a:Addr}{y d:V}{u r:Value}{o:Option V}{A:Around}{E:Value->Shared->Prop}
end
section
variable {X:Cx}{o e f:Expr}{apos cpos:Pos}{td ty tx:TE}
end
section
variable {X:Cx}{pins:List (Addr×Obj)}{σ:St}{H:Hp}{s:Shared}{a:Addr}{kvs:List (gs×V)}{A:Around}{E:Value->Shared->Prop}
end
section
variable {X:Cx}{pins:List (Addr×Obj)}{σ:St}{H:Hp}{s:Shared}{a:Addr}{y:V}{u:Value}{A:Around}{E:Value->Shared->Prop}
end
end L2
namespace Att
open PySem PySem.W PySem.Calls PyProof.Rows
theorem nS{P:Params}{h:Heap}:∀(ns:List Int) (vs:List Value),WellAll P h vs (ns.map WData.int)->IntsAre vs ns:=by
 intro ns
 induction ns with
 |nil=>
  intro vs w;rw[List.map_nil]at w;cases w;exact .nil
 |cons n ns ih=>
  intro vs w;rw[HW]at w;cases w with
  |cons a b=>
   cases a;exact .cons _ _ (ih _ b)
theorem xS{l:OpenLaw}{n:Nat}(hn:l.most=some n){P:Params}{h:Heap}{args:List WData}{vals:List Value}
  (hpre:l.row.toRowW.claim.pre args=true) (hwl:WellAll P h vals args) :
  ∃a vs ns,vals=[Value.ref a]/\args=[WData.list (ns.map WData.int)]/\h.get? a=some {cls:=.type "list",data:=.seq vs.toArray}/\IntsAre vs ns/\ns.length<=n:=by
 have hsh:WShape.hasAll [] args [.list .int]=true:=(pre_splitW hpre).1;have hc:l.pre.holds [] {args:=args}=true:=(pre_splitW hpre).2;obtain⟨d,r,rfl,h1,h2⟩:=hasAllW_cons hsh;obtain rfl:=hasAllW_nil h2;obtain⟨xs,rfl,h3⟩:=hasW_list h1;obtain⟨ns,rfl⟩:=items_int h3;have hlen:ns.length<=n:=by
  unfold OpenLaw.pre at hc;have h4:(WTm.not (.lt (.lit (.int (n:Int))) (.len (.arg 0)))).holds [] {args:=[.list (ns.map .int)]}=true:=by
   have h4:=(holds_andW hc).1;rw[hn]at h4;exact h4
  have h5:=condW_of h4 (w_not (w_lt w_lit (w_len_list (w_arg rfl))));rw[Hm]at h5;refine Nat.le_of_not_lt fun q=>?_;have q':(n:Int)<((ns.length:Nat):Int):=by omega
  first
   | (rw[decide_eq_true q']at h5;exact absurd h5 (by decide))
   | (simp at h5;omega)
 cases hwl with
 |cons w1 w2=>
  cases w2;cases w1 with
  |list ho hall=>exact⟨_,_,ns,rfl,rfl,ho,nS ns _ hall,hlen⟩
theorem xi(l:OpenLaw)(args:List WData):l.row.toRowW.claim.post args (.bool true) args=true:=
 postW_of (r:=l.row.toRowW) (X:=(true==true))
  (show WShape.has [] (.bool true) .bool=true by first | rfl | decide | simp[WShape.has,WShape.arms,WShape.armsAll])
  (show(WTm.eq .res (.lit (.bool true))).value [] {args:=args,res:=some (.bool true),after:=args}=some (.bool (true==true)) from w_eq_bool (w_res rfl) w_lit) rfl
theorem attach_call{l:OpenLaw}{n:Nat}{q:Program}{loose:List Str}{XP:(Str->Option Value)->Heap->Prop}{YP:World->Heap->Prop}{d:DefRec}
  (hn:l.most=some n) (hdf:d.params.defaults=[])
  (call:∀(w:World) (s₀ s₁:Shared) (mg mb:Str->Option Value) (fa:Addr) (o:Obj) (pm cd doc:Value) (a:Addr) (vs:List Value) (ns:List Int),
   Ground q loose [] XP w s₀ mg mb s₁.heap->YP w s₁.heap ->
   s₁.heap.get? fa=some o->o.data=.func (docDef d.name d.params d.body d.scope pm cd doc)->s₁.heap.CodeRec cd d.name->mg d.name=some (.ref fa) ->
   s₁.heap.get? a=some {cls:=.type "list",data:=.seq vs.toArray}->IntsAre vs ns->ns.length<=n->s₁.gens=#[] ->
   codeAny (model l.prog w) callerA (.call (.ref fa) ⟨[.ref a],[]⟩) (fun r s'=>r=.ok (.ret (.bool true))/\OldK s₁.heap s'.heap/\s'.os=s₁.os/\AllBare s'.gens) s₁) :
  WalkO q loose XP YP l.row.toRowW d [] (fun f vs=>PySem.call f vs):=by
 intro w s₀ s₁ mg mb G Y fa o pm cd doc dV kV ho hd hcd hD hmg hg args vals as hpre hlay hrd hwl hlo;obtain rfl:dV=.none:=Dflts.none hD hdf;obtain rfl:kV=.none:=Dflts.noKw hD;obtain⟨a,vs,ns,rfl,rfl,hobj,hints,hlen⟩:=xS hn hpre hwl;refine enter_call (codeAny_mono (call w s₀ s₁ mg mb fa o pm cd doc a vs ns G Y ho (fd_plain hd) hcd hmg hobj hints hlen hg) fun r s' hq=>?_);obtain⟨rfl,h2,h3,h4⟩:=hq;exact⟨.inl ⟨.bool true,.bool true,[],rfl,fun _=>rfl,.bool true,xi l _,fun _=>⟨List.Pairwise.nil,fun _ hm=>(nomatch hm)⟩⟩,h2,h3,h4⟩
section
variable {prog:Program}{w:World}{A:Around}{E:Value->Shared->Prop}{s:Shared}{K:Frag}
noncomputable def E8(h:Heap)(L d:Addr):List (Addr×Obj):=(List.range h.objs.size).filterMap fun a=>if a=L\/a=d then none else(h.get? a).map fun o=>(a,o)
end
end Att
namespace L2
open PySem PySem.Spec PyProof.Rows
theorem rE:∀{vs:List Value} {ns:List Int},IntsAre vs ns->aZ (ns.map V.int) vs
 |_,_,.nil=>.nil
 |_,_,.cons n t h=>.cons ⟨t,rfl⟩ (rE h)
noncomputable def Ca(H:Hp):Prop:=∀b,H b=none\/∃o xs,H b=some (.frz o (.lst xs))
theorem y3{P:Program}{w:World}{K:PySem.W.Frag}{mg mb:Str->Option Value}{CX:jL}{k:Nat}{fa a:Addr}{fd:FuncData}{x:Str}{sp:Sp}{s₁:Shared}{vs:List Value}{ns:List Int}
  (KX:K.In s₁.heap) (hns:s₁.heap.Ns mainGlobals mg) (hb:s₁.heap.Ns builtinsNs mb) (hbb:∀x:Str,x≠"__name__"->mb x=bootBuiltins x) (hlim:s₁.heap.NoLimit) (hg:s₁.gens=#[])
  (ha:s₁.heap.get? a=some {cls:=.type "list",data:=.seq vs.toArray}) (hi:IntsAre vs ns) (hl:ns.length<=sizeLine) (hr:b5 k callerA)
  (F:∀base:Heap,K.In base->base.Ns mainGlobals mg->bc P w K mg base CX k fa fd [x] sp) (hbind:∀(s:Shared) (u:Value),BindsTo s fd ⟨[u],[]⟩ [(x,u)])
  (hsp:∀H:Hp,Ca H->aW K H a (ns.map V.int)->sp [.ref a] H (fun v _=>v=.bl true) fun _ _ _=>False)
  (hCX:∀H e s',CX [] H s₁ (fun _ _ _=>False) e s'->False) :
  codeAny (model P w) callerA (.call (.ref fa) ⟨[.ref a],[]⟩) (fun r s'=>r=.ok (.ret (.bool true))/\OldK s₁.heap s'.heap/\s'.os=s₁.os/\AllBare s'.gens) s₁:=by
 have rv:=rE hi;have lenV:=hi.length
 -- from an abstract heap in which nothing but the script may be tracked
 have core:∀H:Hp,Ca H->aW K H a (ns.map V.int)->kh P w H s₁.heap->(∀b,H b≠none->b=a)->(H a≠none->K.lookup a=none) ->
   codeAny (model P w) callerA (.call (.ref fa) ⟨[.ref a],[]⟩) (fun r s'=>r=.ok (.ret (.bool true))/\OldK s₁.heap s'.heap/\s'.os=s₁.os/\AllBare s'.gens) s₁:=by
  intro H hO hS hok hA hK;have base_of:∀{b:Addr} {o:Obj},s₁.heap.get? b=some o->H b=none->(sI s₁.heap H).get? b=some o:=fun e n=>yQ e n;have noA:∀{b:Addr} {o:Obj} {es:Array DictEntry} {ep:Nat},s₁.heap.get? b=some o->o.data=.dict es ep->H b=none:=fun{b o es ep} e d=>by
   cases q:H b with
   |none=>rfl
   |some u=>
    have e':b=a:=hA b (by rw[q];simp);subst e';rw[ha]at e;cases e
    have d':Data.seq vs.toArray _=Data.dict es ep:=d;cases d'
  have nsK:∀{b:Addr} {m:Str->Option Value},s₁.heap.Ns b m->(sI s₁.heap H).Ns b m:=fun{b m} ⟨o,es,ep,e,d,r⟩=>⟨o,es,ep,base_of e (noA e d),d,r⟩;have hKb:K.In (sI s₁.heap H):=fun b o e=>base_of (KX b o e) (by
   cases q:H b with
   |none=>rfl
   |some u=>
    have e':b=a:=hA b (by rw[q];simp);subst e';rw[hK (by rw[q];simp)]at e;cases e)
  have hM:Mod K mg (sI s₁.heap H):=⟨hKb,nsK hns,⟨mb,nsK hb,hbb⟩,let ⟨mc,h1,h2⟩:=hlim;⟨mc,nsK h1,h2⟩⟩;have e0:pH P w K mg (sI s₁.heap H) callerA [] s₁ H:=⟨rfl,hM,fun b o e=>BI e,Nat.le_of_eq (xF _ _),trivial,fun b hb=>absurd (show b∈([]:List Addr) from hb) (by simp),hok,.of_eq hg⟩;refine codeAny_mono ((F _ hKb (nsK hns)).run callerA [] s₁ H ⟨[.ref a],[]⟩ [.ref a] [.ref a] _ _ hr e0 (hbind s₁ (.ref a)) (.cons rfl .nil) (hsp H hO hS)) fun r s' h=>?_;cases r with
  |error e=>exact(hCX H e s' h).elim
  |ok fl=>
   cases fl with
   |next=>exact False.elim h
   |brk=>exact False.elim h
   |cont=>exact False.elim h
   |ret u=>
    obtain⟨v,H',os,bare,un,hok',r',q⟩:=h;have q':v=.bl true:=q;subst q';obtain rfl:u=Value.bool true:=r';refine⟨rfl,OldK.of_keep fun b o e=>?_,os,bare⟩;cases q:H b with
    |none=>exact un.keep b o e q (by intro z;exact absurd (show b∈([]:List Addr) from z) (by simp)) (by simp)
    |some u=>
     rcases hO b with z | ⟨ob,xs,z⟩
     ·rw[q]at z;cases z
     ·have z2:=un.frzs b ob _ z
      obtain⟨e1,_⟩:=hok b _ z;obtain⟨e2,_⟩:=hok' b _ z2;rw[e]at e1;cases e1
      exact e2
 cases hk:K.lookup a with
 |some o=>
  -- the script is one of the module's own objects
  have e:=KX a o hk;rw[ha]at e;cases e;refine core (fun _=>none) (fun _=>.inl rfl) (.inr ⟨_,vs.toArray,_,hk,rfl,rfl,rfl,by rw[Ht,lenV];exact hl,by simpa using rv⟩) (fun b u z=>by have z':(none:Option HO)=some u:=z;cases z') (fun b z=>absurd rfl z) fun z=>absurd rfl z
 |none=>
  refine core (fun b=>if b=a then some (.frz {cls:=.type "list",data:=.seq vs.toArray} (.lst (ns.map V.int))) else none) (fun b=>?_) (.inl (.inr ⟨{cls:=.type "list",data:=.seq vs.toArray},if_pos rfl⟩)) (fun b u z=>?_) (fun b z=>?_) fun _=>hk
  ·by_cases hb:b=a
   ·exact .inr ⟨_,_,if_pos hb⟩
   ·exact .inl (if_neg hb)
  ·by_cases hb:b=a
   ·have z':=(if_pos hb).symm.trans z
    cases z';subst hb;exact⟨ha,by rw[Hm];exact hl,vs,_,rv,ha⟩
   ·have z':=(if_neg hb).symm.trans z
    cases z'
  ·by_cases hb:b=a
   ·exact hb
   ·exact absurd (if_neg hb) z
theorem walk_of{l:PySem.W.OpenLaw}{n k:Nat}{q:Program}{loose:List Str}{XP:(Str->Option Value)->Heap->Prop}{YP:World->Heap->Prop}{d:DefRec}{K:Params->PySem.W.Frag}{CX:World->jL}{sp:World->Sp}{x:Str}
  (hn:l.most=some n) (hn2:n<=sizeLine) (hdf:d.params.defaults=[]) (hr:b5 k callerA)
  (hY:∀(w:World) (h:Heap),YP w h->(K w.params).In h)
  (F:∀(w:World) (mg:Str->Option Value) (fa:Addr) (h:Heap),(K w.params).In h->h.Ns mainGlobals mg->mg d.name=some (.ref fa) ->
   ∃fd:FuncData,(∀(s:Shared) (u:Value),BindsTo s fd ⟨[u],[]⟩ [(x,u)]) /\
    ∀base:Heap,(K w.params).In base->base.Ns mainGlobals mg->bc l.prog w (K w.params) mg base (CX w) k fa fd [x] (sp w))
  (hsp:∀(w:World) (H:Hp) (a:Addr) (ns:List Int),ns.length<=n->Ca H->aW (K w.params) H a (ns.map V.int)->sp w [.ref a] H (fun v _=>v=.bl true) fun _ _ _=>False)
  (hCX:∀(w:World) (H:Hp) (s:Shared) (e:Value) (s':Shared),CX w [] H s (fun _ _ _=>False) e s'->False) :
  PySem.W.WalkO q loose XP YP l.row.toRowW d [] (fun f vs=>PySem.call f vs):=by
 refine Att.attach_call hn hdf fun w s₀ s₁ mg mb fa o pm cd doc a vs ns G Y ho hd hcd hmg hobj hints hlen hg=>?_;have KX:=hY w _ Y;obtain⟨fd,hb,hF⟩:=F w mg fa _ KX G.T.g hmg;exact y3 KX G.T.g G.T.b G.T.builtins G.T.nolimit hg hobj hints (HY hlen hn2) hr hF hb (fun H hO hS=>hsp w H a ns hlen hO hS) fun H e s'=>hCX w H s₁ e s'
noncomputable def bx(s:Stmt):Arguments:=match s with
 | .FunctionDef _ a _ _ _ _ _ _ _ _=>a
 |_=>{posonlyargs:=[],args:=[],vararg:=none,kwonlyargs:=[],kw_defaults:=[],kwarg:=none,defaults:=[]}
noncomputable def bj(s:Stmt):List Stmt:=match s with
 | .FunctionDef _ _ b _ _ _ _ _ _ _=>b
 |_=>[]
noncomputable def ak(s:Stmt):Scope:=match s with
 | .FunctionDef _ _ _ _ _ _ sc _ _ _=>sc
 |_=>{kind:=.function,names:=[],isGenerator:=false,isCoroutine:=false}
noncomputable abbrev bH:jL:=fun _ _ _ _ _ _=>False
noncomputable abbrev E0:XK:=fun _ _ _=>False
theorem bh{X:Cx}:ck bH X E0:=fun _ _ _ _ _ _ _ h=>h.elim
structure c_(K:PySem.W.Frag)(x qual:Str)(st:Stmt)(f:Addr)(fd:FuncData):Prop where
 ex:∃(oc:Value) (od:Option Addr) (kV doc pm:Value) (an:Option Addr) (cdv ct:Value) (osl:Array (Option Value)),
  fd=PySem.W.fnOf x qual (bx st) (bj st) (ak st) .none kV doc pm an cdv ct/\K.lookup f=some ⟨oc,od,.func fd,osl⟩/\PySem.W.codeIn K cdv qual=true
 kp:PySem.W.keepIn K (.ref f)=true
section
variable {P:Program}{w:World}{K:PySem.W.Frag}{mg:Str->Option Value}{base:Heap}
theorem c_.ok{x qual:Str}{st:Stmt}{f:Addr}{fd:FuncData}{N ps:List Str}{k:Nat}{sp:Sp}(F:c_ K x qual st f fd)(S:aF N ps (ak st))(len:∀vs H Q E,sp vs H Q E->vs.length=ps.length)
  (hbody:∀(cdv:Value) (A:Around) (outer:List Env) (s:Shared) (H:Hp) (vs:List V) (Q:VK) (E:XK),b5 k (A.deeper (envOfC qual (ak st) s.heap.objs.size f cdv))->sp vs H Q E ->
   ∃t,qg (dh bH P w K mg base N qual (ak st) f cdv A outer s H E).nox (bj st) t/\t {nx:=fun _ H'=>Q .non H',rt:=Q} (start N vs) H):bc P w K mg base bH (k+1) f fd ps sp:=by
 obtain⟨oc,od,kV,doc,pm,an,cdv,ct,osl,rfl,lk,hcd⟩:=F.ex;refine At lk hcd S len fun A outer s H vs Q E hr hsp=>?_;obtain⟨t,h,q⟩:=hbody cdv A outer s H vs Q E hr hsp;exact⟨t,h.nox,q⟩
theorem c_.binds{x qual:Str}{st:Stmt}{f:Addr}{fd:FuncData}{ps:List Str}(F:c_ K x qual st f fd)
  (h:∀(kV doc pm:Value) (an:Option Addr) (cdv ct:Value) (us:List Value),us.length=ps.length->bindArgs (PySem.W.fnOf x qual (bx st) (bj st) (ak st) .none kV doc pm an cdv ct) ⟨us,[]⟩=pure (ps.zip us)):dc K fd ps []:=by
 obtain⟨oc,od,kV,doc,pm,an,cdv,ct,osl,rfl,lk,hcd⟩:=F.ex;exact .all (h kV doc pm an cdv ct)
theorem cF{x qual:Str}{st:Stmt}{f:Addr}{oc:Value}{od an:Option Addr}{osl:Array (Option Value)}{kV doc pm cdv ct:Value}(l:K.lookup f=some ⟨oc,od,.func (PySem.W.fnOf x qual (bx st) (bj st) (ak st) .none kV doc pm an cdv ct),osl⟩)
  (c:PySem.W.codeIn K cdv qual=true) (k:PySem.W.keepIn K (.ref f)=true):c_ K x qual st f (PySem.W.fnOf x qual (bx st) (bj st) (ak st) .none kV doc pm an cdv ct):=⟨⟨oc,od,kV,doc,pm,an,cdv,ct,osl,rfl,l,c⟩,k⟩
end
section
variable {X:Cx}
theorem pv(i:Nat){x:Str}{pos:Pos}(hN:X.N[i]?=some x:=by rfl)(hv:D4 X.env.scope x:=by first | exact Or.inl rfl | exact Or.inr (Or.inl rfl) | exact Or.inr (Or.inr rfl))(hd:(x==("__debug__":Str))=false:=by decide)
  (hcd:(x==("__classdict__":Str))=false:=by decide):PE X (.Name x pos) (x8 i):=CW hN hv hd hcd
theorem qG:gz X (.builtin "len") (fun xs H Q=>∃a kvs,xs=[V.ref a]/\H a=some (.dK kvs)/\Q (.int kvs.length) H):=by
 intro pins s σ H xs us Q I r h;obtain⟨a,kvs,rfl,ha,q⟩:=h;obtain⟨u,rfl,ru⟩:=tV r;cases ru;exact Dy I (.inl ha) fun t s' I'=>⟨.int kvs.length,H,I',⟨t,rfl⟩,q⟩
end
noncomputable def ay(H H':Hp):Prop:=∀b o,H b=some o->H' b=some o
theorem ay.refl(H:Hp):ay H H:=fun _ _ h=>h
theorem ay.trans{H H1 H2:Hp}(a:ay H H1)(b:ay H1 H2):ay H H2:=fun c o h=>b c o (a c o h)
theorem ay.free{H H':Hp}(e:ay H H'){l:Addr}(h:H' l=Option.none):H l=Option.none:=by
 cases q:H l with
 |none=>rfl
 |some o=>
  rw[e l o q]at h;cases h
theorem ay.seq{K:PySem.W.Frag}{H H':Hp}{a:Addr}{xs:List V}(e:ay H H')(h:aW K H a xs):aW K H' a xs:=by
 rcases h with(h | ⟨o,h⟩) | h
 ·exact .inl (.inl (e _ _ h))
 ·exact .inl (.inr ⟨o,e _ _ h⟩)
 ·exact .inr h
section
variable {κ:Type}[DecidableEq κ]
theorem yC{kvs:List (κ×V)}{k:κ}(h:gt kvs k=none):¬ k∈kvs.map (·.1):=by
 intro m;obtain⟨p,hp,e⟩:=Ij.mp m;have q:(kvs.any fun kv=>decide (kv.1=k))=true:=List.any_eq_true.mpr ⟨p,hp,decide_eq_true e⟩;rw[py,h]at q;exact absurd q (by simp)
end
end L2
namespace PySem
open Sem (wp)
open Builtin Builtin.Str Builtin.Int
namespace F
theorem mK:Manifest.owners.lookup "reversed"=some Manifest.sig_reversed:=by kernel_rfl
theorem slot_rvs_next:Slot "reversed" "__next__" "reversed.__next__":=
 .of (owner:="reversed") (n:="__next__") (by rw[typeLookup_type,builtinLookup_eq_fast];kernel_rfl) (by decide +kernel) (by decide +kernel) (by decide +kernel)
  (by first | exact .inl (by decide +kernel) | exact .inr (by decide +kernel)) (by rw[isSubtype_type];kernel_rfl)
theorem entry_rvs_next:entryFor table "reversed.__next__"=some Builtin.«reversed.__next__»:=entryFor_of_tree (by kernel_rfl)
theorem slot_rvs_iter:Slot "reversed" "__iter__" "reversed.__iter__":=
 .of (owner:="reversed") (n:="__iter__") (by rw[typeLookup_type,builtinLookup_eq_fast];kernel_rfl) (by decide +kernel) (by decide +kernel) (by decide +kernel)
  (by first | exact .inl (by decide +kernel) | exact .inr (by decide +kernel)) (by rw[isSubtype_type];kernel_rfl)
theorem nolen_rvs:typeLookup (.type "reversed") "__len__"=pure none:=by rw[typeLookup_type,builtinLookup_eq_fast];kernel_rfl
theorem hint_rvs:typeLookup (.type "reversed") "__length_hint__"=pure (some (.builtin "reversed.__length_hint__")):=by rw[typeLookup_type,builtinLookup_eq_fast];kernel_rfl
theorem args_rvs_next_1(a:Value):argsOk "reversed.__next__" ⟨[a],[]⟩:=by
 unfold argsOk;rw[signature?_of (id:="reversed.__next__") (n:=['_','_','t','x','e','n','_','_']) (o:=['d','e','s','r','e','v','e','r']) (by kernel_rfl) mK];kernel_rfl
theorem args_rvs_iter_1(a:Value):argsOk "reversed.__iter__" ⟨[a],[]⟩:=by
 unfold argsOk;rw[signature?_of (id:="reversed.__iter__") (n:=['_','_','r','e','t','i','_','_']) (o:=['d','e','s','r','e','v','e','r']) (by kernel_rfl) mK];kernel_rfl
theorem entry_rvs_iter:entryFor table "reversed.__iter__"=some Builtin.«dict_keyiterator.__iter__»:=
 entryFor_alias (id':="dict_keyiterator.__iter__") (by kernel_rfl) (by first | rfl | decide +kernel | (unfold String.splitOn;simp +decide [String.splitOnAux])) (by decide +kernel) (by kernel_rfl)
theorem slot_rvs_hint:Slot "reversed" "__length_hint__" "reversed.__length_hint__":=
 .of (owner:="reversed") (n:="__length_hint__") (by rw[typeLookup_type,builtinLookup_eq_fast];kernel_rfl) (by decide +kernel) (by decide +kernel) (by decide +kernel)
  (by first | exact .inl (by decide +kernel) | exact .inr (by decide +kernel)) (by rw[isSubtype_type];kernel_rfl)
theorem entry_rvs_hint:entryFor table "reversed.__length_hint__"=some Builtin.«reversed.__length_hint__»:=entryFor_of_tree (by kernel_rfl)
theorem args_rvs_hint_1(a:Value):argsOk "reversed.__length_hint__" ⟨[a],[]⟩:=by
 unfold argsOk;rw[signature?_of (id:="reversed.__length_hint__") (n:=['_','_','t','n','i','h','_','h','t','g','n','e','l','_','_']) (o:=['d','e','s','r','e','v','e','r']) (by kernel_rfl) mK];kernel_rfl
end F
section
variable {prog:Program}{w:World}{A:Around}{E:Value->Shared->Prop}{s:Shared}
noncomputable def vR(x:Str)(t:Tok)(i:Int):Obj:={cls:=.type "reversed",data:=.fields #[.str x t,rawInt i]}
noncomputable def Heap.IsRvs(h:Heap)(a:Addr)(x:Str)(t:Tok)(i:Int):Prop:=∃o,h.get? a=some o/\o.cls=.type "reversed"/\o.data=.fields #[.str x t,rawInt i]
theorem Heap.IsRvs.typeIs{a:Addr}{x:Str}{t:Tok}{i:Int}(y:s.heap.IsRvs a x t i):s.TypeIs (.ref a) "reversed":=let ⟨o,ho,hc,_⟩:=y;⟨o,ho,hc⟩
theorem Heap.IsRvs.at{h h':Heap}{a:Addr}{x:Str}{t:Tok}{i:Int}(y:h.IsRvs a x t i)(e:∀o,h.get? a=some o->h'.get? a=some o):h'.IsRvs a x t i:=let ⟨o,ho,r⟩:=y;⟨o,e _ ho,r⟩
theorem je{it:Addr}{x:Str}{t:Tok}{i c:Nat}{Q:Option Value->Shared->Prop}(hit:s.heap.IsRvs it x t (i:Int))(hx:x.cps[i]?=some c)(hsz:i<2 ^ 63)
  (hQ:∀h' tk tk',h'.IsRvs it x t ((i:Int)-1)->Heap.SameBut it s.heap h'->Q (some (.str ⟨#[c]⟩ tk)) {s with heap:=h',toks:=tk' }):wpAny (model prog w) A (pyNext (.ref it)) Q E s:=by
 obtain⟨o,ho,hc,hd⟩:=id hit;have hlen:i<x.length:=(Array.getElem?_eq_some_iff.mp hx).1;unfold pyNext;refine wpAny_bind (wpAny_attempt (wpAny_callSpecial?_slot (name:=Str.ofString "__next__") hit.typeIs F.slot_rvs_next
  (wpAny_call_entry F.slot_rvs_next hit.typeIs F.entry_rvs_next ?_ (F.args_rvs_next_1 _))))
 unfold Builtin.«reversed.__next__»;refine wpAny_bind (wpAny_of_eq (a:=(Value.ref it,[])) rfl ?_)
 try dsimp only
 refine wpAny_bind (wpAny_field ho hd (x:=.str x t) rfl ?_);refine wpAny_bind (wpAny_field ho hd (x:=rawInt (i:Int)) rfl ?_);show wpAny _ _ (if(i:Int)<0 then _ else _) _ _ s;rw[if_neg (by omega)];refine wpAny_bind (wpAny_specialOf (typeIs_str s x t) F.slot_str_getitem.lookup ?_)
 try dsimp only
 first
 |rw[if_neg (show ¬ ((some (Value.builtin "str.__getitem__")).isNone=true) from HR)]
 |skip
 refine wpAny_bind (wpAny_mkInt ?_);refine wpAny_bind (wpAny_attempt ?_);have hb:(seqIndex? (i:Int) x.length).bind (x.cps[·]?)=some c:=by
  have e:seqIndex? (i:Int) x.length=some i:=by
   have hn:¬ ((i:Int)<0):=by omega
   unfold seqIndex?;simp[hn,hlen]
  rw[e];exact hx
 refine P.getItem_str (c:=c) (by simp;omega) hb ?_;dsimp only;refine wpAny_bind (wpAny_field ho hd (x:=rawInt (i:Int)) rfl ?_);show wpAny _ _ (setField (Value.ref it) 1 (rawInt ((i:Int)-1)) >>= fun _=>ret (Value.str ⟨#[c]⟩ _)) _ _ _;refine wpAny_bind (wpAny_setField ho hd (by simp) ?_);refine wpAny_pure ⟨_,rfl,wpAny_pure (hQ _ _ _ ?_ (Heap.SameBut.update ..))⟩;exact⟨_,Hw _ ho (Obj.isFreed_of_fields (Obj.data_mapFields hd _)),(Obj.cls_mapFields ..).trans hc,by
  rw[Obj.data_mapFields hd];simp⟩
theorem jz{it:Addr}{x:Str}{t:Tok}{Q:Option Value->Shared->Prop}(hh:A.handled=none)(hit:s.heap.IsRvs it x t (-1))
  (hQ:∀h',Heap.ExtBut it s.heap h'->Q none {s with heap:=h' }):wpAny (model prog w) A (pyNext (.ref it)) Q E s:=by
 obtain⟨o,ho,hc,hd⟩:=id hit;unfold pyNext;refine wpAny_bind (wpAny_attempt (wpAny_callSpecial?_slot (name:=Str.ofString "__next__") hit.typeIs F.slot_rvs_next
  (wpAny_call_entry F.slot_rvs_next hit.typeIs F.entry_rvs_next ?_ (F.args_rvs_next_1 _))))
 unfold Builtin.«reversed.__next__»;refine wpAny_bind (wpAny_of_eq (a:=(Value.ref it,[])) rfl ?_)
 try dsimp only
 refine wpAny_bind (wpAny_field ho hd (x:=.str x t) rfl ?_);refine wpAny_bind (wpAny_field ho hd (x:=rawInt (-1)) rfl ?_);show wpAny _ _ (if(-1:Int)<0 then _ else _) _ _ s;rw[if_pos (by decide)];refine wpAny_bind (wpAny_rule ?_);show wpAny _ _ ((setField (Value.ref it) 1 (rawInt (-1)) >>= fun _=>setField (Value.ref it) 0 .none) >>= _) _ _ _;refine wpAny_bind (wpAny_bind (wpAny_setField ho hd (by simp) ?_));have ho1:=Hw (Obj.mapFields (·.setIfInBounds 1 (rawInt (-1)))) ho (Obj.isFreed_of_fields (Obj.data_mapFields hd _));refine wpAny_setField ho1 (Obj.data_mapFields hd _) (by simp) ?_;dsimp only;show wpAny _ _ (SmallTypes.stopIteration >>= _) _ _ _;refine wpAny_bind ?_;unfold SmallTypes.stopIteration
 first
 |show wpAny _ _ (newExc (.type "StopIteration") [] >>= _) _ _ _
 | (refine wpAny_bind ?_;show wpAny _ _ (newExc (.type "StopIteration") [] >>= _) _ _ _)
 refine wpAny_bind ?_;simp only[newExc,newTuple];refine wpAny_bind (wpAny_newObj_type ?_ (by size_fits));refine wpAny_bind (m:=firstArgMember _ _) (wpAny_of_eq (a:=Value.none) (by first | rfl | (simp only[firstArgMember];rfl)) ?_);refine wpAny_newObj_type ?_ (by size_fits);simp only[raiseNew];refine wpAny_bind (wpAny_handled ?_)
 first | rw[show A.in1.handled=none from hh] | rw[hh]
 refine wpAny_bind (wpAny_pure (wpAny_throw ?_));refine wpAny_bind (wpAny_isInstance (T:="StopIteration") (b:=true) ⟨_,Hs _ rfl,rfl⟩ isSubtype_stop ?_);refine wpAny_pure (hQ _ ?_);intro b ob hb eb;exact Hl _ (Hl _ ((Hr _ _ (Ne.symm hb)).trans ((Hr _ _ (Ne.symm hb)).trans eb)))
theorem g7{it:Addr}{x:Str}{t:Tok}{i:Int}{Q:Value->Shared->Prop}(hit:s.heap.IsRvs it x t i)(h:Q (.ref it) s):wpAny (model prog w) A (pyIter (.ref it)) Q E s:=by
 refine wpAny_pyIter_slot hit.typeIs F.slot_rvs_iter (wpAny_call_entry F.slot_rvs_iter hit.typeIs F.entry_rvs_iter ?_ (F.args_rvs_iter_1 _));show wpAny _ _ (ret (.ref it)) _ _ s;exact wpAny_pure ⟨_,rfl,"reversed",_,hit.typeIs,F.slot_rvs_next.lookup,h⟩
theorem hint_rvs{it:Addr}{x:Str}{t:Tok}{i:Int}{Q:Value->Shared->Prop}(hit:s.heap.IsRvs it x t i)(hi:i<x.length)(hz:x.length<=sizeLine)
  (h:∀u tk,s.toks<=tk->Q (.int (i+1) u) {s with toks:=tk}):wpAny (model prog w) A (call (.builtin "reversed.__length_hint__") [.ref it]) Q E s:=by
 obtain⟨o,ho,hc,hd⟩:=id hit;refine wpAny_call_entry F.slot_rvs_hint hit.typeIs F.entry_rvs_hint ?_ (F.args_rvs_hint_1 _);unfold Builtin.«reversed.__length_hint__»;refine wpAny_bind (wpAny_of_eq (a:=Value.ref it) rfl ?_);refine wpAny_bind (wpAny_field ho hd (x:=.str x t) rfl ?_);show wpAny _ _ (if(Value.str x t==Value.none)=true then _ else _) _ _ s;rw[if_neg (show ¬ ((Value.str x t==Value.none)=true) from fun z=>by cases(eq_of_beq z))];have hs:sizeLine=16777216:=sizeLine_eq;refine wpAny_bind (P.len_str (by omega) ?_);refine wpAny_bind (m:=asInt? _) (wpAny_pure ?_);dsimp only;refine wpAny_bind (wpAny_field ho hd (x:=rawInt i) rfl ?_);show wpAny _ _ (if(x.length:Int)<i+1 then _ else _) _ _ _;rw[if_neg (by omega)];show wpAny _ _ (mkInt (i+1) >>= fun v=>ret v) _ _ _;exact wpAny_bind (wpAny_mkInt (wpAny_pure ⟨_,rfl,h _ _ (by simp;omega)⟩))
theorem Walks.rvs{A:Around}(hh:A.handled=none)(I:Addr)(x:Str)(t:Tok)(hz:x.length<=sizeLine) :
  Walks prog w A I [I] [I] x.length (fun i v=>∃c tk,x.cps[x.length-1-i]?=some c/\v=.str ⟨#[c]⟩ tk) (fun i h=>i<=x.length/\h.IsRvs I x t ((x.length:Int)-1-(i:Int))) where
 sub:=fun b hb=>hb
 frame:=fun _ _ _ y hk=>⟨y.1,y.2.at fun o e=>hk I (by simp) o e⟩
 item:=fun i s Q E hi y hQ=>by
  have e:(x.length:Int)-1-(i:Int)=((x.length-1-i:Nat):Int):=by omega
  have hit:=y.2;rw[e]at hit;have hb:x.length-1-i<x.cps.size:=by have:x.length=x.cps.size:=rfl;omega
  have hx:x.cps[x.length-1-i]?=some (x.cps[x.length-1-i]'hb):=Array.getElem?_eq_getElem hb;have hs:sizeLine=16777216:=sizeLine_eq;refine je hit hx (by omega) fun h' tk tk' hit' hs'=>?_;have e2:((x.length-1-i:Nat):Int)-1=(x.length:Int)-1-((i+1:Nat):Int):=by omega
  rw[e2]at hit';exact hQ _ h' tk' ⟨_,tk,hx,rfl⟩ ⟨hi,hit'⟩ fun b o hb eo=>hs'.extBut b o (fun h=>hb (by simp[h])) eo
 done:=fun s Q E y hQ=>by
  have e:(x.length:Int)-1-(x.length:Int) = -1:=by omega
  have hit:=y.2;rw[e]at hit;exact jz hh hit fun h' he'=>hQ h' s.toks fun b o hb eo=>he' b o (fun h=>hb (by simp[h])) eo
 self:=fun _ _ _ _ y hQ=>g7 y.2 hQ
theorem lK{I:Addr}{x:Str}{t:Tok}{Q:List Value->Shared->Prop}(hh:A.handled=none)(hit:s.heap.IsRvs I x t ((x.length:Int)-1))(hz:x.length<=sizeLine)
  (hQ:∀s' acc,Moved [I] (fun a b=>b=a) s s'->ItemsOf (fun i v=>∃c tk,x.cps[x.length-1-i]?=some c/\v=.str ⟨#[c]⟩ tk) acc x.length->Q acc.toList s'):wpAny (model prog w) A (collect (.ref I)) Q E s:=by
 have W:=(Walks.rvs (prog:=prog) (w:=w) (A:=A.in1) hh I x t hz).toS;have hn:x.length<=sizeLine:=hz;have hst:(fun i (s:Shared)=>i<=x.length/\s.heap.IsRvs I x t ((x.length:Int)-1-(i:Int))) 0 s:=⟨HQ _,by simpa using hit⟩;have hT:∀i (s:Shared),(i<=x.length/\s.heap.IsRvs I x t ((x.length:Int)-1-(i:Int)))->s.TypeIs (.ref I) "reversed":=fun i s y=>y.2.typeIs;have hlt:I<s.heap.objs.size:=by obtain⟨o,ho,_⟩:=hit;exact HS ho
 have hSI:s.heap.objs.size≠I:=fun e=>HZ _ (e▸hlt);have hSf:s.heap.objs.size∉[I]:=fun hm=>hSI (Hn.mp hm);unfold collect;refine wpAny_bind (wpAny_runValue (codeAny_builtin F.entry_proto_collect ?_));rw[Around.under_plainId F.plain_proto_collect _];show wpAny _ A.in1 (newList [] >>= fun l=>again (.builtin "list.__iadd__" ⟨[l,.ref I],[]⟩)) _ _ s;refine wpAny_bind (wpAny_newObj_type ?_);refine wpAny_pure ⟨plainId_quiet F.plain_list_iadd _,codeAny_builtin F.entry_list_iadd ?_⟩;rw[Around.under_plainId F.plain_list_iadd _];have hst₁:=W.frame 0 s (s.heap.push {cls:=.type "list",data:=.seq ([]:List Value).toArray}) s.toks hst (HP _) fun b _ o e=>Hl _ e;have hS₁:(s.heap.push {cls:=.type "list",data:=.seq ([]:List Value).toArray}).get? s.heap.objs.size=some {cls:=.type "list",data:=.seq ([]:List Value).toArray}:=Hs _ rfl;have h1:Builtin.List.listSameRef (.ref s.heap.objs.size) (.ref I)=false:=by simp[Builtin.List.listSameRef,hSI]
 show wpAny _ A.in1 (Builtin.List.listExtendWith (.ref s.heap.objs.size) (.ref I) (.ref s.heap.objs.size)) _ _ _;unfold Builtin.List.listExtendWith;refine wpAny_bind (wpAny_typeOf (hT 0 _ hst₁) ?_);rw[if_neg (by rw[h1];decide)];refine wpAny_bind (W.self 0 _ _ _ hst₁ ?_);refine wpAny_bind (wpAny_holding ?_);unfold Builtin.List.listLengthHint;refine wpAny_bind (wpAny_specialOf (hT 0 _ hst₁) F.nolen_rvs ?_);show wpAny _ A.in1 (specialOf (Value.ref I) (Str.ofString "__length_hint__") >>= _) _ _ _;refine wpAny_bind (wpAny_specialOf (hT 0 _ hst₁) F.hint_rvs ?_)
 (generalize hid:("reversed.__length_hint__":String)=id0;(fail_if_success (clear hid id0));wp_delta;rw[show splitId id0=some ("reversed","__length_hint__") from by subst hid;decide +kernel];subst hid)
 refine wpAny_bind (wpAny_isInstance (b:=true) (hT 0 _ hst₁) (by rw[isSubtype_type];kernel_rfl) ?_);rw[if_neg (show ¬ ((!true)=true) by decide)];dsimp only
 split
 ·rename_i hsil
  exact absurd hsil (by decide +kernel)
 refine wpAny_bind (wpAny_rule ?_);refine wpAny_bind (wpAny_of_eq (F.slot_rvs_hint.bind _) ?_);dsimp only;refine wpAny_bind (wpAny_attempt ?_);refine hint_rvs (i:=(x.length:Int)-1-((0:Nat):Int)) hst₁.2 (by omega) hz fun u tk htk=>?_;dsimp only;have hs:sizeLine=16777216:=sizeLine_eq;have hk:Builtin.List.listTooLong (Int.toNat ((x.length:Int)-1-((0:Nat):Int)+1))=false:=by
  unfold Builtin.List.listTooLong;have e:Int.toNat ((x.length:Int)-1-((0:Nat):Int)+1)=x.length:=by omega
  rw[e]
  simpa using hz
 refine wpAny_bind (m:=asInt? (.int _ u)) (wpAny_pure ?_);dsimp only;have hfit:Builtin.List.listFitsIndex ((x.length:Int)-1-((0:Nat):Int)+1)=true:=by
  unfold Builtin.List.listFitsIndex;simp;omega
 rw[if_neg (by rw[hfit];decide),if_neg (by omega),if_neg (by rw[hk];decide)];refine wpAny_pure ?_
 -- the loop,from a list that may have been touched
 have fin:∀(h₂:Heap) (c:Nat),(∀b o,b≠s.heap.objs.size->(s.heap.push {cls:=.type "list",data:=.seq ([]:List Value).toArray}).get? b=some o->h₂.get? b=some o) ->
   h₂.get? s.heap.objs.size=some {cls:=.type "list",data:=.seq ([]:List Value).toArray c} ->
   codeAny (model prog w) A (.builtin "list.extend.loop" ⟨[.ref s.heap.objs.size,.ref I,.ref s.heap.objs.size],[]⟩) (fun r s'=>match r with
    | .ok (.ret v)=>wpAny (model prog w) A (match v with
     | .ref a=>do
      let __do_lift <- load a
      match __do_lift.data with
       | .seq xs _=>pure xs.toList
       |_=>unsupported "internal:collect"
     |_=>unsupported "internal:collect") Q E s'
    | .ok _=>False
    | .error e=>E e s') {s with heap:=h₂,toks:=tk}:=fun h₂ c keep hS₂=>by
  have hst₂:(fun i (s:Shared)=>i<=x.length/\s.heap.IsRvs I x t ((x.length:Int)-1-(i:Int))) 0 {s with heap:=h₂,toks:=tk}:=⟨HQ _,hst₁.2.at fun o e=>keep I o (Ne.symm hSI) e⟩;refine codeAny_extend_loopS W hn _ hSf _ x.length 0 _ _ _ rfl (HQ _) hst₂ hS₂ (ItemsOf.nil _) fun s' acc' c' hm hS' hacc=>?_;show wpAny _ A (load s.heap.objs.size >>= _) _ _ s';refine wpAny_bind (wpAny_load hS' ?_);refine wpAny_pure (hQ s' acc' ?_ hacc);exact⟨fun b ob hb e=>hm.heap b ob (fun hm'=>by
    rcases HF.mp hm' with e1 | hm'
    ·exact absurd (e1▸HS e) (HZ _)
    ·exact hb hm') (keep b ob (fun e1=>absurd (e1▸HS e) (HZ _)) (Hl _ e)),hm.gens,hm.drawn,hm.os,HY htk hm.toks⟩
 have quiet:=plainId_quiet F.plain_extend_loop (⟨[.ref s.heap.objs.size,.ref I,.ref s.heap.objs.size],[]⟩:Args)
 split
 ·refine wpAny_bind (wpAny_rule ?_)
  show wpAny _ A.in1 ((updateSeq s.heap.objs.size (·.push .none) >>= fun _=>updateSeq s.heap.objs.size (·.pop)) >>= _) _ _ _;refine wpAny_bind (wpAny_bind (wpAny_updateSeq hS₁ rfl ?_ (by simp) (by simp)));have q1:=PySem.IsL.update (h:=s.heap.push {cls:=.type "list",data:=.seq ([]:List Value).toArray}) (l:=s.heap.objs.size) (items:=([]:List Value).toArray) (n:=0) hS₁ (·.push .none);refine wpAny_updateSeq q1 rfl ?_ (by simp;omega) (by simp);have q2:=PySem.IsL.update q1 (·.pop);exact wpAny_pure ⟨quiet,fin _ _ (fun b o hb e=>(Hr _ _ (Ne.symm hb)).trans ((Hr _ _ (Ne.symm hb)).trans e)) (show _=some ({cls:=.type "list",data:=.seq ([]:List Value).toArray _}:Obj) from q2)⟩
 ·exact wpAny_pure ⟨quiet,fin _ _ (fun b o hb e=>e) hS₁⟩
theorem AF{I:Addr}{x sep:Str}{t t0:Tok}{Q:Value->Shared->Prop}(hh:A.handled=none)(hit:s.heap.IsRvs I x t ((x.length:Int)-1))(hz:x.length<=1000)(hsep:sep.length<=1000)
  (h:∀(s':Shared) (t':Tok) (k:Nat),(∀b o,b≠I->s.heap.get? b=some o->s'.heap.get? b=some o)->s'.gens=s.gens->s'.drawn=s.drawn->s'.os=s.os ->
   Q (.str (Txt.join sep (x.cps.toList.reverse.map fun c=>(⟨#[c]⟩:Str))) t') {s' with toks:=k}):wpAny (model prog w) A (call (.builtin "str.join") [.str sep t0,.ref I]) Q E s:=by
 have hs:sizeLine=16777216:=sizeLine_eq;refine wpAny_call (codeAny_call_builtin F.slot_str_join.plain F.entry_str_join (F.slot_str_join.check _ _ _ _ _ _ _ _ (typeIs_str _ _ _) (F.args_str_join_2 _ _) ?_));rw[join_tree_other];refine wpAny_bind (wpAny_typeOf hit.typeIs ?_);show wpAny _ A.in1 ((pyIter (.ref I)).tryCatch _ >>= fun it=>collect it >>= fun items=>joinTail sep items) _ _ s;refine wpAny_bind (wpAny_tryCatch (g7 hit ?_));refine wpAny_bind (lK hh hit (by omega) fun s' acc hm hacc=>?_);obtain⟨l,hl⟩:=exists_strValues acc.toList fun v hv=>by
  obtain⟨j,hj,rfl⟩:=Array.mem_iff_getElem.mp (Array.mem_toList_iff.mp hv);obtain⟨c,tk,_,e⟩:=hacc.2 j _ (Array.getElem?_eq_getElem hj);exact⟨_,_,e⟩
 have hlx:l.map (·.1)=x.cps.toList.reverse.map fun c=>(⟨#[c]⟩:Str):=by
  have el:l.length=x.length:=by
   have q:=congrArg List.length hl;simp[strValues]at q;rw[q];exact hacc.1
  refine List.ext_getElem (by simp[el];rfl) fun j h1 h2=>?_;simp only[List.getElem_map,List.getElem_reverse];have hj:j<l.length:=by simpa using h1
  have ha:acc.toList[j]?=some (Value.str (l[j]).1 (l[j]).2):=by
   rw[<- hl];simp[strValues,hj]
  have ha':acc[j]?=some (Value.str (l[j]).1 (l[j]).2):=by simpa using ha
  obtain⟨c,tk,hc,e⟩:=hacc.2 j _ ha'
  injection e with e1 _
  rw[e1];have hb:x.length-1-j<x.cps.size:=by have:x.length=x.cps.size:=rfl;omega
  rw[Array.getElem?_eq_getElem hb]at hc;have hc':=Option.some.inj hc;rw[<- hc'];simp only[Array.length_toList,Array.getElem_toList]
  rfl
 rw[<- hl];have hok:JoinOk sep (l.map (·.1))=true:=by
  unfold JoinOk;rw[StrLaws.joinTotal];have e1:((l.map (·.1)).map (·.length)).sum=x.length:=by
   rw[hlx,HE];have:((fun y:Str=>y.length)∘fun c=>(⟨#[c]⟩:Str))=fun _=>1:=by funext c;rfl
   rw[this,List.map_const',List.sum_replicate_nat];simp
   rfl
  have e2:(l.map (·.1)).length=x.length:=by rw[hlx];simp;rfl
  rw[e1,e2];have:x.length*sep.length<=1000*1000:=Nat.mul_le_mul hz hsep;unfold tooLong;rw[decide_eq_false (by omega)]
  rfl
 have hpost:=fun t' k=>h s' t' k (fun b o hb e=>hm.heap b o (fun z=>hb (Hn.mp z)) e) hm.gens hm.drawn hm.os;unfold JoinOk at hok;rw[Bool.not_eq_true']at hok;have g:Gives (joinTail sep (strValues l)) (joinMade sep l):=by
  have g0:=gives_joinTail sep l hok;cases l with
  |nil=>exact g0
  |cons p r=>cases r with
   |nil=>exact g0
   |cons q r'=>exact g0
 rw[<- hlx]at hpost;exact g prog w A (wants Q E) s' (post_join l ⟨joinFit_length hok,hpost⟩)
end
namespace F
theorem qr:Slot "reversed" "__init__" "object.__init__":=
 .of (owner:="object") (n:="__init__") (by rw[typeLookup_type,builtinLookup_eq_fast];kernel_rfl) (by decide +kernel) (by decide +kernel) (by decide +kernel)
  (by first | exact .inl (by decide +kernel) | exact .inr (by decide +kernel)) (by rw[isSubtype_type];kernel_rfl)
theorem wF:mroOf (.type "reversed")=pure [.type "reversed",.type "object"]:=by rw[mroOf_type];kernel_rfl
theorem pz:typeLookup (.type "reversed") "__new__"=pure (some (.builtin "reversed.__new__")):=by rw[typeLookup_type,builtinLookup_eq_fast];kernel_rfl
theorem rvs_called:TypeCalled "reversed" "reversed.__new__" "object.__init__":=
 ⟨by decide +kernel,by decide +kernel,⟨_,_,wF⟩,madeBy_type wF pz (by decide +kernel),by decide +kernel,by rw[isSubtype_type];kernel_rfl,qr⟩
theorem rvs_typeCall_1(a:Value):checkTypeCall "reversed" ⟨[a],[]⟩=pure ():=by kernel_rfl
theorem rvs_newCall_1(a:Value):checkBuiltinCall "reversed.__new__" ⟨[.type "reversed",a],[]⟩=pure ():=by kernel_rfl
theorem rvs_entry_new:entryFor table "reversed.__new__"=some Builtin.«reversed.__new__»:=entryFor_of_tree (by kernel_rfl)
theorem rvs_sub:isSubtype (.type "reversed") (.type "reversed")=pure true:=by rw[isSubtype_type];kernel_rfl
theorem rvs_nostr:typeLookup (.type "str") "__reversed__"=pure none:=by rw[typeLookup_type,builtinLookup_eq_fast];kernel_rfl
end F
section
variable {prog:Program}{w:World}{A:Around}{E:Value->Shared->Prop}{s:Shared}
theorem sy(a:Value):Builtin.SmallTypes.newClass "reversed" ⟨[.type "reversed",a],[]⟩=pure (.type "reversed",[a]):=by
 unfold Builtin.SmallTypes.newClass;simp only[isType,F.rvs_sub,pure_bind,Bool.not_true,Bool.false_eq_true,if_false]
theorem qk(x:Str)(t:Tok)(hz:x.length<=sizeLine):Meets (Builtin.«reversed.__new__» ⟨[.type "reversed",.str x t],[]⟩)
  (fun _ R s=>R (.ok (.ret (.ref s.heap.objs.size))) {s with heap:=s.heap.push (vR x t ((x.length:Int)-1)),toks:=s.toks+1+1}):=
 .of_wp fun prog w A R s h=>by
  have hs:sizeLine=16777216:=sizeLine_eq;unfold Builtin.«reversed.__new__»;refine wpAny_bind (wpAny_of_eq (sy _) ?_)
  try dsimp only
  refine wpAny_bind (wpAny_of_eq (a:=()) (by first | rfl | kernel_rfl) ?_);refine wpAny_bind (wpAny_of_eq (a:=()) (by first | rfl | kernel_rfl) ?_)
  try dsimp only
  refine wpAny_bind (wpAny_specialOf (typeIs_str s x t) F.rvs_nostr ?_)
  try dsimp only
  refine wpAny_bind ?_;refine wpAny_bind (wpAny_isInstance (T:="str") (b:=false) (typeIs_str s x t) (by rw[isSubtype_type];kernel_rfl) ?_);rw[if_neg (by decide)];refine wpAny_bind (wpAny_specialOf (typeIs_str s x t) F.slot_str_getitem.lookup ?_);dsimp only
  split
  ·refine wpAny_pure ?_
   rw[if_neg (by decide)];refine wpAny_bind (P.len_str (by omega) ?_);refine wpAny_bind (m:=asInt? _) (wpAny_pure ?_);dsimp only;show wpAny _ _ (newObj (.type "reversed") (.fields #[.str x t,rawInt ((x.length:Int)-1)]) >>= fun v=>ret v) _ _ _;exact wpAny_bind (wpAny_newObj_type (wpAny_pure ⟨_,rfl,h⟩))
  ·rename_i hn
   exact absurd (by decide +kernel) hn
theorem lH{x:Str}{t:Tok}{Q:Value->Shared->Prop}(hz:x.length<=sizeLine)
  (h:Q (.ref s.heap.objs.size) {s with heap:=s.heap.push (vR x t ((x.length:Int)-1)),toks:=s.toks+1+1}):wpAny (model prog w) A (call (.type "reversed") [.str x t]) Q E s:=
 callType_new F.rvs_called (by decide) (F.rvs_typeCall_1 _) (F.rvs_newCall_1 _) (fun obj=>F.args_object_init_2 obj _) F.rvs_entry_new (qk x t hz) ⟨⟨_,Hs _ rfl,rfl⟩,h⟩
end
end PySem
namespace L2
open PySem PySem.Spec PyProof.Rows
noncomputable def fM(env:Env):List (Str×NameKind)->List (Str×Addr)->List (Str×Addr)
 | [],acc=>acc
 | (n,k)::r,acc=>if k==.free then fM env r ((n,(env.cells.lookup n).getD 0)::acc) else fM env r acc
theorem nL{env:Env}:∀(ns:List (Str×NameKind)) (acc:List (Str×Addr)),(∀x∈ns,x.2=.free->∃c,env.cells.lookup x.1=some c) ->
  (forIn ns acc fun(x:Str×NameKind) (cs:List (Str×Addr))=>(if x.2==.free then do
    let c <- cellOf env x.1
    pure (ForInStep.yield ((x.1,c)::cs))
   else pure (ForInStep.yield cs):Sem (ForInStep (List (Str×Addr)))))=pure (fM env ns acc)
 | [],acc,_=>rfl
 | (n,k)::r,acc,h=>by
  have ih:=fun a=>nL (env:=env) r a fun x hx=>h x (HH _ hx);rw[List.forIn_cons]
  by_cases hk:k=.free
  ·subst hk
   obtain⟨c,hc⟩:=h (n,.free) List.mem_cons_self rfl;have hc':env.cells.lookup n=some c:=hc;have e1:cellOf env n=pure c:=by unfold cellOf;rw[hc']
   simp only[fM,hc',Option.getD_some];show((do let c <- cellOf env n;pure (ForInStep.yield ((n,c)::acc))) >>= _)=_;rw[e1,pure_bind,pure_bind];exact ih _
  ·have e2:(k==NameKind.free)=false:=by simpa using hk
   simp only[fM,e2,Bool.false_eq_true,if_false];rw[pure_bind];exact ih _
theorem jA{env:Env}{scope:Scope}(h:∀x∈scope.names,x.2=.free->∃c,env.cells.lookup x.1=some c) :
  closureFor scope env=pure (fM env scope.names []):=by
 unfold closureFor;have e:=nL (env:=env) scope.names [] h;have e2:(forIn scope.names ([]:List (Str×Addr)) fun x cs=>(match x with
   | (name,kind)=>if kind==.free then do
     let c <- cellOf env name
     pure (ForInStep.yield ((name,c)::cs))
    else pure (ForInStep.yield cs):Sem (ForInStep (List (Str×Addr)))))=pure (fM env scope.names []):=e
 simp only[]at e2 ⊢
 first
  | (rw[e2];rfl)
  | (erw [e2];rfl)
theorem i7{env:Env}:∀{ns:List (Str×NameKind)} {acc:List (Str×Addr)} {x:Str} {c:Addr},(∀y∈ns,y.2=.free->∃c,env.cells.lookup y.1=some c) ->
  (∀y c,acc.lookup y=some c->env.cells.lookup y=some c)->(fM env ns acc).lookup x=some c->env.cells.lookup x=some c
 | [],_,_,_,_,ha,e=>ha _ _ e
 | (n,k)::r,acc,x,c,h,ha,e=>by
  have hr:∀y∈r,y.2=.free->∃c,env.cells.lookup y.1=some c:=fun y hy=>h y (HH _ hy);unfold fM at e
  by_cases hk:k=.free
  ·subst hk
   rw[if_pos (by simp)]at e;obtain⟨c',hc⟩:=h (n,.free) List.mem_cons_self rfl;have hc':env.cells.lookup n=some c':=hc;refine i7 hr (fun y d z=>?_) e;rw[hc',Option.getD_some,List.lookup_cons]at z
   by_cases q:y=n
   ·subst q
    simp at z;subst z;exact hc'
   ·have q':(y==n)=false:=by simpa using q
    rw[q']at z;exact ha y d z
  ·rw[if_neg (by simpa using hk)]at e
   exact i7 hr ha e
theorem nU{env:Env}:∀{ns:List (Str×NameKind)} {acc:List (Str×Addr)} {x:Str},((∃c,acc.lookup x=some c)\/(x,NameKind.free)∈ns)->∃c,(fM env ns acc).lookup x=some c
 | [],_,_,h=>by
  rcases h with h | h
  ·exact h
  ·exact nomatch h
 | (n,k)::r,acc,x,h=>by
  unfold fM
  by_cases hk:k=.free
  ·subst hk
   rw[if_pos (by simp)];refine nU ?_
   by_cases q:x=n
   ·subst q
    left
    simp[List.lookup_cons]
   ·have q':(x==n)=false:=by simpa using q
    rcases h with⟨c,h⟩ | h
    ·exact .inl ⟨c,by rw[List.lookup_cons,q'];exact h⟩
    ·rcases HF.mp h with z | z
     ·cases z
      exact absurd rfl q
     ·exact .inr z
  ·rw[if_neg (by simpa using hk)]
   refine nU ?_;rcases h with h | h
   ·exact .inl h
   ·rcases HF.mp h with z | z
    ·cases z
     exact absurd rfl hk
    ·exact .inr z
noncomputable def um(scope osc:Scope):Scope:=
 {scope with names:=scope.names.map fun(n,k)=>if(k==.free&&osc.kind==.function&&osc.names.lookup n==some .cell) then(n,.cell) else(n,k)}
noncomputable def yy(scope osc:Scope):Bool:=
 (scope.kind==.function)&&(osc.kind==.function)&&scope.names.all fun(n,k)=>(k != .free || !scope.names.contains (n,NameKind.cell))&&(k != .local||scope.names.lookup n==some .local) &&
  (k != .free||osc.names.lookup n==some .cell||osc.names.lookup n==some .free)&&(k != .free||(um scope osc).names.lookup n != some .local)
structure bw(scope osc:Scope):Prop where
 kind:scope.kind=.function
 sep:∀x∈scope.names,x.2=.free->(x.1,NameKind.cell)∉scope.names
 loc:∀x∈scope.names,x.2=.local->scope.names.lookup x.1=some .local
 free:∀x∈scope.names,x.2=.free->osc.names.lookup x.1=some .cell\/osc.names.lookup x.1=some .free
 nl:∀x∈scope.names,x.2=.free->(um scope osc).names.lookup x.1≠some .local
theorem bw.of{scope osc:Scope}(h:yy scope osc=true):bw scope osc:=by
 unfold yy at h;rw[Bool.and_eq_true,Bool.and_eq_true,Ik]at h;obtain⟨⟨h1,h0⟩,h2⟩:=h;refine⟨by simpa using h1,fun x hx e=>?_,fun x hx e=>?_,fun x hx e=>?_,fun x hx e=>?_⟩
 all_goals
  obtain⟨n,k⟩:=x;have q:=h2 (n,k) hx;simp only[Bool.and_eq_true,Bool.or_eq_true,bne_iff_ne,beq_iff_eq]at q
 ·have z:=q.1.1.1.resolve_left (fun z=>z e)
  simpa using z
 ·exact q.1.1.2.resolve_left (fun z=>z e)
 ·rcases q.1.2 with(z | z) | z
  ·exact absurd e z
  ·exact .inl z
  ·exact .inr z
 ·exact q.2.resolve_left (fun z=>z e)
theorem gc{osc:Scope}:∀{ns:List (Str×NameKind)} {x:Str} {k':NameKind},
  (ns.map fun(n,k)=>if(k==NameKind.free&&osc.kind==.function&&osc.names.lookup n==some .cell) then(n,NameKind.cell) else(n,k)).lookup x=some k' ->
  (k'=.cell\/k'=.free)->(x,NameKind.free)∈ns\/(x,NameKind.cell)∈ns
 | [],_,_,h,_=>by simp at h
 | (n,k)::r,x,k',h,hk'=>by
  rw[HW]at h
  by_cases q:x=n
  ·subst q
   by_cases z:(k==NameKind.free&&osc.kind==.function&&osc.names.lookup x==some .cell)=true
   ·have:k=.free:=by
     simp only[Bool.and_eq_true,beq_iff_eq]at z;exact z.1.1
    subst this;exact .inl List.mem_cons_self
   ·simp only[z,Bool.false_eq_true,if_false]at h
    rw[List.lookup_cons]at h;simp at h;subst h;rcases hk' with e | e
    ·subst e;exact .inr List.mem_cons_self
    ·subst e;exact .inl List.mem_cons_self
  ·have q':(x==n)=false:=by simpa using q
   refine(gc (osc:=osc) (k':=k') (ns:=r) (x:=x) ?_ hk').imp (HH _) (HH _)
   by_cases z:(k==NameKind.free&&osc.kind==.function&&osc.names.lookup n==some .cell)=true
   ·simp only[z,if_true]at h
    rw[List.lookup_cons,q']at h;exact h
   ·simp only[z,Bool.false_eq_true,if_false]at h
    rw[List.lookup_cons,q']at h;exact h
theorem ju:∀(ns:List (Str×NameKind)) (n:Nat) (acc:List (Str×Addr)),cellsFrom n ns acc=cellsFrom n ns []++acc
 | [],_,_=>rfl
 | (x,k)::r,n,acc=>by
  unfold cellsFrom
  split
  ·rw[ju r (n+1) ((x,n)::acc),ju r (n+1) [(x,n)],List.append_assoc];rfl
  ·exact ju r n acc
theorem sv:∀{ns:List (Str×NameKind)} {n:Nat} {x:Str} {c:Addr},(x,c)∈cellsFrom n ns []->(x,NameKind.cell)∈ns
 | [],_,_,_,h=>nomatch h
 | (y,k)::r,n,x,c,h=>by
  unfold cellsFrom at h
  split at h
  ·rename_i hk
   rw[ju]at h;rcases Hz.mp h with h | h
   ·exact HH _ (sv h)
   ·cases Hn.mp h
    have:k=.cell:=by simpa using hk
    subst this;exact List.mem_cons_self
  ·exact HH _ (sv h)
theorem rM:∀{ns:List (Str×NameKind)} {n:Nat} {x:Str} {acc:List (Str×Addr)},((x,NameKind.cell)∈ns\/∃c,acc.lookup x=some c)->∃c,(cellsFrom n ns acc).lookup x=some c
 | [],_,_,_,h=>h.elim (fun z=>nomatch z) id
 | (y,k)::r,n,x,acc,h=>by
  unfold cellsFrom
  split
  ·refine rM ?_
   by_cases q:x=y
   ·subst q
    exact .inr ⟨n,by simp[List.lookup_cons]⟩
   ·have q':(x==y)=false:=by simpa using q
    rcases h with h | ⟨c,h⟩
    ·rcases HF.mp h with z | z
     ·cases z;exact absurd rfl q
     ·exact .inl z
    ·exact .inr ⟨c,by rw[List.lookup_cons,q'];exact h⟩
  ·rename_i hk
   refine rM ?_;rcases h with h | h
   ·rcases HF.mp h with z | z
    ·cases z;exact absurd rfl hk
    ·exact .inl z
   ·exact .inr h
noncomputable def dO(env:Env)(scope:Scope)(C:Addr):List (Str×Addr):=cellsFrom (C+1) scope.names (fM env scope.names [])
theorem kZ:∀{ns:List (Str×NameKind)} {n:Nat} {x:Str} {c:Addr},(x,c)∈cellsFrom n ns []->n<=c
 | [],_,_,_,h=>nomatch h
 | (y,k)::r,n,x,c,h=>by
  unfold cellsFrom at h
  split at h
  ·rw[ju]at h
   rcases Hz.mp h with h | h
   ·exact HY (Nat.le_succ _) (kZ h)
   ·cases Hn.mp h
    exact HP _
  ·exact kZ h
theorem pS:∀{ns:List (Str×NameKind)} {n:Nat},(cellsFrom n ns []).Pairwise fun x y=>x.2≠y.2
 | [],_=>List.Pairwise.nil
 | (y,k)::r,n=>by
  unfold cellsFrom
  split
  ·rw[ju]
   refine List.pairwise_append.mpr ⟨pS,by simp,fun a ha b hb e=>?_⟩;cases Hn.mp hb;have:=kZ (x:=a.1) (c:=a.2) ha;rw[e]at this;exact absurd this (Nat.not_succ_le_self _)
  ·exact pS
theorem i9{env:Env}{scope:Scope}{C:Addr}{x:Str}{c:Addr}(h:(dO env scope C).lookup x=some c) :
  ((x,c)∈cellsFrom (C+1) scope.names []/\C<c/\(x,NameKind.cell)∈scope.names)\/((cellsFrom (C+1) scope.names []).lookup x=none/\(fM env scope.names []).lookup x=some c):=by
 unfold dO at h;rw[ju,List.lookup_append]at h;cases q:(cellsFrom (C+1) scope.names []).lookup x with
 |none=>rw[q]at h;exact .inr ⟨rfl,h⟩
 |some d=>
  rw[q]at h;cases h;have:=mem_of_lookup q;exact .inl ⟨this,kZ this,sv this⟩
theorem yz{ns:List (Str×NameKind)}{n:Nat}{x:Str}(h:(x,NameKind.cell)∉ns):(cellsFrom n ns []).lookup x=none:=by
 cases q:(cellsFrom n ns []).lookup x with
 |none=>rfl
 |some d=>exact absurd (sv (mem_of_lookup q)) h
section
variable {M:Model}{A:Around}{E:Value->Shared->Prop}{s:Shared}
theorem fN{scope:Scope}{globals:Addr}{closure:List (Str×Addr)}{qual:Str}{func:Option Addr}{code:Value}{outer:Env}{builtins:Addr}{Q:Env->Shared->Prop}
  (hQ:Q (newEnv scope s.heap.objs.size globals (cellsFrom (s.heap.objs.size+1) scope.names closure) qual func code (some outer) builtins) {s with heap:=pushCells (s.heap.push {cls:=.type "dict",data:=.dict #[]}) scope.names}) :
  wpAny M A (newFunctionEnv scope globals closure [] qual func code (some outer) builtins) Q E s:=by
 simp only[newFunctionEnv,Option.isSome_some,if_true];simp only[newEnv]at hQ;refine wpAny_bind (wpAny_alloc ?_);refine wpAny_bind (wpAny_layCells _ (fun name kind cells=>by cases hkc:kind==NameKind.cell<;>simp[hkc]) _ _ _ _ ?_);rw[show({s with heap:=s.heap.push {cls:=.type "dict",data:=.dict #[]} }:Shared).heap.objs.size=s.heap.objs.size+1 from Heap.size_push ..];rw[List.forIn_nil];exact wpAny_bind (wpAny_pure (wpAny_pure hQ))
end
noncomputable def Cx.blk(X:Cx)(N':List Str)(s₂:Shared)(H₂:Hp)(scope:Scope)(fp:List Addr)(C:Addr):Cx where
 prog:=X.prog
 w:=X.w
 K:=X.K
 mg:=X.mg
 base:=X.base
 A:=X.A
 N:=N'
 s₀:=s₂
 H₀:=H₂
 env:=compEnvC scope (dO X.env scope C) C X.env
 outer:=X.stack
 stack:=X.stack
 ex:=fp
 fn:=fun x=>scope.names.contains (x,NameKind.cell)
 calm:=X.calm
 pn:=[]
 xe:=fun _ _=>False
noncomputable def rB(k:Nat)(js:List Nat)(σ:St):St:=List.replicate k none++js.map fun j=>(σ[j]?).join
noncomputable def pk(own:List Str)(js:List Nat)(N:List Str):List Str:=own++js.map fun j=>N.getD j Str.empty
section
variable {X:Cx}
theorem Inv.capFree{pins:List (Addr×Obj)}{σ:St}{H:Hp}{s:Shared}{scope:Scope}(I:Inv X pins σ H s)(hk:bw scope X.env.scope):∀x∈scope.names,x.2=.free->∃c,X.env.cells.lookup x.1=some c:=
 fun x hx e=>I.ok.has x.1 (hk.free x hx e)
theorem Inv.capL{pins:List (Addr×Obj)}{σ:St}{H:Hp}{s:Shared}{scope:Scope}{x:Str}{c:Addr}(I:Inv X pins σ H s)(hk:bw scope X.env.scope)(e:(fM X.env scope.names []).lookup x=some c):X.env.cells.lookup x=some c:=
 i7 (I.capFree hk) (fun _ _ z=>by simp at z) e
theorem Inv.blkL{pins:List (Addr×Obj)}{σ:St}{H:Hp}{s:Shared}{scope:Scope}{C:Addr}{x:Str}{c:Addr}(I:Inv X pins σ H s)(hk:bw scope X.env.scope)(e:(dO X.env scope C).lookup x=some c) :
  ((x,c)∈cellsFrom (C+1) scope.names []/\C<c/\(x,NameKind.cell)∈scope.names)\/X.env.cells.lookup x=some c:=
 (i9 e).imp id fun z=>I.capL hk z.2
theorem B'{pins:List (Addr×Obj)}{σ:St}{H:Hp}{s:Shared}{N':List Str}{scope:Scope}{fp:List Addr}{C:Addr}(I:Inv X pins σ H s)(hk:bw scope X.env.scope)(hC:s.heap.objs.size<=C)
  (hf:∀b∈fp,nN X pins H b) (ho:∀b∈fp,∃o,s.heap.get? b=some o):(X.blk N' s H scope fp C).Ok where
 mod:=I.ok.mod
 kind:=hk.kind
 glob:=I.ok.glob
 blt:=I.ok.blt
 above:=hC
 inj:=fun x y c e1 e2=>by
  have low:∀z,X.env.cells.lookup z=some c->c<C:=fun z e=>by
   obtain⟨v,q⟩:=I.cell z c e;exact HJ q.lt hC
  rcases I.blkL hk e1 with⟨a1,a2,_⟩ | a<;>rcases I.blkL hk e2 with⟨b1,b2,_⟩ | b
  ·exact name_of_addr pS a1 b1
  ·exact absurd (low _ b) (Nat.not_lt.mpr (Nat.le_of_lt a2))
  ·exact absurd (low _ a) (Nat.not_lt.mpr (Nat.le_of_lt b2))
  ·exact I.ok.inj x y c a b
 has:=fun x h=>by
  refine rM ?_;have z:(x,NameKind.free)∈scope.names\/(x,NameKind.cell)∈scope.names:=by
   rcases h with h | h
   ·exact gc (osc:=X.env.scope) h (.inl rfl)
   ·exact gc (osc:=X.env.scope) h (.inr rfl)
  rcases z with z | z
  ·exact .inr (nU (.inr z))
  ·exact .inl z
 cab:=fun x c z e=>by
  have z':(x,NameKind.cell)∈scope.names:=by
   have z2:scope.names.contains (x,NameKind.cell)=true:=z
   simpa using z2
  have e':(dO X.env scope C).lookup x=some c:=e;rcases i9 e' with⟨_,a,_⟩ | ⟨a,_⟩
  ·exact HY hC (Nat.le_of_lt a)
  ·obtain⟨d,q⟩:=rM (n:=C+1) (acc:=[]) (.inl z')
   rw[a]at q;cases q
 hd:=I.ok.hd
 frames:=I.ok.frames
 stk:=.inl rfl
 exf:=fun b hb=>⟨fun e=>by
  obtain⟨o,q⟩:=ho b hb;have e':b=C:=e;rw[e']at q;exact absurd (HS q) (Nat.not_lt.mpr hC),fun x c e=>by
  rcases I.blkL hk e with⟨_,a,_⟩ | a
  ·obtain⟨o,q⟩:=ho b hb
   intro z;rw[z]at a;exact absurd (HJ (HS q) hC) (Nat.not_lt.mpr (Nat.le_of_lt a))
  ·exact(hf b hb).2.2.2.2.1 x c a⟩
 bs:=I.bs
 bsz:=HY I.ok.bsz I.sz
 noex:=fun b o e hb=>by
  rcases(hf b hb).2.2.2.1 with z | z
  ·exact I.ok.noex b o e z
  ·exact absurd (HS (I.ok.bs b o e).1) (Nat.not_lt.mpr z)
 exfs:=fun b hb hs=>by
  rcases HF.mp (I.stkSub b hs) with z | z
  ·exact(hf b hb).2.1 z
  ·exact(hf b hb).2.2.1 z
 funs:=I.stack
 frf:=I.stkFree
theorem xI{pins:List (Addr×Obj)}{σ:St}{H:Hp}{s s1:Shared}{own:List Str}{js:List Nat}{scope:Scope}{fp:List Addr}{C:Addr}{m:Str->Option Value}(I:Inv X pins σ H s)(hk:bw scope X.env.scope)(hC:s.heap.objs.size<=C)
  (hf:∀b∈fp,nN X pins H b) (ho:∀b∈fp,∃o,s.heap.get? b=some o) (hos:s1.os=s.os) (hg:s1.gens=s.gens) (hn:s1.heap.Ns C m) (keep:∀b o,s.heap.get? b=some o->s1.heap.get? b=some o)
  (hown:∀x c,(x,c)∈cellsFrom (C+1) scope.names []->s1.heap.IsCell c none) (hcap:(js.all fun j=>scope.names.contains (X.N.getD j Str.empty,NameKind.free))=true) :
  Inv (X.blk (pk own js X.N) s H scope fp C) [] (rB own.length js σ) H s1:=by
 have cl:=fun{x:Str} {c:Addr} (e:(fM X.env scope.names []).lookup x=some c)=>i7 (I.capFree hk) (fun _ _ z=>by simp at z) e;refine⟨B' I hk hC hf ho,hos,hg▸I.bare,Un.kept keep,⟨m,hn,fun i x v e1 e2 e3=>?_⟩,fun x c e=>?_,I.hok.fresh hC,fun x c e=>(I.blkL hk e).elim (fun z=>I.hok.fresh (HY hC (Nat.le_of_lt z.2.1))) fun z=>I.freeC x c z,fun p hp=>(nomatch hp),I.hok.kept keep,?_⟩
 ·have e1':(own++js.map fun j=>X.N.getD j Str.empty)[i]?=some x:=e1
  have e2':(List.replicate own.length none++js.map fun j=>(σ[j]?).join)[i]?=some (some v):=e2
  by_cases hi:i<own.length
  ·rw[HM (by rw[List.length_replicate];exact hi),List.getElem?_replicate,if_pos hi]at e2'
   cases e2'
  ·have hi':own.length<=i:=Nat.le_of_not_lt hi
   rw[HL (by rw[List.length_replicate];exact hi'),List.length_replicate,Ho]at e2';rw[HL hi',Ho]at e1';cases ej:js[i-own.length]? with
   |none=>rw[ej]at e1';cases e1'
   |some j=>
    rw[ej]at e1' e2';have ex:X.N.getD j Str.empty=x:=Option.some.inj e1';have ev:(σ[j]?).join=some v:=Option.some.inj e2';have hj:σ[j]?=some (some v):=by
     cases q:σ[j]? with
     |none=>rw[q]at ev;cases ev
     |some z=>rw[q]at ev;simp at ev;rw[ev]
    have hjl:j<X.N.length:=by rw[<- I.len];exact(Hk.mp hj).1
    have hN:X.N[j]?=some x:=by rw[<- ex,List.getD_eq_getElem?_getD,Hj hjl];rfl
    have hx:(x,NameKind.free)∈scope.names:=by
     have q:=Ik.mp hcap j (Hq ej);rw[ex]at q
     simpa using q
    have ko:=hk.free _ hx rfl;obtain⟨mo,hno,hl⟩:=I.loc;obtain⟨u,ru,lk⟩:=hl j x v hN hj (ko.elim (fun z=>.inr (.inl z)) fun z=>.inr (.inr z));refine⟨u,ru,?_⟩;rcases lk with⟨kk,_⟩ | ⟨kk,c,ec,hc⟩
    ·rcases ko with z | z
     ·rw[show X.env.kindOf x=X.env.scope.names.lookup x from rfl,z]at kk;cases kk
     ·rw[show X.env.kindOf x=X.env.scope.names.lookup x from rfl,z]at kk;cases kk
    ·obtain⟨c',hc'⟩:=nU (env:=X.env) (ns:=scope.names) (acc:=[]) (x:=x) (.inr hx)
     have:=cl hc';rw[ec]at this;cases this;refine .inr ⟨?_,c,?_,hc.keeps keep⟩
     case refine_2=>
      show(dO X.env scope C).lookup x=some c;unfold dO;rw[ju,List.lookup_append,yz (hk.sep _ hx rfl)];exact hc'
     -- its kind within the block
     rcases e3 with z | z | z
     ·exact absurd z (hk.nl _ hx rfl)
     ·exact .inl z
     ·exact .inr z
 ·rcases I.blkL hk e with z | z
  ·exact⟨none,hown x c z.1⟩
  ·obtain⟨v,z⟩:=I.cell x c z
   exact⟨v,z.keeps keep⟩
 ·show(List.replicate own.length none++js.map fun j=>(σ[j]?).join).length=(own++js.map fun j=>X.N.getD j Str.empty).length
  simp
noncomputable def B5(env:Env)(ifs:List Expr):Sem Bool:=forIn ifs true fun c r=>if r=true then do let ok <- isTrue c env (eval c env);pure (ForInStep.yield ok) else pure (ForInStep.yield r)
theorem sZ{prog:Program}{w:World}{A:Around}{R:Result->Shared->Prop}{s:Shared}{elt target iter:Expr}{ifs:List Expr}{scope:Scope}{pos:Pos}{it acc:Value}{env:Env}(I:Nat->Shared->Prop)
  (turn:∀n s,I n s->wpAny (model prog w) A (pyNext it) (fun r s₁=>match r with
   |none=>R (.ok .next) s₁
   |some v=>wpAny (model prog w) A (letOwnedTupleGo target it v) (fun _ s₁'=>wpAny (model prog w) A (assign target env v) (fun _ s₂=>
     wpAny (model prog w) A (B5 env ifs) (fun ok s₃=>
      if ok=true then wpAny (model prog w) A (eval elt env) (fun x s₄=>
       wpAny (model prog w) A (call (.builtin "list.append") [acc,x]) (fun _ s₅=>∃m,m<n/\I m s₅) (fun _ _=>False) s₄) (fun _ _=>False) s₃
      else ∃m,m<n/\I m s₃) (fun _ _=>False) s₂) (fun _ _=>False) s₁') (fun _ _=>False) s₁) (fun _ _=>False) s)
  (n:Nat) (h:I n s) :
  codeAny (model prog w) A (.compLoop (.ListComp elt [⟨target,iter,ifs,0⟩] scope pos) 0 it acc env) R s:=by
 refine codeAny_loop rfl I (fun n s hI=>?_) n h;show wpAny _ A ((compTurn (.ListComp elt [⟨target,iter,ifs,0⟩] scope pos) 0 it acc env).onRaise (fun x=>do noteFrame x env;theTreesLotGoes x)) _ _ s;refine wpAny_noted ?_;rw[compTurn_list];have up:∀{α:Type} {t:Sem α} {Q Q':α->Shared->Prop} {E':Value->Shared->Prop} {s:Shared},wpAny (model prog w) A t Q (fun _ _=>False) s->(∀a s,Q a s->Q' a s)->wpAny (model prog w) A t Q' E' s:=
  fun h hQ=>wpAny_mono h hQ fun _ _ f=>f.elim
 refine wpAny_bind (wpAny_standAt (wpAny_bind (up (turn n s hI) fun r s₁ h₁=>?_)));cases r with
 |none=>exact wpAny_pure h₁
 |some v=>
  refine wpAny_bind (up h₁ fun _ s₁' h₁'=>wpAny_bind (up h₁' fun _ s₂ h₂=>wpAny_bind (up h₂ fun ok s₃ h₃=>?_)));cases ok with
  |false=>exact wpAny_pure ⟨rfl,h₃⟩
  |true=>
   exact wpAny_bind (wpAny_bind (up h₃ fun x s₄ h₄=>wpAny_bind (up h₄ fun _ s₅ h₅=>wpAny_pure (wpAny_pure ⟨rfl,h₅⟩))))
noncomputable def D2(X:Cx)(ifs:List Expr)(t:TT):Prop:=
 ∀(pins:List (Addr×Obj)) (s:Shared) (σ:St) (H:Hp) (Q:Bool->Hp->Prop),Inv X pins σ H s->t σ H Q->wpAny (model X.prog X.w) X.A (B5 X.env ifs) (TP X pins σ Q) X.xe s
noncomputable def tZ:TT:=fun _ H Q=>Q true H
theorem bI{X:Cx}:D2 X [] tZ:=fun pins s σ H Q I h=>wpAny_tests_nil ⟨H,I,h⟩
noncomputable def gR(J:It)(g:TG)(ti:TT)(te:TE)(σ:St)(H:Hp)(Q:List V->Hp->Prop):Prop:=
 ∃W:Nat->Nat->List V->St->Hp->Prop,(∃m,W 0 m [] σ H)/\∀i m acc σ' H',W i m acc σ' H' ->
  acc.length<sizeLine/\((J.stop i H'/\Q acc H') \/
   (J.go i H'/\∃N:List V->St->Hp->Prop,(∀acc' σ2 H2,N acc' σ2 H2->∃m',m'<m/\W (i+1) m' acc' σ2 H2) /\
    ∀x H2,J.yld i H' x H2->g x σ' H2 fun σ2 H3=>ti σ2 H3 fun b H4=>if b=true then te σ2 H4 fun v H5=>N (acc++[v]) σ2 H5 else N acc σ2 H4))
noncomputable def wZ(k:Nat)(js:List Nat)(wi:TI)(g:TG)(ti:TT)(te:TE):TE:=fun σ H Q=>wi σ H fun J H1=>gR J g ti te (rB k js σ) H1 fun acc H'=>∀l,H' l=none->Q (.ref l) (aB H' l (.lst acc))
noncomputable abbrev gL(its:List Value)(n:Nat):Obj:={cls:=.type "list",data:=.seq its.toArray n}
theorem qZ{pins:List (Addr×Obj)}{σ:St}{H:Hp}{s:Shared}{elt tg iter:Expr}{ifs:List Expr}{scope:Scope}{pos:Pos}{own:List Str}{js:List Nat}{g:TG}{ti:TT}{te:TE}{J:It}{fp:List Addr}{it:Addr}{tn:Nat->Heap->Prop}{Q:List V->Hp->Prop}{E:Value->Shared->Prop}
  {RR:Value->Addr->Result->Shared->Prop} (hc:X.calm=true) (hk:bw scope X.env.scope) (hcap:(js.all fun j=>scope.names.contains (X.N.getD j Str.empty,NameKind.free))=true)
  (hg:∀s H fp C,PG (X.blk (pk own js X.N) s H scope fp C) tg g) (hi:∀s H fp C,D2 (X.blk (pk own js X.N) s H scope fp C) ifs ti) (he:∀s H fp C,PE (X.blk (pk own js X.N) s H scope fp C) elt te)
  (I:Inv X pins σ H s) (T:oq X.prog X.w X.K tg J fp it tn) (st:tn 0 s.heap) (hf:∀b∈fp,nN X pins H b)
  (hW:gR J g ti te (rB own.length js σ) H Q)
  (hRR:∀(D C:Addr) (s':Shared) (H':Hp) (acc:List V) (m:Str->Option Value),Q acc H'->H' D=none->Inv X pins σ (aB H' D (.lst acc)) s'->s'.heap.Ns C m->aB H' D (.lst acc) C=none->C≠X.env.locals->X.s₀.heap.objs.size<=C ->
   (∀x c,X.env.cells.lookup x=some c->c≠C)->(∀p∈X.pn++pins,p.1≠C)->RR (.ref D) C (.ok .next) s') :
  wpAny (model X.prog X.w) X.A (newList []) (fun acc s₃=>wpAny (model X.prog X.w) X.A (newFunctionEnv scope X.env.globals (fM X.env scope.names []) [] X.env.qual none .none (some X.env)) (fun cenv s₄=>
   codeAny (model X.prog X.w) X.A (.compStart (.ListComp elt [⟨tg,iter,ifs,0⟩] scope pos) 0 (.ref it) acc {cenv with scope:=relabel scope X.env}) (RR acc cenv.locals) s₄) E s₃) E s:=by
 obtain⟨W,⟨m0,w0⟩,turn⟩:=hW;refine wpAny_newObj_type (fN ?_);dsimp only;generalize hH2:s.heap.push {cls:=.type "list",dict:=none,data:=.seq ([]:List Value).toArray}=H2;generalize hh1:pushCells (H2.push {cls:=.type "dict",data:=.dict #[]}) scope.names=h₁;have hpk:∀b o,(H2.push {cls:=.type "dict",data:=.dict #[]}).get? b=some o->h₁.get? b=some o:=fun b o e=>hh1▸pushCells_keeps _ _ b o e;have hns₁:h₁.Ns H2.objs.size fun _=>none:=by
  have q:(H2.push {cls:=.type "dict",data:=.dict #[]}).Ns H2.objs.size fun _=>none:=Heap.Ns.new ..;exact q.at' fun o e=>hpk _ o e
 have hown₁:∀x c,(x,c)∈cellsFrom (H2.objs.size+1) scope.names []->h₁.IsCell c none:=fun x c e=>by
  have ok:=cellsFrom_ok scope.names (H2.push {cls:=.type "dict",data:=.dict #[]}) (H2.objs.size+1) [] ⟨fun _ _ hm=>(nomatch hm),List.Pairwise.nil⟩ (by rw[Heap.size_push];exact HP _);rw[Heap.size_push,hh1]at ok;exact(ok.empty x c e).1
 have hC:H2.objs.size=s.heap.objs.size+1:=by rw[<- hH2,Heap.size_push]
 have hDC:s.heap.objs.size≠H2.objs.size:=by rw[hC];exact HK (H_ _)
 have hCle:s.heap.objs.size<=H2.objs.size:=by rw[hC];exact Nat.le_succ _
 have below:∀b,b<s.heap.objs.size->b≠H2.objs.size/\b≠s.heap.objs.size:=fun b hb=>⟨by rw[hC];exact HK (Nat.lt_succ_of_lt hb),HK hb⟩;have old:∀b o,s.heap.get? b=some o->h₁.get? b=some o:=fun b o e=>hpk b o (Hl _ (hH2▸Hl _ e));have hacc:h₁.get? s.heap.objs.size=some (gL [] 0):=hpk _ _ (Hl _ (hH2▸Hs _ rfl));have hob:∀b∈fp,∃o,s.heap.get? b=some o:=fun b hb=>let ⟨o,e,_⟩:=T.obj 0 _ st b hb;⟨o,e⟩
 have st₁:tn 0 h₁:=T.keep 0 _ _ st fun b _ o e=>old b o e;generalize hXb:X.blk (pk own js X.N) s H scope fp H2.objs.size=Xb;have I₁:Inv Xb [] (rB own.length js σ) H {s with heap:=h₁}:=hXb▸xI I hk hCle hf hob rfl rfl hns₁ old hown₁ hcap;have eP:Xb.prog=X.prog:=by rw[<- hXb];rfl
 have ew:Xb.w=X.w:=by rw[<- hXb];rfl
 have eK:Xb.K=X.K:=by rw[<- hXb];rfl
 have eA:Xb.A=X.A:=by rw[<- hXb];rfl
 have ec:Xb.calm=true:=by rw[<- hXb];exact hc
 have eE:Xb.env=compEnvC scope (dO X.env scope H2.objs.size) H2.objs.size X.env:=by rw[<- hXb];rfl
 have ex:Xb.xe=fun _ _=>False:=by rw[<- hXb];rfl
 have es:Xb.s₀=s:=by rw[<- hXb];rfl
 have eh:Xb.H₀=H:=by rw[<- hXb];rfl
 have ef:Xb.fs=il X.stack:=by rw[<- hXb];rfl
 have exx:Xb.ex=fp:=by rw[<- hXb];rfl
 have ep:Xb.pn=[]:=by rw[<- hXb];rfl
 have eL:Xb.env.locals=H2.objs.size:=by rw[eE];rfl
 have hD0:H s.heap.objs.size=none:=I.hok.fresh (HP _)
 -- D is no iterator's,no frame's
 have hDf:∀b∈fp,b≠s.heap.objs.size:=fun b hb e=>by
  obtain⟨o,q⟩:=hob b hb;rw[e]at q;exact absurd (HS q) (HZ _)
 have hDs:s.heap.objs.size∉Xb.fs:=fun z=>by
  rw[ef]at z;rcases HF.mp (I.stkSub _ z) with q | q
  ·exact absurd I.lt (by rw[<- q];exact HZ _)
  ·exact I.nofs (HP _) q
 have hDcell:∀x c,Xb.env.cells.lookup x=some c->c≠s.heap.objs.size:=fun x c e q=>by
  rcases I.blkL hk (C:=H2.objs.size) (x:=x) (c:=c) (by rw[eE]at e;exact e) with⟨_,z,_⟩ | z
  ·rw[q]at z
   exact absurd hCle (Nat.not_le.mpr z)
  ·obtain⟨v,o,ho,_⟩:=I.cell x c z
   rw[q]at ho;exact absurd (HS ho) (HZ _)
 have stat:∀{pl:List (Addr×Obj)} {H':Hp},(∀b∈fp,H' b=none)->(∀p∈pl,p.1=s.heap.objs.size)->∀b∈fp,nN Xb pl H' b:=fun hn hp b hb=>by
  refine⟨hn b hb,?_,?_,.inl (by rw[exx];exact hb),fun x c e=>?_,fun p hpp=>?_⟩
  ·rw[eL];exact(below b (let ⟨o,q⟩:=hob b hb;HS q)).1
  ·rw[ef];intro z
   rcases HF.mp (I.stkSub b z) with q | q
   ·exact(hf b hb).2.1 q
   ·exact(hf b hb).2.2.1 q
  ·rcases I.blkL hk (C:=H2.objs.size) (x:=x) (c:=c) (by rw[eE]at e;exact e) with⟨_,z,_⟩ | z
   ·intro q
    rw[q]at z;obtain⟨o,q2⟩:=hob b hb;exact absurd (HJ (HS q2) hCle) (Nat.not_lt.mpr (Nat.le_of_lt z))
   ·exact(hf b hb).2.2.2.2.1 x c z
  ·rw[ep,Io]at hpp
   rw[hp p hpp];exact(hDf b hb).symm
 have loop:∀s₃:Shared,s₃={s with heap:=h₁} ->
   codeAny (model X.prog X.w) X.A (.compLoop (.ListComp elt [⟨tg,iter,ifs,0⟩] scope pos) 0 (.ref it) (.ref s.heap.objs.size) (compEnvC scope (dO X.env scope H2.objs.size) H2.objs.size X.env))
    (RR (.ref s.heap.objs.size) H2.objs.size) s₃:=by
  rintro s₃ rfl;refine sZ (fun n s'=>∃(i:Nat) (acc:List V) (its:List Value) (k:Nat) (σ':St) (H':Hp),Inv Xb [] σ' H' s'/\tn i s'.heap/\(∀b∈fp,H' b=none)/\H' s.heap.objs.size=none/\s'.heap.get? s.heap.objs.size=some (gL its k)/\aZ acc its/\W i n acc σ' H')
   ?_ m0 ⟨0,[],[],0,_,H,I₁,st₁,fun b hb=>(hf b hb).1,hD0,hacc,.nil,w0⟩
  rintro n s' ⟨i,acc,its,k,σ',H',I',st',fr',hD',oD',rv',w'⟩;obtain⟨hlen,tt⟩:=turn i n acc σ' H' w'
  -- the gathered list,pinned
  have Ip:Inv Xb [(s.heap.objs.size,gL its k)] σ' H' s':=I'.pins_of fun p hp=>by
   have e:p=(s.heap.objs.size,gL its k):=by simpa using hp
   subst e;exact⟨oD',hD',by rw[eL];exact hDC,hDs,fun v z=>by cases z⟩
  have hpl:∀p∈[(s.heap.objs.size,gL its k)],p.1=s.heap.objs.size:=fun p hp=>by
   have e:p=(s.heap.objs.size,gL its k):=by simpa using hp
   rw[e]
  rcases tt with⟨stop,q⟩ | ⟨go,N,hN,step⟩
  ·have d:=T.done Xb eP ew eK ec i _ s' σ' H' (fun _ _=>False) Ip (stat fr' hpl) st' stop
   rw[eA]at d;refine wpAny_mono d (fun r s1 hr=>?_) fun _ _ z=>z;obtain⟨rfl,I1⟩:=hr;have oD1:s1.heap.get? s.heap.objs.size=some (gL its k):=(I1.pin _ (List.mem_append_right _ (Hn.mpr rfl))).1;obtain⟨mC,hnC,_⟩:=I1.loc;rw[eL]at hnC;obtain⟨oC,_,_,hoC,_⟩:=id hnC;have hCH:H' H2.objs.size=none:=by have:=I1.free;rwa [eL]at this
   have ub:Un (il X.stack) fp H H' s.heap s1.heap:=by have:=I1.base;rwa [ef,exx,eh,es]at this
   refine hRR _ _ s1 H' acc mC q hD' ?_ hnC ?_ ?_ ?_ ?_ ?_
   ·-- E4 outside
    refine I.call' (ch:=fp) (by have:=I1.os;rwa [es]at this) ⟨fun b o e n1 h1 h2=>ub.keep b o e n1 h1 h2,fun b o e n1 h1 h2=>ub.slot b o e n1 h1 h2,fun b o e n1 h1=>?_,ub.there,fun b xs e=>?_,fun b o u e=>?_,fun b ps e=>?_⟩ ?_ (by have:=I1.bare;exact this) fun b hb=>?_
    ·rw[ai (fun z=>by rw[z]at e;exact absurd (HS e) (HZ _))]
     exact ub.free b o e n1 h1
    ·rw[ai (aG (ub.tups b xs e) hD')]
     exact ub.tups b xs e
    ·rw[ai (aG (ub.frzs b o u e) hD')]
     exact ub.frzs b o u e
    ·obtain⟨more,z⟩:=ub.tbls b ps e
     exact⟨more,by rw[ai (aG z hD')];exact z⟩
    ·intro b u e
     have hokb:=I1.hok;rw[eP,ew]at hokb
     by_cases hb:b=s.heap.objs.size
     ·subst hb
      rw[ac]at e;cases e;exact⟨Nat.le_of_lt hlen,its,k,rv',oD1⟩
     ·rw[ai hb]at e
      refine(hokb b u e).stay (fun c v _ z=>z) (fun c z=>?_) fun c xs z=>?_
      ·rw[ai (aG z hD')];exact z
      ·rw[ai (aG z hD')];exact z
    ·exact⟨(hf b hb).2.2.2.1,(hf b hb).2.1,(hf b hb).2.2.2.2.1,(hf b hb).2.2.2.2.2⟩
   ·rw[ai hDC.symm];exact hCH
   ·intro z;have:=I.lt;rw[<- z]at this;exact absurd this (Nat.not_lt.mpr hCle)
   ·exact HY I.sz hCle
   ·intro x c e z
    obtain⟨v,o,ho,_⟩:=I.cell x c e;rw[z]at ho;exact absurd (HS ho) (Nat.not_lt.mpr hCle)
   ·intro p hp z
    have:=(I.pin p hp).1;rw[z]at this;exact absurd (HS this) (Nat.not_lt.mpr hCle)
  ·have d:=T.item Xb eP ew eK ec i _ s' σ' H' (fun _ _=>False) Ip (stat fr' hpl) st' go
   rw[eA]at d;refine wpAny_mono d (fun r s1 hr=>?_) fun _ _ z=>z;obtain⟨u,rfl,d2⟩:=hr;refine wpAny_mono d2 (fun _ s2 hr2=>?_) fun _ _ z=>z;obtain⟨x,H2',I2,r2,y2,st2,fr2⟩:=hr2;have I2':=I2.pinned (stat fr2 hpl) (T.obj _ _ st2);have G:=hXb▸hg s H fp H2.objs.size;have d3:=G _ s2 σ' H2' x u _ I2' r2 (step x H2' y2);rw[eP,ew,eA,ex,eE]at d3;refine wpAny_mono d3 (fun _ s3 hr3=>?_) fun _ _ z=>z;obtain⟨σ3,H3,I3,q3⟩:=hr3;have Gi:=hXb▸hi s H fp H2.objs.size;have d4:=Gi _ s3 σ3 H3 _ I3 q3;rw[eP,ew,eA,ex,eE]at d4;refine wpAny_mono d4 (fun b s4 hr4=>?_) fun _ _ z=>z;obtain⟨H4,I4,q4⟩:=hr4;have again:∀{s5:Shared} {H5:Hp} {σ5:St},Inv Xb ([(s.heap.objs.size,gL its k)]++pB fp s2.heap) σ5 H5 s5->s5.heap.get? s.heap.objs.size=some (gL its k)/\H5 s.heap.objs.size=none/\tn (i+1) s5.heap/\∀b∈fp,H5 b=none:=fun{s5 H5 σ5} I5=>by
    have pD:=I5.pin (s.heap.objs.size,gL its k) (List.mem_append_right _ (List.mem_append_left _ (Hn.mpr rfl)));refine⟨pD.1,pD.2.1,T.keep _ _ _ st2 fun b hb o e=>(I5.pin (b,o) (List.mem_append_right _ (List.mem_append_right _ (h_ hb e)))).1,fun b hb=>?_⟩;obtain⟨o,e,_⟩:=T.obj _ _ st2 b hb;exact(I5.pin (b,o) (List.mem_append_right _ (List.mem_append_right _ (h_ hb e)))).2.1
   have bare:∀{s5:Shared} {H5:Hp} {σ5:St} {pl:List (Addr×Obj)},Inv Xb pl σ5 H5 s5->Inv Xb [] σ5 H5 s5:=fun I5=>I5.pins_of fun p hp=>nomatch hp;cases b with
   |false=>
    obtain⟨m',hm,w5⟩:=hN _ _ _ q4;obtain⟨a1,a2,a3,a4⟩:=again I4;exact⟨m',hm,i+1,acc,its,k,σ3,H4,bare I4,a3,a4,a2,a1,rv',w5⟩
   |true=>
    have Ge:=hXb▸he s H fp H2.objs.size;have d5:=Ge _ s4 σ3 H4 _ I4 q4;rw[eP,ew,eA,ex,eE]at d5;refine wpAny_mono d5 (fun y s5 hr5=>?_) fun _ _ z=>z;obtain⟨v,H5,I5,r5,q5⟩:=hr5;obtain⟨m',hm,w5⟩:=hN _ _ _ q5;obtain⟨a1,a2,a3,a4⟩:=again I5;have hl:=rv'.length;refine call_meets F.slot_list_append ⟨_,a1,rfl⟩ F.entry_list_append (F.args_list_append_2 _ _) (PySem.list_append s.heap.objs.size its.toArray k y (by rw[Ht];omega)) ⟨a1,?_⟩;have qu:=PySem.IsL.update a1 (fun x_1=>x_1.push y);have qe:(its.toArray.push y)=(its++[y]).toArray:=by simp
    rw[qe]at qu;have I6:Inv Xb [] σ3 H5 {s5 with heap:=s5.heap.update s.heap.objs.size (Obj.mapSeq fun x_1=>x_1.push y),toks:=s5.toks}:=
     (bare I5).turned (fun b o hb e=>(Hr s5.heap _ (Ne.symm hb)).trans e) a2 (by rw[eL];exact hDC) (.inr (by rw[es];exact HP _)) hDcell (by rw[ep];intro p hp;exact nomatch hp)
    refine⟨m',hm,i+1,acc++[v],its++[y],_,σ3,H5,I6,T.keep _ _ _ a3 (fun b hb o e=>(Hr s5.heap _ (hDf b hb).symm).trans e),a4,a2,qu,rv'.append (.cons r5 .nil),w5⟩
 refine codeAny_compStart_list (loop _ rfl) ?_;exact T.self _ 0 _ _ _ st₁ (loop _ rfl)
theorem bS{elt tg iter:Expr}{ifs:List Expr}{scope:Scope}{pos:Pos}(own:List Str)(js:List Nat){wi:TI}{g:TG}{ti:TT}{te:TE}(hc:X.calm=true)(hk:bw scope X.env.scope)
  (hcap:(js.all fun j=>scope.names.contains (X.N.getD j Str.empty,NameKind.free))=true) (hw:PI X tg iter wi)
  (hg:∀s H fp C,PG (X.blk (pk own js X.N) s H scope fp C) tg g) (hi:∀s H fp C,D2 (X.blk (pk own js X.N) s H scope fp C) ifs ti) (he:∀s H fp C,PE (X.blk (pk own js X.N) s H scope fp C) elt te)
  (hs:∀x,foldedSetIterable iter X.env x=pure x:=by intro _;rfl):PE X (.ListComp elt [⟨tg,iter,ifs,0⟩] scope pos) (wZ own.length js wi g ti te):=by
 intro pins s σ H Q I h;rw[eval_ListComp];refine wpAny_comprehension_free (use:=none) rfl hs (jA (I.capFree hk)) hk.kind hk.loc (bF (hw pins s σ H _ I h) fun v s1 h1=>bF h1 fun itv s2 h2=>?_);obtain⟨it,fp,tn,J,H2,rfl,I2,T,st2,f2,hW⟩:=h2;refine qZ (RR:=fun acc C=>compPost (model X.prog X.w) X.A X.xe none (EP X pins σ Q) acc C) (Q:=fun acc H'=>∀l,H' l=none->Q (.ref l) (aB H' l (.lst acc))) hc hk hcap hg hi he I2 T st2 f2 hW ?_;intro D C s' H' acc m q hD I' hn hC0 hCL hCs hCc hCp;refine⟨m,hn,fun h' sb=>?_⟩;exact⟨.ref D,_,I'.turned (t':=s'.toks) (fun b o hb e=>(sb.2 b hb).trans e) hC0 hCL (.inr hCs) hCc hCp,rfl,q D hD⟩
theorem oM{i:Nat}{x:Str}{elt tg iter:Expr}{ifs:List Expr}{scope:Scope}{pos spos:Pos}{px:Pos}(own:List Str)(js:List Nat){wi:TI}{g:TG}{ti:TT}{te:TE}(hN:X.N.Nodup)(hxi:X.N[i]?=some x)(hx:Loc X.env.scope x)
  (hsw:swapsWith (.ListComp elt [⟨tg,iter,ifs,0⟩] scope pos) (some (.Name x px)) spos.line X.env=pure true)
  (hc:X.calm=true) (hk:bw scope X.env.scope)
  (hcap:(js.all fun j=>scope.names.contains (X.N.getD j Str.empty,NameKind.free))=true) (hw:PI X tg iter wi)
  (hg:∀s H fp C,PG (X.blk (pk own js X.N) s H scope fp C) tg g) (hi:∀s H fp C,D2 (X.blk (pk own js X.N) s H scope fp C) ifs ti) (he:∀s H fp C,PE (X.blk (pk own js X.N) s H scope fp C) elt te)
  (hs:∀x,foldedSetIterable iter X.env x=pure x:=by intro _;rfl) (hf:X.fn x=true\/X.env.scope.names.lookup x=some .local:=by first | exact .inl rfl | exact .inr rfl | assumption) :
  PS X (.Assign [.Name x px] (.ListComp elt [⟨tg,iter,ifs,0⟩] scope pos) spos) (vg (wZ own.length js wi g ti te) (jd i)):=by
 intro pins s σ H Dn I h;rw[exec_Assign_Name_used _ _ _ _ hsw];refine wpAny_bind (wpAny_standAt (wpAny_bind ?_));show wpAny _ _ (do let _ <- comprehension (.ListComp elt [⟨tg,iter,ifs,0⟩] scope pos) scope X.env _ (newList []) false (eval iter X.env) (some (assign (.Name x px) X.env))) _ _ s;refine wpAny_bind (wpAny_mono (wpAny_comprehension_free (use:=some (assign (.Name x px) X.env)) (Q:=fun _ s'=>SP X pins Dn .next s') (E:=X.xe) rfl hs (jA (I.capFree hk)) hk.kind hk.loc ?_) (fun _ s' q=>wpAny_pure (wpAny_pure q)) fun _ _ z=>z);refine(bF (hw pins s σ H _ I h) fun v s1 h1=>bF h1 fun itv s2 h2=>?_);obtain⟨it,fp,tn,J,H2,rfl,I2,T,st2,f2,hW⟩:=h2;refine qZ (RR:=fun acc C=>compPost (model X.prog X.w) X.A X.xe (some (assign (.Name x px) X.env)) (fun _ s'=>SP X pins Dn .next s') acc C) (Q:=fun acc H'=>∀l,H' l=none->jd i (.ref l) σ (aB H' l (.lst acc)) Dn.nx) hc hk hcap hg hi he I2 T st2 f2 hW ?_;intro D C s' H' acc m q hD I' hn hC0 hCL hCs hCc hCp;show wpAny _ _ (assign (.Name x px) X.env (.ref D)) _ _ s';refine wpAny_assign_Name (qX I' hN hxi hx (v:=.ref D) rfl (fun s'' I'' sb=>?_) hf);obtain⟨a,sb,ha⟩:=sb;have hCa:C≠a:=by
  rcases ha with z | z
  ·rw[z];exact hCL
  ·exact(hCc x a z).symm
 refine⟨m,hn.sameBut sb hCa,fun h' sb'=>?_⟩;exact⟨_,_,I''.turned (t':=s''.toks) (fun b o hb e=>(sb'.2 b hb).trans e) hC0 hCL (.inr hCs) hCc hCp,q D hD⟩
end
section
variable {K:PySem.W.Frag}{g:TG}{ti:TT}{te:TE}{σ:St}{H:Hp}{Q:List V->Hp->Prop}
theorem jW{J:It}{n:Nat}(Pv:Nat->List V->St->Hp->Prop)(h0:Pv 0 [] σ H)(hz:∀i acc σ H,Pv i acc σ H->acc.length<sizeLine)(hi:∀i acc σ H,Pv i acc σ H->i<=n)
  (stop:∀acc σ H,Pv n acc σ H->J.stop n H) (go:∀i acc σ H,i<n->Pv i acc σ H->J.go i H)
  (hs:∀i x acc σ H H2,i<n->Pv i acc σ H->J.yld i H x H2->g x σ H2 fun σ2 H3=>ti σ2 H3 fun b H4=>if b=true then te σ2 H4 fun v H5=>Pv (i+1) (acc++[v]) σ2 H5 else Pv (i+1) acc σ2 H4)
  (he:∀acc σ H,Pv n acc σ H->Q acc H) :
  gR J g ti te σ H Q:=by
 refine⟨fun i m acc σ H=>Pv i acc σ H/\m=n+1-i,⟨n+1,h0,rfl⟩,?_⟩;rintro i m acc σ' H' ⟨w,rfl⟩;refine⟨hz i acc σ' H' w,?_⟩;have hle:=hi i acc σ' H' w;rcases Nat.lt_or_ge i n with hlt | hge
 ·refine .inr ⟨go i acc σ' H' hlt w,fun acc' σ2 H2=>Pv (i+1) acc' σ2 H2,fun acc' σ2 H2 w2=>⟨n+1-(i+1),?_,w2,rfl⟩,fun x H2 y=>hs i x acc σ' H' H2 hlt w y⟩
  have:=hi (i+1) acc' σ2 H2 w2;omega
 ·have e:i=n:=by omega
  subst e;exact .inl ⟨stop acc σ' H' w,he acc σ' H' w⟩
theorem mw{a:Addr}{xs:List V}(Pv:Nat->List V->St->Hp->Prop)(h0:Pv 0 [] σ H)(hz:∀i acc σ H,Pv i acc σ H->acc.length<sizeLine)(hi:∀i acc σ H,Pv i acc σ H->i<=xs.length)
  (hl:∀i acc σ H,Pv i acc σ H->aW K H a xs)
  (hs:∀i x acc σ H,xs[i]?=some x->Pv i acc σ H->g x σ H fun σ2 H3=>ti σ2 H3 fun b H4=>if b=true then te σ2 H4 fun v H5=>Pv (i+1) (acc++[v]) σ2 H5 else Pv (i+1) acc σ2 H4)
  (he:∀acc σ H,Pv xs.length acc σ H->Q acc H):gR (AH K a) g ti te σ H Q:=by
 exact jW (J:=AH K a) (g:=g) (ti:=ti) (te:=te) (Q:=Q) (n:=xs.length) Pv h0 hz hi (fun acc σ H w=>⟨xs,hl _ _ _ _ w,HP _⟩)
  (fun i acc σ H hlt w=>⟨xs,xs[i],hl _ _ _ _ w,Hj hlt⟩) (fun i x acc σ H H2 hlt w y=>by obtain⟨rfl,hx⟩:=y;exact hs i x acc σ H2 (hx xs (hl _ _ _ _ w)) w) he
theorem ij{lo:Int}{n:Nat}(Pv:Nat->List V->St->Hp->Prop)(h0:Pv 0 [] σ H)(hz:∀i acc σ H,Pv i acc σ H->acc.length<sizeLine)(hi:∀i acc σ H,Pv i acc σ H->i<=n)
  (hs:∀i acc σ H,i<n->Pv i acc σ H->g (.int (lo+i)) σ H fun σ2 H3=>ti σ2 H3 fun b H4=>if b=true then te σ2 H4 fun v H5=>Pv (i+1) (acc++[v]) σ2 H5 else Pv (i+1) acc σ2 H4)
  (he:∀acc σ H,Pv n acc σ H->Q acc H):gR (yq lo n) g ti te σ H Q:=by
 exact jW (J:=yq lo n) (g:=g) (ti:=ti) (te:=te) (Q:=Q) (n:=n) Pv h0 hz hi (fun acc σ H w=>HP _) (fun i acc σ H hlt w=>hlt) (fun i x acc σ H H2 hlt w y=>by obtain⟨rfl,rfl⟩:=y;exact hs i acc σ H2 hlt w) he
end
structure eX(P:Program)(w:World)(K:PySem.W.Frag)(mg:Str->Option Value)(base:Heap)(CX:jL)(k:Nat)(x:Str)(ps:List Str)(sp:Sp):Prop where
 ex:∃(f:Addr) (fd:FuncData),bc P w K mg base CX k f fd ps sp/\mg x=some (.ref f)/\PySem.W.keepIn K (.ref f)=true/\dc K fd ps []
structure NB(mg:Str->Option Value):Prop where
 len:mg "len"=none
 range:mg "range"=none
 list:mg "list"=none
 tuple:mg "tuple"=none
 isinstance:mg "isinstance"=none
 int:mg "int"=none
 bool:mg "bool"=none
 str:mg "str"=none
 reversed:mg "reversed"=none
 all:mg "all"=none
 enumerate:mg "enumerate"=none
 zip:mg "zip"=none
 sorted:mg "sorted"=none
 set:mg "set"=none
 dict:mg "dict"=none
 min:mg "min"=none
 max:mg "max"=none
 sum:mg "sum"=none
 ValueError:mg "ValueError"=none
section
variable {X:Cx}{CX:jL}{k:Nat}{x:Str}{ps:List Str}{sp:Sp}{E:XK}{p pos:Pos}{e:Expr}{es:List Expr}{t:TA}
theorem aP(C:eX X.prog X.w X.K X.mg X.base CX k x ps sp)(hr:b5 k X.A)(hg:Gl X x)(hx:ck CX X E)(ha:PA X (e::es) t)(hdb:(x==("__debug__":Str))=false:=by decide +kernel)
  (hst:starEach (e::es) X.env=(false,eval e X.env)::starEach es X.env:=by rfl) (hpl:(backTo pos (starEach es X.env)).any (·.1)=false:=by rfl):PE X (.Call (.Name x p) (e::es) [] pos) (nC sp [] E t):=by
 obtain⟨f,fd,F,hm,hk,hb⟩:=C.ex;exact BL F hr hg hm hk hb .nil hx ha hdb hst hpl
end
section
variable {X:Cx}{tg:Expr}
noncomputable def Au(_ j:Int):Prop:=0<j/\j<18446744073709551616
theorem bi:a_ X (binaryOp .FloorDiv) (rI Au fun i j=>.int (i/j)):=DS fun i j _ _ _ _ _ hc q=>by
 have h1:(0:Int)<j:=hc.1;have h2:j<18446744073709551616:=hc.2;refine floordiv_int (by omega) (by rw[Int.fdiv_eq_ediv_of_nonneg i (by omega)];exact q) (.inl (PyProof.noPylong_of_log2 ?_));have h64:j.natAbs.log2<64:=(Nat.log2_lt (by omega)).mpr (by omega);omega
theorem kI:∀{ys:List Str} {us:List Value},aZ (ys.map V.str) us->StrsAre us ys
 | [],_,.nil=>.nil
 |y::ys,_,.cons r t=>by
  obtain⟨tk,rfl⟩:=r;exact .cons y tk (kI t)
noncomputable def wy(K:PySem.W.Frag):V->List V->Hp->VK->Prop:=fun x xs H Q=>∃z p ys,x=.str z/\xs=[.ref p]/\(aW K H p (ys.map V.str)\/bd K H p (ys.map V.str))/\(ys.map (·.length)).sum+ys.length*z.length<=16777216/\Q (.str (Txt.join z ys)) H
theorem nX:Do X "str.join" (wy X.K):=by
 intro pins s σ H x xs v us Q I rx rv h;obtain⟨z,p,ys,rfl,rfl,hs,hz,q⟩:=h;obtain⟨t,rfl⟩:=rx;obtain⟨u,rfl,ru⟩:=rv.one;cases ru;rcases hs with hs | hs
 ·obtain⟨its,r,pl,_⟩:=I.list hs
  exact join_list pl.isList (by simpa using kI r) hz fun t' k=>⟨.str _,H,I.tok k,⟨t',rfl⟩,q⟩
 ·obtain⟨its,r,pl,_⟩:=I.tuple hs
  exact join_tuple pl (by simpa using kI r) hz fun t' k=>⟨.str _,H,I.tok k,⟨t',rfl⟩,q⟩
noncomputable def DK(x:Str):It:=⟨fun i _=>i<x.cps.size,fun i H v H'=>H'=H/\∃c,x.cps[i]?=some c/\v=.str ⟨#[c]⟩,fun i _=>x.cps.size<=i⟩
theorem Ab{P:Program}{w:World}{K:PySem.W.Frag}{tg:Expr}(x:Str)(t:Tok)(it:Addr):oq P w K tg (DK x) [it] it (fun i h=>h.IsStrIter it (strIterType x) x t i) where
 mem:=by simp
 obj:=fun i h st b hb=>by
  have e:b=it:=by simpa using hb
  subst e;obtain⟨o,e,c,d⟩:=st;exact⟨o,e,fun v z=>by rw[d]at z;cases z⟩
 keep:=fun i h h' st k=>by
  obtain⟨o,e,c,d⟩:=st;exact⟨o,k it (by simp) o e,c,d⟩
 item:=by
  intro X hP hw hK hc i pins s σ H E I hf st hg;subst hP hw hK;obtain⟨f0,f1,f2,f3,f4,f5⟩:=hf it (by simp);have hi:i<x.cps.size:=hg;have hx:x.cps[i]?=some x.cps[i]:=Array.getElem?_eq_getElem hi;have fin:∀h',h'.IsStrIter it (strIterType x) x t (i+1)->Heap.SameBut it s.heap h'->∃u,(some (Value.str ⟨#[x.cps[i]]⟩ s.toks))=some u /\
    wpAny (model X.prog X.w) X.A (letOwnedTupleGo tg (.ref it) u) (fun _ s2=>∃v H',Inv X pins σ H' s2/\bq v u/\(DK x).yld i H v H'/\s2.heap.IsStrIter it (strIterType x) x t (i+1)/\∀b∈[it],H' b=none) E {s with heap:=h',toks:=s.toks+1}:=fun h' st' sb=>by
   have I1:Inv X pins σ H {s with heap:=h',toks:=s.toks+1}:=I.turned (fun b o hb e=>(sb.2 b hb).trans e) f0 f1 f3 f4 f5;obtain⟨o,e,c,d⟩:=id st';refine⟨_,rfl,rG (s:={s with heap:=h',toks:=s.toks+1}) e c d ?_ ⟨.str ⟨#[x.cps[i]]⟩,H,I1,⟨_,rfl⟩,⟨rfl,_,hx,rfl⟩,st',fun b hb=>(hf b hb).1⟩⟩;unfold strIterType
   split<;>decide
  cases ha:x.cps.all (· < 128) with
  |true=>
   have ety:strIterType x="str_ascii_iterator":=by unfold strIterType;rw[ha];rfl
   rw[ety]at st fin ⊢;exact wpAny_pyNext_ascii_item st hx fin
  |false=>
   have ety:strIterType x="str_iterator":=by unfold strIterType;rw[ha];rfl
   rw[ety]at st fin ⊢;exact wpAny_pyNext_wide_item st hx fin
 done:=by
  intro X hP hw hK hc i pins s σ H E I hf st hg;subst hP hw hK;obtain⟨f0,f1,f2,f3,f4,f5⟩:=hf it (by simp);have hi:x.cps.size<=i:=hg;have hx:x.cps[i]?=none:=Array.getElem?_eq_none hi;cases ha:x.cps.all (· < 128) with
  |true=>
   have ety:strIterType x="str_ascii_iterator":=by unfold strIterType;rw[ha];rfl
   rw[ety]at st;exact wpAny_pyNext_ascii_end (I.ok.hd hc) st hx fun h' eb=>⟨rfl,I.turned (t':=s.toks) (fun b o hb e=>eb b o hb e) f0 f1 f3 f4 f5⟩
  |false=>
   have ety:strIterType x="str_iterator":=by unfold strIterType;rw[ha];rfl
   rw[ety]at st;exact wpAny_pyNext_wide_end (I.ok.hd hc) st hx fun h' eb=>⟨rfl,I.turned (t':=s.toks) (fun b o hb e=>eb b o hb e) f0 f1 f3 f4 f5⟩
 self:=fun A i s Q E st h=>by
  cases ha:x.cps.all (· < 128) with
  |true=>
   have ety:strIterType x="str_ascii_iterator":=by unfold strIterType;rw[ha];rfl
   rw[ety]at st;exact wpAny_pyIter_striter_ascii st h
  |false=>
   have ety:strIterType x="str_iterator":=by unfold strIterType;rw[ha];rfl
   rw[ety]at st;exact wpAny_pyIter_striter_wide st h
noncomputable def Di(tl:TE):TI:=fun σ H R=>tl σ H fun v H1=>∃x,v=.str x/\R (DK x) H1
theorem C6{l:Expr}{tl:TE}(hl:PE X l tl):PI X tg l (Di tl):=by
 intro pins s σ H R I h;refine bF (hl pins s σ H _ I h) fun v s1 ⟨x,H1,I1,r1,q1⟩=>?_;obtain⟨x,rfl,q⟩:=q1;obtain⟨t,rfl⟩:=r1;refine wpAny_pyIter_strU ?_;refine⟨s1.heap.objs.size,[s1.heap.objs.size],_,_,H1,rfl,I1.kept (t':=s1.toks) fun b o e=>Hl _ e,Ab x t _,⟨_,Hs _ rfl,rfl,rfl⟩,fun b hb=>?_,q⟩;have e:b=s1.heap.objs.size:=by simpa using hb
 subst e;exact I1.fpOk (HP _) (I1.hok.fresh (HP _))
noncomputable def DW(K:PySem.W.Frag)(a:Addr)(n:Nat):It:=
 ⟨fun i H=>∃xs x,aW K H a xs/\i<n/\xs[n-1-i]?=some x,fun i H x H'=>H'=H/\∀xs,aW K H a xs->xs[n-1-i]?=some x,fun i _=>i=n⟩
theorem yY{P:Program}{w:World}{K:PySem.W.Frag}{tg:Expr}(a it:Addr)(n:Nat):oq P w K tg (DW K a n) [it] it (fun i h=>h.IsRevIter it a ((n:Int)-1-(i:Int))) where
 mem:=by simp
 obj:=fun i h st b hb=>by
  have e:b=it:=by simpa using hb
  subst e;obtain⟨o,e,c,d⟩:=st;exact⟨o,e,fun v z=>by rw[d]at z;cases z⟩
 keep:=fun i h h' st k=>st.at fun o e=>k it (by simp) o e
 item:=by
  intro X hP hw hK hc i pins s σ H E I hf st hg;subst hP hw hK;obtain⟨xs,x,hq,hi,hx⟩:=hg;obtain⟨its,rv,p,hz⟩:=I.list hq;obtain⟨u,hu,ru⟩:=rv.get hx;obtain⟨f0,f1,f2,f3,f4,f5⟩:=hf it (by simp);have e:(n:Int)-1-(i:Int)=((n-1-i:Nat):Int):=by omega
  have st1:=st;rw[e]at st1;refine wpAny_pyNext_rev_item st1 p.isList (x:=u) (by simpa using hu) fun h' st' sb=>?_;have e2:((n-1-i:Nat):Int)-1=(n:Int)-1-((i+1:Nat):Int):=by omega
  rw[e2]at st';have I1:Inv X pins σ H {s with heap:=h' }:=I.turned (t':=s.toks) (fun b o hb e=>(sb.2 b hb).trans e) f0 f1 f3 f4 f5;obtain⟨o,e,c,d⟩:=id st';exact⟨u,rfl,rG (s:={s with heap:=h' }) e c d (by decide) ⟨x,H,I1,ru,⟨rfl,fun ys hy=>by rw[I.list_inj hy hq];exact hx⟩,st',fun b hb=>(hf b hb).1⟩⟩
 done:=by
  intro X hP hw hK hc i pins s σ H E I hf st hg;subst hP hw hK;obtain⟨f0,f1,f2,f3,f4,f5⟩:=hf it (by simp);have hi:i=n:=hg;subst hi;have e:(i:Int)-1-(i:Int) = -1:=by omega
  rw[e]at st;exact wpAny_pyNext_rev_end (I.ok.hd hc) st fun h' eb=>⟨rfl,I.turned (t':=s.toks) (fun b o hb e=>eb b o hb e) f0 f1 f3 f4 f5⟩
 self:=fun _ _ _ _ _ st h=>wpAny_pyIter_revIter st h
noncomputable def Df(K:PySem.W.Frag)(ta:TA):TI:=fun σ H R=>ta σ H fun vs H1=>∃a xs,vs=[.ref a]/\aW K H1 a xs/\R (DW K a xs.length) H1
theorem Cv{a:Expr}{ta:TA}{p pos:Pos}(hg:Gl X "reversed")(hm:X.mg "reversed"=none)(ha:PA X [a] ta)(hs:starEach [a] X.env=[(false,eval a X.env)]:=by rfl):PI X tg (.Call (.Name "reversed" p) [a] [] pos) (Df X.K ta):=by
 intro pins s σ H R I h;refine Call_ (bY I hg hm boot_reversed (PyProof.Rows.callWith_type1 (bF (ha pos pins s σ H _ I h) fun us s1 ⟨vs,H1,I1,r1,q1⟩=>?_) hs rfl));obtain⟨l,xs,rfl,hq,q⟩:=q1;obtain⟨u,rfl,ru⟩:=r1.one;cases ru;obtain⟨its,rv,pl,hz⟩:=I1.list hq;have hlen:=rv.length;refine call_reversed_list pl.isList ?_;have es:its.toArray.size=xs.length:=by rw[Ht,hlen]
 rw[es];have I2:Inv X pins σ H1 {s1 with heap:=s1.heap.push (revObj l ((xs.length:Int)-1))}:=I1.kept (t':=s1.toks) fun b o e=>Hl _ e;have st:(s1.heap.push (revObj l ((xs.length:Int)-1))).IsRevIter s1.heap.objs.size l ((xs.length:Int)-1-((0:Nat):Int)):=⟨_,Hs _ rfl,rfl,by simp[revObj]⟩;refine wpAny_pyIter_revIter st ?_;refine⟨s1.heap.objs.size,[s1.heap.objs.size],_,_,H1,rfl,I2,yY l _ xs.length,st,fun b hb=>?_,q⟩;have e:b=s1.heap.objs.size:=by simpa using hb
 subst e;exact I1.fpOk (HP _) (I1.hok.fresh (HP _))
noncomputable def Et(sep:Str)(ta:TA):TE:=fun σ H Q=>ta σ H fun vs H1=>∃x,vs=[.str x]/\x.length<=1000/\sep.length<=1000/\Q (.str (Txt.join sep (x.cps.toList.reverse.map fun c=>(⟨#[c]⟩:Str)))) H1
theorem vd{e:Expr}{ta:TA}{sep:Str}{j:Nat}{p0 ap p1 p2 cpos:Pos}(hc:X.calm=true)(hg:Gl X "reversed")(hm:X.mg "reversed"=none)(ha:PA X [e] ta)
  (hfew:((backTo cpos (starEach [.Call (.Name "reversed" p1) [e] [] p2] X.env)).all (fun x=>!x.1)&&(backToKw cpos (keywordEach [] X.env)).all (fun x=>x.1.isSome)
   && decide ([Expr.Call (.Name "reversed" p1) [e] [] p2].length+([]:List Keyword).length+(if([]:List Keyword).isEmpty then 0 else 1)<30))=true:=by rfl)
  (hline:(ap.endLine==cpos.line)=true:=by rfl) (hs:starEach [e] X.env=[(false,eval e X.env)]:=by rfl) :
  PE X (.Call (.Attribute (.Constant (.str sep) j p0) "join" ap) [.Call (.Name "reversed" p1) [e] [] p2] [] cpos) (Et sep ta):=by
 intro pins s σ H Q I h;refine wpAny_Call_method_late rfl hfew hline rfl (bF (cV (X:=X) pins s σ H (fun v H1=>v=.str sep/\H1=H) I ⟨rfl,rfl⟩) fun v s1 ⟨x,H1,I1,r1,hx⟩=>?_);obtain⟨rfl,rfl⟩:=hx;obtain⟨t0,rfl⟩:=r1;refine⟨"str",_,F.plainAttrs_str,F.slot_str_join,F.type_str_join,typeIs_str _ _ _,(fun a z=>nomatch z),?_⟩;refine Calls.callWith_builtin rfl (Calls.evalArgs_plain ?_);show wpAny _ _ (spliced ((false,eval (.Call (.Name "reversed" p1) [e] [] p2) X.env)::[])) _ _ s1;refine Calls.spliced_cons ?_;refine Call_ (bY I1 hg hm boot_reversed (PyProof.Rows.callWith_type1 (bF (ha p2 pins s1 σ H1 _ I1 h) fun us s2 ⟨vs,H2,I2,r2,q2⟩=>?_) hs rfl));obtain⟨x,rfl,hz,hsp,q⟩:=q2;obtain⟨u,rfl,ru⟩:=r2.one;obtain⟨t,rfl⟩:=ru;have hsl:sizeLine=16777216:=sizeLine_eq;refine lH (by omega) (Calls.spliced_nil ?_);have I3:Inv X pins σ H2 {s2 with heap:=s2.heap.push (vR x t ((x.length:Int)-1)),toks:=s2.toks+1+1}:=I2.kept fun b o e=>Hl _ e;have fp:=I2.fpOk (b:=s2.heap.objs.size) (H':=H2) (HP _) (I2.hok.fresh (HP _));obtain⟨f0,f1,f2,f3,f4,f5⟩:=fp;refine AF (I3.ok.hd hc) (I:=s2.heap.objs.size) (x:=x) (t:=t) ⟨_,Hs _ rfl,rfl,rfl⟩ hz hsp fun s' t' k keep eg ed eo=>?_;obtain⟨h',g',d',k',o'⟩:=s';cases eg;cases ed;cases eo;exact⟨.str _,H2,I3.turned (t':=k) (fun b o hb e=>keep b o hb e) f0 f1 f3 f4 f5,⟨t',rfl⟩,q⟩
noncomputable def BE:V->Value
 | .ty n=>.type n
 | .ref a=>.ref a
 |_=>.none
noncomputable def so:V->Bool
 | .ty _=>true
 | .ref _=>true
 |_=>false
theorem wD{c:V}{u:Value}(r:bq c u)(h:so c=true):u=BE c:=by
 cases c with
 |ty n=>exact r
 |ref a=>exact r
 |_=>cases h
noncomputable def Cz(K:PySem.W.Frag):List V->Hp->VK->Prop:=fun xs H Q=>∃x c t b,xs=[x,c]/\so c=true/\ke K H x t/\PySem.W.kitOne K t (BE c)=some b/\Q (.bl b) H
theorem fz:gz X (.builtin "isinstance") (Cz X.K):=by
 intro pins s σ H xs us Q I r h;obtain⟨x,c,t,b,rfl,hc,ty,e,q⟩:=h;obtain⟨u,v,rfl,ru,rv⟩:=r.two;rw[wD rv hc];exact xb I ru ty e fun tk=>⟨.bl b,H,I.tok tk,rfl,q⟩
theorem uK(K:PySem.W.Frag)(n:String):PySem.W.kitOne K (.type n) (.type n)=some true:=by
 unfold PySem.W.kitOne;rw[if_pos (beq_self_eq_true _)]
inductive Dt where
 |non | bl (b:Bool) | int (i:Int) | str (x:Str) | lst (ds:List Dt) | tup (ds:List Dt)
mutual
noncomputable def hV(K:PySem.W.Frag)(H:Hp):Dt->V->Prop
 | .non,v=>v=.non
 | .bl b,v=>v=.bl b
 | .int i,v=>v=.int i
 | .str x,v=>v=.str x
 | .lst ds,v=>∃a xs,v=.ref a/\aW K H a xs/\cK K H ds xs
 | .tup ds,v=>∃a xs,v=.ref a/\bd K H a xs/\cK K H ds xs
noncomputable def cK(K:PySem.W.Frag)(H:Hp):List Dt->List V->Prop
 | [],xs=>xs=[]
 |d::ds,xs=>∃x r,xs=x::r/\hV K H d x/\cK K H ds r
end
mutual
noncomputable def Dt.dep:Dt->Nat
 | .lst ds=>Dt.deps ds+1
 | .tup ds=>Dt.deps ds+1
 |_=>0
noncomputable def Dt.deps:List Dt->Nat
 | []=>0
 |d::ds=>max (Dt.dep d) (Dt.deps ds)
end
theorem cK.length{K:PySem.W.Frag}{H:Hp}:∀{ds:List Dt} {xs:List V},cK K H ds xs->xs.length=ds.length
 | [],_,h=>by unfold cK at h;rw[h];rfl
 |d::ds,xs,h=>by
  unfold cK at h;obtain⟨x,r,rfl,_,h2⟩:=h;simp[cK.length h2]
theorem cK.get{K:PySem.W.Frag}{H:Hp}:∀{ds:List Dt} {xs:List V} {j:Nat} {x:V},cK K H ds xs->xs[j]?=some x->∃d,ds[j]?=some d/\hV K H d x
 | [],_,_,_,h,e=>by unfold cK at h;rw[h]at e;simp at e
 |d::ds,xs,j,x,h,e=>by
  unfold cK at h;obtain⟨y,r,rfl,h1,h2⟩:=h;cases j with
  |zero=>simp at e;subst e;exact⟨d,rfl,h1⟩
  |succ j=>
   obtain⟨d',e1,e2⟩:=cK.get (j:=j) h2 (by simpa using e);exact⟨d',by simpa using e1,e2⟩
theorem lD:∀{ds:List Dt} {j:Nat} {d:Dt},ds[j]?=some d->d.dep<=Dt.deps ds
 | [],_,_,e=>by simp at e
 |d'::ds,0,d,e=>by simp at e;subst e;unfold Dt.deps;omega
 |d'::ds,j+1,d,e=>by
  have:=lD (ds:=ds) (j:=j) (by simpa using e);unfold Dt.deps;omega
theorem k8(n:Nat):(List.range n).all (fun _=>true)=true:=by simp
theorem CH{pins:List (Addr×Obj)}{σ:St}{H:Hp}{s:Shared}(I:Inv X pins σ H s):∀(n:Nat) (d:Dt) (A:Around) {v u:V} {vv uu:Value},d.dep<=n->A.units+n<cLine->hV X.K H d v->hV X.K H d u->bq v vv->bq u uu->SeqAt.EqAt A s vv uu true:=by
 intro n
 induction n with
 |zero=>
  intro d A v u vv uu hd hA h1 h2 r1 r2;cases d with
  |non=>unfold hV at h1 h2;subst h1 h2;have:=iP (A:=A) (s:=s) r1 r2 rfl rfl;exact this
  |bl b=>unfold hV at h1 h2;subst h1 h2;have:=iP (A:=A) (s:=s) r1 r2 rfl rfl;simpa[uU]using this
  |int i=>unfold hV at h1 h2;subst h1 h2;have:=iP (A:=A) (s:=s) r1 r2 rfl rfl;simpa[uU]using this
  |str x=>unfold hV at h1 h2;subst h1 h2;have:=iP (A:=A) (s:=s) r1 r2 rfl rfl;simpa[uU]using this
  |lst ds=>unfold Dt.dep at hd;omega
  |tup ds=>unfold Dt.dep at hd;omega
 |succ n ih=>
  intro d A v u vv uu hd hA h1 h2 r1 r2;cases d with
  |non=>unfold hV at h1 h2;subst h1 h2;have:=iP (A:=A) (s:=s) r1 r2 rfl rfl;exact this
  |bl b=>unfold hV at h1 h2;subst h1 h2;have:=iP (A:=A) (s:=s) r1 r2 rfl rfl;simpa[uU]using this
  |int i=>unfold hV at h1 h2;subst h1 h2;have:=iP (A:=A) (s:=s) r1 r2 rfl rfl;simpa[uU]using this
  |str x=>unfold hV at h1 h2;subst h1 h2;have:=iP (A:=A) (s:=s) r1 r2 rfl rfl;simpa[uU]using this
  |lst ds=>
   unfold hV at h1 h2;obtain⟨a,xs,rfl,ha,hxs⟩:=h1;obtain⟨b,ys,rfl,hb,hys⟩:=h2;cases r1;cases r2
   by_cases hab:a=b
   ·subst hab;exact SeqAt.EqAt.same _
   ·unfold Dt.dep at hd
    obtain⟨its,ra,pa,_⟩:=I.list ha;obtain⟨its2,rb,pb,_⟩:=I.list hb;have l1:=ra.length;have l2:=rb.length;have l3:=hxs.length;have l4:=hys.length
    have hsz:its.toArray.size=its2.toArray.size:=by simp;omega
    have q:=SeqAt.RcAt.lists (A:=A) (s:=s) (e:=fun _=>true) pa.isList pb.isList hsz (by omega) fun j g1 g2=>by
     have g1':j<its.length:=by simpa using g1
     have g2':j<its2.length:=by simpa using g2
     have x1:xs[j]?=some xs[j]:=Hj (by omega);have y1:ys[j]?=some ys[j]:=Hj (by omega);obtain⟨d,e1,rd1⟩:=hxs.get x1;obtain⟨d',e2,rd2⟩:=hys.get y1;rw[e1]at e2;cases e2
     obtain⟨w1,f1,rr1⟩:=ra.get x1;obtain⟨w2,f2,rr2⟩:=rb.get y1;rw[Hj g1']at f1;rw[Hj g2']at f2;cases f1;cases f2
     have hdep:=lD e1;simp only[Il];exact ih d A.in1 (by omega) (by show A.units+1+n<cLine;omega) rd1 rd2 rr1 rr2
    rw[k8]at q;exact SeqAt.EqAt.of_refs hab q
  |tup ds=>
   unfold hV at h1 h2;obtain⟨a,xs,rfl,ha,hxs⟩:=h1;obtain⟨b,ys,rfl,hb,hys⟩:=h2;cases r1;cases r2
   by_cases hab:a=b
   ·subst hab;exact SeqAt.EqAt.same _
   ·unfold Dt.dep at hd
    obtain⟨its,ra,pa,_⟩:=I.tuple ha;obtain⟨its2,rb,pb,_⟩:=I.tuple hb;have l1:=ra.length;have l2:=rb.length;have l3:=hxs.length;have l4:=hys.length
    have q:=SeqAt.RcAt.tuples (A:=A) (s:=s) (e:=fun _=>true) (show s.heap.IsTuple a its.toArray from pa) (show s.heap.IsTuple b its2.toArray from pb) (by omega) fun j g1 g2=>by
     have g1':j<its.length:=by simpa using g1
     have g2':j<its2.length:=by simpa using g2
     have x1:xs[j]?=some xs[j]:=Hj (by omega);have y1:ys[j]?=some ys[j]:=Hj (by omega);obtain⟨d,e1,rd1⟩:=hxs.get x1;obtain⟨d',e2,rd2⟩:=hys.get y1;rw[e1]at e2;cases e2
     obtain⟨w1,f1,rr1⟩:=ra.get x1;obtain⟨w2,f2,rr2⟩:=rb.get y1;rw[Hj g1']at f1;rw[Hj g2']at f2;cases f1;cases f2
     have hdep:=lD e1;simp only[Il];exact ih d A.in1 (by omega) (by show A.units+1+n<cLine;omega) rd1 rd2 rr1 rr2
    have e0:((List.range (min its.toArray.size its2.toArray.size)).all (fun _=>true)&&its.toArray.size==its2.toArray.size)=true:=by
     rw[k8,Bool.true_and];simp;omega
    rw[e0]at q;exact SeqAt.EqAt.of_refs hab q
noncomputable def Dv(K:PySem.W.Frag)(neg:Bool):R2:=fun x y H Q=>
 (∃ds,Dt.deps ds<=40/\((hV K H (.lst ds) x/\hV K H (.lst ds) y)\/(hV K H (.tup ds) x/\hV K H (.tup ds) y))/\Q (.bl (!neg)) H) \/
 (∃a b xs ys,x=.ref a/\y=.ref b/\aW K H a xs/\aW K H b ys/\xs.length≠ys.length/\Q (.bl neg) H)
theorem AO(hu:X.A.units+64<cLine):a_ X (compareOp .Eq) (Dv X.K false):=by
 intro pins s σ H x y v u Q I rx ry h;rcases h with⟨ds,hd,h,q⟩ | ⟨a,b,xs,ys,rfl,rfl,ha,hb,hne,q⟩
 ·have fin:EP X pins σ Q (.bool true) s:=⟨.bl true,H,I,rfl,q⟩
  have item:∀{xs ys:List V} {its its2:List Value},cK X.K H ds xs->cK X.K H ds ys->aZ xs its->aZ ys its2->∀j (h1:j<its.toArray.size) (h2:j<its2.toArray.size),SeqAt.EqAt X.A.in1 s its.toArray[j] its2.toArray[j] true:=fun{xs ys its its2} hxs hys ra rb j g1 g2=>by
   have l1:=ra.length;have l2:=rb.length;have l3:=hxs.length;have l4:=hys.length
   have g1':j<its.length:=by simpa using g1
   have g2':j<its2.length:=by simpa using g2
   have x1:xs[j]?=some xs[j]:=Hj (by omega);have y1:ys[j]?=some ys[j]:=Hj (by omega);obtain⟨d,e1,rd1⟩:=hxs.get x1;obtain⟨d',e2,rd2⟩:=hys.get y1;rw[e1]at e2;cases e2
   obtain⟨w1,f1,rr1⟩:=ra.get x1;obtain⟨w2,f2,rr2⟩:=rb.get y1;rw[Hj g1']at f1;rw[Hj g2']at f2;cases f1;cases f2
   have hdep:=lD e1;simp only[Il];exact CH I 40 d X.A.in1 (by omega) (by show X.A.units+1+40<cLine;omega) rd1 rd2 rr1 rr2
  rcases h with⟨h1,h2⟩ | ⟨h1,h2⟩
  ·unfold hV at h1 h2
   obtain⟨a,xs,rfl,ha,hxs⟩:=h1;obtain⟨b,ys,rfl,hb,hys⟩:=h2;cases rx;cases ry
   obtain⟨its,ra,pa,_⟩:=I.list ha;obtain⟨its2,rb,pb,_⟩:=I.list hb;have l1:=ra.length;have l2:=rb.length;have l3:=hxs.length;have l4:=hys.length
   have q:=SeqAt.RcAt.lists (A:=X.A) (s:=s) (e:=fun _=>true) pa.isList pb.isList (by simp;omega) (by omega) (item hxs hys ra rb);rw[k8]at q;exact q _ _ _ _ fin
  ·unfold hV at h1 h2
   obtain⟨a,xs,rfl,ha,hxs⟩:=h1;obtain⟨b,ys,rfl,hb,hys⟩:=h2;cases rx;cases ry
   obtain⟨its,ra,pa,_⟩:=I.tuple ha;obtain⟨its2,rb,pb,_⟩:=I.tuple hb;have l1:=ra.length;have l2:=rb.length;have l3:=hxs.length;have l4:=hys.length
   have q:=SeqAt.RcAt.tuples (A:=X.A) (s:=s) (e:=fun _=>true) (show s.heap.IsTuple a its.toArray from pa) (show s.heap.IsTuple b its2.toArray from pb) (by omega) (item hxs hys ra rb);have e0:((List.range (min its.toArray.size its2.toArray.size)).all (fun _=>true)&&its.toArray.size==its2.toArray.size)=true:=by
    rw[k8,Bool.true_and];simp;omega
   rw[e0]at q;exact q _ _ _ _ fin
 ·cases rx;cases ry
  obtain⟨its,ra,pa,_⟩:=I.list ha;obtain⟨its2,rb,pb,_⟩:=I.list hb;have l1:=ra.length;have l2:=rb.length
  exact SeqAt.RcAt.lists_lengths pa.isList pb.isList (by simp;omega) (by omega) _ _ _ _ ⟨.bl false,H,I,rfl,q⟩
end
end L2
namespace bC
noncomputable abbrev FF:=List Nat
noncomputable abbrev bC:=List FF
noncomputable def fD(p:bC)(r c:Nat):Prop:=p.length=r/\∀x∈p,x.length=c
noncomputable def fe(p:bC):bC:=p.map List.reverse
noncomputable def col(p:bC)(i:Nat):FF:=p.reverse.map fun x=>x.getD i 0
noncomputable def fQ(p:bC):bC:=(List.range (p.headD []).length).map (col p)
noncomputable def bB:Nat->bC->bC
 |0,p=>p
 |n+1,p=>bB n (fQ p)
noncomputable def turned(p:bC)(t:Nat):bC:=bB (t%4) (if 4<=t then fe p else p)
theorem zM{p:bC}{r c i:Nat}(h:fD p r c)(hi:i<r):(p.getD i []).length=c:=by
 have hl:i<p.length:=by rw[h.1];exact hi
 rw[List.getD_eq_getElem?_getD,Hj hl];exact h.2 _ (Hu hl)
theorem bJ{p:bC}{r c:Nat}(h:fD p r c)(hr:0<r):(p.headD []).length=c:=by
 have:=zM h hr;cases p with
 |nil=>have:=h.1;simp at this;omega
 |cons x p=>simpa using this
theorem jG{p:bC}{r c:Nat}(h:fD p r c):fD (fe p) r c:=by
 refine⟨by simp[fe,h.1],fun x hx=>?_⟩;obtain⟨y,hy,rfl⟩:=Ij.mp hx;rw[HI];exact h.2 y hy
theorem sW{p:bC}{r c:Nat}(h:fD p r c)(hr:0<r):fD (fQ p) c r:=by
 refine⟨by unfold fQ;rw[Hm,List.length_range,bJ h hr],fun x hx=>?_⟩;obtain⟨i,_,rfl⟩:=Ij.mp hx;simp[col,h.1]
theorem eZ:∀(n:Nat) {p:bC} {r c:Nat},fD p r c->0<r->0<c->fD (bB n p) (if n%2=0 then r else c) (if n%2=0 then c else r)
 |0,_,_,_,h,_,_=>h
 |n+1,p,r,c,h,hr,hc=>by
  have:=eZ n (sW h hr) hc hr;show fD (bB n (fQ p)) _ _
  by_cases e:n%2=0
  ·rw[if_pos e,if_pos e]at this
   rw[if_neg (by omega),if_neg (by omega)];exact this
  ·rw[if_neg e,if_neg e]at this
   rw[if_pos (by omega),if_pos (by omega)];exact this
theorem lI(a b:Nat)(p:bC):bB a (bB b p)=bB (b+a) p:=by
 induction b generalizing p with
 |zero=>rw[Nat.zero_add];rfl
 |succ b ih=>show bB a (bB b (fQ p))=_;rw[ih,Nat.add_right_comm];rfl
noncomputable def after(t u:Nat):Nat:=if u<4 then t/4*4+(t+u)%4 else(1-t/4)*4+(u+8-t)%4
noncomputable def E4(t:Nat):Nat:=if t<4 then(4-t)%4 else t
end bC
namespace QL
open PySem L2 bC
noncomputable def tx(r:List Nat):Str:=⟨r.toArray⟩
noncomputable def aD(p:bC):List V:=p.map fun r=>V.str (tx r)
theorem aE(r:List Nat):(tx r).length=r.length:=by show r.toArray.size=r.length;simp
theorem j7(r:List Nat):(tx r).cps.toList=r:=by show r.toArray.toList=r;simp
theorem au(p:bC):(aD p).length=p.length:=by unfold aD;simp
theorem bb{p:bC}{i:Nat}(h:i<p.length):(aD p)[i]?=some (V.str (tx p[i])):=by unfold aD;rw[Ho,Hj h];rfl
theorem fO(p:bC)(r:List Nat):aD (p++[r])=aD p++[V.str (tx r)]:=by unfold aD;simp
theorem zz:∀(ys:List (List Nat)),Txt.join (Str.ofString "") (ys.map tx)=tx ys.flatten
 | []=>rfl
 |y::ys=>by
  have key:∀(zs:List (List Nat)) (a:List Nat),(zs.map tx).foldl (fun acc (p:Str)=>acc++(Str.ofString "").cps++p.cps) a.toArray=(a++zs.flatten).toArray:=by
   intro zs
   induction zs with
   |nil=>intro a;simp
   |cons z zs ih=>
    intro a;rw[HW,List.foldl_cons];have e:a.toArray++(Str.ofString "").cps++(tx z).cps=(a++z).toArray:=by
     have e0:(Str.ofString "").cps=#[]:=rfl;rw[e0];show a.toArray ++ #[]++z.toArray=_;simp
    rw[e,ih];simp
  show(⟨(ys.map tx).foldl (fun acc (p:Str)=>acc++(Str.ofString "").cps++p.cps) (tx y).cps⟩:Str)=_;show(⟨(ys.map tx).foldl (fun acc (p:Str)=>acc++(Str.ofString "").cps++p.cps) y.toArray⟩:Str)=_;rw[key]
  rfl
theorem gZ(r:List Nat):Txt.join (Str.ofString "") (r.map fun c=>(⟨#[c]⟩:Str))=tx r:=by
 have e:(r.map fun c=>(⟨#[c]⟩:Str))=(r.map fun c=>[c]).map tx:=by rw[HE];rfl
 rw[e,zz]
 congr 1
 clear e
 induction r with
 |nil=>rfl
 |cons c r ih=>simp[ih]
noncomputable def rK(p:bC):Prop:=p.length<=64/\∀r∈p,r.length<=64
theorem rK.of{p:bC}{r c:Nat}(h:fD p r c)(hr:r<=64)(hc:c<=64):rK p:=⟨by rw[h.1];exact hr,fun x hx=>by rw[h.2 x hx];exact hc⟩
theorem bp{n:Nat}(h:n<=1000000):n<sizeLine:=by have:=sizeLine_eq;omega
theorem aj{n:Nat}(h:n<=1000000):n<=sizeLine:=by have:=sizeLine_eq;omega
theorem ae{H:Hp}{l:Addr}{o:HO}(h:H l=none):ay H (aB H l o):=fun b u e=>by rw[ai (aG e h)];exact e
theorem bK{H0 H:Hp}{l:Addr}{o:HO}(s:ay H0 H)(h:H0 l=none):ay H0 (aB H l o):=fun b u e=>by rw[ai (aG e h)];exact s b u e
theorem lB{p:bC}{r c i:Nat}(h:fD p r c)(hi:i<r):∃hl:i<p.length,(p[i]).length=c:=⟨by rw[h.1];exact hi,h.2 _ (Hu _)⟩
noncomputable def bR(H:Hp)(p:bC)(Q:VK):Prop:=∀(l:Addr) (H':Hp),H l=none->H' l=some (.lst (aD p))->ay H H'->Q (.ref l) H'
theorem Cm{α:Type}{xs:List α}{i:Int}(h0:0<=i)(h1:i<xs.length):∃v,v∈xs/\gv xs i=some v:=by
 have hb:i.toNat<xs.length:=by omega
 obtain⟨j,hj⟩:∃j:Nat,i=(j:Int):=⟨i.toNat,by omega⟩;subst hj;exact⟨xs[j]'(by omega),Hu _,aU (Hj (by omega))⟩
theorem tw(K:PySem.W.Frag):PySem.W.kitOne K (.type "int") (.type "bool")=some false:=by kernel_rfl
end QL
namespace L2
open PySem PySem.Spec PyProof.Rows
section
variable {X:Cx}
theorem aO:gz X (.builtin "len") (fun xs H Q=>∃p ys,xs=[.ref p]/\aW X.K H p ys/\Q (.int ys.length) H):=fun pins s σ H xs us Q I r ⟨p,ys,e,h,q⟩=>lV pins s σ H xs us Q I r ⟨p,ys,e,.inl h,q⟩
theorem eM:gz X (.builtin "len") (fun xs H Q=>∃p ys,xs=[.ref p]/\bd X.K H p ys/\Q (.int ys.length) H):=fun pins s σ H xs us Q I r ⟨p,ys,e,h,q⟩=>lV pins s σ H xs us Q I r ⟨p,ys,e,.inr h,q⟩
theorem zK{K:PySem.W.Frag}{g:TG}{ti:TT}{te:TE}{σ:St}{H:Hp}{Q:List V->Hp->Prop}{a:Addr}{xs:List V}(Pv:Nat->List V->St->Hp->Prop)(h0:Pv 0 [] σ H)(hz:∀i acc σ H,Pv i acc σ H->acc.length<sizeLine)(hi:∀i acc σ H,Pv i acc σ H->i<=xs.length)
  (hl:∀i acc σ H,Pv i acc σ H->aW K H a xs)
  (hs:∀i x acc σ H,xs.reverse[i]?=some x->Pv i acc σ H->g x σ H fun σ2 H3=>ti σ2 H3 fun b H4=>if b=true then te σ2 H4 fun v H5=>Pv (i+1) (acc++[v]) σ2 H5 else Pv (i+1) acc σ2 H4)
  (he:∀acc σ H,Pv xs.length acc σ H->Q acc H):gR (DW K a xs.length) g ti te σ H Q:=by
 have rv:∀{i:Nat} {x:V},i<xs.length->xs[xs.length-1-i]?=some x->xs.reverse[i]?=some x:=fun{i x} hi e=>by rw[List.getElem?_reverse hi];exact e
 exact jW (J:=DW K a xs.length) (g:=g) (ti:=ti) (te:=te) (Q:=Q) (n:=xs.length) Pv h0 hz hi (fun acc σ H w=>rfl)
  (fun i acc σ H hlt w=>⟨xs,xs[xs.length-1-i]'(by omega),hl _ _ _ _ w,hlt,Hj (by omega)⟩) (fun i x acc σ H H2 hlt w y=>by obtain⟨rfl,hx⟩:=y;exact hs i x acc σ H2 (rv hlt (hx xs (hl _ _ _ _ w))) w) he
theorem Bu(i j:Int):(Ba (.int i) (.int j)=true)=True:=by simp[Ba]
theorem lx{a:Expr}{ta:TE}(ha:PE X a ta)(he:∀whole,isTrue a X.env whole=(do let v <- whole;standAt a.pos;holding [v] (truthy v))):PT X a (wM ta):=by
 intro pins s σ H Q I h;rw[he];refine wpAny_bind (bF (ha pins s σ H _ I h) fun v s1 ⟨x,H1,I1,r1,k,e,q⟩=>?_);subst e;cases r1;exact wpAny_bind (wpAny_standAt (wpAny_holding (wpAny_truthy_bool ⟨H1,I1,q⟩)))
noncomputable def ua(J:It)(g:TG)(tb:TS)(D:jf)(σ:St)(H:Hp):Prop:=∃W:Nat->Nat->St->Hp->Prop,(∃m,W 0 m σ H)/\∀i m σ H,W i m σ H ->
 (J.stop i H/\D.nx σ H)\/(J.go i H/\∃N:St->Hp->Prop,(∀σ' H',N σ' H'->∃m',m'<m/\W (i+1) m' σ' H')/\∀x H',J.yld i H x H'->g x σ H' fun σ2 H2=>tb {D with nx:=N,ct:=N,bk:=D.nx} σ2 H2)
noncomputable def AC(wi:TI)(g:TG)(tb:TS):TS:=fun D σ H=>wi σ H fun J H1=>ua J g tb D σ H1
theorem bP{tg iter:Expr}{body:List Stmt}{wi:TI}{g:TG}{tb:TS}{pos:Pos}(hp:PassesOwn (model X.prog X.w) X.A X.env X.xe)(hc:X.calm=true)(hi:PI X tg iter wi)(hg:PG X tg g)(hb:qg X body tb)
  (hs:∀x,foldedSetIterable iter X.env x=pure x:=by intro _;rfl):PS X (.For tg iter body [] pos) (AC wi g tb):=Dd hp hc hi hg hb hs
section
variable {K:PySem.W.Frag}{g:TG}{tb:TS}{D:jf}{σ:St}{H:Hp}
theorem mI{a:Addr}{xs:List V}(Pv:Nat->St->Hp->Prop)(h0:Pv 0 σ H)(hl:∀i σ H,i<=xs.length->Pv i σ H->aW K H a xs)
  (hs:∀i x σ H,xs[i]?=some x->Pv i σ H->g x σ H fun σ2 H2=>tb {D with nx:=Pv (i+1),ct:=Pv (i+1),bk:=D.nx} σ2 H2) (hd:∀σ H,Pv xs.length σ H->D.nx σ H):ua (AH K a) g tb D σ H:=Ap Pv h0 hl hs hd
theorem ug{a:Addr}{xs:List V}(Pv:Nat->St->Hp->Prop)(h0:Pv 0 σ H)(hl:∀i σ H,i<=xs.length->Pv i σ H->bd K H a xs)
  (hs:∀i x σ H,xs[i]?=some x->Pv i σ H->g x σ H fun σ2 H2=>tb {D with nx:=Pv (i+1),ct:=Pv (i+1),bk:=D.nx} σ2 H2) (hd:∀σ H,Pv xs.length σ H->D.nx σ H):ua (BU K a) g tb D σ H:=A6 Pv h0 hl hs hd
theorem eQ{lo:Int}{n:Nat}(Pv:Nat->St->Hp->Prop)(h0:Pv 0 σ H)
  (hs:∀i σ H,i<n->Pv i σ H->g (.int (lo+i)) σ H fun σ2 H2=>tb {D with nx:=Pv (i+1),ct:=Pv (i+1),bk:=D.nx} σ2 H2) (hd:∀σ H,Pv n σ H->D.nx σ H):ua (yq lo n) g tb D σ H:=xG Pv h0 hs hd
end
end
theorem aQ:bootBuiltins "len"=some (.builtin "len"):=by decide +kernel
theorem rO:bootBuiltins "list"=some (.type "list"):=by decide +kernel
theorem lO:bootBuiltins "tuple"=some (.type "tuple"):=by decide +kernel
theorem Cl:bootBuiltins "int"=some (.type "int"):=by decide +kernel
theorem By:bootBuiltins "bool"=some (.type "bool"):=by decide +kernel
theorem df:bootBuiltins "isinstance"=some (.builtin "isinstance"):=by decide +kernel
theorem zR:bootBuiltins "all"=some (.builtin "all"):=by decide +kernel
end L2
namespace PtM
open PySem PySem.Builtin.Str PySem.StrLaws
end PtM
namespace L2
open PySem PySem.Spec PyProof.Rows
section
variable {X:Cx}{a b c d:Expr}{ta tb tc td:TE}{pos:Pos}
noncomputable def C9(K:PySem.W.Frag):List V->Hp->VK->Prop:=fun xs H Q=>∃(p:Addr) (bs:List Bool),xs=[.ref p]/\aW K H p (bs.map V.bl)/\Q (.bl (bs.all id)) H
theorem wX:∀{bs:List Bool} {us:List Value} {i:Nat} {u:Value},aZ (bs.map V.bl) us->us[i]?=some u->∃k,bs[i]?=some k/\u=.bool k
 | [],_,_,_,.nil,e=>by simp at e
 |k::bs,_,0,u,.cons r _,e=>by simp at e;subst e;exact⟨k,rfl,r⟩
 |k::bs,_,i+1,u,.cons _ t,e=>by
  obtain⟨k',h1,h2⟩:=wX (i:=i) t (by simpa using e);exact⟨k',by simpa using h1,h2⟩
theorem xu(bs:List Bool):((List.range bs.length).all fun i=>(bs[i]?).getD true)=bs.all id:=by
 rw[Bool.eq_iff_iff,Ik,Ik]
 constructor
 ·intro h x hx
  obtain⟨i,hi,e⟩:=List.getElem_of_mem hx;have q:=h i (List.mem_range.mpr hi);rw[Hj hi,Option.getD_some,e]at q;exact q
 ·intro h i hi
  have hi':=List.mem_range.mp hi;rw[Hj hi',Option.getD_some];exact h _ (Hu hi')
theorem uG(hc:X.calm=true):gz X (.builtin "all") (C9 X.K):=by
 intro pins s σ H xs us Q I r h;obtain⟨p,bs,rfl,hs,q⟩:=h;obtain⟨u,rfl,ru⟩:=r.one;cases ru;obtain⟨its,rv,pl,_⟩:=I.list hs;have hlt:p<s.heap.objs.size:=by obtain⟨_,e,_⟩:=pl.isList;exact HS e
 have hlen:its.length=bs.length:=by rw[<- rv.length,Hm]
 refine call_all_walk (wpAny_pyIter_list pl.isList ?_);refine⟨s.heap.objs.size,[s.heap.objs.size,p],[s.heap.objs.size],its.toArray.size,_,_,fun i=>(bs[i]?).getD true,rfl,Walks.list (A:=X.A.in1) (I.ok.hd hc) _ p (HK hlt) its.toArray,
  ⟨⟨_,Hs _ rfl,rfl,rfl⟩,pl.isList.push _⟩,fun i v s' Q' E' hP hQ=>?_,fun h' tk hk=>?_⟩
 ·obtain⟨k,e,rfl⟩:=wX (i:=i) rv (by simpa using hP)
  dsimp only at hQ;rw[e,Option.getD_some]at hQ;exact wpAny_truthy_bool hQ
 ·have e:((List.range its.toArray.size).all fun i=>(bs[i]?).getD true)=bs.all id:=by rw[Ht,hlen];exact xu bs
  rw[e];exact⟨.bl _,H,I.kept (t':=tk) fun b o eo=>hk b o (fun hm=>by rw[Hn.mp hm]at eo;exact HZ _ (HS eo)) (Hl _ eo),rfl,q⟩
end
section
variable {K:PySem.W.Frag}{g:TG}{ti:TT}{te:TE}{σ:St}{H:Hp}{Q:List V->Hp->Prop}
theorem Ar{a:Addr}{xs:List V}(Pv:Nat->List V->St->Hp->Prop)(h0:Pv 0 [] σ H)(hz:∀i acc σ H,Pv i acc σ H->acc.length<sizeLine)(hi:∀i acc σ H,Pv i acc σ H->i<=xs.length)
  (hl:∀i acc σ H,Pv i acc σ H->bd K H a xs)
  (hs:∀i x acc σ H,xs[i]?=some x->Pv i acc σ H->g x σ H fun σ2 H3=>ti σ2 H3 fun b H4=>if b=true then te σ2 H4 fun v H5=>Pv (i+1) (acc++[v]) σ2 H5 else Pv (i+1) acc σ2 H4)
  (he:∀acc σ H,Pv xs.length acc σ H->Q acc H):gR (BU K a) g ti te σ H Q:=by
 exact jW (J:=BU K a) (g:=g) (ti:=ti) (te:=te) (Q:=Q) (n:=xs.length) Pv h0 hz hi (fun acc σ H w=>⟨xs,hl _ _ _ _ w,HP _⟩)
  (fun i acc σ H hlt w=>⟨xs,xs[i],hl _ _ _ _ w,Hj hlt⟩) (fun i x acc σ H H2 hlt w y=>by obtain⟨rfl,hx⟩:=y;exact hs i x acc σ H2 (hx xs (hl _ _ _ _ w)) w) he
end
end L2
namespace QL
open PySem L2 bC PySem.Builtin PySem.Builtin.Str
end QL
namespace L2
open PySem PySem.Spec PyProof.Rows
section
variable {X:Cx}{K:PySem.W.Frag}{tg:Expr}
theorem vO(hK:X.K=K):gz X (.builtin "len") (fun xs H Q=>∃p ys,xs=[.ref p]/\aW K H p ys/\Q (.int ys.length) H):=hK▸aO
theorem o8(hK:X.K=K):B6 X (vk K):=hK▸lW
theorem ly(hK:X.K=K):B6 X (vG K):=hK▸yG
theorem yr(hK:X.K=K):Do X "str.join" (wy K):=hK▸nX
end
end L2
namespace PySem
open Sem (wp)
noncomputable def TrD(cp:Value->Prop)(h base:Heap)(e:Addr)(cls:Value)(od:Option Addr)(fl:Value):Prop:=
 ∃oe vs T oT ts,h.get? e=some oe/\oe.cls=cls/\oe.dict=od/\oe.data=.fields vs/\vs[1]?=some (.ref T)/\base.get? T=none/\T≠e/\h.get? T=some oT/\oT.data=.fields ts/\ts[3]?=some fl/\∃cx,vs[2]?=some cx/\cp cx
structure fG(cp:Value->Prop)(base:Heap)(l:List Env)(e:Addr)(cls:Value)(od:Option Addr)(fl:Value)(h:Heap):Prop where
 st:base.StaysIn h
 new:base.get? e=none
 ff:h.FunFrames base l
 tr:TrD cp h base e cls od fl
noncomputable abbrev DH:=fG (fun v=>v=.none)
theorem fG.there{cp:Value->Prop}{base h:Heap}{l:List Env}{e:Addr}{cls fl:Value}{od:Option Addr}(x:fG cp base l e cls od fl h):∃oe vs,h.get? e=some oe/\oe.cls=cls/\oe.dict=od/\oe.data=.fields vs:=by
 obtain⟨oe,vs,_,_,_,a,b,c,d,_⟩:=x.tr;exact⟨oe,vs,a,b,c,d⟩
theorem jJ(o:Obj)(f:Array Value->Array Value):(Obj.mapFields f o).dict=o.dict:=by unfold Obj.mapFields;split<;>rfl
section
variable {cp:Value->Prop}{M:Model}{A:Around}{E:Value->Shared->Prop}{s:Shared}{base:Heap}{env:Env}{outer:List Env}{L e:Addr}{Q:Unit->Shared->Prop}
theorem iw{cls fl:Value}{od:Option Addr}{l:List Env}(x:fG cp base l e cls od fl s.heap)(h:∀h',fG cp base l e cls od .none h'->s.heap.UpToSlots h'->Q () {s with heap:=h' }):wpAny M A (setFlight (.ref e) none) Q E s:=by
 obtain⟨oe,vs,T,oT,ts,he,hc,ho,hd,h1,hnT,hTe,hT,hdT,h3,hcx⟩:=x.tr;have hsz:3<ts.size:=(Array.getElem?_eq_some_iff.mp h3).1;have oth:∀b,b≠T->(s.heap.update T (Obj.mapFields (·.setIfInBounds 3 Value.none))).get? b=s.heap.get? b:=fun b hb=>Hr _ _ (Ne.symm hb);have nrec:∀b o,s.heap.get? b=some o->(∀vs,o.data≠.fields vs)->b≠T:=fun b o hb hnf q=>by rw[q,hT]at hb;injection hb with hb;subst hb;exact hnf ts hdT
 unfold setFlight;refine wpAny_bind (wpAny_field he hd h1 ?_);rw[if_pos (show(Value.ref T != Value.none)=true from by simp)];refine wpAny_setField hT hdT hsz (h _ ⟨fun b o hb=>(oth b fun q=>by rw[q,hnT]at hb;cases hb).trans (x.st b o hb),x.new,x.ff.of_keeps fun b o hb hnf=>⟨o,(oth b (nrec b o hb hnf)).trans hb,rfl⟩,?_⟩ fun b o hb hnf=>⟨o.slots,(oth b (nrec b o hb hnf)).trans hb⟩);exact⟨oe,vs,T,_,_,(oth e (Ne.symm hTe)).trans he,hc,ho,hd,h1,hnT,hTe,Hw _ hT (Obj.isFreed_of_fields (Obj.data_mapFields hdT _)),Obj.data_mapFields hdT _,by simp[hsz],hcx⟩
theorem zn{oe:Obj}{vs:Array Value}{head:Value}{hadNext:Bool}(hfr:A.frames=some (env::outer))(hl:s.heap.FunFrames base (env::outer))(hf:env.frame=some L)
  (he:s.heap.get? e=some oe) (hkb:base.StaysIn s.heap) (hen:base.get? e=none) (hd:oe.data=.fields vs) (hsz:1<vs.size) (hcx:∃cx,vs[2]?=some cx/\cp cx)
  (h:∀h',fG cp base (env::outer) e oe.cls oe.dict (rawInt L) h'->s.heap.UpToSlots h'->Q () {s with heap:=h' }) :
  wpAny M A (do let a <- frameOf env;let pl <- entryPlaceOf L hadNext;let b <- EntryCells.newEntry head a .none (rawInt L) .none pl;setField (.ref e) 1 b) Q E s:=by
 have hene:e∉(env::outer).filterMap (·.frame):=fun hm=>by
  obtain⟨_,o,ho,hnf⟩:=hl.mem hm;rw[he]at ho;injection ho with ho;subst ho;exact hnf vs hd
 refine wpAny_bind (wpAny_frameOf_fun hfr hl hf fun h₁ hs₁=>?_);refine wpAny_bind (wpAny_entryPlaceOf fun pl hpl=>?_);unfold EntryCells.newEntry newFields;refine wpAny_bind (wpAny_newObj_type ?_ (hpl.sizeOk5 _ _ _ _ _));have he₁:h₁.get? e=some oe:=(hs₁.2.1 e hene).trans he;have kb₁:base.StaysIn h₁:=fun b o hb=>(hs₁.2.1 b fun hm=>by rw[(hl.mem hm).1]at hb;cases hb).trans (hkb b o hb);generalize hT0:({cls:=.type "traceback",dict:=none,data:=.fields ([head,.ref L,.none,rawInt L,.none]++(if pl.isEmpty then List.replicate 6 Value.none else pl)).toArray}:Obj)=To;have dTo:To.data=.fields ([head,.ref L,.none,rawInt L,.none]++(if pl.isEmpty then List.replicate 6 Value.none else pl)).toArray:=by rw[<- hT0]
 have he₂:=Hl (h:=h₁) To he₁;have hTe:h₁.objs.size≠e:=Nat.ne_of_gt (HS he₁);have keep:∀b o,b≠e->h₁.get? b=some o->((h₁.push To).update e (Obj.mapFields (·.setIfInBounds 1 (Value.ref h₁.objs.size)))).get? b=some o:=fun b o hbe hb=>by
  rw[Hr _ _ (Ne.symm hbe)];exact Hl _ hb
 have nrec:∀b o,s.heap.get? b=some o->(∀vs,o.data≠.fields vs)->b≠e:=fun b o hb hnf q=>by
  rw[q,he]at hb
  injection hb with hb
  subst hb;exact hnf vs hd
 refine wpAny_setField he₂ hd hsz (h _ ?_ ?_)
 ·have hd₃:=Obj.data_mapFields hd (·.setIfInBounds 1 (Value.ref h₁.objs.size))
  refine⟨fun b o hb=>keep b o (fun q=>by rw[q,hen]at hb;cases hb) (kb₁ b o hb),hen,hl.of_keeps fun b o hb hnf=>?_,?_⟩
  ·obtain⟨sl,hs⟩:=hs₁.2.2 b o hb
   exact⟨_,keep b _ (nrec b o hb hnf) hs,rfl⟩
  ·refine⟨_,_,h₁.objs.size,To,_,Hw _ he₂ (Obj.isFreed_of_fields hd₃),Obj.cls_mapFields _ _,jJ _ _,hd₃,by simp[hsz],kb₁.fresh,hTe,?_,dTo,?_,?_⟩
   ·rw[Hr _ _ (Ne.symm hTe)]
    refine Hs _ ?_;rw[<- hT0];rfl
   ·first | (simp;done) | (rcases hpl with rfl | ⟨_,_,_,_,_,_,_,rfl⟩<;>simp)
   ·obtain⟨cx,h2,hp⟩:=hcx
    exact⟨cx,by rw[Array.getElem?_setIfInBounds_ne (by decide)];exact h2,hp⟩
 ·intro b o hb hnf
  obtain⟨sl,hs⟩:=hs₁.2.2 b o hb;exact⟨sl,keep b _ (nrec b o hb hnf) hs⟩
theorem Al{cls:Value}{od:Option Addr}(hfr:A.frames=some (env::outer))(hf:env.frame=some L)(x:fG cp base (env::outer) e cls od .none s.heap)
  (h:∀h',fG cp base (env::outer) e cls od (rawInt L) h'->s.heap.UpToSlots h'->Q () {s with heap:=h' }):wpAny M A (noteFrame (.ref e) env) Q E s:=by
 obtain⟨oe,vs,T,oT,ts,he,hc,ho,hd,h1,hnT,hTe,hT,hdT,h3,hcx⟩:=x.tr;subst hc ho;unfold noteFrame;simp only[hf];refine wpAny_bind (wpAny_field he hd h1 ?_);rw[if_pos (show(Value.ref T != Value.none)=true from by simp)];refine wpAny_bind (wpAny_field hT hdT h3 ?_);rw[if_neg (show ¬ ((Value.none==rawInt L)=true) from by simp[rawInt])];refine wpAny_bind (wpAny_setField hT hdT (Array.getElem?_eq_some_iff.mp h3).1 ?_);have oth:∀b,b≠T->(s.heap.update T (Obj.mapFields (·.setIfInBounds 3 Value.none))).get? b=s.heap.get? b:=fun b hb=>Hr _ _ (Ne.symm hb);have nrec:∀b o,s.heap.get? b=some o->(∀vs,o.data≠.fields vs)->b≠T:=fun b o hb hnf q=>by rw[q,hT]at hb;injection hb with hb;subst hb;exact hnf ts hdT
 refine zn hfr (x.ff.of_keeps fun b o hb hnf=>⟨o,(oth b (nrec b o hb hnf)).trans hb,rfl⟩) hf ((oth e (Ne.symm hTe)).trans he) (fun b o hb=>(oth b fun q=>by rw[q,hnT]at hb;cases hb).trans (x.st b o hb)) x.new hd (Array.getElem?_eq_some_iff.mp h1).1 hcx fun h' y up=>h h' y fun b o hb hnf=>up b o ((oth b (nrec b o hb hnf)).trans hb) hnf
theorem AD{oe:Obj}{vs:Array Value}(hfr:A.frames=some (env::outer))(hl:s.heap.FunFrames base (env::outer))(hf:env.frame=some L)(he:s.heap.get? e=some oe)(hkb:base.StaysIn s.heap)(hen:base.get? e=none)(hd:oe.data=.fields vs)(h1:vs[1]?=some .none)(hcx:∃cx,vs[2]?=some cx/\cp cx)
  (h:∀h',fG cp base (env::outer) e oe.cls oe.dict (rawInt L) h'->s.heap.UpToSlots h'->Q () {s with heap:=h' }):wpAny M A (noteFrame (.ref e) env) Q E s:=by
 unfold noteFrame;simp only[hf];refine wpAny_bind (wpAny_field he hd h1 ?_);rw[if_neg (by decide)];exact zn hfr hl hf he hkb hen hd (Array.getElem?_eq_some_iff.mp h1).1 hcx h
theorem fG.drop{cls fl:Value}{od:Option Addr}{h:Heap}(x:fG cp base (env::outer) e cls od fl h):fG cp base outer e cls od fl h:=⟨x.st,x.new,x.ff.2.2,x.tr⟩
theorem yU{cls:Value}{od:Option Addr}(hfr:A.frames=some (env::outer))(hf:env.frame=some L)(x:fG cp base (env::outer) e cls od .none s.heap)
  (h:∀h',fG cp base outer e cls od .none h'->s.heap.UpToSlots h'->Q () {s with heap:=h' }):wpAny M A (leaving env (.ref e)) Q E s:=by
 unfold leaving;exact wpAny_bind (Al hfr hf x fun h1 y1 u1=>iw y1 fun h2 y2 u2=>h h2 y2.drop (u1.trans u2))
theorem wU{oe:Obj}{vs:Array Value}(hfr:A.frames=some (env::outer))(hl:s.heap.FunFrames base (env::outer))(hf:env.frame=some L)(he:s.heap.get? e=some oe)(hkb:base.StaysIn s.heap)(hen:base.get? e=none)(hd:oe.data=.fields vs)(h1:vs[1]?=some .none)(hcx:∃cx,vs[2]?=some cx/\cp cx)
  (h:∀h',fG cp base outer e oe.cls oe.dict .none h'->s.heap.UpToSlots h'->Q () {s with heap:=h' }):wpAny M A (leaving env (.ref e)) Q E s:=by
 unfold leaving;exact wpAny_bind (AD hfr hl hf he hkb hen hd h1 hcx fun h1 y1 u1=>iw y1 fun h2 y2 u2=>h h2 y2.drop (u1.trans u2))
end
end PySem
namespace L2
open PySem PySem.Spec PyProof.Rows
structure Fly0(P:Program)(w:World)(outer:List Env)(H:Hp)(s:Shared)(B:Heap)(H':Hp)(s':Shared):Prop where
 st:B.StaysIn s'.heap
 ff:s'.heap.FunFrames B outer
 un:Un (il outer) [] H H' s.heap s'.heap
 hok:kh P w H' s'.heap
 cov:∀b o,H' b=some o->∃ob,B.get? b=some ob
 old:∀b o,s.heap.get? b=some o->b∉il outer->∃o',B.get? b=some o'
 os:s'.os=s.os
 bare:AllBare s'.gens
structure DB(cp:Value->Prop)(P:Program)(w:World)(outer:List Env)(H:Hp)(s:Shared)(B:Heap)(H':Hp)(s':Shared)(ea:Addr)(cls:Value)(od:Option Addr):Prop extends Fly0 P w outer H s B H' s' where
 fl:fG cp B outer ea cls od .none s'.heap
noncomputable def C7(cp:Value->Prop)(P:Program)(w:World):jL:=fun outer H s E e s'=>∃ea cls od B H',e=.ref ea/\DB cp P w outer H s B H' s' ea cls od/\H' ea=none/\E cls od H'
noncomputable abbrev dM(P:Program)(w:World):jL:=C7 (fun v=>v=.none) P w
theorem b8{cp:Value->Prop}{P:Program}{w:World}{X:Cx}:ck (C7 cp P w) X (fun _ _ _=>False):=fun _ _ _ _ _ _ _ h=>by
 obtain⟨_,_,_,_,_,_,_,_,f⟩:=h;exact f.elim
theorem nv{P:Program}{w:World}{H:Hp}{B h h':Heap}(ok:kh P w H h)(cov:∀b o,H b=some o->∃ob,B.get? b=some ob)(k:B.StaysIn h)(k':B.StaysIn h'):kh P w H h':=fun a o e=>
 (ok a o e).stay (fun b u hb q=>by
  have hb':∃ob,B.get? b=some ob:=by
   rcases hb with rfl | hb
   ·exact cov _ _ e
   ·exact cov _ _ hb
  obtain⟨ob,hB⟩:=hb';have:=k b ob hB;rw[q]at this;cases this;exact k' b _ hB) (fun _ q=>q) fun _ _ q=>q
theorem bz.there{P:Program}{w:World}{H:Hp}{h:Heap}{a:Addr}{o:HO}(x:bz P w H h a o):∃ob,h.get? a=some ob:=by
 cases o with
 |lst xs=>obtain⟨_,_,_,_,e⟩:=x;exact⟨_,e⟩
 |tup xs=>obtain⟨_,_,_,ob,e,_⟩:=x;exact⟨_,e⟩
 |dK kvs=>obtain⟨_,_,_,_,o,_,_,e,_⟩:=x;exact⟨_,e⟩
 |dT kvs=>obtain⟨_,_,_,_,o,_,_,e,_⟩:=x;exact⟨_,e⟩
 |set S n=>obtain⟨o,_,_,_,e,_⟩:=x;exact⟨_,e⟩
 |ins C dx fs=>obtain⟨_,_,_,e,_⟩:=x;exact⟨_,e⟩
 |own y=>exact x
 |xd fs=>obtain⟨_,⟨_,_,_,e,_⟩,_⟩:=x;exact⟨_,e⟩
 |rng lo hi=>obtain⟨_,_,_,e⟩:=x;exact⟨_,e⟩
 |frz ob u=>obtain⟨e,_⟩:=x;exact⟨_,e⟩
 |tbl ps=>exact⟨_,show h.get? a=some _ from x⟩
 |met f y=>exact⟨_,show h.get? a=some _ from x⟩
 |ext φ=>obtain⟨_,e,_⟩:=x;exact e
section
variable {P:Program}{w:World}{K:PySem.W.Frag}{mg:Str->Option Value}{base:Heap}{N:List Str}{qual:Str}{scope:Scope}{f:Addr}{cd:Value}{A:Around}{outer:List Env}{s:Shared}{H:Hp}{E E1:XK}{CX:jL}
theorem Fly0.up{cp:Value->Prop}{X:Cx}{pins:List (Addr×Obj)}{σ:St}{H1 H':Hp}{s1 s':Shared}{B h':Heap}{ea:Addr}{cls:Value}{od:Option Addr}(I:Inv X pins σ H1 s1)(hex:X.ex=[])(hst:X.stack=X.env::X.outer)(hfr:X.env.frame=some X.env.locals)(hP:X.prog=P)(hw:X.w=w)
  (x:Fly0 P w X.stack H1 s1 B H' s') (fl2:fG cp B X.outer ea cls od .none h') (up:s'.heap.UpToSlots h') :
  DB cp P w X.outer X.H₀ X.s₀ B H' {s' with heap:=h' } ea cls od:=by
 have nex:∀b,b∉X.ex:=fun b=>by rw[hex];simp
 have nfr:∀b o,X.s₀.heap.get? b=some o->b∉X.fs->b∉il X.stack:=fun b o e hb hm=>by
  rw[hst]at hm;unfold il at hm;rw[List.filterMap_cons,hfr]at hm;rcases HF.mp hm with z | z
  ·exact absurd (HS e) (by rw[z];exact Nat.not_lt.mpr I.ok.above)
  ·exact hb z
 have sub:∀b,b∈X.fs->b∈il X.stack:=fun b hb=>by
  rw[hst];unfold il;rw[List.filterMap_cons,hfr];exact HH _ hb
 have kB:∀b o,X.s₀.heap.get? b=some o->b∉X.fs->∃o',B.get? b=some o':=fun b o e hb=>by
  obtain⟨o1,e1⟩:=I.base.there b o e (nex b);exact x.old b o1 e1 (nfr b o e hb)
 have fr0:∀b∈X.fs,X.H₀ b=none:=I.ok.frf;have sl:∀b o,X.s₀.heap.get? b=some o->X.H₀ b=none->b∈X.fs->∃sl,h'.get? b=some {o with slots:=sl}:=fun b o e hn hb=>by
  obtain⟨sl1,e1⟩:=I.base.slot b o e hn hb (nex b);have n1:=I.base.free b o e hn (nex b);obtain⟨sl2,e2⟩:=x.un.slot b _ e1 n1 (sub b hb) (by simp);obtain⟨_,o3,e3,nf⟩:=x.ff.mem (sub b hb);rw[e2]at e3;cases e3;obtain⟨sl3,e4⟩:=up b _ e2 nf;exact⟨sl3,e4⟩
 refine⟨⟨fl2.st,fl2.ff,⟨fun b o e hn hb _=>?_,fun b o e hn hb _=>sl b o e hn hb,fun b o e hn _=>?_,fun b o e _=>?_,fun b xs q=>x.un.tups b xs (I.base.tups b xs q),fun b o u q=>x.un.frzs b o u (I.base.frzs b o u q),fun b ps q=>?_⟩,nv x.hok x.cov x.st fl2.st,x.cov,kB,x.os.trans I.os,x.bare⟩,fl2⟩
 ·have e1:=I.base.keep b o e hn hb (nex b)
  have n1:=I.base.free b o e hn (nex b);have e2:=x.un.keep b o e1 n1 (nfr b o e hb) (by simp);obtain⟨o',eB⟩:=kB b o e hb;have:=x.st b o' eB;rw[e2]at this;cases this;exact fl2.st b _ eB
 ·obtain⟨o1,e1⟩:=I.base.there b o e (nex b)
  exact x.un.free b o1 e1 (I.base.free b o e hn (nex b)) (by simp)
 ·by_cases hb:b∈X.fs
  ·obtain⟨z,ez⟩:=sl b o e (fr0 b hb) hb
   exact⟨_,ez⟩
  ·obtain⟨o',eB⟩:=kB b o e hb
   exact⟨_,fl2.st b _ eB⟩
 ·obtain⟨m1,e1⟩:=I.base.tbls b ps q
  obtain⟨m2,e2⟩:=x.un.tbls b _ e1;exact⟨m1++m2,by rw[e2,Array.append_assoc]⟩
theorem dG{cp:Value->Prop}(hE:∀c d H',E1 c d H'->E c d H'):ck (C7 cp P w) (dh (C7 cp P w) P w K mg base N qual scope f cd A outer s H E) E1:=by
 intro pins σ H1 s1 e s' I x;obtain⟨ea,cls,od,B,H',rfl,fly,hn,q⟩:=x;refine yU I.ok.frames rfl fly.fl fun h' fl2 up=>?_;exact⟨ea,cls,od,B,H',rfl,Fly0.up I rfl rfl rfl rfl rfl fly.toFly0 fl2 up,hn,hE _ _ _ q⟩
noncomputable def y8(X:Cx)(E:XK):Prop:=∀(pins:List (Addr×Obj)) (σ:St) (H:Hp) (s:Shared) (h':Heap) (e:Addr) (cls:Value) (vs:List Value),Inv X pins σ H s->Heap.MadeExcOf s.heap h' e cls vs->E cls none H->X.xe (.ref e) {s with heap:=h' }
theorem g_(hE:∀c d H',E1 c d H'->E c d H'):y8 (dh (dM P w) P w K mg base N qual scope f cd A outer s H E) E1:=by
 intro pins σ H1 s1 h1 e cls vs I x q;have hin:∀env∈(dh (dM P w) P w K mg base N qual scope f cd A outer s H E).stack,∀b,env.frame=some b->b∈il (dh (dM P w) P w K mg base N qual scope f cd A outer s H E).stack:=fun env he b hb=>List.mem_filterMap.mpr ⟨env,he,hb⟩;obtain⟨t0,he0,ht0,htt⟩:=x.there;have nt:∀b,s1.heap.get? b=none->H1 b=none:=fun b hb=>by
  cases z:H1 b with
  |none=>rfl
  |some o=>
   obtain⟨ob,hob⟩:=(I.hok b o z).there;rw[hb]at hob;cases hob
 have hff:=PySem.W.funFrames_hide I.stack hin;have fly0:Fly0 P w (dh (dM P w) P w K mg base N qual scope f cd A outer s H E).stack H1 s1 (PySem.W.hideAll s1.heap (il (dh (dM P w) P w K mg base N qual scope f cd A outer s H E).stack)) H1 {s1 with heap:=h1}:=
  ⟨fun b o e=>x.keeps b o (PySem.W.of_hideAll _ e),hff.of_keeps fun b o e _=>⟨o,x.keeps b o e,rfl⟩,Un.kept x.keeps,I.hok.kept x.keeps,fun b o z=>by
   obtain⟨ob,hob⟩:=(I.hok b o z).there;exact⟨ob,PySem.W.hideAll_get _ hob fun hm=>by rw[I.stkFree b hm]at z;cases z⟩,fun b o e hm=>⟨o,PySem.W.hideAll_get _ e hm⟩,rfl,I.bare⟩
 have newB:(PySem.W.hideAll s1.heap (il (dh (dM P w) P w K mg base N qual scope f cd A outer s H E).stack)).get? e=none:=by
  cases z:(PySem.W.hideAll s1.heap (il (dh (dM P w) P w K mg base N qual scope f cd A outer s H E).stack)).get? e with
  |none=>rfl
  |some o=>have:=PySem.W.of_hideAll _ z;rw[x.new]at this;cases this
 refine wU (cp:=fun v=>v=.none) (s:={s1 with heap:=h1}) I.ok.frames fly0.ff rfl he0 fly0.st newB rfl rfl ⟨_,rfl,rfl⟩ fun h' fl2 up=>?_;exact⟨e,cls,none,_,H1,rfl,Fly0.up I rfl rfl rfl rfl rfl fly0 fl2 up,nt e x.new,hE _ _ _ q⟩
end
structure uw(K:PySem.W.Frag)(C:Addr)(bmB:List Value)(newId:String):Prop where
 exc:PySem.W.excIn K C bmB newId=true
theorem uw.obj{K:PySem.W.Frag}{C:Addr}{bmB:List Value}{newId:String}{h:Heap}(c:uw K C bmB newId)(X:K.In h):∃bm N nm q bs hdct sn sub ab col dd k0 k1 k2 k3 k5 mN,
  h.get? C=some (excClassObj nm q C N bs bm hdct sn sub ab col dd k0 k1 k2 k3 k5 newId)/\h.Ns N mN/\mN "__init__"=none/\OwnTail h bmB bm/\∃dd' cd sl,K.lookup C=some ⟨.type "type",dd',.cls cd,sl⟩/\cd.mro=.ref C::bm:=by
 have q:=c.exc;unfold PySem.W.excIn at q;cases hl:K.lookup C with
 |none=>rw[hl]at q;cases q
 |some ob=>
  rw[hl]at q
  split at q
  ·rename_i dd cd sl e
   cases e
   split at q
   ·rename_i C' bm k0 k1 k2 k3 n k5 hm hs
    simp only[Bool.and_eq_true,beq_iff_eq,Bool.not_eq_true']at q;obtain⟨⟨⟨⟨⟨rfl,rfl⟩,hdel⟩,ht⟩,hok⟩,hni⟩:=q;have ho:=X _ _ hl;have hsl:sl=#[k0,k1,k2,k3,some (.builtin n),k5]:=Array.toList_inj.mp hs;subst hsl;obtain⟨nm,bs,mro,ns,qn,hd,sn,sub,ab,col,del⟩:=cd;dsimp only at hm hdel hok hni ho;subst hm hdel;exact⟨bm,ns,nm,qn,bs,hd,sn,sub,ab,col,dd,k0,k1,k2,k3,k5,_,ho,.of_isNs (PySem.W.isNs_of_in X hok),PySem.W.nsMap_none_of_in X hok hni,PySem.W.tail_of_in X ht,dd,_,_,rfl,rfl⟩
   ·cases q
  ·cases q
section
variable {X:Cx}{x:Str}{np cpos pos:Pos}{e₀:Expr}{bt:List Expr}{t:TA}{C:Addr}{B Bn newId nid initId inN:String}{bm bmN:List Value}{E:XK}
noncomputable def sJ(C:Addr)(E:XK)(t:TA):TS:=fun _ σ H=>t σ H fun vs H1=>vs.length<=sizeLine/\E (.ref C) none H1
theorem Aq(c:uw X.K C bm newId)(Fn:ExcBaseFacts Bn newId inN bmN)(hBn:bm.contains (.type Bn)=true)(FB:ExcBaseFacts B nid initId bm)(hc:X.calm=true)(hg:Gl X x)(hm:X.mg x=some (.ref C))(hx:y8 X E)(ha:PA X (e₀::bt) t)
  (hd:(x==("__debug__":Str))=false:=by decide +kernel)
  (he:starEach (e₀::bt) X.env=(false,eval e₀ X.env)::starEach bt X.env:=by rfl) (hpl:(backTo cpos (starEach bt X.env)).any (·.1)=false:=by rfl) :
  PS X (.Raise (some (.Call (.Name x np) (e₀::bt) [] cpos)) none pos) (sJ C E t):=by
 intro pins s σ H D I h;obtain⟨tl,N,nm,q,bs,hdct,sn,sub,ab,col,dd,k0,k1,k2,k3,k5,mN,hC,hN,hni,T,_⟩:=c.obj I.mod.kin;refine wpAny_Raise_call_subU (C:=C) (nm:=nm) (q:=q) (N:=N) (bs:=bs) (bm:=tl) (hdct:=hdct) (sn:=sn) (sub:=sub) (ab:=ab) (col:=col) (dd:=dd) (k0:=k0) (k1:=k1) (k2:=k2) (k3:=k3) (k5:=k5)
  Fn hBn FB (mN:=mN) (T.hasType FB.hasBase) (I.ok.hd hc) (by rw[he];show(false||(backTo cpos (starEach bt X.env)).any (·.1))=false;rw[hpl];rfl) hni (eV I hg hm ⟨rfl,?_⟩ hd)
 rw[he];have ha':=ha cpos pins s σ H _ I h;rw[he]at ha';exact Calls.evalArgs_plain (wpAny_mono ha' (fun us s₂ ⟨vs,H1,I1,r1,z,q1⟩=>⟨rfl,by rw[<- r1.length];exact z,I1.bk _ _ hC,hN.keeps I1.bk,T.keeps I1.bk,fun h' e hx'=>hx pins σ H1 s₂ h' e _ _ I1 hx' q1⟩) fun _ _ y=>y)
end
noncomputable abbrev TX:=St->Hp->VK->XK->Prop
noncomputable def PX(CX:jL)(X:Cx)(e:Expr)(t:TX):Prop:=
 ∀(pins:List (Addr×Obj)) (s:Shared) (σ:St) (H:Hp) (Q:VK) (E:XK) (Ex:Value->Shared->Prop),Inv X pins σ H s->t σ H Q E->(∀H1 s1 ev s',Inv X pins σ H1 s1->CX X.stack H1 s1 E ev s'->Ex ev s') ->
  wpAny (model X.prog X.w) X.A (eval e X.env) (EP X pins σ Q) Ex s
section
variable {X:Cx}{CX:jL}{k:Nat}{ps:List Str}{sp:Sp}{x:Str}{p pos:Pos}{e:Expr}{es:List Expr}{t:TA}
noncomputable def vj(sp:Sp)(t:TA):TX:=fun σ H Q E=>t σ H fun vs H1=>sp vs H1 Q E
theorem CJ(c:eX X.prog X.w X.K X.mg X.base CX k x ps sp)(hr:b5 k X.A)(hg:Gl X x)(ha:PA X.nox (e::es) t)(hdb:(x==("__debug__":Str))=false:=by decide +kernel)
  (hst:starEach (e::es) X.env=(false,eval e X.env)::starEach es X.env:=by rfl) (hpl:(backTo pos (starEach es X.env)).any (·.1)=false:=by rfl):PX CX X (.Call (.Name x p) (e::es) [] pos) (vj sp t):=by
 intro pins s σ H Q E Ex I h hEx;obtain⟨f,fd,F,hm,hk,hb⟩:=c.ex;refine wpAny_Call_Name_kw (eV I hg hm ?_ hdb);refine PySem.W.callWith_K (h₀:=X.base) I.ok.mod.kin hk (wpAny_mono (ha pos pins s σ H _ (I.wish _) h) (fun us s1 ⟨vs,H1,I1,r,q⟩=>⟨I1.kIn,?_⟩) fun _ _ f=>f.elim) hst hpl;have I2:Inv X pins σ H1 s1:=I1.unwish;have hl:(us++[]).length=ps.length:=by rw[Ia,<- r.length];exact F.len _ _ _ _ q
 have hb1:=hb s1 us I2.kIn hl;rw[Ia]at hb1;refine wpAny_call (codeAny_mono (F.run X.A X.stack s1 H1 ⟨us,[]⟩ us vs Q E hr I2.env0 hb1 r q) fun rr s' hq=>?_);cases rr with
 |error ev=>exact hEx H1 s1 ev s' I2 hq
 |ok fl=>
  cases fl with
  |ret u=>exact I2.after hq
  |next=>exact False.elim hq
  |brk=>exact False.elim hq
  |cont=>exact False.elim hq
end
theorem Fly0.un2{P:Program}{w:World}{outer:List Env}{H H':Hp}{s s':Shared}{B h6:Heap}(x:Fly0 P w outer H s B H' s')(k6:B.StaysIn h6)(up:s'.heap.UpToSlots h6)(fr0:∀b∈il outer,H b=none):Un (il outer) [] H H' s.heap h6:=by
 have sl:∀b o,s.heap.get? b=some o->H b=none->b∈il outer->∃sl,h6.get? b=some {o with slots:=sl}:=fun b o e hn hb=>by
  obtain⟨sl2,e2⟩:=x.un.slot b _ e hn hb (by simp);obtain⟨_,o3,e3,nf⟩:=x.ff.mem hb;rw[e2]at e3;cases e3;obtain⟨sl3,e4⟩:=up b _ e2 nf;exact⟨sl3,e4⟩
 refine⟨fun b o e hn hb _=>?_,fun b o e hn hb _=>sl b o e hn hb,fun b o e hn _=>x.un.free b o e hn (by simp),fun b o e _=>?_,x.un.tups,x.un.frzs,x.un.tbls⟩
 ·obtain⟨o',eB⟩:=x.old b o e hb
  have:=x.st b o' eB;rw[x.un.keep b o e hn hb (by simp)]at this;cases this;exact k6 b _ eB
 ·by_cases hb:b∈il outer
  ·obtain⟨z,ez⟩:=sl b o e (fr0 b hb) hb
   exact⟨_,ez⟩
  ·obtain⟨o',eB⟩:=x.old b o e hb
   exact⟨_,k6 b _ eB⟩
noncomputable def DJ(ea:Addr)(cls:Value)(od:Option Addr)(h:Heap):Prop:=∃o vs,h.get? ea=some o/\o.cls=cls/\o.dict=od/\o.data=.fields vs
noncomputable abbrev xo(ea:Addr)(cls:Value)(od:Option Addr):HO:=.ext (DJ ea cls od)
theorem Inv.caught{cp:Value->Prop}{X:Cx}{pins:List (Addr×Obj)}{σ:St}{H H':Hp}{s s':Shared}{B h6:Heap}{ea:Addr}{cls:Value}{od:Option Addr}(I:Inv X pins σ H s)(x:Fly0 X.prog X.w X.stack H s B H' s')(fl:fG cp B X.stack ea cls od .none h6)(up:s'.heap.UpToSlots h6)(hn:H' ea=none) :
  Inv X pins σ (aB H' ea (xo ea cls od)) {s' with heap:=h6}:=by
 obtain⟨oe,vs,he,hc,hod,hd⟩:=fl.there;have newB:B.get? ea=none:=fl.new;have nfr:ea∉il X.stack:=fun hm=>by
  obtain⟨_,o,ho,nf⟩:=fl.ff.mem hm;rw[he]at ho;cases ho;exact nf _ hd
 have nold:s.heap.get? ea=none:=by
  cases z:s.heap.get? ea with
  |none=>rfl
  |some o=>
   obtain⟨o',eB⟩:=x.old ea o z nfr;rw[newB]at eB;cases eB
 have u:=x.un2 fl.st up I.stkFree;have ok6:=nv x.hok x.cov x.st fl.st;have nq:∀b o,H' b=some o->b≠ea:=fun b o e z=>by rw[z,hn]at e;cases e
 refine I.call' (ch:=[]) x.os ⟨u.keep,u.slot,fun b o e n hx=>?_,u.there,fun b xs q=>?_,fun b o y q=>?_,fun b qs q=>?_⟩ (fun b o e=>?_) x.bare (fun b z=>absurd z (by simp))
 ·have nb:b≠ea:=fun z=>by rw[z,nold]at e;cases e
  rw[ai nb];exact u.free b o e n hx
 ·have q':=u.tups b xs q
  rw[ai (nq _ _ q')];exact q'
 ·have q':=u.frzs b o y q
  rw[ai (nq _ _ q')];exact q'
 ·obtain⟨more,q'⟩:=u.tbls b qs q
  exact⟨more,by rw[ai (nq _ _ q')];exact q'⟩
 ·by_cases hb:b=ea
  ·subst hb
   rw[ac]at e;cases e;exact⟨⟨oe,vs,he,hc,hod,hd⟩,⟨oe,he⟩,fun h1 h2 ⟨o,ws,e1,e2,e3,e4⟩ k=>⟨o,ws,k o e1,e2,e3,e4⟩⟩
  ·rw[ai hb]at e
   exact(ok6 b o e).stay (fun _ _ _ q=>q) (fun c q=>by rw[ai (nq _ _ q)];exact q) fun c xs q=>by rw[ai (nq _ _ q)];exact q
end L2
namespace PySem
open Sem (wp)
section
variable {M:Model}{A:Around}{E:Value->Shared->Prop}
variable {nm q nm' q':Str}{C N D N':Addr}{bs bm bs' bm':List Value}{hdct hdct':Bool}{sn sn':List Str}{sub sub':List Value}{ab ab':Bool}{col col':Option Bool}{dd dd':Option Addr}{k0 k1 k2 k3 k5 k0' k1' k2' k3' k5':Option Value}{newId newId':String}
theorem gS{h:Heap}{g:Array GenState}{d:Drawn}{t:Nat}{os:OsState}{e:Addr}{oe:Obj}{Q:Bool->Shared->Prop}
  (hC:h.get? C=some (excClassObj nm q C N bs bm hdct sn sub ab col dd k0 k1 k2 k3 k5 newId)) (hD:h.get? D=some (excClassObj nm' q' D N' bs' bm' hdct' sn' sub' ab' col' dd' k0' k1' k2' k3' k5' newId')) (he:h.get? e=some oe) (hcls:oe.cls=.ref C)
  (hbase:bm'.contains (.type "BaseException")=true) (hsub:(Value.ref C::bm).contains (.ref D)=true)
  (hq:Q true ⟨h,g,d,t,os⟩):wpAny M A (excMatches (.ref e) (.ref D)) Q E ⟨h,g,d,t,os⟩:=by
 have hcB:(Value.ref D::bm').contains (.type "BaseException")=true:=by rw[List.contains_cons,hbase,Bool.or_true]
 have f:=tc_notTuple;unfold excMatches
 repeat (first | (with_reducible refine wpAny_loadPart_at he ?_;rw[hcls]) | with_reducible refine wpAny_loadPart_at hD ?_ | (with_reducible refine wpAny_isSubtype_exc hD ?_;rw[hcB]) | (with_reducible refine wpAny_isSubtype_exc hC ?_;rw[hsub]) | wp_step)
 exact hq
end
end PySem
namespace L2
open PySem PySem.Spec PyProof.Rows
section
variable {X:Cx}{pins:List (Addr×Obj)}{σ:St}{H:Hp}{s:Shared}
theorem j9{M:Model}{A:Around}{E:Value->Shared->Prop}{i:Nat}{x:Str}{v:V}{pos:Pos}{Q:Unit->Shared->Prop}(I:Inv X pins σ H s)(hN:X.N.Nodup)(hi:X.N[i]?=some x)(hk:X.env.kindOf x=some .local)
  (h:∀s',Inv X pins (σ.set i none) H s'->Q () s'):wpAny M A (do bindName X.env x .none;unbindBehindTheSuite X.env x pos) Q E s:=by
 have hloc:X.env.scope.names.lookup x=some .local:=hk;refine wpAny_bind (wpAny_bindName (lP (v:=.non) I hN hi (.inl hloc) rfl (fun s1 I1=>?_) (.inr hloc)));unfold unbindBehindTheSuite;have hiσ:i<σ.length:=by rw[I.len];exact(Hk.mp hi).1
 obtain⟨m,hn,hl⟩:=id I1.loc;obtain⟨u,ru,lk⟩:=hl i x .non hi (Ib hiσ) (.inl hloc);have hm:m x=some u:=by
  rcases lk with⟨_,e⟩ | ⟨z,_⟩
  ·exact e
  ·rw[hk]at z;rcases z with z | z<;>cases z
 have hcls:(X.env.scope.kind==.class||(X.env.scope.kind==.module&&X.env.locals != X.env.globals))=false:=by rw[I.ok.kind];rfl
 refine wpAny_onRaise (wpAny_unbindName_local hk hn hm hcls fun h' u' hn' hs=>?_);have cne:=I1.cne;obtain⟨oL,_,_,hoL,_⟩:=id hn;refine h _ ⟨I1.ok,I1.os,I1.bare,⟨fun b o e n hb hx=>?_,fun b o e n hb hx=>?_,I1.base.free,fun b o e hx=>?_,I1.base.tups,I1.base.frzs,I1.base.tbls⟩,⟨_,hn',fun j y v' e1 e2 e3=>?_⟩,fun y c e=>?_,I1.free,I1.freeC,fun p hp=>?_,fun b ob e=>?_,by rw[Iq];exact I.len⟩
 ·exact(hs.2 b (HK (HJ (HS e) I1.ok.above))).trans (I1.base.keep b o e n hb hx)
 ·obtain⟨sl,e1⟩:=I1.base.slot b o e n hb hx
  exact⟨sl,(hs.2 b (HK (HJ (HS e) I1.ok.above))).trans e1⟩
 ·obtain⟨o',e1⟩:=I1.base.there b o e hx
  exact⟨o',(hs.2 b (HK (HJ (HS e) I1.ok.above))).trans e1⟩
 ·by_cases hj:j=i
  ·subst hj
   rw[Ib hiσ]at e2;cases e2
  ·rw[List.getElem?_set_ne (Ne.symm hj)]at e2
   obtain⟨u',r',q⟩:=hl j y v' e1 (by rw[List.getElem?_set_ne (Ne.symm hj)];exact e2) e3;refine⟨u',r',?_⟩;rcases q with⟨k,e⟩ | ⟨k,c,e,z⟩
   ·refine .inl ⟨k,?_⟩
    have:y≠x:=fun e=>hj (pU hN e1 (e▸hi));simp[this,e]
   ·exact .inr ⟨k,c,e,z.sameBut hs (cne y c e)⟩
 ·obtain⟨w',z⟩:=I1.cell y c e
  exact⟨w',z.sameBut hs (cne y c e)⟩
 ·obtain⟨e,n,ne,nf,d⟩:=I1.pin p hp
  exact⟨(hs.2 p.1 ne).trans e,n,ne,nf,d⟩
 ·refine(I1.hok b ob e).stay (fun c w' hc q=>(hs.2 c ?_).trans q) (fun _ q=>q) fun _ _ q=>q
  rintro rfl;rcases hc with rfl | hc
  ·rw[I1.free]at e;cases e
  ·rw[I1.free]at hc;cases hc
noncomputable abbrev Cx.held(X:Cx)(ea:Addr):Cx:={X with A:=X.A.mark (some (.ref ea)),calm:=false,xe:=fun _ _=>False}
theorem Inv.held(I:Inv X pins σ H s)(ea:Addr):Inv (X.held ea) pins σ H s:=
 ⟨⟨I.ok.mod,I.ok.kind,I.ok.glob,I.ok.blt,I.ok.above,I.ok.inj,I.ok.has,I.ok.cab,(fun z=>by cases z),I.ok.frames,I.ok.stk,I.ok.exf,I.ok.bs,I.ok.bsz,I.ok.noex,I.ok.exfs,I.ok.funs,I.ok.frf⟩,I.os,I.bare,I.base,I.loc,I.cell,I.free,I.freeC,I.pin,I.hok,I.len⟩
theorem Inv.unheld{ea:Addr}(hd:X.calm=true->X.A.handled=none)(I:Inv (X.held ea) pins σ H s):Inv X pins σ H s:=
 ⟨⟨I.ok.mod,I.ok.kind,I.ok.glob,I.ok.blt,I.ok.above,I.ok.inj,I.ok.has,I.ok.cab,hd,I.ok.frames,I.ok.stk,I.ok.exf,I.ok.bs,I.ok.bsz,I.ok.noex,I.ok.exfs,I.ok.funs,I.ok.frf⟩,I.os,I.bare,I.base,I.loc,I.cell,I.free,I.freeC,I.pin,I.hok,I.len⟩
end
noncomputable def oK(K:PySem.W.Frag)(C D:Addr):Prop:=∃dd cd sl,K.lookup C=some ⟨.type "type",dd,.cls cd,sl⟩/\cd.mro.contains (.ref D)=true
section
variable {X:Cx}{P:Program}{w:World}{e tg:Expr}{tx:TX}{g:TG}{i:Nat}{n x:Str}{D:Addr}{bmD:List Value}{nD:String}{b₀:Stmt}{suite:List Stmt}{apos pos hpos np:Pos}{ts:Addr->TS}
end
section
variable {X:Cx}{pins:List (Addr×Obj)}{σ:St}{H:Hp}{s:Shared}
theorem Inv.moved{ch:List Addr}{h':Heap}{tk:Nat}(I:Inv X pins σ H s)(hf:∀b∈ch,nN X pins H b)(k:∀b o,b∉ch->s.heap.get? b=some o->h'.get? b=some o):Inv X pins σ H {s with heap:=h',toks:=tk}:=by
 have nH:∀b o,H b=some o->b∉ch:=fun b o e z=>by rw[(hf b z).1]at e;cases e
 refine I.call' (s':={s with heap:=h',toks:=tk}) (ch:=ch) rfl ⟨fun b o e _ _ hc=>k b o hc e,fun b o e _ _ hc=>⟨o.slots,k b o hc e⟩,fun b o e n hc=>n,fun b o e hc=>⟨o,k b o hc e⟩,fun b xs q=>q,fun b o y q=>q,fun b qs q=>⟨#[],by rw[q];simp⟩⟩
  (fun b o e=>(I.hok b o e).stay (fun c u hc q=>k c u (by
   rcases hc with rfl | hc
   ·exact nH _ _ e
   ·exact nH _ _ hc) q) (fun _ q=>q) fun _ _ q=>q) I.bare fun b hb=>?_
 obtain⟨f0,f1,f2,f3,f4,f5⟩:=hf b hb;exact⟨f3,f1,f4,f5⟩
theorem Inv.movedT{ch:List Addr}{h':Heap}{tk:Nat}{T:Addr}{ob:HO}(I:Inv X pins σ H s)(hf:∀b∈ch,nN X pins H b)(k:∀b o,b∉ch->s.heap.get? b=some o->h'.get? b=some o)(hT:s.heap.objs.size<=T)(new:bz X.prog X.w (aB H T ob) h' T ob) :
  Inv X pins σ (aB H T ob) {s with heap:=h',toks:=tk}:=by
 have nH:∀b o,H b=some o->b∉ch:=fun b o e z=>by rw[(hf b z).1]at e;cases e
 have hn:H T=none:=I.hok.fresh hT;have nT:∀b o,s.heap.get? b=some o->b≠T:=fun b o e z=>by rw[z]at e;exact absurd (HS e) (Nat.not_lt.mpr hT)
 refine I.call' (s':={s with heap:=h',toks:=tk}) (ch:=ch) rfl ⟨fun b o e _ _ hc=>k b o hc e,fun b o e _ _ hc=>⟨o.slots,k b o hc e⟩,fun b o e n hc=>by rw[ai (nT b o e)];exact n,fun b o e hc=>⟨o,k b o hc e⟩,fun b xs q=>by rw[ai (aG q hn)];exact q,fun b o y q=>by rw[ai (aG q hn)];exact q,fun b qs q=>⟨#[],by rw[ai (aG q hn),q];simp⟩⟩
  (fun b o e=>?_) I.bare fun b hb=>?_
 ·by_cases hb:b=T
  ·subst hb
   rw[ac]at e;cases e;exact new
  ·rw[ai hb]at e
   exact(I.hok b o e).stay (fun c u hc q=>k c u (by
    rcases hc with rfl | hc
    ·exact nH _ _ e
    ·exact nH _ _ hc) q) (fun c q=>by rw[ai (aG q hn)];exact q) fun c xs q=>by rw[ai (aG q hn)];exact q
 ·obtain⟨f0,f1,f2,f3,f4,f5⟩:=hf b hb
  exact⟨f3,f1,f4,f5⟩
end
noncomputable def DX(K:PySem.W.Frag)(a b:Addr):It:=
 ⟨fun i H=>∃xs ys x y,aW K H a xs/\aW K H b ys/\xs[i]?=some x/\ys[i]?=some y,fun i H v H'=>∃T x y,v=.ref T/\H T=none/\H'=aB H T (.tup [x,y])/\(∀xs,aW K H a xs->xs[i]?=some x)/\∀ys,aW K H b ys->ys[i]?=some y,
  fun i H=>∃xs ys,aW K H a xs/\aW K H b ys/\(xs.length<=i\/ys.length<=i)⟩
theorem yI{P:Program}{w:World}{K:PySem.W.Frag}{elts:List Expr}{x1:Nat}{tp:Pos}{z TI TO i1 i2 l1 l2:Addr}(D:ZipApart z TI TO i1 i2 l1 l2) :
  oq P w K (.Tuple elts x1 tp) (DX K l1 l2) [z,TI,TO,i1,i2] z (fun i h=>IsZip h z TI TO .none/\IsPair h TI (.ref i1) (.ref i2)/\(∃a b,IsPair h TO a b)/\h.IsListIter i1 l1 i/\h.IsListIter i2 l2 i) where
 mem:=by simp
 obj:=fun i h st b hb=>by
  obtain⟨hz,hTI,⟨a,c,hTO⟩,⟨o1,e1,c1,d1⟩,⟨o2,e2,c2,d2⟩⟩:=st;simp only[HF,List.not_mem_nil,or_false]at hb;rcases hb with rfl | rfl | rfl | rfl | rfl
  ·exact⟨_,hz,fun v q=>by cases q⟩
  ·exact⟨_,hTI,fun v q=>by cases q⟩
  ·exact⟨_,hTO,fun v q=>by cases q⟩
  ·exact⟨_,e1,fun v q=>by rw[d1]at q;cases q⟩
  ·exact⟨_,e2,fun v q=>by rw[d2]at q;cases q⟩
 keep:=fun i h h' st hk=>by
  obtain⟨hz,hTI,⟨a,b,hTO⟩,h1,h2⟩:=st;exact⟨hk z (by simp) _ hz,hk TI (by simp) _ hTI,⟨a,b,hk TO (by simp) _ hTO⟩,h1.at fun o e=>hk i1 (by simp) o e,h2.at fun o e=>hk i2 (by simp) o e⟩
 item:=by
  intro X hP hw hK hc i pins s σ H E I hf st hg;subst hP hw hK;obtain⟨xs,ys,x,y,hq1,hq2,hx,hy⟩:=hg;obtain⟨its1,rv1,p1,hz1⟩:=I.list hq1;obtain⟨its2,rv2,p2,hz2⟩:=I.list hq2;obtain⟨u1,hu1,ru1⟩:=rv1.get hx;obtain⟨u2,hu2,ru2⟩:=rv2.get hy;obtain⟨hz,hTI,⟨a,b,hTO⟩,h1,h2⟩:=st;refine wpAny_pyNext_zip_item D hz hTI hTO h1 h2 p1.isList p2.isList (x:=u1) (y:=u2) (by simpa using hu1) (by simpa using hu2) fun h' a1 a2 a3 a4 a5 a6 hk=>?_;refine⟨_,rfl,wpAny_letOwnedTupleGo_zip a1 fun h2' hz' hs'=>?_⟩;have hfree:H s.heap.objs.size=none:=I.hok.fresh (HP _);have lt:∀{c o},s.heap.get? c=some o->s.heap.objs.size≠c:=fun e=>Nat.ne_of_gt (HS e);have kk:∀c o,c∉[z,TI,TO,i1,i2]->s.heap.get? c=some o->h2'.get? c=some o:=fun c o hc e=>
   hs'.extBut _ _ (fun q=>hc (by simp[q])) (hk c o (fun q=>hc (by simp[q])) (fun q=>hc (by simp[q])) (fun q=>hc (by simp[q])) (fun q=>hc (by simp[q])) e)
  have hT:h2'.get? s.heap.objs.size=some {cls:=.type "tuple",data:=.seq #[u1,u2]}:=hs'.extBut _ _ (lt hz) a5;refine⟨.ref s.heap.objs.size,aB H s.heap.objs.size (.tup [x,y]),I.movedT (tk:=s.toks) hf kk (HP _) ⟨show 2<=sizeLine from by decide +kernel,[u1,u2],.cons ru1 (.cons ru2 .nil),_,hT,rfl,_,rfl⟩,rfl,
   ⟨_,x,y,rfl,hfree,rfl,fun zs hzs=>by rw[I.list_inj hzs hq1];exact hx,fun zs hzs=>by rw[I.list_inj hzs hq2];exact hy⟩,
   ⟨hz',hs'.extBut _ _ D.TIz (hk _ _ D.TIz D.TITO D.TIi1 D.TIi2 hTI),⟨_,_,hs'.extBut _ _ D.TOz a2⟩,a3.extBut hs'.extBut D.i1z,a4.extBut hs'.extBut D.i2z⟩,fun b hb=>?_⟩
  have hlt:b≠s.heap.objs.size:=by
   obtain⟨o1,e1,_⟩:=h1;obtain⟨o2,e2,_⟩:=h2;simp only[HF,List.not_mem_nil,or_false]at hb;rcases hb with rfl | rfl | rfl | rfl | rfl
   ·exact(lt hz).symm
   ·exact(lt hTI).symm
   ·exact(lt hTO).symm
   ·exact(lt e1).symm
   ·exact(lt e2).symm
  rw[ai hlt];exact(hf b hb).1
 done:=by
  intro X hP hw hK hc i pins s σ H E I hf st hg;subst hP hw hK;obtain⟨xs,ys,hq1,hq2,hx⟩:=hg;obtain⟨its1,rv1,p1,hz1⟩:=I.list hq1;obtain⟨its2,rv2,p2,hz2⟩:=I.list hq2;obtain⟨hz,hTI,⟨a,b,hTO⟩,h1,h2⟩:=st;have l1':=rv1.length;have l2':=rv2.length;refine wpAny_pyNext_zip_end (I.ok.hd hc) D hz hTI hTO h1 h2 p1.isList p2.isList ?_ fun h' hk=>⟨rfl,I.moved (tk:=s.toks) hf fun c o hc e=>hk c o (fun q=>hc (by simp[q])) (fun q=>hc (by simp[q])) (fun q=>hc (by simp[q])) (fun q=>hc (by simp[q])) e⟩;rcases hx with hx | hx
  ·exact .inl (by simp;omega)
  ·exact .inr (by simp;omega)
 self:=fun _ _ _ _ _ st h=>wpAny_pyIter_zip st.1 h
theorem xg(n l1 l2:Nat)(h1:l1<n)(h2:l2<n):ZipApart (n+4) (n+2) (n+3) n (n+1) l1 l2:=by
 constructor<;>exact fun e=>absurd (show(_:Nat)=_ from e) (by omega)
section
variable {X:Cx}{elts:List Expr}{x1:Nat}{tp:Pos}
noncomputable def Cw(K:PySem.W.Frag)(ta:TA):TI:=fun σ H R=>ta σ H fun vs H1=>∃a b xs ys,vs=[.ref a,.ref b]/\aW K H1 a xs/\aW K H1 b ys/\R (DX K a b) H1
theorem CU{a b:Expr}{ta:TA}{p pos:Pos}(hg:Gl X "zip")(hm:X.mg "zip"=none)(ha:PA X [a,b] ta)(hs:starEach [a,b] X.env=[(false,eval a X.env),(false,eval b X.env)]:=by rfl)(hs2:starEach [b] X.env=[(false,eval b X.env)]:=by rfl):PI X (.Tuple elts x1 tp) (.Call (.Name "zip" p) [a,b] [] pos) (Cw X.K ta):=by
 intro pins s σ H R I h;refine Call_ (bY I hg hm boot_zip (PyProof.Rows.callWith_type1 (bF (ha pos pins s σ H _ I h) fun us s1 ⟨vs,H1,I1,r1,q1⟩=>?_) (by rw[hs,hs2]) (by rw[hs2];rfl)));obtain⟨l1,l2,xs,ys,rfl,hq1,hq2,q⟩:=q1;obtain⟨u,v,rfl,ru,rv⟩:=r1.two;cases ru;cases rv;obtain⟨its1,rv1,p1,_⟩:=I1.list hq1;obtain⟨its2,rv2,p2,_⟩:=I1.list hq2;refine call_zip_2 p1.isList p2.isList fun h' z1 z2 z3 z4 z5 z6 hk=>?_;have lt1:l1<s1.heap.objs.size:=by obtain⟨_,e,_⟩:=p1.isList;exact HS e
 have lt2:l2<s1.heap.objs.size:=by obtain⟨_,e,_⟩:=p2.isList;exact HS e
 have I2:Inv X pins σ H1 {s1 with heap:=h' }:=I1.kept (t':=s1.toks) hk;refine wpAny_pyIter_zip z1 ?_;refine⟨s1.heap.objs.size+4,[s1.heap.objs.size+4,s1.heap.objs.size+2,s1.heap.objs.size+3,s1.heap.objs.size,s1.heap.objs.size+1],_,_,H1,rfl,I2,yI (l1:=l1) (l2:=l2) ?_,⟨z1,z2,⟨_,_,z3⟩,z4,z5⟩,fun b hb=>?_,q⟩
 ·exact xg _ _ _ lt1 lt2
 ·have hb':s1.heap.objs.size<=b:=by
   simp only[HF,List.not_mem_nil,or_false]at hb;rcases hb with e | e | e | e | e<;>(rw[e];first | exact HP _ | exact Nat.le_add_right _ _)
  exact I1.fpOk hb' (I1.hok.fresh hb')
end
end L2
namespace PySem.W
open PySem PySem.Spec PySem.Calls PyProof.Rows
section
variable {prog:Program}{w:World}{A:Around}{E:Value->Shared->Prop}{s:Shared}{K:Frag}{x D:Addr}{ox:Obj}{odo:Option Obj}{name:Str}
theorem BQ(self:Value):bindSpecial (.builtin "BaseException.__getattribute__") self=pure (.builtin "BaseException.__getattribute__",[self]):=F.excAttr_ValueError.ga.bind self
theorem zh{tk:Tok}{Q:Unit->Shared->Prop}(X:K.In s.heap)(I:InstAt s.heap x ox D odo)(hb:mroIn K D (.type "BaseException")=some true)(h:Q () s) :
  wpAny (model prog w) A (checkBuiltinCall "BaseException.__getattribute__" ⟨[.ref x,.str name tk],[]⟩) Q E s:=by
 have L0:=I.type (M:=model prog w);have L1:=looks_mroIn (M:=model prog w) X hb;have LI:Looks (model prog w) s.heap (isInstance (.ref x) (.type "BaseException")) true:=L0.andThen L1;have hk:builtinKind "BaseException.__getattribute__"=some .slot:=by decide +kernel
 have hs:splitId "BaseException.__getattribute__"=some ("BaseException","__getattribute__"):=by decide +kernel
 have ha:=F.args_bexc_ga (.ref x) (.str name tk);simp only[checkBuiltinCall,hk,hs];refine wpAny_bind (LI.at ?_);simp only[Bool.not_true,Bool.false_eq_true,if_false];cases hsig:Manifest.signature? "BaseException.__getattribute__" with
 |none=>exact wpAny_pure h
 |some sig=>
  simp only[argsOk,hsig]at ha;show wpAny _ _ (Bind.checkArgs _ sig _) Q E s;rw[ha];exact wpAny_pure h
structure XTy(K:Frag)(D:Addr):Prop where
 ga:findIn K (.ref D) "__getattribute__"=some (some (.builtin "BaseException.__getattribute__"))
 gh:findIn K (.ref D) "__getattr__"=some none
 mb:mroIn K D (.type "BaseException")=some true
 mo:mroIn K D (.type "object")=some true
 ha:findIn K (.ref D) "__class__"=some (some (.builtin "object.__class__"))
 hn:specialIn K (.builtin "object.__class__") "__get__"=some (some (.builtin "getset_descriptor.__get__"))
 tk:takesIn K (.builtin "object.__class__")=some true
 cl:∃dd cd sl,K.lookup D=some ⟨.type "type",dd,.cls cd,sl⟩
end
end PySem.W
namespace L2
open PySem PySem.Spec PyProof.Rows
section
variable {X:Cx}
end
structure XR(K:PySem.W.Frag)(C:Addr):Prop where
 ex:∃(bm bmN:List Value) (newId Bn inN B nid initId:String),uw K C bm newId/\ExcBaseFacts Bn newId inN bmN/\bm.contains (.type Bn)=true/\ExcBaseFacts B nid initId bm
theorem fU{X:Cx}{x:Str}{np cpos pos:Pos}{e₀:Expr}{bt:List Expr}{t:TA}{C:Addr}{E:XK}(c:XR X.K C)(hc:X.calm=true)(hg:Gl X x)(hm:X.mg x=some (.ref C))(hx:y8 X E)(ha:PA X (e₀::bt) t)
  (hd:(x==("__debug__":Str))=false:=by decide +kernel)
  (he:starEach (e₀::bt) X.env=(false,eval e₀ X.env)::starEach bt X.env:=by rfl) (hpl:(backTo cpos (starEach bt X.env)).any (·.1)=false:=by rfl) :
  PS X (.Raise (some (.Call (.Name x np) (e₀::bt) [] cpos)) none pos) (sJ C E t):=by
 obtain⟨bm,bmN,newId,Bn,inN,B,nid,initId,c1,c2,c3,c4⟩:=c.ex;exact Aq c1 c2 c3 c4 hc hg hm hx ha hd he hpl
section
variable {P:Program}{w:World}{K:PySem.W.Frag}{mg:Str->Option Value}{base:Heap}
theorem c_.okX{x qual:Str}{st:Stmt}{f:Addr}{fd:FuncData}{N ps:List Str}{k:Nat}{sp:Sp}(F:c_ K x qual st f fd)(S:aF N ps (ak st))(len:∀vs H Q E,sp vs H Q E->vs.length=ps.length)
  (hbody:∀(cdv:Value) (A:Around) (outer:List Env) (s:Shared) (H:Hp) (vs:List V) (Q:VK) (E:XK),b5 k (A.deeper (envOfC qual (ak st) s.heap.objs.size f cdv))->sp vs H Q E ->
   ∃t,qg (dh (dM P w) P w K mg base N qual (ak st) f cdv A outer s H E) (bj st) t/\t {nx:=fun _ H'=>Q .non H',rt:=Q} (start N vs) H):bc P w K mg base (dM P w) (k+1) f fd ps sp:=by
 obtain⟨oc,od,kV,doc,pm,an,cdv,ct,osl,rfl,lk,hcd⟩:=F.ex;exact At lk hcd S len fun A outer s H vs Q E hr hsp=>hbody cdv A outer s H vs Q E hr hsp
theorem bc.lift{CX:jL}{k:Nat}{f:Addr}{fd:FuncData}{ps:List Str}{sp:Sp}(F:bc P w K mg base bH k f fd ps sp):bc P w K mg base CX k f fd ps sp:=
 ⟨F.len,fun A outer s H args us vs Q E hr he hb hv hs=>codeAny_mono (F.run A outer s H args us vs Q E hr he hb hv hs) fun r s' hq=>by
  cases r with
  |error e=>exact False.elim hq
  |ok fl=>cases fl<;>exact hq⟩
theorem eX.lift{CX:jL}{k:Nat}{x:Str}{ps:List Str}{sp:Sp}(c:eX P w K mg base bH k x ps sp):eX P w K mg base CX k x ps sp:=by
 obtain⟨f,fd,F,r⟩:=c.ex;exact⟨f,fd,F.lift,r⟩
end
theorem Bb{X:Cx}{K:PySem.W.Frag}{es:List Expr}{k:Nat}{t:AR}{n:Nat}{pos:Pos}(hK:X.K=K)(hc:X.calm=true)(h:Dq X es t)
  (hn:(assignEach es X.env).length=n:=by rfl) (hst:(assignEach es X.env).findIdx? (·.1)=none:=by rfl):PG X (.Tuple es k pos) (zC K n t):=hK▸fj hc h hn hst
section
variable {K:PySem.W.Frag}{g:TG}{ti:TT}{te:TE}{σ:St}{H:Hp}{Q:List V->Hp->Prop}
theorem AM{a b:Addr}{xs ys:List V}{n:Nat}(hn:n=min xs.length ys.length)(Pv:Nat->List V->St->Hp->Prop)(h0:Pv 0 [] σ H)(hz:∀i acc σ H,Pv i acc σ H->acc.length<sizeLine)(hi:∀i acc σ H,Pv i acc σ H->i<=n)
  (hl:∀i acc σ H,Pv i acc σ H->aW K H a xs/\aW K H b ys)
  (hs:∀i x y acc σ H T,xs[i]?=some x->ys[i]?=some y->Pv i acc σ H->H T=none->g (.ref T) σ (aB H T (.tup [x,y])) fun σ2 H3=>ti σ2 H3 fun b H4=>if b=true then te σ2 H4 fun v H5=>Pv (i+1) (acc++[v]) σ2 H5 else Pv (i+1) acc σ2 H4)
  (he:∀acc σ H,Pv n acc σ H->Q acc H):gR (DX K a b) g ti te σ H Q:=by
 refine jW (J:=DX K a b) (g:=g) (ti:=ti) (te:=te) (Q:=Q) (n:=n) Pv h0 hz hi (fun acc σ H w=>⟨xs,ys,(hl _ _ _ _ w).1,(hl _ _ _ _ w).2,by omega⟩)
  (fun i acc σ H hlt w=>⟨xs,ys,xs[i]'(by omega),ys[i]'(by omega),(hl _ _ _ _ w).1,(hl _ _ _ _ w).2,Hj (by omega),Hj (by omega)⟩) (fun i x acc σ H H2 hlt w y=>?_) he
 obtain⟨T,x,y,rfl,hT,rfl,hx,hy⟩:=y;exact hs i x y acc σ H T (hx xs (hl _ _ _ _ w).1) (hy ys (hl _ _ _ _ w).2) w hT
end
end L2
namespace QL
open PySem
end QL
namespace L2
open PySem PySem.Spec PyProof.Rows
noncomputable def EE(K:PySem.W.Frag)(a:Addr):It:=
 ⟨fun i H=>∃xs x,aW K H a xs/\xs[i]?=some x,fun i H v H'=>∃T x,v=.ref T/\H T=none/\H'=aB H T (.tup [.int (i:Int),x])/\∀xs,aW K H a xs->xs[i]?=some x,fun i H=>∃xs,aW K H a xs/\xs.length<=i⟩
theorem x_{P:Program}{w:World}{K:PySem.W.Frag}{elts:List Expr}{x1:Nat}{tp:Pos}{e it l:Addr}(hei:e≠it) :
  oq P w K (.Tuple elts x1 tp) (EE K l) [e,it] e (fun i h=>(∃old,IsEnum h e it i old)/\h.IsListIter it l i) where
 mem:=by simp
 obj:=fun i h st b hb=>by
  obtain⟨⟨old,he⟩,⟨o1,e1,c1,d1⟩⟩:=st;simp only[HF,List.not_mem_nil,or_false]at hb;rcases hb with rfl | rfl
  ·exact⟨_,he,fun v q=>by cases q⟩
  ·exact⟨_,e1,fun v q=>by rw[d1]at q;cases q⟩
 keep:=fun i h h' st hk=>by
  obtain⟨⟨old,he⟩,h1⟩:=st;exact⟨⟨old,hk e (by simp) _ he⟩,h1.at fun o e'=>hk it (by simp) o e'⟩
 item:=by
  intro X hP hw hK hc i pins s σ H E I hf st hg;subst hP hw hK;obtain⟨xs,x,hq,hx⟩:=hg;obtain⟨its,rv,p,hz⟩:=I.list hq;obtain⟨u,hu,ru⟩:=rv.get hx;obtain⟨⟨old,he⟩,h1⟩:=st;obtain⟨o1,e1,_⟩:=id h1;refine wpAny_pyNext_enum_item he h1 p.isList (x:=u) (by simpa using hu) hei fun h' a1 a2 a3 a4 hk=>?_;refine⟨_,rfl,wpAny_letOwnedTupleGo_enum a1 fun h2 he2 hs2=>?_⟩;have hfree:H s.heap.objs.size=none:=I.hok.fresh (HP _);have lt:∀{c o},s.heap.get? c=some o->s.heap.objs.size≠c:=fun e=>Nat.ne_of_gt (HS e);have kk:∀c o,c∉[e,it]->s.heap.get? c=some o->h2.get? c=some o:=fun c o hc q=>
   hs2.extBut _ _ (fun z=>hc (by simp[z])) (hk c o (fun z=>hc (by simp[z])) (fun z=>hc (by simp[z])) q)
  have hT:h2.get? s.heap.objs.size=some {cls:=.type "tuple",data:=.seq #[.int i s.toks,u]}:=hs2.extBut _ _ (lt he) a3;refine⟨.ref s.heap.objs.size,aB H s.heap.objs.size (.tup [.int i,x]),I.movedT (tk:=s.toks+1) hf kk (HP _) ⟨show 2<=sizeLine from by decide +kernel,[.int i s.toks,u],.cons ⟨_,rfl⟩ (.cons ru .nil),_,hT,rfl,_,rfl⟩,rfl,
   ⟨_,x,rfl,hfree,rfl,fun zs hzs=>by rw[I.list_inj hzs hq];exact hx⟩,⟨⟨u,by simpa using he2⟩,a2.extBut hs2.extBut (Ne.symm hei)⟩,fun b hb=>?_⟩
  have hlt:b≠s.heap.objs.size:=by
   simp only[HF,List.not_mem_nil,or_false]at hb;rcases hb with rfl | rfl
   ·exact(lt he).symm
   ·exact(lt e1).symm
  rw[ai hlt];exact(hf b hb).1
 done:=by
  intro X hP hw hK hc i pins s σ H E I hf st hg;subst hP hw hK;obtain⟨xs,hq,hx⟩:=hg;obtain⟨its,rv,p,hz⟩:=I.list hq;obtain⟨⟨old,he⟩,h1⟩:=st;have l1':=rv.length;refine wpAny_pyNext_enum_end (I.ok.hd hc) he h1 p.isList (by simp;omega) fun h' hk=>⟨rfl,I.moved (tk:=s.toks) hf fun c o hc e=>hk c o (fun q=>hc (by simp[q])) e⟩
 self:=fun _ _ _ _ _ st h=>let ⟨⟨_,he⟩,_⟩:=st;wpAny_pyIter_enum he h
section
variable {X:Cx}{elts:List Expr}{x1:Nat}{tp:Pos}
noncomputable def zu(K:PySem.W.Frag)(ta:TA):TI:=fun σ H R=>ta σ H fun vs H1=>∃a xs,vs=[.ref a]/\aW K H1 a xs/\R (EE K a) H1
theorem ol{a:Expr}{ta:TA}{p pos:Pos}(hg:Gl X "enumerate")(hm:X.mg "enumerate"=none)(ha:PA X [a] ta)(hs:starEach [a] X.env=[(false,eval a X.env)]:=by rfl):PI X (.Tuple elts x1 tp) (.Call (.Name "enumerate" p) [a] [] pos) (zu X.K ta):=by
 intro pins s σ H R I h;refine Call_ (bY I hg hm boot_enumerate (PyProof.Rows.callWith_type1 (bF (ha pos pins s σ H _ I h) fun us s1 ⟨vs,H1,I1,r1,q1⟩=>?_) (by rw[hs];rfl) (by rfl)));obtain⟨l,xs,rfl,hq,q⟩:=q1;obtain⟨u,rfl,ru⟩:=r1.one;cases ru;obtain⟨its,rv,p1,_⟩:=I1.list hq;refine call_enumerate_list p1.isList fun h' z1 z2 z3 hk=>?_;have I2:Inv X pins σ H1 {s1 with heap:=h' }:=I1.kept (t':=s1.toks) hk;refine wpAny_pyIter_enum z1 ?_;refine⟨s1.heap.objs.size+1,[s1.heap.objs.size+1,s1.heap.objs.size],_,_,H1,rfl,I2,x_ (l:=l) (Nat.ne_of_gt (H_ _)),⟨⟨_,z1⟩,z2⟩,fun b hb=>?_,q⟩;have hb':s1.heap.objs.size<=b:=by
  simp only[HF,List.not_mem_nil,or_false]at hb;rcases hb with e | e<;>(rw[e];first | exact HP _ | exact Nat.le_add_right _ _)
 exact I1.fpOk hb' (I1.hok.fresh hb')
end
section
variable {K:PySem.W.Frag}{g:TG}{tb:TS}{D:jf}{σ:St}{H:Hp}
theorem jY{a:Addr}{xs:List V}(Pv:Nat->St->Hp->Prop)(h0:Pv 0 σ H)(hl:∀i σ H,i<=xs.length->Pv i σ H->aW K H a xs)
  (hs:∀(i:Nat) x σ H T,xs[i]?=some x->Pv i σ H->H T=none->g (.ref T) σ (aB H T (.tup [.int (i:Int),x])) fun σ2 H2=>tb {D with nx:=Pv (i+1),ct:=Pv (i+1),bk:=D.nx} σ2 H2) (hd:∀σ H,Pv xs.length σ H->D.nx σ H):ua (EE K a) g tb D σ H:=by
 refine⟨fun i m σ H=>m=xs.length-i/\i<=xs.length/\Pv i σ H,⟨xs.length,by simp,HQ _,h0⟩,?_⟩;rintro i m σ H ⟨rfl,hi,p⟩;have q:=hl i σ H hi p
 by_cases hlt:i<xs.length
 ·refine .inr ⟨⟨xs,xs[i],q,by simp[hlt]⟩,Pv (i+1),fun σ' H' p'=>⟨xs.length-(i+1),by omega,rfl,hlt,p'⟩,fun x H' y=>?_⟩
  obtain⟨T,x,rfl,hT,rfl,y⟩:=y;exact hs i x σ _ T (y xs q) p hT
 ·have e:i=xs.length:=by omega
  subst e;exact .inl ⟨⟨xs,q,HP _⟩,hd σ H p⟩
end
end L2
namespace PySem
open Sem (wp)
section
variable {M:Model}{A:Around}{E:Value->Shared->Prop}{env:Env}
variable {nm q:Str}{C N:Addr}{bs bm:List Value}{hdct:Bool}{sn:List Str}{sub:List Value}{ab:Bool}{col:Option Bool}{dd:Option Addr}{k0 k1 k2 k3 k5:Option Value}{newId:String}
theorem qt{s:Shared}{x:Sem Value}{Q:Flow->Shared->Prop}(hbase:bm.contains (.type "BaseException")=true)(hh:A.handled=none)
  (h:wpAny M A x (fun v s₁=>∃e oe vs,v=.ref e/\s₁.heap.get? C=some (excClassObj nm q C N bs bm hdct sn sub ab col dd k0 k1 k2 k3 k5 newId)/\s₁.heap.get? e=some oe/\oe.cls=.ref C/\oe.data=.fields vs/\vs[1]?=some .none/\E (.ref e) s₁) E s) :
  wpAny M A (raiseStmt env (some x) none) Q E s:=by
 have hcB:(Value.ref C::bm).contains (.type "BaseException")=true:=by rw[List.contains_cons,hbase,Bool.or_true]
 unfold raiseStmt;refine wpAny_bind (wpAny_mono h (fun v s₁ h₁=>?_) fun _ _ x=>x);obtain⟨e,⟨oc,od,dt,sl⟩,vs,rfl,hC,he,hc,hd,hv,hE⟩:=h₁;dsimp only at hc hd;subst hc hd;obtain⟨hp,g,d,tk,os⟩:=s₁
 repeat (first | with_reducible refine wpAny_loadPart_at he ?_ | with_reducible refine wpAny_loadPart_at hC ?_ | (with_reducible refine wpAny_isSubtype_exc hC ?_;rw[hcB]) | wp_step)
 rw[hv];refine wpAny_pure ?_;rw[if_neg (by decide)];exact wpAny_pure (wpAny_raiseNew_none hh hE)
end
section
variable {prog:Program}{w:World}{A:Around}{E:Value->Shared->Prop}{h:Heap}{g:Array GenState}{d:Drawn}{t:Nat}{os:OsState}
variable {nm q:Str}{C N:Addr}{bs bm bmB:List Value}{hdct:Bool}{sn:List Str}{sub:List Value}{ab:Bool}{col:Option Bool}{dd:Option Addr}{k0 k1 k2 k3 k5:Option Value}{B Bn newId nid initId inN:String}{bmN:List Value}{K:PySem.W.Frag}
theorem kf(Fn:ExcBaseFacts Bn newId inN bmN)(hBn:bmB.contains (.type Bn)=true)(F:ExcBaseFacts B nid initId bmB)(T:OwnTail h bmB bm)(X:K.In h){bt:List Value}{fI:Addr}{Q:Fin->Shared->Prop}
  (hC:h.get? C=some (excClassObj nm q C N bs bm hdct sn sub ab col dd k0 k1 k2 k3 k5 newId)) (hi:PySem.W.findIn K (.ref C) "__init__"=some (some (.ref fI))) (hf:PySem.W.typeIn K (.ref fI)=some (.type "function"))
  (hq:∀h' e,Heap.MadeExcOf h h' e (.ref C) bt ->
   wpAny (model prog w) A (call (.ref fI) (.ref e::bt)) (fun r s'=>r=.none/\Q (.done (.ret (.ref e))) s') E ⟨h',g,d,t,os⟩) (hrest:bt.length<=sizeLine) :
  wpAny (model prog w) A (Builtin.«type.__call__» ⟨.ref C::bt,[]⟩) Q E ⟨h,g,d,t,os⟩:=by
 repeat (first | with_reducible refine wpAny_loadPart_at hC ?_ | with_reducible refine wpAny_madeBy_exc hC ?_ | wp_step)
 refine codeAny_call_builtin_code (Code.quiet_builtin _ Fn.quiet) (wpAny_check_new_subU Fn hBn T hC ?_);refine codeAny_exc_new_subU Fn hBn F T hC ?_ hrest;show wpAny _ _ _ _ _ _;have hC₁:=Hl {cls:=.ref C,data:=.fields #[.ref h.objs.size,.none,.none,.none,.bool false,.none]}
  (Hl {cls:=.type "tuple",data:=.seq bt.toArray} hC)
 have hget:((h.push {cls:=.type "tuple",data:=.seq bt.toArray}).push
   {cls:=.ref C,data:=.fields #[.ref h.objs.size,.none,.none,.none,.bool false,.none]}).get? (h.objs.size+1)=some
   {cls:=.ref C,data:=.fields #[.ref h.objs.size,.none,.none,.none,.bool false,.none]}:=by heap_get
 have hcC:(Value.ref C::bm).contains (.ref C)=true:=by simp
 have X₁:K.In ((h.push {cls:=.type "tuple",data:=.seq bt.toArray}).push {cls:=.ref C,data:=.fields #[.ref h.objs.size,.none,.none,.none,.bool false,.none]}):=
  X.keeps fun b o e=>Hl _ (Hl _ e)
 unfold isInstance
 repeat (first | with_reducible refine wpAny_loadPart_at hget ?_ | (with_reducible refine wpAny_isSubtype_exc hC₁ ?_;rw[hcC]) | wp_step)
 show wpAny _ _ (typeLookup (.ref C) _) _ _ _;refine(PySem.W.looks_findIn X₁ hi).at ?_;refine wpAny_holding (wpAny_bind ((PySem.W.bind_fn X₁ _ hf).at ?_));refine wpAny_bind (wpAny_mono (hq _ (h.objs.size+1) ⟨fun b o hb=>Hl _ (Hl _ hb),Heap.get?_none_of_le (Nat.le_succ _),h.objs.size,hget,Heap.get?_none_of_le (HP _),?_⟩) (fun r s' hr=>?_) fun _ _ x=>x)
 ·exact Hl _ (Heap.get?_push_at rfl rfl)
 ·obtain⟨rfl,hQ⟩:=hr
  wp_walk
  exact hQ
theorem jO(Fn:ExcBaseFacts Bn newId inN bmN)(hBn:bmB.contains (.type Bn)=true)(F:ExcBaseFacts B nid initId bmB)(T:OwnTail h bmB bm)(X:K.In h){bt:List Value}{fI:Addr}{Q:Value->Shared->Prop}
  (hC:h.get? C=some (excClassObj nm q C N bs bm hdct sn sub ab col dd k0 k1 k2 k3 k5 newId)) (hi:PySem.W.findIn K (.ref C) "__init__"=some (some (.ref fI))) (hf:PySem.W.typeIn K (.ref fI)=some (.type "function"))
  (hq:∀h' e,Heap.MadeExcOf h h' e (.ref C) bt ->
   wpAny (model prog w) (A.under (.builtin "type.__call__" ⟨.ref C::bt,[]⟩)) (call (.ref fI) (.ref e::bt)) (fun r s'=>r=.none/\Q (.ref e) s') E ⟨h',g,d,t,os⟩) (hrest:bt.length<=sizeLine) :
  wpAny (model prog w) A (call (.ref C) bt) Q E ⟨h,g,d,t,os⟩:=by
 have f1:=tc_lookup;have f2:=tc_bind (.ref C);have hT:(⟨h,g,d,t,os⟩:Shared).TypeIs (.ref C) "type":=⟨_,hC,rfl⟩;refine wpAny_call (codeAny_of_tree ?_);show wpAny _ _ (callAny (.ref C) _) _ _ _
 repeat (any_goals (first | assumption | with_reducible refine wpAny_loadPart_at hC ?_ | wp_step))
 refine⟨rfl,?_⟩;refine codeAny_call_builtin_at (Code.quiet_builtin _ (by decide +kernel)) entry_typeCall (wpAny_check_type_call_sub hC (kf (hrest:=hrest) Fn hBn F T X hC hi hf fun h' e hm=>?_));exact hq h' e hm
end
section
variable {prog:Program}{w:World}{A:Around}{E:Value->Shared->Prop}{s:Shared}{env:Env}
variable {nm q:Str}{C N:Addr}{bs bm bmB:List Value}{hdct:Bool}{sn:List Str}{sub:List Value}{ab:Bool}{col:Option Bool}{dd:Option Addr}{k0 k1 k2 k3 k5:Option Value}{B Bn newId nid initId inN:String}{bmN:List Value}{K:PySem.W.Frag}
theorem m7(Fn:ExcBaseFacts Bn newId inN bmN)(hBn:bmB.contains (.type Bn)=true)(F:ExcBaseFacts B nid initId bmB){x:Str}{np cpos pos:Pos}{args:List Expr}{fI:Addr}{Q:Flow->Shared->Prop}
  (hbase:bm.contains (.type "BaseException")=true) (hh:A.handled=none) (hplain:(backTo cpos (starEach args env)).any (·.1)=false) (hi:PySem.W.findIn K (.ref C) "__init__"=some (some (.ref fI))) (hf:PySem.W.typeIn K (.ref fI)=some (.type "function"))
  (h:wpAny (model prog w) A (eval (.Name x np) env) (fun f s₁=>f=.ref C/\wpAny (model prog w) A (evalArgs (.ref C) true (backTo cpos (starEach args env)) [])
   (fun a s₂=>a.kw=[]/\a.pos.length<=sizeLine/\s₂.heap.get? C=some (excClassObj nm q C N bs bm hdct sn sub ab col dd k0 k1 k2 k3 k5 newId)/\K.In s₂.heap/\OwnTail s₂.heap bmB bm /\
    ∀h' e,Heap.MadeExcOf s₂.heap h' e (.ref C) a.pos->wpAny (model prog w) (A.under (.builtin "type.__call__" ⟨.ref C::a.pos,[]⟩)) (call (.ref fI) (.ref e::a.pos))
     (fun r s'=>r=.none/\∃oe vs,s'.heap.get? C=some (excClassObj nm q C N bs bm hdct sn sub ab col dd k0 k1 k2 k3 k5 newId)/\s'.heap.get? e=some oe/\oe.cls=.ref C/\oe.data=.fields vs/\vs[1]?=some .none/\E (.ref e) s') E {s₂ with heap:=h' }) E s₁) E s) :
  wpAny (model prog w) A (exec (.Raise (some (.Call (.Name x np) args [] cpos)) none pos) env) Q E s:=by
 rw[arm_exec_Raise];simp only[evalOpt,Option.map];refine wpAny_bind (wpAny_standAt (qt (C:=C) (nm:=nm) (q:=q) (N:=N) (bs:=bs) (bm:=bm) (hdct:=hdct) (sn:=sn) (sub:=sub) (ab:=ab) (col:=col) (dd:=dd) (k0:=k0) (k1:=k1) (k2:=k2) (k3:=k3) (k5:=k5) (newId:=newId) hbase hh (wpAny_bind (wpAny_mono (wpAny_Call_ofName (wpAny_mono h (fun f s₁ h₁=>?_) fun _ _ x=>x)) (fun v s₃ h₃=>wpAny_bind (wpAny_standAt (wpAny_pure h₃))) fun _ _ x=>x))));obtain⟨rfl,h₁⟩:=h₁;unfold callWith;refine wpAny_bind (wpAny_holding (wpAny_mono h₁ (fun a s₂ h₂=>wpAny_bind (wpAny_standAt ?_)) fun _ _ x=>x));obtain⟨apos,akw⟩:=a;obtain⟨hkw,hlen,hC,hX,T,h₂⟩:=h₂;obtain rfl:akw=[]:=hkw;obtain⟨hp,g,d,tk,os⟩:=s₂;simp only[hplain];refine wpAny_bind (wpAny_keeperOf_exc hC ?_);refine wpAny_bind (jO (hrest:=hlen) Fn hBn F T hX hC hi hf fun h' e hm=>wpAny_mono (h₂ h' e hm) (fun r s' hr=>⟨hr.1,wpAny_bind (wpAny_holding (wpAny_point (wpAny_pure ?_)))⟩) fun _ _ x=>x);obtain⟨_,oe,vs,a1,a2,a3,a4,a5,a6⟩:=hr;exact⟨e,oe,vs,rfl,a1,a2,a3,a4,a5,a6⟩
end
end PySem
namespace PySem.W
open PySem PySem.Spec PySem.Calls PyProof.Rows
open Builtin Builtin.ObjectAttr
noncomputable def excOut(K:Frag)(C:Addr)(bmB:List Value)(newId:String):Bool:=match K.lookup C with
 |some ⟨.type "type",_,.cls cd,sl⟩=>(match cd.mro,sl.toList with
  | .ref C'::bm,[_,_,_,_,some (.builtin n),_]=>C'==C&&n==newId && !cd.hasDel&&tailIn K bmB bm&&nsOkIn K cd.ns
  |_,_=>false)
 |_=>false
noncomputable def strip:List Value->List Value
 | .ref _::r=>strip r
 |l=>l
theorem lS(self:Value):∀{l bm:List Value},strip l=bm->refuseLoop self "__setattr__" bm=pure ()->refuseLoop self "__setattr__" l=pure ()
 | [],_,e,h=>by rw[show([]:List Value)=_ from e];exact h
 | .ref c::r,_,e,h=>by rw[refuseLoop_ref];exact lS self (l:=r) e h
 | .type n::r,_,e,h=>by rw[show(Value.type n::r)=_ from e];exact h
 | .none::r,_,e,h=>by rw[show(Value.none::r)=_ from e];exact h
 | .bool b::r,_,e,h=>by rw[show(Value.bool b::r)=_ from e];exact h
 | .int i t::r,_,e,h=>by rw[show(Value.int i t::r)=_ from e];exact h
 | .float i t::r,_,e,h=>by rw[show(Value.float i t::r)=_ from e];exact h
 | .str i t::r,_,e,h=>by rw[show(Value.str i t::r)=_ from e];exact h
 | .bytes i t::r,_,e,h=>by rw[show(Value.bytes i t::r)=_ from e];exact h
 | .builtin n::r,_,e,h=>by rw[show(Value.builtin n::r)=_ from e];exact h
 | .ellipsis::r,_,e,h=>by rw[show(Value.ellipsis::r)=_ from e];exact h
 | .notImplemented::r,_,e,h=>by rw[show(Value.notImplemented::r)=_ from e];exact h
structure XSt(K:Frag)(C:Addr)(f:Str):Prop where
 sa:findIn K (.ref C) "__setattr__"=some (some (.builtin "object.__setattr__"))
 st:∃cd,clsIn K C=some cd/\strip cd.mro=[.type "ValueError",.type "Exception",.type "BaseException",.type "object"]/\cd.hasDict=true/\cd.mro.contains (.type "object")=true/\cd.mro.isEmpty=false
 no:findIn K (.ref C) f=some none
section
variable {prog:Program}{w:World}{A:Around}{E:Value->Shared->Prop}{s:Shared}{K:Frag}{x C:Addr}{ox:Obj}{vs:Array Value}{name:Str}{v:Value}
theorem set_new{Q:Unit->Shared->Prop}(X:K.In s.heap)(c:XSt K C name)(hx:s.heap.get? x=some ox)(hcl:ox.cls=.ref C)(hdn:ox.dict=none)(hdt:ox.data=.fields vs)
  (h:∀h' t',(∀b o,b≠x->s.heap.get? b=some o->h'.get? b=some o)->h'.get? x=some {ox with dict:=some s.heap.objs.size}->h'.Ns1 s.heap.objs.size (fun y=>if y=name then some v else none)->Q () {s with heap:=h',toks:=t' }) :
  wpAny (model prog w) A (setAttr (.ref x) name v) Q E s:=by
 obtain⟨cd,hc,hst,hhd,hob,hne⟩:=c.st;obtain⟨oc,od,dt,sl⟩:=ox;dsimp only at hcl hdn hdt;subst hcl hdn hdt;have J:InstAt s.heap x ⟨.ref C,none,.fields vs,sl⟩ C none:=⟨hx,rfl,rfl,trivial⟩;obtain⟨hh,g,d,t,os⟩:=s;have SF:=PySem.F.store_object;refine set_plain X J c.sa ?_;have sub:Looks (model prog w) hh (isInstance (.ref x) (.type "object")) true:=J.type.andThen (looks_mroIn X (by unfold mroIn;rw[hc,Option.bind_some,if_neg (by rw[hne];decide),hob]));refine codeAny_call_builtin SF.slot.plain SF.entry (@check_slot (model prog w) _ _ _ "object.__setattr__" "object" "__setattr__" (.ref x) [.str name t,v] [] _ SF.kind SF.split sub (SF.args (.ref x) (.str name t) v) ?_);have hm:Looks (model prog w) hh (mroOf (.ref C)) cd.mro:=(looks_clsIn X hc).andThen .now;rw[osa_eq,refuse_eq];refine wpAny_bind (wpAny_bind (J.type.at (wpAny_bind (hm.at ?_))));rw[lS _ hst (PySem.F.store_ValueError.passes _)];refine wpAny_pure (wpAny_bind (J.type.at (wpAny_bind ((looks_findIn X c.no).at (wpAny_bind (wpAny_pure ?_))))));have hx₁:(hh.push {cls:=.type "dict",data:=.dict #[]}).get? x=some ⟨.ref C,none,.fields vs,sl⟩:=Hl _ hx;have hxs:x≠hh.objs.size:=HK (HS hx);show wpAny _ _ (storeInOwnDict (.ref x) (.ref C) (.str name t) name v false) _ _ _;refine wpAny_bind (wpAny_pure (wpAny_bind (wpAny_bind (wpAny_loadPart hx ?_))));refine wpAny_bind ((looks_clsIn X hc).at ?_);rw[if_neg (by rw[hhd];decide)];dsimp only;rw[if_neg (by simp[typeHasDict])];refine wpAny_bind (wpAny_alloc' ?_);refine wpAny_bind (wpAny_update' hx₁ ?_);refine wpAny_pure ?_;have hgd:((hh.push {cls:=.type "dict",data:=.dict #[]}).update x fun o=>{cls:=o.cls,dict:=some hh.objs.size,data:=o.data,slots:=o.slots}).get? hh.objs.size
   = some {cls:=.type "dict",data:=.dict #[]}:=
  (Heap.get?_update_ne _ _ _ _ hxs.symm).trans (Heap.get?_push_at rfl rfl)
 have hnd:((hh.push {cls:=.type "dict",data:=.dict #[]}).update x fun o=>{cls:=o.cls,dict:=some hh.objs.size,data:=o.data,slots:=o.slots}).Ns hh.objs.size (fun _=>none):=
  ⟨_,#[],_,hgd,rfl,fun e he=>absurd he (by simp),fun _=>rfl⟩
 show wpAny _ _ (storeInDict hh.objs.size (.str name t) name v) _ _ _;unfold storeInDict newKeyGuard;refine wpAny_bind (wpAny_pure (wpAny_bind (wpAny_nsSet1 (Heap.Ns1.of_empty hnd) fun h' hn' hs=>?_)));obtain⟨oD,esD,epD,hoD,hdD,hcD⟩:=hn'.count (Within.cons name v Within.nil);refine wpAny_bind (wpAny_lookBehind hoD (by rw[hdD];exact pastItsLine_dict (HY hcD (by rw[Hx,List.length_nil,sizeLine_eq];omega))) ?_);refine wpAny_pure (h h' _ (fun b o hb e=>(hs.2 b (HK (HS e))).trans ((Heap.get?_update_ne _ _ _ _ hb).trans (Hl _ e))) ?_ hn');exact(hs.2 x hxs).trans (Hw _ hx₁ rfl)
end
end PySem.W
namespace L2
open PySem PySem.Spec PyProof.Rows
structure lN(K:PySem.W.Frag)(C:Addr)(bmB:List Value)(newId:String):Prop where
 exc:PySem.W.excOut K C bmB newId=true
theorem lN.obj{K:PySem.W.Frag}{C:Addr}{bmB:List Value}{newId:String}{h:Heap}(c:lN K C bmB newId)(X:K.In h):∃bm N nm q bs hdct sn sub ab col dd k0 k1 k2 k3 k5,
  h.get? C=some (excClassObj nm q C N bs bm hdct sn sub ab col dd k0 k1 k2 k3 k5 newId)/\OwnTail h bmB bm/\∃dd' cd sl,K.lookup C=some ⟨.type "type",dd',.cls cd,sl⟩/\cd.mro=.ref C::bm:=by
 have q:=c.exc;unfold PySem.W.excOut at q;cases hl:K.lookup C with
 |none=>rw[hl]at q;cases q
 |some ob=>
  rw[hl]at q
  split at q
  ·rename_i dd cd sl e
   cases e
   split at q
   ·rename_i C' bm k0 k1 k2 k3 n k5 hm hs
    simp only[Bool.and_eq_true,beq_iff_eq,Bool.not_eq_true']at q;obtain⟨⟨⟨⟨rfl,rfl⟩,hdel⟩,ht⟩,hok⟩:=q;have ho:=X _ _ hl;have hsl:sl=#[k0,k1,k2,k3,some (.builtin n),k5]:=Array.toList_inj.mp hs;subst hsl;obtain⟨nm,bs,mro,ns,qn,hd,sn,sub,ab,col,del⟩:=cd;dsimp only at hm hdel hok ho;subst hm hdel;exact⟨bm,ns,nm,qn,bs,hd,sn,sub,ab,col,dd,k0,k1,k2,k3,k5,ho,PySem.W.tail_of_in X ht,dd,_,_,rfl,rfl⟩
   ·cases q
  ·cases q
noncomputable def Ch(ea:Addr)(cls:Value)(od:Option Addr)(h:Heap):Prop:=∃o vs,h.get? ea=some o/\o.cls=cls/\o.dict=od/\o.data=.fields vs/\vs[1]?=some .none/\vs[2]?=some .none/\vs.size=6
noncomputable abbrev xn(ea:Addr)(cls:Value)(od:Option Addr):HO:=.ext (Ch ea cls od)
theorem nr{ea:Addr}{cls:Value}{od:Option Addr}:∀h1 h2:Heap,Ch ea cls od h1->(∀o,h1.get? ea=some o->h2.get? ea=some o)->Ch ea cls od h2:=
 fun h1 h2 ⟨o,ws,e1,e2,e3,e4,e5⟩ k=>⟨o,ws,k o e1,e2,e3,e4,e5⟩
section
variable {X:Cx}{o value:Expr}{f:Str}{pos pos':Pos}{ta tv:TE}
noncomputable def AB(K:PySem.W.Frag)(ta tv:TE)(f:Str):TS:=fun D σ H=>tv σ H fun y H1=>ta σ H1 fun x H2=>∃a C,x=.ref a/\H2 a=some (xn a (.ref C) none)/\PySem.W.XSt K C f /\
 ∀d,H2 d=none->D.nx σ (aB (aB H2 d (.xd [(f,y)])) a (xn a (.ref C) (some d)))
theorem sh(ha:PE X o ta)(hv:PE X value tv)(hs:swapsWith value (some (.Attribute o f pos')) pos.line X.env=pure false):PS X (.Assign [.Attribute o f pos'] value pos) (AB X.K ta tv f):=by
 intro pins s σ H D I h;refine plainObj_wpAny_Assign_Attribute (bF (hv pins s σ H _ I h) fun u s1 ⟨y,H1,I1,ry,q⟩=>bF (ha pins s1 σ H1 _ I1 q) fun ov s2 ⟨x,H2,I2,rx,a,C,ex,ea,c,q2⟩=>?_) hs;subst ex;obtain rfl:ov=Value.ref a:=rx;obtain⟨⟨ob,ws,e1,e2,e3,e4,e5⟩,_,_⟩:=(show bz X.prog X.w H2 s2.heap a (xn a (.ref C) none) from I2.hok a _ ea);refine PySem.W.set_new I2.kIn c e1 e2 e3 e4 fun h' t' hk hx hn=>?_;have hfr:H2 s2.heap.objs.size=none:=I2.hok.fresh (HP _);have hne:s2.heap.objs.size≠a:=Nat.ne_of_gt (HS e1);have oa:(h'.update a fun _=>ob).get? a=some ob:=Hw _ hx (Obj.isFreed_of_fields e4);have oo:∀b,b≠a->(h'.update a fun _=>ob).get? b=h'.get? b:=fun b hb=>Hr _ _ (Ne.symm hb);have I3:Inv X pins σ (aB H2 s2.heap.objs.size (.xd [(f,y)])) {s2 with heap:=h'.update a fun _=>ob,toks:=t' }:=I2.laid (fun b u z=>by
   by_cases hb:b=a
   ·subst hb;rw[e1]at z;cases z;exact oa
   ·rw[oo b hb];exact hk b u hb z) (HP _) ⟨_,hn.at fun o z=>(oo _ hne).trans z,fun g=>?_⟩
 ·have I4:=I3.write (x:=a) (e:=a) (o:=xn a (.ref C) (some s2.heap.objs.size)) (h':=h') (t':=t') (by rw[ai (Ne.symm hne),ea];exact True.intro) (.inl rfl) (fun b u hb z=>by rw[<- oo b hb];exact z) ⟨_,hx⟩ ⟨⟨_,ws,hx,e2,rfl,e4,e5⟩,⟨_,hx⟩,nr⟩
  exact⟨σ,_,I4,q2 _ hfr⟩
 ·show m5 (List.lookup g [(f,y)]) (if g=f then some u else none)
  by_cases z:g=f
  ·have hb:(g==f)=true:=beq_iff_eq.mpr z
   simp only[List.lookup,hb,if_pos z];exact ry
  ·have hb:(g==f)=false:=beq_eq_false_iff_ne.mpr z
   simp only[List.lookup,hb,if_neg z];exact True.intro
end
noncomputable def iB(C:Addr)(fn:Str):Sp:=fun vs H Q _=>∃a v,vs=[.ref a,v]/\H a=some (xn a (.ref C) none)/\∀d,H d=none->Q .non (aB (aB H d (.xd [(fn,v)])) a (xn a (.ref C) (some d)))
noncomputable def lA(H:Hp)(e:Addr):Hp:=fun b=>if b=e then none else H b
theorem bO{H:Hp}{e b:Addr}(h:b≠e):lA H e b=H b:=by unfold lA;rw[if_neg h]
theorem dF{H:Hp}{e:Addr}:lA H e e=none:=by unfold lA;rw[if_pos rfl]
noncomputable def zc(X:Cx)(E:XK):Prop:=∀(pins:List (Addr×Obj)) (σ:St) (H2:Hp) (s2:Shared) (hm:Heap) (H3:Hp) (s3:Shared) (e C:Addr) (od:Option Addr),Inv X pins σ H2 s2->Inv X pins σ H3 s3->s2.heap.get? e=none ->
 (∀b o,s2.heap.get? b=some o->hm.get? b=some o)->Un (il X.stack) [] (aB H2 e (xn e (.ref C) none)) H3 hm s3.heap->s3.os=s2.os->H3 e=some (xn e (.ref C) od)->E (.ref C) od (lA H3 e)->X.xe (.ref e) s3
section
variable {P:Program}{w:World}{K:PySem.W.Frag}{mg:Str->Option Value}{base:Heap}{N:List Str}{qual:Str}{scope:Scope}{f:Addr}{cd:Value}{A:Around}{outer:List Env}{s:Shared}{H:Hp}{E E1:XK}
theorem dB(hE:∀c d H',E1 c d H'->E c d H'):zc (dh (dM P w) P w K mg base N qual scope f cd A outer s H E) E1:=by
 intro pins σ H2 s2 hm H3 s3 e C od I2 I3 new keep un os3 he3 q;obtain⟨⟨oe,vs,g1,g2,g3,g4,g5⟩,_,_⟩:=(show bz P w H3 s3.heap e (xn e (.ref C) od) from I3.hok e _ he3);have ne:∀b o,s2.heap.get? b=some o->b≠e:=fun b o z y=>by rw[y,new]at z;cases z
 have h2e:H2 e=none:=by
  cases z:H2 e with
  |none=>rfl
  |some o=>
   obtain⟨ob,hob⟩:=(I2.hok e o z).there;rw[new]at hob;cases hob
 have hin:∀env∈(dh (dM P w) P w K mg base N qual scope f cd A outer s H E).stack,∀b,env.frame=some b->b∈e::il (dh (dM P w) P w K mg base N qual scope f cd A outer s H E).stack:=fun env he b hb=>.tail _ (List.mem_filterMap.mpr ⟨env,he,hb⟩);have hff:=PySem.W.funFrames_hide I3.stack hin;have u0:∀b,b≠e->H2 b=none->aB H2 e (xn e (.ref C) none) b=none:=fun b hb n=>by rw[ai hb];exact n
 have fly0:Fly0 P w (dh (dM P w) P w K mg base N qual scope f cd A outer s H E).stack H2 s2 (PySem.W.hideAll s3.heap (e::il (dh (dM P w) P w K mg base N qual scope f cd A outer s H E).stack)) (lA H3 e) s3:=by
  refine⟨fun b o z=>PySem.W.of_hideAll _ z,hff,⟨fun b o z n hb _=>un.keep b o (keep b o z) (u0 b (ne b o z) n) hb (by simp),fun b o z n hb _=>un.slot b o (keep b o z) (u0 b (ne b o z) n) hb (by simp),fun b o z n _=>?_,fun b o z _=>un.there b o (keep b o z) (by simp),fun b xs z=>?_,fun b o y z=>?_,fun b ps z=>?_⟩,fun b o z=>?_,fun b o z=>?_,fun b o z hb=>?_,os3,I3.bare⟩
  ·rw[bO (ne b o z)]
   exact un.free b o (keep b o z) (u0 b (ne b o z) n) (by simp)
  ·have hb:b≠e:=aG z h2e
   rw[bO hb];exact un.tups b xs (by rw[ai hb];exact z)
  ·have hb:b≠e:=aG z h2e
   rw[bO hb];exact un.frzs b o y (by rw[ai hb];exact z)
  ·have hb:b≠e:=aG z h2e
   rw[bO hb];exact un.tbls b ps (by rw[ai hb];exact z)
  ·have hb:b≠e:=fun y=>by rw[y,dF]at z;cases z
   rw[bO hb]at z;exact(I3.hok b o z).stay (fun _ _ _ y=>y) (fun c y=>by rw[bO (fun x=>by rw[x,he3]at y;cases y)];exact y) fun c xs y=>by rw[bO (fun x=>by rw[x,he3]at y;cases y)];exact y
  ·have hb:b≠e:=fun y=>by rw[y,dF]at z;cases z
   rw[bO hb]at z;obtain⟨ob,hob⟩:=(I3.hok b o z).there;refine⟨ob,PySem.W.hideAll_get _ hob fun hm=>?_⟩;rcases HF.mp hm with y | y
   ·exact hb y
   ·rw[I3.stkFree b y]at z;cases z
  ·obtain⟨o',z'⟩:=un.there b o (keep b o z) (by simp)
   refine⟨o',PySem.W.hideAll_get _ z' fun hm=>?_⟩;rcases HF.mp hm with y | y
   ·exact ne b o z y
   ·exact hb y
 have newB:(PySem.W.hideAll s3.heap (e::il (dh (dM P w) P w K mg base N qual scope f cd A outer s H E).stack)).get? e=none:=PySem.W.hideAll_none _ (List.mem_cons_self ..);refine wU (cp:=fun v=>v=.none) (s:=s3) I3.ok.frames fly0.ff rfl g1 fly0.st newB g4 g5.1 ⟨_,g5.2.1,rfl⟩ fun h' fl2 up=>?_;rw[g2,g3]at fl2;exact⟨e,.ref C,od,_,lA H3 e,rfl,Fly0.up I2 rfl rfl rfl rfl rfl fly0 fl2 up,dF,hE _ _ _ q⟩
end
structure XI(P:Program)(w:World)(K:PySem.W.Frag)(mg:Str->Option Value)(base:Heap)(k:Nat)(C:Addr)(fn:Str):Prop where
 ex:∃(bm bmN:List Value) (newId Bn inN B nid initId:String) (fI:Addr) (fd:FuncData) (ps:List Str),lN K C bm newId/\ExcBaseFacts Bn newId inN bmN/\bm.contains (.type Bn)=true/\ExcBaseFacts B nid initId bm /\
  PySem.W.findIn K (.ref C) "__init__"=some (some (.ref fI))/\PySem.W.typeIn K (.ref fI)=some (.type "function")/\bc P w K mg base bH k fI fd ps (iB C fn)/\dc K fd ps []
section
variable {X:Cx}{x:Str}{np cpos pos:Pos}{e₀:Expr}{t:TA}{C:Addr}{fn:Str}{k:Nat}{E:XK}
noncomputable def tK(C:Addr)(fn:Str)(E:XK)(t:TA):TS:=fun _ σ H=>t σ H fun vs H1=>vs.length<=sizeLine/\∃v,vs=[v]/\∀d,H1 d=none->E (.ref C) (some d) (aB H1 d (.xd [(fn,v)]))
theorem dJ(c:XI X.prog X.w X.K X.mg X.base k C fn)(hr:b5 (k+1) X.A)(hc:X.calm=true)(hg:Gl X x)(hm:X.mg x=some (.ref C))(hx:zc X E)(ha:PA X [e₀] t)
  (hd:(x==("__debug__":Str))=false:=by decide +kernel) (he:starEach [e₀] X.env=(false,eval e₀ X.env)::starEach [] X.env:=by rfl) (hpl:(backTo cpos (starEach [] X.env)).any (·.1)=false:=by rfl) :
  PS X (.Raise (some (.Call (.Name x np) [e₀] [] cpos)) none pos) (tK C fn E t):=by
 obtain⟨bmB,bmN,newId,Bn,inN,B,nid,initId,fI,fd,ps,c1,c2,c3,c4,hi,hf,F,hb⟩:=c.ex;intro pins s σ H D I h;obtain⟨tl,N,nm,q,bs,hdct,sn,sub,ab,col,dd,k0,k1,k2,k3,k5,hC,T,_⟩:=c1.obj I.mod.kin;refine m7 (K:=X.K) (fI:=fI) (C:=C) (nm:=nm) (q:=q) (N:=N) (bs:=bs) (bm:=tl) (hdct:=hdct) (sn:=sn) (sub:=sub) (ab:=ab) (col:=col) (dd:=dd) (k0:=k0) (k1:=k1) (k2:=k2) (k3:=k3) (k5:=k5)
  c2 c3 c4 (T.hasType c4.hasBase) (I.ok.hd hc) (by rw[he];show(false||(backTo cpos (starEach [] X.env)).any (·.1))=false;rw[hpl];rfl) hi hf (eV I hg hm ⟨rfl,?_⟩ hd)
 rw[he];have ha':=ha cpos pins s σ H _ I h;rw[he]at ha';refine Calls.evalArgs_plain (wpAny_mono ha' (fun us s₂ ⟨vs,H1,I1,r1,z,v,ev,q1⟩=>⟨rfl,by rw[<- r1.length];exact z,I1.bk _ _ hC,I1.kIn,T.keeps I1.bk,fun h' e hx'=>?_⟩) fun _ _ y=>y);subst ev;obtain⟨u,rfl,ru⟩:=r1.one;obtain⟨t0,he0,ht0,htt⟩:=hx'.there;have ne:∀b o,s₂.heap.get? b=some o->b≠e:=fun b o z y=>by rw[y,hx'.new]at z;cases z
 have h1e:H1 e=none:=by
  cases z:H1 e with
  |none=>rfl
  |some o=>
   obtain⟨ob,hob⟩:=(I1.hok e o z).there;rw[hx'.new]at hob;cases hob
 have Im:Inv X pins σ (aB H1 e (xn e (.ref C) none)) {s₂ with heap:=h' }:=by
  refine I1.call' (s':={s₂ with heap:=h' }) (ch:=[]) rfl ⟨fun b o z _ _ _=>hx'.keeps b o z,fun b o z _ _ _=>⟨o.slots,hx'.keeps b o z⟩,fun b o z n _=>by rw[ai (ne b o z)];exact n,fun b o z _=>⟨o,hx'.keeps b o z⟩,fun b xs z=>by rw[ai (aG z h1e)];exact z,fun b o y z=>by rw[ai (aG z h1e)];exact z,fun b ps z=>⟨#[],by rw[ai (aG z h1e),z];simp⟩⟩ (fun b o z=>?_) I1.bare (fun b z=>absurd z (by simp))
  by_cases hb:b=e
  ·subst hb
   rw[ac]at z;cases z;exact⟨⟨_,_,he0,rfl,rfl,rfl,rfl,rfl,rfl⟩,⟨_,he0⟩,nr⟩
  ·rw[ai hb]at z
   exact(I1.hok b o z).stay (fun c u _ y=>hx'.keeps c u y) (fun c y=>by rw[ai (aG y h1e)];exact y) fun c xs y=>by rw[ai (aG y h1e)];exact y
 have hsp:iB C fn [.ref e,v] (aB H1 e (xn e (.ref C) none)) (fun r H3=>r=.non/\∃d,H3 e=some (xn e (.ref C) (some d))/\E (.ref C) (some d) (lA H3 e)) (fun _ _ _=>False):=by
  refine⟨e,v,rfl,ac,fun d hd'=>⟨rfl,d,ac,?_⟩⟩;have hde:d≠e:=fun y=>by rw[y,ac]at hd';cases hd'
  rw[ai hde]at hd';have ee:lA (aB (aB (aB H1 e (xn e (.ref C) none)) d (.xd [(fn,v)])) e (xn e (.ref C) (some d))) e=aB H1 d (.xd [(fn,v)]):=by
   funext b
   by_cases hb:b=e
   ·rw[hb,dF,ai (Ne.symm hde)];exact h1e.symm
   ·rw[bO hb,ai hb]
    by_cases hbd:b=d
    ·rw[hbd,ac,ac]
    ·rw[ai hbd,ai hb,ai hbd]
  rw[ee];exact q1 d hd'
 have hl:([Value.ref e,u]++[]).length=ps.length:=(F.len _ _ _ _ hsp:[V.ref e,v].length=ps.length);have r2:aZ [V.ref e,v] [Value.ref e,u]:=.cons rfl (.cons ru .nil);refine wpAny_call (codeAny_mono (F.run _ X.stack _ _ ⟨[.ref e,u],[]⟩ [.ref e,u] _ _ _ (hr.make C [u] []) (Im.env0.make C [u] []) (hb _ [Value.ref e,u] Im.kIn hl) r2 hsp) fun r s' hq'=>?_);cases r with
 |error ev=>exact False.elim hq'
 |ok fl=>
  cases fl with
  |ret u'=>
   obtain⟨v',H3,os3,bare3,un3,hok3,rv,ev,d,he3,qE⟩:=hq';subst ev;have I3:=Im.call' (ch:=[]) os3 un3 hok3 bare3 (fun b z=>absurd z (by simp));obtain⟨⟨oe,ws,g1,g2,g3,g4,g5⟩,_,_⟩:=(show bz X.prog X.w H3 s'.heap e (xn e (.ref C) (some d)) from I3.hok e _ he3);exact⟨rv,oe,ws,I3.bk _ _ hC,g1,g2,g4,g5.1,hx pins σ H1 s₂ h' H3 s' e C (some d) I1 I3 hx'.new hx'.keeps un3 os3 he3 qE⟩
  |next=>exact False.elim hq'
  |brk=>exact False.elim hq'
  |cont=>exact False.elim hq'
end
section
variable {X:Cx}{P:Program}{w:World}{e tg:Expr}{tx:TX}{g:TG}{i:Nat}{n x:Str}{D:Addr}{bmD:List Value}{nD:String}{b₀:Stmt}{suite:List Stmt}{apos pos hpos np:Pos}{ts:Addr->TS}
end
section
variable {X:Cx}{pins:List (Addr×Obj)}{σ:St}{H:Hp}{s:Shared}
end
end L2
namespace PySem.W
open PySem PySem.Spec PySem.Calls PyProof.Rows
section
variable {prog:Program}{w:World}{A:Around}{E:Value->Shared->Prop}{s:Shared}{K:Frag}{x D:Addr}{ox:Obj}{odo:Option Obj}{name:Str}
theorem exc_value{v:Value}{Q:Value->Shared->Prop}(X:K.In s.heap)(I:InstAt s.heap x ox D odo)(c:XTy K D)(hf:findObj K D odo name=some (.value v))(hv:handedIn v=true)(h:Q v {s with toks:=s.toks+1}) :
  wpAny (model prog w) A (getAttr (.ref x) name true) Q E s:=by
 obtain⟨hh,gg,d,t,os⟩:=s;have L0:=I.type (M:=model prog w);have L1:=looks_findIn (M:=model prog w) X c.ga;have L2:=looks_findIn (M:=model prog w) X c.gh;have L3:=looks_find (M:=model prog w) X I hf;unfold getAttr getAttrBy;refine wpAny_bind (wpAny_mkText (wpAny_holding (wpAny_bind (L0.at (wpAny_bind (L1.at ?_))))));show wpAny _ _ (getAttrByItsOwn _ _ _ _ _ _) _ _ _;unfold getAttrByItsOwn hookBefore;refine wpAny_bind (L2.at ?_);refine wpAny_bind (wpAny_attempt (wpAny_holding ?_));unfold callGetattribute boundAndCalled;show wpAny _ _ (bindSpecial _ _ >>= _) _ _ _;rw[BQ];refine wpAny_bind (wpAny_pure ?_);refine wpAny_call (codeAny_call_builtin F.excAttr_ValueError.ga.plain F.entry_bexc_ga (zh X I c.mb ?_));have e1:slotArgs "__getattribute__" 1 ⟨[.ref x,.str name t],[]⟩=pure (.ref x,[.str name t]):=rfl;unfold Builtin.«object.__getattribute__»;show wpAny _ _ (slotArgs "__getattribute__" 1 ⟨[.ref x,.str name t],[]⟩ >>= _) _ _ _;rw[e1];refine wpAny_bind (wpAny_pure ?_);refine wpAny_bind (wpAny_pure (wpAny_bind (L0.at (wpAny_bind (L3.at ?_)))));refine wpAny_pure ?_;exact handed_on hv h
end
end PySem.W
namespace L2
open PySem PySem.Spec PyProof.Rows
section
variable {X:Cx}{e:Expr}{ta:TE}{f:Str}{pos:Pos}
noncomputable def yS(K:PySem.W.Frag)(ta:TE)(f:Str):TE:=fun σ H Q=>ta σ H fun x H1=>∃a C d fs v,x=.ref a/\H1 a=some (xo a (.ref C) (some d))/\H1 d=some (.xd fs)/\fs.lookup f=some v/\PySem.W.XTy K C/\PySem.W.hasDictIn K C=true/\aL K C f/\Q v H1
theorem Bx(he:PE X e ta)(hb:attributeBase e f X.env (eval e X.env)=eval e X.env):PE X (.Attribute e f pos) (yS X.K ta f):=by
 intro pins s σ H Q I h;refine wq hb (bF (he pins s σ H _ I h) fun u s1 ⟨x,H1,I1,rx,a,C,d,fs,v,ex,ea,ed,l,c,hd,n,q⟩=>?_);subst ex;obtain rfl:u=Value.ref a:=rx;obtain⟨⟨o,vs,e1,e2,e3,e4⟩,_⟩:=(show bz X.prog X.w H1 s1.heap a (xo a (.ref C) (some d)) from I1.hok a _ ea);obtain⟨mA,ns,rel⟩:=(show bz X.prog X.w H1 s1.heap d (.xd fs) from I1.hok d _ ed);obtain⟨od,ho,hl⟩:=qO ns;obtain⟨u,hu,ru⟩:=m5.some_of (v:=v) (o:=mA f) (by rw[<- l];exact rel f);have J:PySem.W.InstAt s1.heap a o C (some od):=⟨e1,e2,by unfold PySem.W.notCls;rw[e4],by rw[e3];exact ho⟩;exact PySem.W.exc_value I1.kIn J c (PySem.W.findObj_own hd n rfl (by rw[hl,hu])) (rj ru) ⟨v,H1,I1.tok _,ru,q⟩
end
end L2
namespace SpM
open PySem
noncomputable def step(c:Nat)(rows:List (List Nat))(d:Nat):List (List Nat):=if d=c then rows++[[]] else rows.dropLast++[rows.getLastD []++[d]]
noncomputable def ze(c:Nat)(x:List Nat):List (List Nat):=x.foldl (step c) [[]]
theorem o7(c:Nat){n:Nat}{rows:List (List Nat)}(h:∀r∈rows,r.length<=n)(d:Nat):∀r∈step c rows d,r.length<=n+1:=by
 intro r hr;unfold step at hr
 split at hr
 ·rcases Hz.mp hr with q | q
  ·exact Nat.le_succ_of_le (h r q)
  ·rw[Hn.mp q];simp
 ·rcases Hz.mp hr with q | q
  ·exact Nat.le_succ_of_le (h r (List.dropLast_subset _ q))
  ·rw[Hn.mp q,HN]
   have:(rows.getLastD []).length<=n:=by
    by_cases e:rows=[]
    ·rw[e];simp
    ·have hl:rows.getLastD []∈rows:=by
      rw[List.getLastD_eq_getLast?,List.getLast?_eq_some_getLast e];exact List.getLast_mem e
     exact h _ hl
   simpa using this
theorem xl(c:Nat)(rows:List (List Nat))(d:Nat):(step c rows d).length<=rows.length+1:=by
 unfold step
 split
 ·simp
 ·rw[HN,List.length_dropLast];simp
theorem lL(c:Nat):∀(x:List Nat) (rows:List (List Nat)) (n:Nat),(∀r∈rows,r.length<=n)->(∀r∈x.foldl (step c) rows,r.length<=n+x.length)/\(x.foldl (step c) rows).length<=rows.length+x.length
 | [],rows,n,h=>⟨by simpa using h,by simp⟩
 |d::x,rows,n,h=>by
  obtain⟨h1,h2⟩:=lL c x (step c rows d) (n+1) (o7 c h d);have h3:=xl c rows d;refine⟨fun r hr=>?_,?_⟩
  ·have:=h1 r hr;simp only[Hx];omega
  ·rw[List.foldl_cons];simp only[Hx];omega
theorem bL(c:Nat)(x:List Nat):(∀r∈ze c x,r.length<=x.length)/\(ze c x).length<=1+x.length:=by
 have:=lL c x [[]] 0 (by simp);unfold ze;simpa using this
end SpM
namespace PyProof.Rows
open PySem PySem.Spec PySem.Builtin PySem.Builtin.Str
section
variable {prog:Program}{w:World}{A:Around}{E:Value->Shared->Prop}{s:Shared}{x y:Str}{t u:Tok}{Q:Value->Shared->Prop}
end
end PyProof.Rows
namespace L2
open PySem PySem.Spec PyProof.Rows QL
section
variable {X:Cx}
end
structure Ak(K:PySem.W.Frag)(C:Addr)(m:Str)(f:Addr):Prop where
 sp:PySem.W.specialIn K (.ref C) "__getattribute__"=some (some (.builtin "type.__getattribute__"))
 rd:PySem.W.readsIn K C (.type "type")=true
 fi:PySem.W.findCls K (.ref C) (.type "type") m=some (.val (.ref f))
 kp:PySem.W.keepIn K (.ref f)=true
section
variable {X:Cx}{CX:jL}{k:Nat}{f C:Addr}{fd:FuncData}{ps:List Str}{sp:Sp}{E:XK}{x m:Str}{p pos apos:Pos}{e:Expr}{es:List Expr}{t:TA}
theorem Aw{pl:Sem Bool}(c:Ak X.K C m f)(F:bc X.prog X.w X.K X.mg X.base CX k f fd ps sp)(hr:b5 k X.A)(hg:Gl X x)(hm:X.mg x=some (.ref C))(hb:dc X.K fd ps [])(hx:ck CX X E)(ha:PA X (e::es) t)
  (hdb:(x==("__debug__":Str))=false:=by decide +kernel) (hst:starEach (e::es) X.env=(false,eval e X.env)::starEach es X.env:=by rfl) (hpl:(backTo pos (starEach es X.env)).any (·.1)=false:=by rfl)
  (ht:eval (.Call (.Attribute (.Name x p) m apos) (e::es) [] pos) X.env=(do
   let ov <- eval (.Name x p) X.env
   standAt apos.atName
   let (f,first) <- holding [ov] (getMethod ov m pl)
   callWith pos f first (backTo pos (starEach (e::es) X.env)) (backToKw pos (keywordEach [] X.env))):=by rfl) :
  PE X (.Call (.Attribute (.Name x p) m apos) (e::es) [] pos) (nC sp [] E t):=by
 intro pins s σ H Q I h;refine PySem.W.methodCall_KW (pl:=pl) (eV I hg hm ?_ hdb) ht;refine PySem.W.method_cls I.kIn c.sp (PySem.W.cls_value I.kIn c.rd c.fi rfl ?_);have I1:=I.tok (s.toks+1);refine PySem.W.callWith_K (first:=[]) (h₀:=X.base) I.ok.mod.kin c.kp (bF (ha pos pins _ σ H _ I1 h) fun us s2 ⟨vs,H2,I2,r,q2⟩=>⟨I2.kIn,?_⟩) hst hpl;exact nu F hr hb .nil hx I2 r q2
end
section
variable (P:Program)(w:World)(K:PySem.W.Frag)(mg:Str->Option Value)(base:Heap)(CX:jL)
structure xy(k:Nat)(x m:Str)(ps:List Str)(sp:Sp):Prop where
 ex:∃(C f:Addr) (fd:FuncData),bc P w K mg base CX k f fd ps sp/\mg x=some (.ref C)/\Ak K C m f/\dc K fd ps []
structure ot(k:Nat)(x:Str)(C:Addr)(ps:List Str)(sp:Sp):Prop where
 ex:∃(f:Addr) (fd:FuncData),bc P w K mg base CX k f fd ps sp/\mg x=some (.ref C)/\Mk K C f/\dc K fd ps []
structure nM(k:Nat)(C:Addr)(m:Str)(ps:List Str)(sp:Sp):Prop where
 ex:∃(f:Addr) (fd:FuncData),bc P w K mg base CX k f fd ps sp/\oI K C/\kX K C m f/\dc K fd ps []
end
section
variable {X:Cx}{CX:jL}{k:Nat}{C:Addr}{ps:List Str}{sp:Sp}{E:XK}{x m:Str}{p pos apos:Pos}{e o:Expr}{es:List Expr}{t:TA}{ta:TE}
theorem n_{pl:Sem Bool}(c:xy X.prog X.w X.K X.mg X.base CX k x m ps sp)(hr:b5 k X.A)(hg:Gl X x)(hx:ck CX X E)(ha:PA X (e::es) t)
  (hdb:(x==("__debug__":Str))=false:=by decide +kernel) (hst:starEach (e::es) X.env=(false,eval e X.env)::starEach es X.env:=by rfl) (hpl:(backTo pos (starEach es X.env)).any (·.1)=false:=by rfl)
  (ht:eval (.Call (.Attribute (.Name x p) m apos) (e::es) [] pos) X.env=(do
   let ov <- eval (.Name x p) X.env
   standAt apos.atName
   let (f,first) <- holding [ov] (getMethod ov m pl)
   callWith pos f first (backTo pos (starEach (e::es) X.env)) (backToKw pos (keywordEach [] X.env))):=by rfl) :
  PE X (.Call (.Attribute (.Name x p) m apos) (e::es) [] pos) (nC sp [] E t):=by
 obtain⟨C,f,fd,F,hm,cf,hb⟩:=c.ex;exact Aw cf F hr hg hm hb hx ha hdb hst hpl ht
theorem lv(c:ot X.prog X.w X.K X.mg X.base CX k x C ps sp)(hr:b5 (k+1) X.A)(hg:Gl X x)(hx:ck CX X E)(ha:PA X (e::es) t)
  (hdb:(x==("__debug__":Str))=false:=by decide +kernel) (hst:starEach (e::es) X.env=(false,eval e X.env)::starEach es X.env:=by rfl) (hpl:(backTo pos (starEach es X.env)).any (·.1)=false:=by rfl) :
  PE X (.Call (.Name x p) (e::es) [] pos) (wu C sp [] E t):=by
 obtain⟨f,fd,F,hm,M,hb⟩:=c.ex;exact BG M F hr hg hm hb .nil hx ha hdb hst hpl
theorem wH{pl:Sem Bool}(c:nM X.prog X.w X.K X.mg X.base CX k C m ps sp)(hr:b5 k X.A)(hx:ck CX X E)(he:PE X o ta)(ha:PA X (e::es) t)
  (hst:starEach (e::es) X.env=(false,eval e X.env)::starEach es X.env:=by rfl) (hpl:(backTo pos (starEach es X.env)).any (·.1)=false:=by rfl)
  (ht:eval (.Call (.Attribute o m apos) (e::es) [] pos) X.env=(do
   let ov <- eval o X.env
   standAt apos.atName
   let (f,first) <- holding [ov] (getMethod ov m pl)
   callWith pos f first (backTo pos (starEach (e::es) X.env)) (backToKw pos (keywordEach [] X.env))):=by rfl) :
  PE X (.Call (.Attribute o m apos) (e::es) [] pos) (rF C m sp [] E ta t):=by
 obtain⟨f,fd,F,cl,hm,hb⟩:=c.ex;exact BK he cl hm F hr hb .nil hx ha hst hpl ht
theorem yL{pl:Sem Bool}(c:nM X.prog X.w X.K X.mg X.base CX k C m ps sp)(hr:b5 k X.A)(hx:ck CX X E)(he:PE X o ta)
  (ht:eval (.Call (.Attribute o m apos) [] [] pos) X.env=(do
   let ov <- eval o X.env
   standAt apos.atName
   let (f,first) <- holding [ov] (getMethod ov m pl)
   callWith pos f first (backTo pos (starEach [] X.env)) (backToKw pos (keywordEach [] X.env))):=by rfl) :
  PE X (.Call (.Attribute o m apos) [] [] pos) (rF C m sp [] E ta pG):=by
 obtain⟨f,fd,F,cl,hm,hb⟩:=c.ex;exact AL he cl hm F hr hb .nil hx ht
end
section
variable {g:TG}{ti:TT}{te:TE}{σ:St}{H:Hp}{Q:List V->Hp->Prop}
theorem zp{x:Str}(Pv:Nat->List V->St->Hp->Prop)(h0:Pv 0 [] σ H)(hz:∀i acc σ H,Pv i acc σ H->acc.length<sizeLine)(hi:∀i acc σ H,Pv i acc σ H->i<=x.cps.size)
  (hs:∀i c acc σ H,x.cps[i]?=some c->Pv i acc σ H->g (.str ⟨#[c]⟩) σ H fun σ2 H3=>ti σ2 H3 fun b H4=>if b=true then te σ2 H4 fun v H5=>Pv (i+1) (acc++[v]) σ2 H5 else Pv (i+1) acc σ2 H4)
  (he:∀acc σ H,Pv x.cps.size acc σ H->Q acc H):gR (DK x) g ti te σ H Q:=by
 exact jW (J:=DK x) (g:=g) (ti:=ti) (te:=te) (Q:=Q) (n:=x.cps.size) Pv h0 hz hi (fun acc σ H w=>HP _) (fun i acc σ H hlt w=>hlt)
  (fun i v acc σ H H2 hlt w y=>by obtain⟨rfl,c,hc,rfl⟩:=y;exact hs i c acc σ H2 hc w) he
end
section
variable {X:Cx}{e:Expr}{tx:TX}{i:Nat}{n x:Str}{D:Addr}{bmD:List Value}{nD:String}{b₀:Stmt}{suite:List Stmt}{epos pos hpos np:Pos}{ts:Addr->TS}
end
section
variable (P:Program)(w:World)(K:PySem.W.Frag)(mg:Str->Option Value)(base:Heap)(CX:jL)
structure tP(k:Nat)(m:Str)(os:List (Addr×Sp)):Prop where
 ex:∀o∈os,∃ps,nM P w K mg base CX k o.1 m ps o.2
end
noncomputable def sj(m:Str)(os:List (Addr×Sp))(E:XK)(ta:TE)(t:TA):TE:=fun σ H Q=>ta σ H fun x H1=>∃o∈os,∃a dx fs,x=.ref a/\H1 a=some (.ins o.1 dx fs)/\fs.lookup m=none /\
 t σ H1 fun vs H2=>o.2 (x::(vs++[])) H2 Q E
section
variable {X:Cx}{CX:jL}{k:Nat}{os:List (Addr×Sp)}{E:XK}{m:Str}{pos apos:Pos}{e o:Expr}{es:List Expr}{t:TA}{ta:TE}
theorem DU{pl:Sem Bool}(c:tP X.prog X.w X.K X.mg X.base CX k m os)(hr:b5 k X.A)(hx:ck CX X E)(he:PE X o ta)(ha:PA X (e::es) t)
  (hst:starEach (e::es) X.env=(false,eval e X.env)::starEach es X.env:=by rfl) (hpl:(backTo pos (starEach es X.env)).any (·.1)=false:=by rfl)
  (ht:eval (.Call (.Attribute o m apos) (e::es) [] pos) X.env=(do
   let ov <- eval o X.env
   standAt apos.atName
   let (f,first) <- holding [ov] (getMethod ov m pl)
   callWith pos f first (backTo pos (starEach (e::es) X.env)) (backToKw pos (keywordEach [] X.env))):=by rfl) :
  PE X (.Call (.Attribute o m apos) (e::es) [] pos) (sj m os E ta t):=by
 intro pins s σ H Q I h;refine PySem.W.methodCall_KW (pl:=pl) (bF (he pins s σ H _ I h) fun u s1 ⟨x,H1,I1,rx,oc,ho,a,dx,fs,ex,ea,l,q⟩=>?_) ht;subst ex;obtain rfl:u=Value.ref a:=rx;obtain⟨ps,cm⟩:=c.ex oc ho;obtain⟨f,fd,F,cl,hm,hb⟩:=cm.ex;refine eF I1 ea cl hm l ?_;refine PySem.W.callWith_K (first:=[.ref a]) (h₀:=X.base) I.ok.mod.kin hm.kp (bF (ha pos pins s1 σ H1 _ I1 q) fun us s2 ⟨vs,H2,I2,r,q2⟩=>⟨I2.kIn,?_⟩) hst hpl;exact nu (us:=.ref a::us) (vs:=.ref a::vs) F hr hb .nil hx I2 (.cons rfl r) q2
theorem t_{pl:Sem Bool}(c:tP X.prog X.w X.K X.mg X.base CX k m os)(hr:b5 k X.A)(hx:ck CX X E)(he:PE X o ta)
  (ht:eval (.Call (.Attribute o m apos) [] [] pos) X.env=(do
   let ov <- eval o X.env
   standAt apos.atName
   let (f,first) <- holding [ov] (getMethod ov m pl)
   callWith pos f first (backTo pos (starEach [] X.env)) (backToKw pos (keywordEach [] X.env))):=by rfl) :
  PE X (.Call (.Attribute o m apos) [] [] pos) (sj m os E ta pG):=by
 intro pins s σ H Q I h;refine PySem.W.methodCall_KW (pl:=pl) (bF (he pins s σ H _ I h) fun u s1 ⟨x,H1,I1,rx,oc,ho,a,dx,fs,ex,ea,l,q⟩=>?_) ht;subst ex;obtain rfl:u=Value.ref a:=rx;obtain⟨ps,cm⟩:=c.ex oc ho;obtain⟨f,fd,F,cl,hm,hb⟩:=cm.ex;refine eF I1 ea cl hm l ?_;exact PySem.W.callWith_K0 (first:=[.ref a]) I1.kIn hm.kp (nu (us:=[.ref a]) (vs:=[.ref a]) F hr hb .nil hx I1 (.cons rfl .nil) q)
end
structure mD(K:PySem.W.Frag)(C:Addr):Prop where
 cl:oI K C
 ha:PySem.W.findIn K (.ref C) "__class__"=some (some (.builtin "object.__class__"))
 hn:PySem.W.specialIn K (.builtin "object.__class__") "__get__"=some (some (.builtin "getset_descriptor.__get__"))
 htk:PySem.W.takesIn K (.builtin "object.__class__")=some true
 hm:PySem.W.mroIn K C (.type "object")=some true
theorem mD.ty{K:PySem.W.Frag}{C a dx:Addr}{H:Hp}{fs:List (Str×V)}(i:mD K C)(e:H a=some (.ins C dx fs)):ke K H (.ref a) (.ref C):=.ins e i.cl i.ha i.hn i.htk i.hm
noncomputable def v2(m:Str)(os:List (Addr×Sp))(ta:TE)(t:TA):TX:=fun σ H Q E=>ta σ H fun x H1=>∃o∈os,∃a dx fs,x=.ref a/\H1 a=some (.ins o.1 dx fs)/\fs.lookup m=none /\
 t σ H1 fun vs H2=>o.2 (x::vs) H2 Q E
section
variable {X:Cx}{CX:jL}{k:Nat}{os:List (Addr×Sp)}{m:Str}{pos apos:Pos}{e o:Expr}{es:List Expr}{t:TA}{ta:TE}
theorem Bd{pl:Sem Bool}(c:tP X.prog X.w X.K X.mg X.base CX k m os)(hr:b5 k X.A)(he:PE X.nox o ta)(ha:PA X.nox (e::es) t)
  (hst:starEach (e::es) X.env=(false,eval e X.env)::starEach es X.env:=by rfl) (hpl:(backTo pos (starEach es X.env)).any (·.1)=false:=by rfl)
  (ht:eval (.Call (.Attribute o m apos) (e::es) [] pos) X.env=(do
   let ov <- eval o X.env
   standAt apos.atName
   let (f,first) <- holding [ov] (getMethod ov m pl)
   callWith pos f first (backTo pos (starEach (e::es) X.env)) (backToKw pos (keywordEach [] X.env))):=by rfl) :
  PX CX X (.Call (.Attribute o m apos) (e::es) [] pos) (v2 m os ta t):=by
 intro pins s σ H Q E Ex I h hEx;refine PySem.W.methodCall_KW (pl:=pl) (wpAny_mono (he pins s σ H _ (I.wish _) h) (fun u s1 ⟨x,H1,I1,rx,oc,ho,a,dx,fs,ex,ea,l,q⟩=>?_) fun _ _ f=>f.elim) ht;subst ex;obtain rfl:u=Value.ref a:=rx;obtain⟨ps,cm⟩:=c.ex oc ho;obtain⟨f,fd,F,cl,hm,hb⟩:=cm.ex;have J1:Inv X pins σ H1 s1:=I1.unwish;refine eF J1 ea cl hm l ?_;refine PySem.W.callWith_K (first:=[.ref a]) (h₀:=X.base) I.ok.mod.kin hm.kp (wpAny_mono (ha pos pins s1 σ H1 _ (J1.wish _) q) (fun us s2 ⟨vs,H2,I2,r,q2⟩=>⟨I2.kIn,?_⟩) fun _ _ f=>f.elim) hst hpl;have J2:Inv X pins σ H2 s2:=I2.unwish;have r2:aZ (V.ref a::vs) (Value.ref a::us):=.cons rfl r;have hl:((Value.ref a::us)++[]).length=ps.length:=by rw[Ia,<- r2.length];exact F.len _ _ _ _ q2
 have hb1:=hb s2 (Value.ref a::us) J2.kIn hl;rw[Ia]at hb1;refine wpAny_call (codeAny_mono (F.run X.A X.stack s2 H2 ⟨Value.ref a::us,[]⟩ (Value.ref a::us) (V.ref a::vs) Q E hr J2.env0 hb1 r2 q2) fun rr s' hq=>?_);cases rr with
 |error ev=>exact hEx H2 s2 ev s' J2 hq
 |ok fl=>
  cases fl with
  |ret u=>exact J2.after hq
  |next=>exact False.elim hq
  |brk=>exact False.elim hq
  |cont=>exact False.elim hq
end
section
variable {X:Cx}{es:List Expr}{t:TA}
theorem bf{x j p}(hr:PA X es t):PA X (.Constant (.str x) j p::es) (jn (tC (.str x)) t):=aa cV hr rfl
theorem bE{x j p}(hr:PA X es t):PA X (.Constant (.int x) j p::es) (jn (tC (.int x)) t):=aa af hr rfl
end
end L2
namespace PyProof.Rows
open PySem PySem.Spec PySem.Builtin PySem.Builtin.Str
section
variable {prog:Program}{w:World}{A:Around}{E:Value->Shared->Prop}{s:Shared}{x y:Str}{t u:Tok}{Q:Value->Shared->Prop}
end
end PyProof.Rows
namespace L2
open PySem PySem.Spec PyProof.Rows QL
section
variable {X:Cx}
end
section
variable {X:Cx}
end
section
variable {X:Cx}{pins:List (Addr×Obj)}{σ:St}{H:Hp}{s:Shared}{a:Addr}{kvs:List (gs×V)}{k:gs}{u r:Value}{d:V}{A:Around}{E:Value->Shared->Prop}
theorem zF{Q:Value->Shared->Prop}(I:Inv X pins σ H s)(e:H a=some (.dK kvs))(ry:bq (kV k) u)(rd:bq d r)(hl:kvs.length<sizeLine)
  (h1:∀v w' s',gt kvs k=some v->Inv X pins σ H s'->bq v w'->Q w' s') (h2:gt kvs k=none->∀s',Inv X pins σ (aB H a (.dK (kR kvs k d))) s'->Q r s') :
  wpAny (model X.prog X.w) A (call (.builtin "dict.setdefault") [.ref a,u,r]) Q E s:=by
 obtain⟨z,hd,vs,rel,dd⟩:=BY I.hok e;have hz:vs.length<=sizeLine:=by rw[<- rel.length];exact z
 have hl':(kR kvs k d).length<=sizeLine:=by have:=nI kvs k d;omega
 refine call_meetsIn PySem.F.slot_dict_setdefault dd.typeIs PySem.F.entry_dict_setdefault (PySem.F.args_dict_setdefault_3 _ _ _) (kt_meets_setdefault (bW X.prog X.w) a (yt ry) hd r) ⟨vs,dd,hz,fun v hv=>?_,fun hn h' dd' hs=>?_⟩
 ·have q:=rel.val k
  rw[hv]at q;cases hvv:gt kvs k with
  |none=>rw[hvv]at q;exact False.elim q
  |some v0=>rw[hvv]at q;exact h1 v0 v _ hvv (I.tok _) q
 ·have q:=rel.val k
  rw[hn]at q;have hvv:gt kvs k=none:=by
   cases hvv:gt kvs k with
   |none=>rfl
   |some v0=>rw[hvv]at q;exact False.elim q
  have he:∃q,h'.get? a=some q:=let ⟨q,_,_,hq,_⟩:=dd';⟨q,hq⟩
  exact h2 hvv _ (wB I (by rw[e];exact True.intro) hs he (Ax hl' hd (rel.put k rd) dd'))
end
noncomputable def uC(td ty tx:TE):TE:=fun σ H Q=>td σ H fun x H1=>∃a,x=.ref a/\FC H1 a/\ty σ H1 fun y H2=>tx σ H2 fun z H3=>∃kvs k,H3 a=some (.dK kvs)/\y=kV k/\kvs.length<sizeLine /\
 (∀v,gt kvs k=some v->Q v H3)/\(gt kvs k=none->Q z (aB H3 a (.dK (kR kvs k z))))
section
variable {X:Cx}{o e f:Expr}{apos cpos:Pos}{td ty tx:TE}
theorem oz(ho:PE X o td)(he:PE X e ty)(hf:PE X f tx)(m:M2 X o "setdefault" apos e f cpos):PE X (.Call (.Attribute o "setdefault" apos) [e,f] [] cpos) (uC td ty tx):=by
 intro pins s σ H Q I h;refine wpAny_Call_method m.base m.few m.line PySem.F.plainAttrs_dict PySem.F.slot_dict_setdefault PySem.F.type_dict_setdefault (bF (ho pins s σ H _ I h) fun u s1 ⟨x,H1,I1,rx,a,ex,d,q1⟩=>?_);subst ex;obtain rfl:u=Value.ref a:=rx;obtain⟨t1,t2,_⟩:=CZ I1 d;refine⟨t1,t2,?_⟩;rw[m.trees];refine Calls.callWith_builtin rfl (Calls.evalArgs_plain (Calls.spliced_cons (bF (he pins s1 σ H1 _ I1 q1) fun iv s2 ⟨y,H2,I2,ry,q2⟩=>
  Calls.spliced_cons (bF (hf pins s2 σ H2 _ I2 q2) fun fv s3 ⟨z,H3,I3,rz,kvs,k,hH,ey,hlen,g1,g2⟩=>Calls.spliced_nil ?_))))
 subst ey;exact zF I3 hH ry rz hlen (fun v w' s4 hv I4 rv=>⟨v,H3,I4,rv,g1 v hv⟩) fun hn s4 I4=>⟨z,_,I4,rz,g2 hn⟩
end
section
variable {X:Cx}
end
section
variable {K:Type}[DecidableEq K]
noncomputable def gC(σ:List K)(v:K):List K:=if v∈σ then σ else σ++[v]
noncomputable def met(l:List K):List K:=l.foldl gC []
theorem t9(σ:List K)(v k:K):decide (k∈gC σ v)=(decide (k∈σ)||decide (k=v)):=by
 unfold gC
 by_cases h:v∈σ
 ·rw[if_pos h]
  by_cases e:k=v
  ·subst e;simp[h]
  ·simp[e]
 ·rw[if_neg h]
  simp[Hz]
theorem nG(σ:List K)(v:K):(gC σ v).length=if decide (v∈σ) then σ.length else σ.length+1:=by
 unfold gC
 by_cases h:v∈σ<;>simp[h]
theorem uL(l:List K)(v:K):met (l++[v])=gC (met l) v:=by unfold met;rw[List.foldl_append];rfl
theorem wQ:∀(l σ:List K),(l.foldl gC σ).length<=σ.length+l.length
 | [],σ=>HP _
 |v::l,σ=>by
  have h:=wQ l (gC σ v);have e:=nG σ v;rw[List.foldl_cons,Hx]
  split at e<;>omega
theorem zV(n:Nat)(l:List K)(h:l.length=n):(met l).length<=n:=by
 have:=wQ l [];rw[<- h];unfold met;simpa using this
end
section
variable {prog:Program}{w:World}{K:Type}[DecidableEq K]{knd:KeyKind prog w K}{A:Around}{R:Result->Shared->Prop}{I:Addr}{fp wr:List Addr}{G:Array GenState->Array GenState->Prop}{n:Nat}{P:Nat->Value->Prop}{St:Nat->Shared->Prop}
theorem A2(W:WalksS prog w A.in1 I fp wr G n P St)(S:Addr)(hSf:S∉fp)(l:List K)(hl:l.length=n)
  (hval:∀i v,P i v->∃k,l[i]?=some k/\knd.is k v=true/\v.scannable=true) (hb:n+1<scanBound) :
  ∀(k i:Nat) (s:Shared),n-i=k->i<=n->St i s ->
   s.heap.SetOf knd S (fun k'=>decide (k'∈met (l.take i))) (met (l.take i)).length ->
   (∀s',Moved (S::wr) G s s'->s'.heap.SetOf knd S (fun k'=>decide (k'∈met l)) (met l).length->R (.ok (.ret .none)) s') ->
   codeAny (model prog w) A (.builtin "set.update.loop" ⟨[.ref S,.ref I],[]⟩) R s:=by
 have hSw:S∉wr:=fun h=>hSf (W.sub _ h);have hsub:∀b∈wr,b∈S::wr:=fun b hb=>HH _ hb;intro k
 induction k with
 |zero=>
  intro i s hk hi hst hS hR;have hin:i=n:=by omega
  subst hin;rw[<- hl,Ic]at hS;refine codeAny_builtin F.entry_set_update_loop ?_;rw[Around.under_plainId F.plain_set_update_loop _];show wpAny _ A.in1 (pyNext (.ref I) >>= _) _ _ s;refine wpAny_bind (W.done s _ _ hst fun s' hm=>?_);show wpAny _ A.in1 (ret Value.none) _ _ s';refine wpAny_pure (hR s' (hm.mono hsub) ?_);obtain⟨o,es,ep,t,ho,bt⟩:=hS;exact⟨o,es,ep,t,hm.heap S _ hSw ho,bt⟩
 |succ k ih=>
  intro i s hk hi hst hS hR;have hlt:i<n:=by omega
  refine codeAny_builtin F.entry_set_update_loop ?_;rw[Around.under_plainId F.plain_set_update_loop _];show wpAny _ A.in1 (pyNext (.ref I) >>= _) _ _ s;refine wpAny_bind (W.item i s _ _ hlt hst fun v s' hP hst' hm=>?_);obtain⟨key,hkey,his,hsc⟩:=hval i v hP;have hS':s'.heap.SetOf knd S (fun k'=>decide (k'∈met (l.take i))) (met (l.take i)).length:=by
   obtain⟨o,es,ep,tb,ho,bt⟩:=hS;exact⟨o,es,ep,tb,hm.heap S _ hSw ho,bt⟩
  show wpAny _ A.in1 (holding [v] (setAdd S v) >>= _) _ _ s';refine wpAny_bind (wpAny_holding ?_);unfold setAdd;refine wpAny_holding ?_;refine wpAny_bind (knd.pyHash (k:=key) his ?_);have hroom:(met (l.take i)).length+1<scanBound:=by have:=zV i (l.take i) (by rw[Ie];omega);omega
  refine wpAny_setAddHashed_of (knd:=knd) (s:={s' with toks:=s'.toks+1}) his hsc hS' hroom fun h' hsb hS2=>?_;have ht:l.take (i+1)=l.take i++[key]:=by rw[List.take_add_one,hkey];rfl
  have hSi:h'.SetOf knd S (fun k'=>decide (k'∈met (l.take (i+1)))) (met (l.take (i+1))).length:=
   SetOf_congr hS2 (fun k'=>by rw[ht,uL,t9]) (by rw[ht,uL,nG])
  refine wpAny_pure ⟨plainId_quiet F.plain_set_update_loop _,ih (i+1) _ (by omega) hlt (W.frame _ s' _ _ hst' (Nat.le_succ _) fun b hb o e=>?_) hSi fun s'' hm'' hS''=>?_⟩
  ·rw[hsb.2 b (fun h:b=S=>hSf (by rw[<- h];exact hb))];exact e
  ·refine hR s'' (Moved.trans W.gtrans ((hm.mono hsub).then_heap (Nat.le_succ _) fun b o hb e=>?_) hm'') hS''
   rw[hsb.2 b (fun h:b=S=>hb (by rw[h];exact List.mem_cons_self))];exact e
end
noncomputable def cO(z:Str):List Str:=z.cps.toList.map fun c=>(⟨#[c]⟩:Str)
section
variable {prog:Program}{w:World}{A:Around}{E:Value->Shared->Prop}{s:Shared}
set_option maxHeartbeats 3200000 in
theorem qB{x:Str}{t:Tok}{Q:Value->Shared->Prop}(hh:A.handled=none)(hb:x.cps.size+1<scanBound)
  (h:∀(h':Heap) (tk:Nat),h'.SetOf (strKind prog w) s.heap.objs.size (fun k'=>decide (k'∈met (cO x))) (met (cO x)).length ->
   (∀b o,s.heap.get? b=some o->h'.get? b=some o)->Q (.ref s.heap.objs.size) {s with heap:=h',toks:=tk}) :
  wpAny (model prog w) A (call (.type "set") [.str x t]) Q E s:=by
 obtain⟨c,tl,hmro⟩:=PySem.F.called_set.mro;have hmade:=PySem.F.called_set.made;have hsub:=PySem.F.called_set.sub;refine wpAny_call (codeAny_of_tree ?_);show wpAny _ _ (callAny (.type "set") _) _ _ _;refine wpAny_pure ⟨Code.quiet_builtin _ (by decide +kernel),codeAny_builtin PySem.F.entry_type_call ?_⟩;rw[Around.under_plain (weight_type_call_type "set" [.str x t] []) rfl];have h1:=PySem.F.called_set.notType;have h2:=PySem.F.called_set.canCreate;have hct:=PySem.F.typeCall_set_1 (.str x t)
 repeat (any_goals (first | assumption | wp_step))
 refine codeAny_mono (code_set_new_1 (.str x t) (E:=E) (Q₁:=fun obj s₁=>∃led:Bool,obj=.ref s.heap.objs.size/\s₁={s with heap:=s.heap.push {cls:=.type "set",dict:=none,data:=.set #[] 0 (.fresh 0 0 led)} }) fun led=>⟨led,rfl,rfl⟩) fun r s₁ hr=>?_;cases r with
 |error e=>exact hr
 |ok fl=>
  cases fl with
  |ret obj=>
   obtain⟨led,rfl,rfl⟩:=hr;have hS:(s.heap.push {cls:=.type "set",dict:=none,data:=.set #[] 0 (.fresh 0 0 led)}).get? s.heap.objs.size=some {cls:=.type "set",dict:=none,data:=.set #[] 0 (.fresh 0 0 led)}:=Hs _ rfl;have hT:Shared.TypeIs {s with heap:=s.heap.push {cls:=.type "set",dict:=none,data:=.set #[] 0 (.fresh 0 0 led)} } (.ref s.heap.objs.size) "set":=⟨_,hS,rfl⟩;have hli:=PySem.F.called_set.init.lookup;have hbi:=PySem.F.called_set.init.bind (.ref s.heap.objs.size)
   repeat (any_goals (first | assumption | wp_step))
   refine codeAny_mono (codeAny_call_builtin (R:=wants (fun r s₂=>r=.none/\∃h' tk,s₂={s with heap:=h',toks:=tk} /\
     h'.SetOf (strKind prog w) s.heap.objs.size (fun k'=>decide (k'∈met (cO x))) (met (cO x)).length /\
     (∀b o,s.heap.get? b=some o->h'.get? b=some o)) E) PySem.F.called_set.init.plain PySem.F.entry_set_init (check_set_init_1 hT ?_)) fun r₂ s₂ hr₂=>?_
   ·have hsls:=PySem.F.sub_str_set
    have hslf:=PySem.F.sub_str_frozenset;have hne:(Value.type "str" == Value.type "dict")=false:=by decide
    unfold Builtin.«set.__init__» noKeywords Builtin.Frozenset.updateFrom;generalize hPI:pyIter=PI
    wp_walk
    subst hPI;refine wpAny_pyIter_str fun o St W hst=>?_;refine wpAny_bind (wpAny_runValue ?_);have hSf:s.heap.objs.size∉[(s.heap.push {cls:=.type "set",dict:=none,data:=.set #[] 0 (.fresh 0 0 led)}).objs.size]:=by
     rw[Heap.size_push];simp only[Hn]
     exact HK (H_ _)
    refine A2 (knd:=strKind prog w) ((W _ (by simp[hh])).toS) s.heap.objs.size hSf (cO x) (by simp[cO])
     (fun i v ⟨c,u,hc,hv⟩=>⟨⟨#[c]⟩,by unfold cO;rw[Ho,Array.getElem?_toList,hc];rfl,by rw[hv];exact strKind_is _ _ _ _,by rw[hv];rfl⟩) hb (x.cps.size-0) 0 _ (by omega) (HQ _) hst ?hS0 ?hR
    case hS0=>
     exact SetOf_congr ((setObjOf_fresh (knd:=strKind prog w) led).setOf (Hl _ hS) (by unfold scanBound;omega)) (fun _=>rfl) rfl
    case hR=>
     intro s' hm hS';obtain⟨h',g',d',tk',os'⟩:=s';have eg:g'=s.gens:=hm.gens;have ed:d'=s.drawn:=hm.drawn;have eo:os'=s.os:=hm.os;subst eg;subst ed;subst eo
     show wpAny _ _ _ _ _ _;refine wpAny_pure ?_;show wpAny _ _ (ret Value.none) _ _ _;refine wpAny_pure ⟨rfl,h',tk',rfl,hS',fun b o' e=>?_⟩;have hb:=HS e;refine hm.heap b o' ?_ (Hl _ (Hl _ e));simp only[HF,List.not_mem_nil,or_false,not_or,Heap.size_push];exact⟨HK hb,HK (Nat.lt_succ_of_lt hb)⟩
   ·cases r₂ with
    |error e=>exact hr₂
    |ok fl₂=>
     cases fl₂ with
     |ret r=>
      obtain⟨rfl,h',tk,rfl,hS',hk'⟩:=hr₂
      repeat (any_goals (first | assumption | wp_step))
      exact h _ _ hS' hk'
     |_=>exact hr₂.elim
  |_=>exact hr.elim
end
noncomputable def sY(t:TE):TE:=fun σ H Q=>t σ H fun x H1=>∃z,x=.str z/\z.cps.size+1<scanBound/\Q (.int (met (cO z)).length) H1
section
variable {X:Cx}{e:Expr}{t:TE}{p p2 pos pos2:Pos}
theorem yn(hc:X.calm=true)(ha:PE X e t)(g1:Gl X "len")(m1:X.mg "len"=none)(g2:Gl X "set")(m2:X.mg "set"=none)
  (he1:starEach [.Call (.Name "set" p2) [e] [] pos2] X.env=[(false,eval (.Call (.Name "set" p2) [e] [] pos2) X.env)]:=by rfl)
  (he2:starEach [e] X.env=[(false,eval e X.env)]:=by rfl) :
  PE X (.Call (.Name "len" p) [.Call (.Name "set" p2) [e] [] pos2] [] pos) (sY t):=by
 intro pins s σ H Q I h;have hl:bootBuiltins "len"=some (.builtin "len"):=by decide +kernel
 have hs:bootBuiltins "set"=some (.type "set"):=by decide +kernel
 refine wpAny_Call_Name_kw (bY I g1 m1 hl ?_);refine PyProof.Rows.callWith_builtin1 ?_ he1 rfl;rw[he1];show wpAny _ _ (spliced [(false,eval (.Call (.Name "set" p2) [e] [] pos2) X.env)]) _ _ _;refine Calls.spliced_cons ?_;refine wpAny_Call_Name_kw (bY (I.tok _) g2 m2 hs ?_);refine PyProof.Rows.callWith_type1 ?_ he2 rfl;rw[he2];show wpAny _ _ (spliced [(false,eval e X.env)]) _ _ _;refine Calls.spliced_cons (bF (ha pins _ σ H _ (I.tok _) h) fun u s1 ⟨x,H1,I1,rx,z,ex,hz,q⟩=>Calls.spliced_nil ?_);subst ex;obtain⟨tk,rfl⟩:=rx;refine qB (I.ok.hd hc) hz fun h' tk' hS hk=>Calls.spliced_nil ?_;obtain⟨o,ho,hex,es,ep,tb,hd,_,_,hn,hf⟩:=hS.objOf;have hle:=zV z.cps.size (cO z) (by simp[cO]);have hb:z.cps.size<4096:=by unfold scanBound at hz;omega
 refine call_len_set ho hex hd hf (by rw[hn];have:((4096:Nat):Int)<2^63:=(by decide);omega) ?_;rw[hn];exact⟨.int _,H1,(I1.kept (t':=_) hk),⟨_,rfl⟩,q⟩
end
noncomputable abbrev NT:=List (Str×Addr×List Nat)
noncomputable def uV(t:NT):List (gs×V):=t.map fun x=>(Sum.inr x.1,V.ref x.2.1)
noncomputable def B9(ns:List Nat):List V:=ns.map fun(n:Nat)=>V.int (n:Int)
structure cz(H:Hp)(p:Addr)(t:NT):Prop where
 dict:H p=some (.dK (uV t))
 list:∀x∈t,H x.2.1=some (.lst (B9 x.2.2))
 apart:(t.map (·.2.1)).Nodup
theorem cz.grow{H H':Hp}{p:Addr}{t:NT}(N:cz H p t)(k:∀a o,H a=some o->H' a=some o):cz H' p t:=⟨k _ _ N.dict,fun x hx=>k _ _ (N.list x hx),N.apart⟩
theorem AN(z:Str):∀t:NT,gt (uV t) (.inr z)=(t.find? fun x=>decide (x.1=z)).map fun x=>V.ref x.2.1
 | []=>rfl
 |x::t=>by
  have ih:=AN z t;unfold uV at ih ⊢;rw[HW,List.find?_cons]
  by_cases e:x.1=z
  ·rw[pO (by rw[e])];simp[e]
  ·rw[oP (fun h=>e (Sum.inr.inj h)),ih];simp[e]
theorem cz.new{H:Hp}{p l:Addr}{t:NT}{z:Str}(N:cz H p t)(hl:H l=none)(hz:gt (uV t) (.inr z)=none) :
  cz (aB (aB H l (.lst [])) p (.dK (kR (uV t) (.inr z) (.ref l)))) p (t++[(z,l,[])]):=by
 have hpl:p≠l:=fun e=>by have:=N.dict;rw[e,hl]at this;exact nomatch this
 have hx:∀x∈t,x.2.1≠l/\x.2.1≠p:=fun x hx=>by
  have q:=N.list x hx
  constructor
  ·intro e;rw[e,hl]at q;exact nomatch q
  ·intro e;rw[e,N.dict]at q;exact nomatch q
 refine⟨?_,fun x h=>?_,?_⟩
 ·rw[ac,Am _ hz];unfold uV;rw[Hy];rfl
 ·rcases Hz.mp h with h | h
  ·rw[ai (hx x h).2,ai (hx x h).1];exact N.list x h
  ·rw[Hn.mp h,ai (Ne.symm hpl),ac];rfl
 ·rw[Hy]
  refine List.nodup_append.mpr ⟨N.apart,by simp,fun a ha b hb=>?_⟩;obtain⟨x,h1,rfl⟩:=Ij.mp ha;rw[List.map_singleton]at hb;rw[Hn.mp hb];exact(hx x h1).1
theorem cz.put{H:Hp}{p:Addr}{t:NT}{i k:Nat}{x:Str×Addr×List Nat}(N:cz H p t)(hi:t[i]?=some x) :
  cz (aB H x.2.1 (.lst (B9 (x.2.2++[k])))) p (t.set i (x.1,x.2.1,x.2.2++[k])):=by
 have hm:x∈t:=Hq hi;have hp:p≠x.2.1:=fun e=>by have:=N.list x hm;rw[<- e,N.dict]at this;exact nomatch this
 have hlt:i<t.length:=(Hk.mp hi).1;have hk:uV (t.set i (x.1,x.2.1,x.2.2++[k]))=uV t:=by
  unfold uV;apply List.ext_getElem?;intro j;rw[Ho,Ho,List.getElem?_set]
  by_cases e:i=j
  ·subst e;rw[if_pos rfl,if_pos hlt,hi];rfl
  ·rw[if_neg e]
 have ha:(t.set i (x.1,x.2.1,x.2.2++[k])).map (·.2.1)=t.map (·.2.1):=by
  apply List.ext_getElem?;intro j;rw[Ho,Ho,List.getElem?_set]
  by_cases e:i=j
  ·subst e;rw[if_pos rfl,if_pos hlt,hi];rfl
  ·rw[if_neg e]
 refine⟨by rw[ai hp,hk];exact N.dict,fun y hy=>?_,by rw[ha];exact N.apart⟩;obtain⟨j,hj⟩:=List.mem_iff_getElem?.mp hy;rw[List.getElem?_set]at hj
 by_cases e:i=j
 ·rw[if_pos e,if_pos hlt]at hj
  cases hj;exact ac
 ·rw[if_neg e]at hj
  have hne:y.2.1≠x.2.1:=by
   intro q;have h1:(t.map (·.2.1))[i]?=some x.2.1:=by rw[Ho,hi];rfl
   have h2:(t.map (·.2.1))[j]?=some x.2.1:=by rw[Ho,hj];simp[q]
   exact e ((List.getElem?_inj (Hk.mp h1).1 N.apart).mp (h1.trans h2.symm))
  rw[ai hne];exact N.list y (Hq hj)
noncomputable def kb(t:NT):List (Str×List Nat):=t.map fun x=>(x.1,x.2.2)
noncomputable def bG(m:List (Str×List Nat))(z:Str):List (Str×List Nat):=if z∈m.map (·.1) then m else m++[(z,[])]
theorem zE{t:NT}{z:Str}{v:V}(h:gt (uV t) (.inr z)=some v):∃(i:Nat) (x:Str×Addr×List Nat),t[i]?=some x/\x.1=z/\v=.ref x.2.1:=by
 rw[AN]at h;cases hf:t.find? (fun x=>decide (x.1=z)) with
 |none=>rw[hf]at h;exact nomatch h
 |some x=>
  rw[hf]at h;have hv:V.ref x.2.1=v:=Option.some.inj h;obtain⟨i,hi⟩:=List.mem_iff_getElem?.mp (List.mem_of_find?_eq_some hf);have hz:=List.find?_some hf;exact⟨i,x,hi,of_decide_eq_true hz,hv.symm⟩
theorem wt(t:NT):(kb t).map (·.1)=t.map (·.1):=by unfold kb;rw[HE];rfl
theorem Dg{t:NT}{z:Str}(h:gt (uV t) (.inr z)=none):¬ z∈(kb t).map (·.1):=by
 intro m;rw[wt]at m;obtain⟨x,hx,e⟩:=Ij.mp m;refine yC h (Ij.mpr ⟨(.inr x.1,.ref x.2.1),Ij.mpr ⟨x,hx,rfl⟩,?_⟩);show(Sum.inr x.1:gs)=Sum.inr z;rw[e]
theorem cz.setdef{H:Hp}{p l:Addr}{t:NT}{z:Str}{Q:VK}(N:cz H p t)(hl:H l=none)(hn:t.length<sizeLine)
  (h:∀(H':Hp) (t':NT) (i:Nat) (x:Str×Addr×List Nat),cz H' p t'->t'[i]?=some x->x.1=z->kb t'=bG (kb t) z->(∀y∈t',y∈t\/y.2.1=l)->(∀a o,a≠p->H a=some o->H' a=some o)->Q (.ref x.2.1) H') :
  ∃kvs k,aB H l (.lst []) p=some (.dK kvs)/\V.str z=kV k/\kvs.length<sizeLine/\(∀v,gt kvs k=some v->Q v (aB H l (.lst []))) /\
   (gt kvs k=none->Q (.ref l) (aB (aB H l (.lst [])) p (.dK (kR kvs k (.ref l))))):=by
 have hpl:p≠l:=fun e=>by have:=N.dict;rw[e,hl]at this;exact nomatch this
 have gr:∀a o,H a=some o->aB H l (.lst []) a=some o:=fun a o e=>by
  rw[ai (fun q=>by rw[q,hl]at e;exact nomatch e)];exact e
 refine⟨uV t,.inr z,gr _ _ N.dict,rfl,by unfold uV;rw[Hm];exact hn,fun v hv=>?_,fun hz=>?_⟩
 ·obtain⟨i,x,hi,hx,rfl⟩:=zE hv
  refine h _ t i x (N.grow gr) hi hx ?_ (fun y hy=>.inl hy) fun a o _ e=>gr a o e;have hm:z∈(kb t).map (·.1):=by rw[wt];exact Ij.mpr ⟨x,Hq hi,hx⟩
  unfold bG;rw[if_pos hm]
 ·refine h _ (t++[(z,l,[])]) t.length (z,l,[]) (N.new hl hz) (by simp) rfl ?_ (fun y hy=>(Hz.mp hy).imp id fun q=>by rw[Hn.mp q]) fun a o ha e=>by rw[ai ha];exact gr a o e
  unfold bG;rw[if_neg (Dg hz)];unfold kb;rw[Hy];rfl
theorem Bg{t:NT}{i:Nat}{x:Str×Addr×List Nat}(k:Nat):kb (t.set i (x.1,x.2.1,x.2.2++[k]))=(kb t).set i (x.1,x.2.2++[k]):=by
 unfold kb;rw[List.map_set]
theorem lQ{m:List (Str×List Nat)}{z:Str}(h:(m.map (·.1)).Nodup):((bG m z).map (·.1)).Nodup:=by
 unfold bG
 by_cases e:z∈m.map (·.1)
 ·rw[if_pos e];exact h
 ·rw[if_neg e,Hy]
  refine List.nodup_append.mpr ⟨h,by simp,fun a ha b hb=>?_⟩;rw[List.map_singleton]at hb;rw[Hn.mp hb];exact fun q=>e ((show a=z from q)▸ha)
section
variable {X:Cx}{K:PySem.W.Frag}{tg:Expr}
theorem C5{o e:Expr}{es:List Expr}{to:TE}{t:TA}{name:Str}{apos cpos:Pos}{T id:String}{r:V->List V->Hp->VK->Prop}(hK:X.K=K)(pa:PlainAttrs T)(slot:Slot T name id)(hty:typeOf (.builtin id)=pure (.type "method_descriptor"))(hm:Do X id r)(ho:PE X o to)(ha:PA X (e::es) t)
  (hbase:attributeBase o name X.env (eval o X.env)=eval o X.env:=by rfl)
  (hfew:((backTo cpos (starEach (e::es) X.env)).all (fun x=>!x.1)&&(backToKw cpos (keywordEach [] X.env)).all (fun x=>x.1.isSome)
   && decide ((e::es).length+([]:List Keyword).length+(if([]:List Keyword).isEmpty then 0 else 1)<30))=true:=by rfl)
  (hline:(apos.endLine==cpos.line)=true:=by rfl) (hs:starEach (e::es) X.env=(false,eval e X.env)::starEach es X.env:=by rfl) (hplain:(backTo cpos (starEach es X.env)).any (·.1)=false:=by rfl) :
  PE X (.Call (.Attribute o name apos) (e::es) [] cpos) (D3 K T r to t):=hK▸gb pa slot hty hm ho ha hbase hfew hline hs hplain
end
end L2
namespace QL
open PySem PySem.Spec PyProof.Rows
end QL
namespace L2
open PySem PySem.Spec PyProof.Rows
section
variable {X:Cx}{CX:jL}{k:Nat}{C:Addr}{ps:List Str}{sp:Sp}{x:Str}{p pos:Pos}{e:Expr}{es:List Expr}{t:TA}
end
theorem uw.out{K:PySem.W.Frag}{C:Addr}{bm:List Value}{nid:String}(c:uw K C bm nid):lN K C bm nid:=by
 refine⟨?_⟩;have q:=c.exc;unfold PySem.W.excIn at q;unfold PySem.W.excOut
 revert q
 cases K.lookup C with
 |none=>exact fun q=>q
 |some ob=>
  obtain⟨ty,dd,data,sl⟩:=ob;intro q
  split at q
  ·rename_i e
   cases e
   split at q
   ·rename_i hm hs
    simp only[hm,hs];simp only[Bool.and_eq_true]at q ⊢;obtain⟨⟨⟨⟨⟨a1,a2⟩,a3⟩,a4⟩,a5⟩,_⟩:=q;exact⟨⟨⟨⟨a1,a2⟩,a3⟩,a4⟩,a5⟩
   ·cases q
  ·cases q
section
variable {X:Cx}{e:Expr}{tx:TX}{i:Nat}{n x:Str}{D:Addr}{bmD:List Value}{nD:String}{b₀:Stmt}{suite:List Stmt}{epos pos hpos np:Pos}{ts:Addr->TS}
noncomputable def rT(K:PySem.W.Frag)(D:Addr)(tx:TX)(i:Nat)(ts:Addr->TS):TS:=fun De σ H=>
 tx σ H (fun _ H1=>De.nx σ H1) (fun cls od H'=>∃C bm nid,cls=.ref C/\lN K C bm nid/\oK K C D/\∀ea,H' ea=none ->
  ts ea {nx:=fun σ2 H2=>De.nx (σ2.set i none) H2,rt:=De.rt,bk:=fun σ2 H2=>De.bk (σ2.set i none) H2,ct:=fun σ2 H2=>De.ct (σ2.set i none) H2} (σ.set i (some (.ref ea))) (aB H' ea (xo ea (.ref C) od)))
theorem v9{cp:Value->Prop}(hN:X.N.Nodup)(hst:X.stack=X.env::X.outer)(hfr:X.env.frame=some X.env.locals)(he:PX (C7 cp X.prog X.w) X e tx)(hi:X.N[i]?=some n)(hk:X.env.kindOf n=some .local)(hgl:Gl X x)(hm:X.mg x=some (.ref D))(cD:lN X.K D bmD nD)
  (hbase:bmD.contains (.type "BaseException")=true) (hs:∀ea,qg (X.held ea) (b₀::suite) (ts ea))
  (hd:(x==("__debug__":Str))=false:=by decide +kernel) (hsw:swapsWith e none epos.line X.env=pure false:=by rfl) :
  PS X (.Try [.Expr e epos] [.ExceptHandler (some (.Name x np)) (some n) (b₀::suite) hpos] [] [] pos) (rT X.K D tx i ts):=by
 intro pins s σ H De I h;refine wpAny_Try_except ?_;refine wpAny_execs_cons (wpAny_Expr_any ?_ I.quiet hsw);refine bF (he pins s σ H _ _ _ I h ?_) fun v s1 ⟨y,H1,I1,r1,q1⟩=>?_
 ·rintro H1 s1 ev s' I1 ⟨ea,cls,od,B,H',rfl,fly,hn,C,bm,nid,rfl,cC,un,hsu⟩
  have hfl:fG cp B (X.env::X.outer) ea (.ref C) od .none s'.heap:=by rw[<- hst];exact fly.fl
  refine Al (by rw[I.ok.frames,hst]) hfr hfl fun h4 held4 up4=>?_;refine iw held4 fun h5 fl5 up5=>?_;have J5:=I1.caught fly.toFly0 (by rw[hst];exact fl5) (up4.trans up5) hn;refine wpAny_handleBy_cons (codeAny_handlers_test ?_) (by intro q;cases q);refine eV (J5.held ea) hgl hm ?_ hd;obtain⟨tl,N,nm,q,bs,hdct,sn,sub,ab,col,dd,k0,k1,k2,k3,k5,hC,T,dd1,cd1,sl1,hlk,hmro⟩:=cC.obj J5.kIn;obtain⟨tl',N',nm',q',bs',hdct',sn',sub',ab',col',dd',k0',k1',k2',k3',k5',hD,TD,_⟩:=cD.obj J5.kIn;obtain⟨dd2,cd2,sl2,hlk2,hsub⟩:=un;rw[hlk]at hlk2;cases hlk2;rw[hmro]at hsub;obtain⟨ob,_,hob,hobc,_⟩:=fl5.there;refine gS hC hD hob hobc (TD.hasType hbase) hsub (codeAny_handlers_suite_as ?_);refine iw fl5 fun h6 fl6 up6=>?_;have J6:=I1.caught fly.toFly0 (by rw[hst];exact fl6) ((up4.trans up5).trans up6) hn;refine lP (v:=.ref ea) J6 hN hi (.inl hk) rfl (fun s7 J7=>?_) (.inr hk);refine wpAny_mono (hs ea pins s7 _ _ _ (J7.held ea) (hsu ea hn)) (fun fl s8 q8=>?_) fun _ _ f=>f.elim;cases fl with
  |next=>obtain⟨σ',H2,I8,q⟩:=q8;exact j9 (v:=.non) (I8.unheld I.ok.hd) hN hi hk fun s9 I9=>⟨_,_,I9,q⟩
  |brk=>obtain⟨σ',H2,I8,q⟩:=q8;exact j9 (v:=.non) (I8.unheld I.ok.hd) hN hi hk fun s9 I9=>⟨_,_,I9,q⟩
  |cont=>obtain⟨σ',H2,I8,q⟩:=q8;exact j9 (v:=.non) (I8.unheld I.ok.hd) hN hi hk fun s9 I9=>⟨_,_,I9,q⟩
  |ret u=>obtain⟨v,σ',H2,I8,rv,q⟩:=q8;exact j9 (v:=.non) (I8.unheld I.ok.hd) hN hi hk fun s9 I9=>⟨v,_,_,I9,rv,q⟩
 ·exact wpAny_execs_nil (wpAny_execs_nil ⟨σ,H1,I1,q1⟩)
end
section
variable {X:Cx}{CX:jL}{k:Nat}{C:Addr}{ps:List Str}{sp:Sp}{m:Str}{pos apos:Pos}{e o:Expr}{es:List Expr}{t:TA}{ta:TE}
end
section
variable {X:Cx}
end
end L2
namespace CtM
open PySem PySem.Builtin PySem.Builtin.Str QL SpM
theorem o7(c:Nat):∀(x:List Nat) (rows:List (List Nat)),rows≠[]->(x.foldl (SpM.step c) rows).length=rows.length+x.count c
 | [],rows,_=>by simp
 |d::x,rows,h=>by
  have h1:SpM.step c rows d≠[]:=by unfold SpM.step;split<;>simp
  rw[List.foldl_cons,o7 c x _ h1,List.count_cons];unfold SpM.step
  by_cases e:d=c
  ·rw[if_pos e];subst e;simp;omega
  ·rw[if_neg e]
   have:0<rows.length:=List.length_pos_iff.mpr h;simp[e];omega
end CtM
namespace L2
open PySem PySem.Spec PyProof.Rows QL
section
variable {K:PySem.W.Frag}{g:TG}{ti:TT}{te:TE}{σ:St}{H:Hp}{Q:List V->Hp->Prop}{α:Type}
theorem wK{as:List α}{f:α->Option V}{i:Nat}{x:α}(hx:as[i]?=some x):(as.take (i+1)).filterMap f=(as.take i).filterMap f++(f x).toList:=by
 rw[List.take_add_one,hx,List.filterMap_append];show _++List.filterMap f [x]=_;cases h:f x<;>simp[h]
theorem CP{as:List α}{f:α->Option V}(i:Nat):((as.take i).filterMap f).length<=as.length:=HY (List.length_filterMap_le _ _) (by rw[Ie];omega)
theorem lY{as:List α}(f:α->V):as.filterMap (fun x=>some (f x))=as.map f:=by induction as with | nil=>rfl | cons x xs ih=>simp
theorem pI{a:Addr}{as:List α}{emb:α->V}{f:α->Option V}(S:St->Prop)(h0:S σ)(hl:∀H',ay H H'->aW K H' a (as.map emb))(hn:as.length<=1000000)
  (hs:∀(i:Nat) x,as[i]?=some x->∀σ H' (N1:V->St->Hp->Prop) (N0:St->Hp->Prop),S σ->ay H H'->(∀v σ2 H2,f x=some v->ay H H2->S σ2->N1 v σ2 H2)->(∀σ2 H2,f x=none->ay H H2->S σ2->N0 σ2 H2) ->
   g (emb x) σ H' fun σ2 H3=>ti σ2 H3 fun b H4=>if b=true then te σ2 H4 fun v H5=>N1 v σ2 H5 else N0 σ2 H4)
  (he:∀H',ay H H'->Q (as.filterMap f) H'):gR (AH K a) g ti te σ H Q:=by
 refine mw (xs:=as.map emb) (fun i acc σ H'=>ay H H'/\acc=(as.take i).filterMap f/\i<=as.length/\S σ) ⟨fun _ _ e=>e,rfl,HQ _,h0⟩ ?_ ?_ ?_ ?_ ?_
 ·rintro i acc σ H' ⟨_,rfl,_⟩
  have:=CP (as:=as) (f:=f) i;exact bp (by omega)
 ·rintro i acc σ H' ⟨_,_,h,_⟩
  rw[Hm];exact h
 ·rintro i acc σ H' ⟨sm,_⟩
  exact hl _ sm
 ·rintro i x acc σ H' hx ⟨sm,rfl,hi,hS⟩
  have hlt:i<as.length:=by have:=(Hk.mp hx).1;rwa [Hm]at this
  rw[Ho,Hj hlt]at hx;cases hx;have hg:as[i]?=some as[i]:=Hj hlt;refine hs i as[i] hg σ H' (fun v σ2 H5=>_) (fun σ2 H4=>_) hS sm (fun v σ2 H2 hf s2 hS2=>⟨s2,?_,hlt,hS2⟩) (fun σ2 H2 hf s2 hS2=>⟨s2,?_,hlt,hS2⟩)
  ·rw[wK hg,hf];rfl
  ·rw[wK hg,hf];simp
 ·rintro acc σ H' ⟨sm,rfl,_⟩
  have e:(as.take (as.map emb).length).filterMap f=as.filterMap f:=by rw[Hm,Ic]
  rw[e];exact he _ sm
theorem gx{n:Nat}{f:Nat->Option V}(S:St->Prop)(h0:S σ)(hn:n<=1000000)
  (hs:∀i,i<n->∀σ H' (N1:V->St->Hp->Prop) (N0:St->Hp->Prop),S σ->ay H H'->(∀v σ2 H2,f i=some v->ay H H2->S σ2->N1 v σ2 H2)->(∀σ2 H2,f i=none->ay H H2->S σ2->N0 σ2 H2) ->
   g (.int (0+(i:Int))) σ H' fun σ2 H3=>ti σ2 H3 fun b H4=>if b=true then te σ2 H4 fun v H5=>N1 v σ2 H5 else N0 σ2 H4)
  (he:∀H',ay H H'->Q ((List.range n).filterMap f) H'):gR (yq 0 n) g ti te σ H Q:=by
 refine ij (lo:=0) (n:=n) (fun i acc σ H'=>ay H H'/\acc=(List.range i).filterMap f/\i<=n/\S σ) ⟨fun _ _ e=>e,rfl,HQ _,h0⟩ ?_ ?_ ?_ ?_
 ·rintro i acc σ H' ⟨_,rfl,hi,_⟩
  have:=List.length_filterMap_le f (List.range i);rw[List.length_range]at this;exact bp (by omega)
 ·rintro i acc σ H' ⟨_,_,h,_⟩
  exact h
 ·rintro i acc σ H' hi ⟨sm,rfl,_,hS⟩
  refine hs i hi σ H' (fun v σ2 H5=>_) (fun σ2 H4=>_) hS sm (fun v σ2 H2 hf s2 hS2=>⟨s2,?_,hi,hS2⟩) (fun σ2 H2 hf s2 hS2=>⟨s2,?_,hi,hS2⟩)
  ·rw[List.range_succ,List.filterMap_append];simp[hf]
  ·rw[List.range_succ,List.filterMap_append];simp[hf]
 ·rintro acc σ H' ⟨sm,rfl,_⟩
  exact he _ sm
end
section
variable {X:Cx}
end
end L2
namespace ThM
open PySem L2
noncomputable def cG(ks:List Str)(z:Str):List Str:=if z∈ks then ks else ks++[z]
theorem mem_addNew{ks:List Str}{z y:Str}:y∈cG ks z↔y∈ks\/y=z:=by
 unfold cG
 split
 ·rename_i h
  exact⟨.inl,fun q=>q.elim id fun e=>e▸h⟩
 ·rw[Hz,Hn]
section
variable {α:Type}(f:List α->List α)
noncomputable def Fb:Nat->List α->List α
 |0,s=>s
 |n+1,s=>f (Fb n s)
variable {f}
end
noncomputable abbrev NR:=Str×List Str
noncomputable def Bv(ks:List Str)(r:NR):List Str:=if(∀z∈r.2,z∈ks) then cG ks r.1 else ks
noncomputable def yu(rs:List NR)(ks:List Str):List Str:=rs.foldl Bv ks
theorem nd_len{ks ms:List Str}(hn:ks.Nodup)(h:∀z∈ks,z∈ms):ks.length<=ms.length:=by
 induction ks generalizing ms with
 |nil=>exact HQ _
 |cons k ks ih=>
  rw[List.nodup_cons]at hn;have hk:=h k List.mem_cons_self;have h1:=ih (ms:=ms.erase k) hn.2 fun z hz=>by
   have hne:z≠k:=fun e=>hn.1 (e▸hz);exact(List.mem_erase_of_ne hne).mpr (h z (HH _ hz))
  have h2:=List.length_erase_of_mem hk;have h3:=List.length_pos_of_mem hk;rw[Hx];omega
noncomputable def Cj(rs:List NR):List Str:=Fb (yu rs) rs.length []
end ThM
namespace L2
open PySem PySem.Spec PyProof.Rows QL
section
variable {X:Cx}
end
end L2
namespace ThM
open PySem L2
section
variable {α:Type}{f:List α->List α}(μ:List α->Nat)
end
theorem ld{y:Str}:∀(zs ks:List Str),y∈zs.foldl cG ks↔y∈ks\/y∈zs
 | [],ks=>by simp
 |z::zs,ks=>by
  rw[List.foldl_cons,ld zs,mem_addNew,HF];exact⟨fun h=>h.elim (fun h=>h.elim .inl fun e=>.inr (.inl e)) fun h=>.inr (.inr h),fun h=>h.elim (fun h=>.inl (.inl h)) fun h=>h.elim (fun e=>.inl (.inr e)) .inr⟩
noncomputable def yV(ks:List Str)(r:NR):List Str:=if r.1∈ks then r.2.foldl cG ks else ks
noncomputable def xO(rs:List NR)(ks:List Str):List Str:=rs.foldl yV ks
noncomputable def Ds(ks:List Str)(r:NR):Prop:=r.1∈ks/\∀z∈r.2,z∈ks
instance (ks:List Str)(r:NR):Decidable (Ds ks r):=by unfold Ds;infer_instance
noncomputable def Cq(st:Str)(rs:List NR):List Str:=Fb (xO rs) rs.length [st]
noncomputable def B2(rs:List NR)(r:NR):Bool:=decide (∀z∈r.2,z∈Cj rs)
noncomputable def Fh(rs:List NR):List NR:=rs.filter (B2 rs)
noncomputable def Ef(st:Str)(rs:List NR):List Str:=Cq st (Fh rs)
noncomputable def keep(st:Str)(rs:List NR)(r:NR):Bool:=decide (r.1∈Ef st rs)&&B2 rs r
end ThM
namespace L2
open PySem PySem.Spec PyProof.Rows
section
variable {X:Cx}{body:List Stmt}{h₀:ExceptHandler}{hs:List ExceptHandler}{tb:TS}{pos:Pos}
theorem yK{es' es:List Expr}{x1:Nat}{p:Pos}{te:TE}{t:TA}(ha:PE X (.Tuple es' x1 p) te)(hr:PA X es t):PA X (.Tuple es' x1 p::es) (jn te t):=aa ha hr rfl
theorem xW{a b:Expr}{p:Pos}{t:Option Expr}{l:Nat}{env:Env}:swapsWith (.Subscript a b p) t l env=pure false:=rfl
noncomputable def tM(xs ys:List V):Bool:=(List.range (min xs.length ys.length)).all (fun j=>match xs[j]?,ys[j]? with | some x,some y=>uU x y | _,_=>true)&&xs.length==ys.length
noncomputable def Dc(K:PySem.W.Frag):R2:=fun x y H Q=>∃a b xs ys,x=.ref a/\y=.ref b/\bd K H a xs/\bd K H b ys/\xs.all qI=true/\ys.all qI=true/\Q (.bl (tM xs ys)) H
theorem yM(hu:X.A.units+64<cLine):a_ X (compareOp .Eq) (Dc X.K):=by
 intro pins s σ H x y v u Q I rx ry h;obtain⟨a,b,xs,ys,rfl,rfl,ha,hb,fx,fy,q⟩:=h;cases rx;cases ry
 obtain⟨its,ra,pa,_⟩:=I.tuple ha;obtain⟨its2,rb,pb,_⟩:=I.tuple hb;have l1:=ra.length;have l2:=rb.length
 have q':=SeqAt.RcAt.tuples (A:=X.A) (s:=s) (e:=fun j=>match xs[j]?,ys[j]? with | some x,some y=>uU x y | _,_=>true) (show s.heap.IsTuple a its.toArray from pa) (show s.heap.IsTuple b its2.toArray from pb) (by omega) (fun j g1 g2=>by
  have g1':j<its.length:=by simpa using g1
  have g2':j<its2.length:=by simpa using g2
  have x1:xs[j]?=some xs[j]:=Hj (by omega);have y1:ys[j]?=some ys[j]:=Hj (by omega);obtain⟨w1,f1,rr1⟩:=ra.get x1;obtain⟨w2,f2,rr2⟩:=rb.get y1;rw[Hj g1']at f1;rw[Hj g2']at f2;cases f1;cases f2
  simp only[Il,x1,y1];exact iP rr1 rr2 (Ik.mp fx _ (Hq x1)) (Ik.mp fy _ (Hq y1)))
 refine q' _ _ _ _ ⟨.bl _,H,I,rfl,?_⟩;rw[Ht,Ht,<- l1,<- l2];exact q
end
section
variable {X:Cx}{es:List Expr}{t:TA}{te:TE}
structure WA(X:Cx)(es:List Expr)(t:TA):Prop where
 out:PA X es t
structure WE(X:Cx)(e:Expr)(t:TE):Prop where
 out:PE X e t
structure WB(X:Cx)(b:List Stmt)(t:TS):Prop where
 out:qg X b t
theorem vp:WA X [] pG:=⟨ad⟩
theorem AX{x:Str}{j:Nat}{p:Pos}(hr:WA X es t):WA X (.Constant (.str x) j p::es) (jn (tC (.str x)) t):=⟨bf hr.out⟩
theorem DO{es':List Expr}{x1:Nat}{p:Pos}(ha:WE X (.Tuple es' x1 p) te)(hr:WA X es t):WA X (.Tuple es' x1 p::es) (jn te t):=⟨yK ha.out hr.out⟩
theorem y9{x1:Nat}{p:Pos}(h:WA X es t):WE X (.Tuple es x1 p) (Bm t):=⟨aR h.out⟩
theorem Dj{p:Pos}(h:WA X es t):WE X (.List es p) (zZ t):=⟨bv h.out⟩
structure WS(X:Cx)(s:Stmt)(t:TS):Prop where
 out:PS X s t
theorem C8{i:Nat}{x:Str}{b:Expr}{tb:TE}{pos pos' p lp:Pos}(hN:X.N.Nodup)(hi:X.N[i]?=some x)(hx:Loc X.env.scope x)(he:WE X (.List es lp) te)(hb:PE X b tb)(hs:wW b)(hf:X.fn x=true\/X.env.scope.names.lookup x=some .local:=by first | exact .inl rfl | exact .inr rfl | assumption):WS X (.Assign [.Name x pos'] (.Subscript (.List es lp) b p) pos) (vg (B1 (vk X.K) te tb) (jd i)):=⟨aK hN hi hx (az lW he.out hb hs) xW hf⟩
theorem Bf{st:Stmt}{bt:List Stmt}{u v:TS}(h1:WS X st u)(h2:qg X bt v):WB X (st::bt) (vC u v):=⟨ag h1.out h2⟩
theorem xM{st:Stmt}{bt:List Stmt}{u v:TS}(h1:PS X st u)(h2:WB X bt v):qg X (st::bt) (vC u v):=ag h1 h2.out
end
end L2
namespace L2
open PySem PySem.Spec PyProof.Rows QL
section
variable {X:Cx}
end
end L2
namespace PySem
open PySem.Calls PyProof.Rows
theorem qo:entryFor table "proto.unchain"=some Builtin.«proto.unchain»:=entryFor_of_tree (by kernel_rfl)
section
variable {prog:Program}{w:World}{A:Around}{E:Value->Shared->Prop}{env:Env}
variable {nm q:Str}{C N:Addr}{bs bm:List Value}{hdct:Bool}{sn:List Str}{sub:List Value}{ab:Bool}{col:Option Bool}{dd:Option Addr}{k0 k1 k2 k3 k5:Option Value}{newId:String}
noncomputable def tJ(h:Heap)(e:Addr)(oe:Obj)(h':Heap):Prop:=(∀b,b≠e->h'.get? b=h.get? b)/\∃oe' vs',h'.get? e=some oe'/\oe'.cls=oe.cls/\oe'.dict=oe.dict/\oe'.data=.fields vs'/\vs'[1]?=some .none/\∃cx,vs'[2]?=some cx
theorem uk{s:Shared}{e ha:Addr}{oe oh:Obj}{vs hs:Array Value}{Q:Flow->Shared->Prop}(hh:A.handled=some (.ref ha))(hne:ha≠e)(he:s.heap.get? e=some oe)(hd:oe.data=.fields vs)(hz:vs.size=6)(h1:vs[1]?=some .none)
  (hho:s.heap.get? ha=some oh) (hhd:oh.data=.fields hs) (hh2:hs[2]?=some .none) (h:∀h',tJ s.heap e oe h'->E (.ref e) {s with heap:=h' }):wpAny (model prog w) A (raiseNew (.ref e):Sem Flow) Q E s:=by
 unfold raiseNew;refine wpAny_bind (wpAny_handled ?_);rw[hh];have hb:((Value.ref ha:Value) != .ref e)=true:=by simp[hne]
 dsimp only;rw[if_pos hb];refine wpAny_bind (wpAny_holding (wpAny_runValue (codeAny_builtin qo ?_)));show wpAny _ _ (field (.ref ha) 2 >>= _) _ _ _;refine wpAny_bind (wpAny_field hho hhd hh2 ?_);rw[if_pos (by decide)];refine wpAny_bind (wpAny_pure (wpAny_pure ?_));show wpAny _ _ (updateField e 2 (.ref ha) >>= _) _ _ _;have hz2:2<vs.size:=by omega
 refine wpAny_bind (show wpAny _ _ (setField (.ref e) 2 (.ref ha)) _ _ _ from wpAny_setField he hd hz2 (wpAny_throw (h _ ⟨fun b hb=>Hr _ _ (Ne.symm hb),_,_,Hw _ he (Obj.isFreed_of_fields (Obj.data_mapFields hd _)),Obj.cls_mapFields _ _,jJ _ _,Obj.data_mapFields hd _,?_,?_⟩)))
 ·rw[Array.getElem?_setIfInBounds_ne (by decide)];exact h1
 ·exact⟨.ref ha,by rw[Array.getElem?_setIfInBounds_self_of_lt hz2]⟩
theorem tz{s:Shared}{x c:Sem Value}{ha:Addr}{Q:Flow->Shared->Prop}(hbase:bm.contains (.type "BaseException")=true)(hh:A.handled=some (.ref ha))
  (hc:∀s Q,Q Value.none s->wpAny (model prog w) A c Q E s)
  (h:wpAny (model prog w) A x (fun v s₁=>∃e oe vs oh hs,v=.ref e/\s₁.heap.get? C=some (excClassObj nm q C N bs bm hdct sn sub ab col dd k0 k1 k2 k3 k5 newId)/\s₁.heap.get? e=some oe/\oe.cls=.ref C/\oe.data=.fields vs/\vs.size=6/\vs[1]?=some .none/\ha≠e /\
   s₁.heap.get? ha=some oh/\oh.data=.fields hs/\hs[2]?=some .none/\∀h',tJ s₁.heap e oe h'->E (.ref e) {s₁ with heap:=h' }) E s) :
  wpAny (model prog w) A (raiseStmt env (some x) (some c)) Q E s:=by
 have hcB:(Value.ref C::bm).contains (.type "BaseException")=true:=by rw[List.contains_cons,hbase,Bool.or_true]
 unfold raiseStmt;refine wpAny_bind (wpAny_mono h (fun v s₁ h₁=>?_) fun _ _ x=>x);obtain⟨e,⟨oc,od,dt,sl⟩,vs,oh,hs,rfl,hC,he,hcls,hd,hz,h1,hne,hho,hhd,hh2,hE⟩:=h₁;dsimp only at hcls hd;subst hcls hd;have hee:C≠e:=fun z=>by rw[<- z,hC]at he;cases he
 obtain⟨hp,g,d,tk,os⟩:=s₁;refine wpAny_bind (wpAny_holding (hc _ _ ?_));refine wpAny_bind (wpAny_pure ?_);dsimp only;refine wpAny_bind (wpAny_holding ?_);unfold excFromValue
 repeat (first | with_reducible refine wpAny_loadPart_at he ?_ | with_reducible refine wpAny_loadPart_at hC ?_ | (with_reducible refine wpAny_isSubtype_exc hC ?_;rw[hcB]) | wp_step)
 have hv1:((vs.setIfInBounds 3 Value.none).setIfInBounds 4 (Value.bool true))[1]?=some .none:=by rw[Array.getElem?_setIfInBounds_ne (by decide),Array.getElem?_setIfInBounds_ne (by decide)];exact h1
 rw[show((fun x:Array Value=>x.setIfInBounds 4 (Value.bool true)) ((fun x:Array Value=>x.setIfInBounds 3 Value.none) vs))[1]?=some Value.none from hv1];refine wpAny_pure ?_;rw[if_neg (by decide)];refine wpAny_pure ?_;have u1:∀b,b≠e->((hp.update e (Obj.mapFields fun x=>x.setIfInBounds 3 Value.none)).update e (Obj.mapFields fun x=>x.setIfInBounds 4 (Value.bool true))).get? b=hp.get? b:=fun b hb=>by rw[Hr _ _ (Ne.symm hb),Hr _ _ (Ne.symm hb)]
 have he1:(hp.update e (Obj.mapFields fun x=>x.setIfInBounds 3 Value.none)).get? e=some {cls:=.ref C,dict:=od,data:=.fields (vs.setIfInBounds 3 Value.none),slots:=sl}:=Hw _ he (Obj.isFreed_of_fields (vs:=vs.setIfInBounds 3 Value.none) rfl);have he2:((hp.update e (Obj.mapFields fun x=>x.setIfInBounds 3 Value.none)).update e (Obj.mapFields fun x=>x.setIfInBounds 4 (Value.bool true))).get? e=some {cls:=.ref C,dict:=od,data:=.fields ((vs.setIfInBounds 3 Value.none).setIfInBounds 4 (Value.bool true)),slots:=sl}:=Hw _ he1 (Obj.isFreed_of_fields (vs:=(vs.setIfInBounds 3 Value.none).setIfInBounds 4 (Value.bool true)) rfl);refine uk (s:=⟨_,g,d,tk,os⟩) hh hne he2 rfl (by simp[hz]) hv1 ((u1 ha hne).trans hho) hhd hh2 fun h' wc=>hE h' ⟨fun b hb=>(wc.1 b hb).trans (u1 b hb),?_⟩;exact wc.2
variable {bmB bmN:List Value}{B Bn nid initId inN:String}{K:PySem.W.Frag}
end
section
variable {cp:Value->Prop}{M:Model}{A:Around}{E:Value->Shared->Prop}{s:Shared}{base:Heap}{env:Env}{outer:List Env}{L e:Addr}{Q:Unit->Shared->Prop}
theorem A8{cls fl:Value}{od:Option Addr}{l:List Env}(x:fG cp base l e cls od fl s.heap)(h:∀h',fG cp base l e cls od (rawInt L) h'->s.heap.UpToSlots h'->Q () {s with heap:=h' }):wpAny M A (setFlight (.ref e) (some L)) Q E s:=by
 obtain⟨oe,vs,T,oT,ts,he,hc,ho,hd,h1,hnT,hTe,hT,hdT,h3,hcx⟩:=x.tr;have hsz:3<ts.size:=(Array.getElem?_eq_some_iff.mp h3).1;have oth:∀b,b≠T->(s.heap.update T (Obj.mapFields (·.setIfInBounds 3 (rawInt L)))).get? b=s.heap.get? b:=fun b hb=>Hr _ _ (Ne.symm hb);have nrec:∀b o,s.heap.get? b=some o->(∀vs,o.data≠.fields vs)->b≠T:=fun b o hb hnf q=>by rw[q,hT]at hb;injection hb with hb;subst hb;exact hnf ts hdT
 unfold setFlight;refine wpAny_bind (wpAny_field he hd h1 ?_);rw[if_pos (show(Value.ref T != Value.none)=true from by simp)];refine wpAny_setField hT hdT hsz (h _ ⟨fun b o hb=>(oth b fun q=>by rw[q,hnT]at hb;cases hb).trans (x.st b o hb),x.new,x.ff.of_keeps fun b o hb hnf=>⟨o,(oth b (nrec b o hb hnf)).trans hb,rfl⟩,?_⟩ fun b o hb hnf=>⟨o.slots,(oth b (nrec b o hb hnf)).trans hb⟩);exact⟨oe,vs,T,_,_,(oth e (Ne.symm hTe)).trans he,hc,ho,hd,h1,hnT,hTe,Hw _ hT (Obj.isFreed_of_fields (Obj.data_mapFields hdT _)),Obj.data_mapFields hdT _,by simp[hsz],hcx⟩
theorem Dz{E':Value->Shared->Prop}{cls fl:Value}{od:Option Addr}{l:List Env}(hf:env.frame=some L)(x:fG cp base l e cls od fl s.heap)(h:∀h',fG cp base l e cls od (rawInt L) h'->s.heap.UpToSlots h'->E' (.ref e) {s with heap:=h' }):cameBackBy M A env E' (.ref e) s:=by
 obtain⟨oe,vs,T,oT,ts,he,hc,ho,hd,h1,_⟩:=x.tr;unfold cameBackBy;refine wpAny_bind (wpAny_field he hd h1 ?_);rw[if_neg (show ¬ ((Value.ref T==Value.none)=true) from by simp),hf];exact A8 x h
theorem Cf{cls:Value}{od:Option Addr}(hf:env.frame=some L)(x:fG cp base (env::outer) e cls od (rawInt L) s.heap)
  (h:∀h',fG cp base outer e cls od .none h'->s.heap.UpToSlots h'->Q () {s with heap:=h' }):wpAny M A (leaving env (.ref e)) Q E s:=by
 obtain⟨oe,vs,T,oT,ts,he,hc,ho,hd,h1,hnT,hTe,hT,hdT,h3,hcx⟩:=id x.tr;unfold leaving noteFrame;simp only[hf];refine wpAny_bind (wpAny_bind (wpAny_field he hd h1 ?_));rw[if_pos (show(Value.ref T != Value.none)=true from by simp)];refine wpAny_bind (wpAny_field hT hdT h3 ?_);rw[if_pos (show(rawInt L==rawInt L)=true from by simp)];refine wpAny_pure ?_;exact iw x fun h2 y2 u2=>h h2 y2.drop u2
end
end PySem
namespace L2
open PySem PySem.Spec PyProof.Rows
noncomputable def C_(ea:Addr)(cls:Value)(od:Option Addr)(h:Heap):Prop:=∃o vs,h.get? ea=some o/\o.cls=cls/\o.dict=od/\o.data=.fields vs/\vs[2]?=some .none
noncomputable abbrev Dp(ea:Addr)(cls:Value)(od:Option Addr):HO:=.ext (C_ ea cls od)
theorem Inv.caughtC{X:Cx}{pins:List (Addr×Obj)}{σ:St}{H H':Hp}{s s':Shared}{B h6:Heap}{ea:Addr}{cls:Value}{od:Option Addr}(I:Inv X pins σ H s)(x:Fly0 X.prog X.w X.stack H s B H' s')(fl:DH B X.stack ea cls od .none h6)(up:s'.heap.UpToSlots h6)(hn:H' ea=none) :
  Inv X pins σ (aB H' ea (Dp ea cls od)) {s' with heap:=h6}:=by
 obtain⟨oe,vs,T,oT,ts,he,hc,hod,hd,_,_,_,_,_,_,cx,h2,ecx⟩:=fl.tr;have ecx:cx=.none:=ecx;subst ecx;have newB:B.get? ea=none:=fl.new;have nfr:ea∉il X.stack:=fun hm=>by
  obtain⟨_,o,ho,nf⟩:=fl.ff.mem hm;rw[he]at ho;cases ho;exact nf _ hd
 have nold:s.heap.get? ea=none:=by
  cases z:s.heap.get? ea with
  |none=>rfl
  |some o=>
   obtain⟨o',eB⟩:=x.old ea o z nfr;rw[newB]at eB;cases eB
 have u:=x.un2 fl.st up I.stkFree;have ok6:=nv x.hok x.cov x.st fl.st;have nq:∀b o,H' b=some o->b≠ea:=fun b o e z=>by rw[z,hn]at e;cases e
 refine I.call' (ch:=[]) x.os ⟨u.keep,u.slot,fun b o e n hx=>?_,u.there,fun b xs q=>?_,fun b o y q=>?_,fun b qs q=>?_⟩ (fun b o e=>?_) x.bare (fun b z=>absurd z (by simp))
 ·have nb:b≠ea:=fun z=>by rw[z,nold]at e;cases e
  rw[ai nb];exact u.free b o e n hx
 ·have q':=u.tups b xs q
  rw[ai (nq _ _ q')];exact q'
 ·have q':=u.frzs b o y q
  rw[ai (nq _ _ q')];exact q'
 ·obtain⟨more,q'⟩:=u.tbls b qs q
  exact⟨more,by rw[ai (nq _ _ q')];exact q'⟩
 ·by_cases hb:b=ea
  ·subst hb
   rw[ac]at e;cases e;exact⟨⟨oe,vs,he,hc,hod,hd,h2⟩,⟨oe,he⟩,fun h1 h2 ⟨o,ws,e1,e2,e3,e4,e5⟩ k=>⟨o,ws,k o e1,e2,e3,e4,e5⟩⟩
  ·rw[ai hb]at e
   exact(ok6 b o e).stay (fun _ _ _ q=>q) (fun c q=>by rw[ai (nq _ _ q)];exact q) fun c xs q=>by rw[ai (nq _ _ q)];exact q
noncomputable abbrev AS(P:Program)(w:World):jL:=C7 (fun _=>True) P w
section
variable {P:Program}{w:World}{K:PySem.W.Frag}{mg:Str->Option Value}{base:Heap}{N:List Str}{qual:Str}{scope:Scope}{f:Addr}{cd:Value}{A:Around}{outer:List Env}{s:Shared}{H:Hp}{E E1:XK}{CX:jL}
theorem kO{cp:Value->Prop}(hE:∀c d H',E1 c d H'->E c d H'):ck (C7 cp P w) (dh (AS P w) P w K mg base N qual scope f cd A outer s H E) E1:=by
 intro pins σ H1 s1 e s' I x;obtain⟨ea,cls,od,B,H',rfl,fly,hn,q⟩:=x;obtain⟨st,new,ff,oe,vs,T,oT,ts,he,hc,ho,hd,h1,hnT,hTe,hT,hdT,h3,cx,h2,_⟩:=fly.fl;refine yU (cp:=fun _=>True) I.ok.frames rfl ⟨st,new,ff,oe,vs,T,oT,ts,he,hc,ho,hd,h1,hnT,hTe,hT,hdT,h3,cx,h2,trivial⟩ fun h' fl2 up=>?_;exact⟨ea,cls,od,B,H',rfl,Fly0.up I rfl rfl rfl rfl rfl fly.toFly0 fl2 up,hn,hE _ _ _ q⟩
theorem c_.okW{x qual:Str}{st:Stmt}{f:Addr}{fd:FuncData}{N ps:List Str}{k:Nat}{sp:Sp}(F:c_ K x qual st f fd)(S:aF N ps (ak st))(len:∀vs H Q E,sp vs H Q E->vs.length=ps.length)
  (hbody:∀(cdv:Value) (A:Around) (outer:List Env) (s:Shared) (H:Hp) (vs:List V) (Q:VK) (E:XK),b5 k (A.deeper (envOfC qual (ak st) s.heap.objs.size f cdv))->sp vs H Q E ->
   ∃t,qg (dh (AS P w) P w K mg base N qual (ak st) f cdv A outer s H E) (bj st) t/\t {nx:=fun _ H'=>Q .non H',rt:=Q} (start N vs) H):bc P w K mg base (AS P w) (k+1) f fd ps sp:=by
 obtain⟨oc,od,kV,doc,pm,an,cdv,ct,osl,rfl,lk,hcd⟩:=F.ex;exact At lk hcd S len fun A outer s H vs Q E hr hsp=>hbody cdv A outer s H vs Q E hr hsp
end
section
variable {X:Cx}{e e₀:Expr}{bt:List Expr}{tx:TX}{t:TA}{x y:Str}{C D:Addr}{bmD:List Value}{nD:String}{rpos pos pos2 hpos np np2 cpos npos:Pos}{kd:Nat}{E:XK}
end
end L2
namespace PySem
open PySem.Calls PyProof.Rows
section
variable {prog:Program}{w:World}{A:Around}{E:Value->Shared->Prop}{env:Env}
variable {nm q:Str}{C N:Addr}{bs bm bmB bmN:List Value}{hdct:Bool}{sn:List Str}{sub:List Value}{ab:Bool}{col:Option Bool}{dd:Option Addr}{k0 k1 k2 k3 k5:Option Value}{newId B Bn nid initId inN:String}{K:PySem.W.Frag}
theorem md{s:Shared}(Fn:ExcBaseFacts Bn newId inN bmN)(hBn:bmB.contains (.type Bn)=true)(F:ExcBaseFacts B nid initId bmB){x:Str}{np cpos pos npos:Pos}{kd:Nat}{args:List Expr}{fI ha:Addr}{Q:Flow->Shared->Prop}
  (hbase:bm.contains (.type "BaseException")=true) (hh:A.handled=some (.ref ha)) (hplain:(backTo cpos (starEach args env)).any (·.1)=false) (hi:PySem.W.findIn K (.ref C) "__init__"=some (some (.ref fI))) (hf:PySem.W.typeIn K (.ref fI)=some (.type "function"))
  (h:wpAny (model prog w) A (eval (.Name x np) env) (fun f s₁=>f=.ref C/\wpAny (model prog w) A (evalArgs (.ref C) true (backTo cpos (starEach args env)) [])
   (fun a s₂=>a.kw=[]/\a.pos.length<=sizeLine/\s₂.heap.get? C=some (excClassObj nm q C N bs bm hdct sn sub ab col dd k0 k1 k2 k3 k5 newId)/\K.In s₂.heap/\OwnTail s₂.heap bmB bm /\
    ∀h' e,Heap.MadeExcOf s₂.heap h' e (.ref C) a.pos->wpAny (model prog w) (A.under (.builtin "type.__call__" ⟨.ref C::a.pos,[]⟩)) (call (.ref fI) (.ref e::a.pos))
     (fun r s'=>r=.none/\∃oe vs oh hs,s'.heap.get? C=some (excClassObj nm q C N bs bm hdct sn sub ab col dd k0 k1 k2 k3 k5 newId)/\s'.heap.get? e=some oe/\oe.cls=.ref C/\oe.data=.fields vs/\vs.size=6/\vs[1]?=some .none/\ha≠e /\
      s'.heap.get? ha=some oh/\oh.data=.fields hs/\hs[2]?=some .none/\∀h'',tJ s'.heap e oe h''->E (.ref e) {s' with heap:=h'' }) E {s₂ with heap:=h' }) E s₁) E s) :
  wpAny (model prog w) A (exec (.Raise (some (.Call (.Name x np) args [] cpos)) (some (.Constant .none kd npos)) pos) env) Q E s:=by
 rw[arm_exec_Raise];simp only[evalOpt,Option.map];refine wpAny_bind (wpAny_standAt (tz (C:=C) (nm:=nm) (q:=q) (N:=N) (bs:=bs) (bm:=bm) (hdct:=hdct) (sn:=sn) (sub:=sub) (ab:=ab) (col:=col) (dd:=dd) (k0:=k0) (k1:=k1) (k2:=k2) (k3:=k3) (k5:=k5) (newId:=newId) hbase hh (fun s Q hq=>wpAny_bind (PyProof.Rows.Constant_none (wpAny_bind (wpAny_standAt (wpAny_pure hq))))) (wpAny_bind (wpAny_mono (wpAny_Call_ofName (wpAny_mono h (fun f s₁ h₁=>?_) fun _ _ x=>x)) (fun v s₃ h₃=>wpAny_bind (wpAny_standAt (wpAny_pure h₃))) fun _ _ x=>x))));obtain⟨rfl,h₁⟩:=h₁;unfold callWith;refine wpAny_bind (wpAny_holding (wpAny_mono h₁ (fun a s₂ h₂=>wpAny_bind (wpAny_standAt ?_)) fun _ _ x=>x));obtain⟨apos,akw⟩:=a;obtain⟨hkw,hlen,hC,hX,T,h₂⟩:=h₂;obtain rfl:akw=[]:=hkw;obtain⟨hp,g,d,tk,os⟩:=s₂;simp only[hplain];refine wpAny_bind (wpAny_keeperOf_exc hC ?_);refine wpAny_bind (jO (hrest:=hlen) Fn hBn F T hX hC hi hf fun h' e hm=>wpAny_mono (h₂ h' e hm) (fun r s' hr=>⟨hr.1,wpAny_bind (wpAny_holding (wpAny_point (wpAny_pure ?_)))⟩) fun _ _ x=>x);obtain⟨_,oe,vs,oh,hs,a1,a2,a3,a4,a5,a6,a7,a8,a9,DL,DE⟩:=hr;exact⟨e,oe,vs,oh,hs,rfl,a1,a2,a3,a4,a5,a6,a7,a8,a9,DL,DE⟩
end
end PySem
namespace L2
open PySem PySem.Spec PyProof.Rows
noncomputable def wA(X:Cx)(E:XK):Prop:=∀(ea:Addr) (pins:List (Addr×Obj)) (σ:St) (H2:Hp) (s2:Shared) (hm:Heap) (H3:Hp) (s3:Shared) (e C:Addr) (od:Option Addr) (oe:Obj) (h7:Heap),Inv X pins σ H2 s2->Inv X pins σ H3 s3->s2.heap.get? e=none ->
 (∀b o,s2.heap.get? b=some o->hm.get? b=some o)->Un (il X.stack) [] (aB H2 e (xn e (.ref C) none)) H3 hm s3.heap->s3.os=s2.os->H3 e=some (xn e (.ref C) od)->s3.heap.get? e=some oe->oe.cls=.ref C->oe.dict=od->tJ s3.heap e oe h7->E (.ref C) od (lA H3 e) ->
 notedBy (model X.prog X.w) (X.held ea).A X.env (cameBackBy (model X.prog X.w) X.A X.env X.xe) (.ref e) {s3 with heap:=h7}
section
variable {P:Program}{w:World}{K:PySem.W.Frag}{mg:Str->Option Value}{base:Heap}{N:List Str}{qual:Str}{scope:Scope}{f:Addr}{cd:Value}{A:Around}{outer:List Env}{s:Shared}{H:Hp}{E E1:XK}
theorem vQ(hE:∀c d H',E1 c d H'->E c d H'):wA (dh (AS P w) P w K mg base N qual scope f cd A outer s H E) E1:=by
 intro ea pins σ H2 s2 hm H3 s3 e C od oe h7 I2 I3 new keep un os3 he3 g1 g2 g3 wc q;obtain⟨w1,oe',vs',p1,p2,p3,p4,p5,cx,p6⟩:=wc;have ne:∀b o,s2.heap.get? b=some o->b≠e:=fun b o z y=>by rw[y,new]at z;cases z
 have h2e:H2 e=none:=by
  cases z:H2 e with
  |none=>rfl
  |some o=>
   obtain⟨ob,hob⟩:=(I2.hok e o z).there;rw[new]at hob;cases hob
 generalize hX:dh (AS P w) P w K mg base N qual scope f cd A outer s H E=X at *;have hP:X.prog=P:=by rw[<- hX];rfl
 have hw':X.w=w:=by rw[<- hX];rfl
 have hin:∀env∈X.stack,∀b,env.frame=some b->b∈e::il X.stack:=fun env he b hb=>.tail _ (List.mem_filterMap.mpr ⟨env,he,hb⟩);have hff:=PySem.W.funFrames_hide I3.stack hin;have u0:∀b,b≠e->H2 b=none->aB H2 e (xn e (.ref C) none) b=none:=fun b hb n=>by rw[ai hb];exact n
 have hBe:(PySem.W.hideAll s3.heap (e::il X.stack)).get? e=none:=PySem.W.hideAll_none _ (List.mem_cons_self ..);have st7:∀b o,(PySem.W.hideAll s3.heap (e::il X.stack)).get? b=some o->h7.get? b=some o:=fun b o z=>by
  have hb:b≠e:=fun y=>by rw[y,hBe]at z;cases z
  rw[w1 b hb];exact PySem.W.of_hideAll _ z
 have enf:∀vs,oe'.data=.fields vs->True:=fun _ _=>trivial;have ff7:h7.FunFrames (PySem.W.hideAll s3.heap (e::il X.stack)) X.stack:=hff.of_keeps fun b o z nf=>by
  by_cases hb:b=e
  ·subst hb
   obtain⟨⟨oo,ws,q1,q2,q3,q4,q5⟩,_,_⟩:=(show bz X.prog X.w H3 s3.heap b (xn b (.ref C) od) from I3.hok b _ he3);rw[q1]at z;cases z;exact absurd q4 (nf ws)
  ·exact⟨o,by rw[w1 b hb];exact z,rfl⟩
 have fly0:Fly0 X.prog X.w X.stack H2 s2 (PySem.W.hideAll s3.heap (e::il X.stack)) (lA H3 e) {s3 with heap:=h7}:=by
  refine⟨st7,ff7,⟨fun b o z n hb _=>?_,fun b o z n hb _=>?_,fun b o z n _=>?_,fun b o z _=>?_,fun b xs z=>?_,fun b o y z=>?_,fun b ps z=>?_⟩,fun b o z=>?_,fun b o z=>?_,fun b o z hb=>?_,os3,I3.bare⟩
  ·show h7.get? b=some o
   rw[w1 b (ne b o z)];exact un.keep b o (keep b o z) (u0 b (ne b o z) n) hb (by simp)
  ·obtain⟨sl,y⟩:=un.slot b o (keep b o z) (u0 b (ne b o z) n) hb (by simp)
   exact⟨sl,by show h7.get? b=_;rw[w1 b (ne b o z)];exact y⟩
  ·rw[bO (ne b o z)]
   exact un.free b o (keep b o z) (u0 b (ne b o z) n) (by simp)
  ·obtain⟨o',y⟩:=un.there b o (keep b o z) (by simp)
   exact⟨o',by show h7.get? b=_;rw[w1 b (ne b o z)];exact y⟩
  ·have hb:b≠e:=aG z h2e
   rw[bO hb];exact un.tups b xs (by rw[ai hb];exact z)
  ·have hb:b≠e:=aG z h2e
   rw[bO hb];exact un.frzs b o y (by rw[ai hb];exact z)
  ·have hb:b≠e:=aG z h2e
   rw[bO hb];exact un.tbls b ps (by rw[ai hb];exact z)
  ·have hb:b≠e:=fun y=>by rw[y,dF]at z;cases z
   rw[bO hb]at z;refine(I3.hok b o z).stay (fun c u hc y=>?_) (fun c y=>by rw[bO (fun x=>by rw[x,he3]at y;cases y)];exact y) fun c xs y=>by rw[bO (fun x=>by rw[x,he3]at y;cases y)];exact y
   have hc':c≠e:=fun x=>by
    subst x;rcases hc with rfl | hc
    ·exact hb rfl
    ·rw[he3]at hc;cases hc
   show h7.get? c=some u;rw[w1 c hc'];exact y
  ·have hb:b≠e:=fun y=>by rw[y,dF]at z;cases z
   rw[bO hb]at z;obtain⟨ob,hob⟩:=(I3.hok b o z).there;refine⟨ob,PySem.W.hideAll_get _ hob fun hm=>?_⟩;rcases HF.mp hm with y | y
   ·exact hb y
   ·rw[I3.stkFree b y]at z;cases z
  ·obtain⟨o',z'⟩:=un.there b o (keep b o z) (by simp)
   refine⟨o',PySem.W.hideAll_get _ z' fun hm=>?_⟩;rcases HF.mp hm with y | y
   ·exact ne b o z y
   ·exact hb y
 subst hX;refine AD (cp:=fun _=>True) (s:={s3 with heap:=h7}) (I3.held ea).ok.frames fly0.ff rfl p1 fly0.st hBe p4 p5 ⟨cx,p6,trivial⟩ fun h8 fl8 up8=>?_;rw[p2,p3,g2,g3]at fl8;refine Dz (s:={s3 with heap:=h8}) rfl fl8 fun h9 fl9 up9=>?_;refine Cf (s:={s3 with heap:=h9}) rfl fl9 fun h10 fl10 up10=>?_;exact⟨e,.ref C,od,_,lA H3 e,rfl,Fly0.up (s':={s3 with heap:=h7}) I2 rfl rfl rfl rfl rfl fly0 fl10 ((up8.trans up9).trans up10),dF,hE _ _ _ q⟩
end
structure uc(k:Nat)(A:Around):Prop where
 dp:A.depth+3*k+5<recursionLimit
 un:A.units+16*k+200<cLine
theorem uc.make{k:Nat}{A:Around}(r:uc (k+1) A)(C:Addr)(us:List Value)(kw:List (Str×Value)):uc k (A.under (.builtin "type.__call__" ⟨.ref C::us,kw⟩)):=
 ⟨by have:=r.dp;rw[ow];omega,by have:=r.un;rw[oA];omega⟩
structure wJ(P:Program)(w:World)(K:PySem.W.Frag)(mg:Str->Option Value)(base:Heap)(CX:jL)(k:Nat)(f:Addr)(fd:FuncData)(ps:List Str)(sp:Sp):Prop where
 len:∀vs H Q E,sp vs H Q E->vs.length=ps.length
 run:∀(A:Around) (outer:List Env) (s:Shared) (H:Hp) (args:Args) (us:List Value) (vs:List V) (Q:VK) (E:XK),uc k A->pH P w K mg base A outer s H->BindsTo s fd args (ps.zip us)->aZ vs us->sp vs H Q E ->
  codeAny (model P w) A (.call (.ref f) args) (CR CX outer P w H s Q E) s
noncomputable abbrev Cx.wild(X:Cx):Cx:={X with calm:=false}
theorem pH.away{P:Program}{w:World}{K:PySem.W.Frag}{mg:Str->Option Value}{base:Heap}{A:Around}{outer:List Env}{s:Shared}{H:Hp}(e:pH P w K mg base A outer s H):pH P w K mg base {A with handled:=none} outer s H:=
 ⟨e.frames,e.mod,e.bs,e.bsz,e.funs,e.frf,e.hok,e.bare⟩
theorem CM{CX:jL}{P:Program}{w:World}{K:PySem.W.Frag}{mg:Str->Option Value}{base:Heap}{k:Nat}{f:Addr}{name qual:Str}{params:Arguments}{body:List Stmt}{scope:Scope}{dV kV doc pm cdv ct oc:Value}{an od:Option Addr}
  {osl:Array (Option Value)} {N ps:List Str} {sp:Sp} (lk:K.lookup f=some ⟨oc,od,.func (PySem.W.fnOf name qual params body scope dV kV doc pm an cdv ct),osl⟩) (hcd:PySem.W.codeIn K cdv qual=true) (S:aF N ps scope)
  (len:∀vs H Q E,sp vs H Q E->vs.length=ps.length)
  (hbody:∀(A:Around) (outer:List Env) (s:Shared) (H:Hp) (vs:List V) (Q:VK) (E:XK),sp vs H Q E ->
   ∃t,qg (dh CX P w K mg base N qual scope f cdv A outer s H E).wild body t/\t {nx:=fun _ H'=>Q .non H',rt:=Q} (start N vs) H) :
  wJ P w K mg base CX (k+1) f (PySem.W.fnOf name qual params body scope dV kV doc pm an cdv ct) ps sp:=by
 refine⟨len,fun A outer s H args us vs Q E hr e0 hb r hsp=>?_⟩;have hl:=len _ _ _ _ hsp;have KX:K.In s.heap:=e0.mod.kin.keeps fun b o e=>(e0.bs b o e).1;have lim:s.heap.NoLimit:=e0.mod.nolimit.keeps fun b o e=>(e0.bs b o e).1;have hkind:∀y∈ps.zip us,scope.names.lookup y.1=some .local\/(scope.names.lookup y.1=some .cell/\((cellsFrom (s.heap.objs.size+1) scope.names []).lookup y.1).isSome=true):=fun⟨n,v⟩ hy=>by
  rcases S.par n (List.of_mem_zip hy).1 with q | q
  ·exact .inl q
  ·exact .inr ⟨q,PySem.W.cellsFrom_some _ _ _ (.inl q)⟩
 refine codeAny_call_function (by have:=hr.dp;omega) (KX _ _ lk) rfl S.co S.gen rfl (PySem.W.codeRec_of KX hcd) (hb _ _ _ _ ?_);refine wpAny_newFunctionEnv_cells S.kind hkind fun env he s1 x=>?_;subst he;refine⟨lim.keeps x.toInCall.keep,codeAny_func ?_⟩;obtain⟨t,ht,hq⟩:=hbody A outer s H vs Q E hsp;have I0:Inv (dh CX P w K mg base N qual scope f cdv {A with handled:=none} outer s H E) [] (start N vs) H s1:=qV S rfl e0.away hl r x;have I:Inv (dh CX P w K mg base N qual scope f cdv A outer s H E).wild [] (start N vs) H s1:=
  ⟨⟨I0.ok.mod,I0.ok.kind,I0.ok.glob,I0.ok.blt,I0.ok.above,I0.ok.inj,I0.ok.has,I0.ok.cab,(fun z=>by cases z),Around.frames_deeper e0.frames,I0.ok.stk,I0.ok.exf,I0.ok.bs,I0.ok.bsz,I0.ok.noex,I0.ok.exfs,I0.ok.funs,I0.ok.frf⟩,I0.os,I0.bare,I0.base,I0.loc,I0.cell,I0.free,I0.freeC,I0.pin,I0.hok,I0.len⟩
 refine wpAny_mono (ht [] s1 (start N vs) H _ I hq) (fun fl s' hs=>?_) fun e s' hs=>hs;have fin:∀{σ':St} {H':Hp} {v:V} {u:Value},Inv (dh CX P w K mg base N qual scope f cdv A outer s H E).wild [] σ' H' s'->bq v u->Q v H'->CE outer P w H s Q u s':=
  fun{σ' H' v u} J rv q=>⟨v,H',J.os,J.bare,J.base,J.hok,rv,q⟩
 cases fl with
 |ret u=>
  obtain⟨v,σ',H',J,rv,q⟩:=hs;exact fin J rv q
 |next=>
  obtain⟨σ',H',J,q⟩:=hs;exact fin (v:=V.non) (u:=Value.none) J rfl q
 |brk=>
  obtain⟨_,_,_,q⟩:=hs;exact False.elim q
 |cont=>
  obtain⟨_,_,_,q⟩:=hs;exact False.elim q
theorem c_.okQ{P:Program}{w:World}{K:PySem.W.Frag}{mg:Str->Option Value}{base:Heap}{x qual:Str}{st:Stmt}{f:Addr}{fd:FuncData}{N ps:List Str}{k:Nat}{sp:Sp}(F:c_ K x qual st f fd)(S:aF N ps (ak st))(len:∀vs H Q E,sp vs H Q E->vs.length=ps.length)
  (hbody:∀(cdv:Value) (A:Around) (outer:List Env) (s:Shared) (H:Hp) (vs:List V) (Q:VK) (E:XK),sp vs H Q E ->
   ∃t,qg (dh bH P w K mg base N qual (ak st) f cdv A outer s H E).wild.nox (bj st) t/\t {nx:=fun _ H'=>Q .non H',rt:=Q} (start N vs) H):wJ P w K mg base bH (k+1) f fd ps sp:=by
 obtain⟨oc,od,kV,doc,pm,an,cdv,ct,osl,rfl,lk,hcd⟩:=F.ex;refine CM lk hcd S len fun A outer s H vs Q E hsp=>?_;obtain⟨t,h,q⟩:=hbody cdv A outer s H vs Q E hsp;exact⟨t,h.nox,q⟩
structure Fq(P:Program)(w:World)(K:PySem.W.Frag)(mg:Str->Option Value)(base:Heap)(k:Nat)(C:Addr)(fn:Str):Prop where
 ex:∃(bm bmN:List Value) (newId Bn inN B nid initId:String) (fI:Addr) (fd:FuncData) (ps:List Str),lN K C bm newId/\ExcBaseFacts Bn newId inN bmN/\bm.contains (.type Bn)=true/\ExcBaseFacts B nid initId bm /\
  PySem.W.findIn K (.ref C) "__init__"=some (some (.ref fI))/\PySem.W.typeIn K (.ref fI)=some (.type "function")/\wJ P w K mg base bH k fI fd ps (iB C fn)/\dc K fd ps []
section
variable {X:Cx}{e e₀:Expr}{tx:TX}{t:TA}{x y:Str}{C D:Addr}{fn:Str}{k:Nat}{bmD:List Value}{nD:String}{rpos pos pos2 hpos np np2 cpos npos:Pos}{kd:Nat}{E:XK}
noncomputable def m6(K:PySem.W.Frag)(D C:Addr)(fn:Str)(E:XK)(tx:TX)(t:TA):TS:=fun De σ H=>
 tx σ H (fun v H1=>De.rt v H1) (fun cls od H'=>∃C' bm nid,cls=.ref C'/\lN K C' bm nid/\oK K C' D/\∀ea,H' ea=none->t σ (aB H' ea (Dp ea (.ref C') od)) fun vs H1=>vs.length<=sizeLine/\H1 ea=some (Dp ea (.ref C') od)/\∃v,vs=[v]/\∀d,H1 d=none->E (.ref C) (some d) (aB H1 d (.xd [(fn,v)])))
theorem sH(c:Fq X.prog X.w X.K X.mg X.base k C fn)(hr:b5 (k+1) X.A)(hst:X.stack=X.env::X.outer)(hfr:X.env.frame=some X.env.locals)(he:PX (dM X.prog X.w) X e tx)(hgl:Gl X x)(hm:X.mg x=some (.ref D))(cD:lN X.K D bmD nD)(hbase:bmD.contains (.type "BaseException")=true)
  (hgC:Gl X y) (hmC:X.mg y=some (.ref C)) (hx:wA X E) (ha:∀ea,PA (X.held ea) [e₀] t)
  (hd:(x==("__debug__":Str))=false:=by decide +kernel) (hdC:(y==("__debug__":Str))=false:=by decide +kernel)
  (hes:starEach [e₀] X.env=(false,eval e₀ X.env)::starEach [] X.env:=by rfl) (hpl:(backTo cpos (starEach [] X.env)).any (·.1)=false:=by rfl) :
  PS X (.Try [.Return (some e) rpos] [.ExceptHandler (some (.Name x np)) none [.Raise (some (.Call (.Name y np2) [e₀] [] cpos)) (some (.Constant .none kd npos)) pos2] hpos] [] [] pos) (m6 X.K D C fn E tx t):=by
 obtain⟨bmB,bmN,newId,Bn,inN,B0,nid0,initId,fI,fd,ps,c1,c2,c3,c4,hi,hf,F,hb⟩:=c.ex;intro pins s σ H De I h;refine wpAny_Try_except ?_;refine wpAny_execs_cons (wpAny_Return_some ?_);refine bF (he pins s σ H _ _ _ I h ?_) fun v s1 ⟨z,H1,I1,r1,q1⟩=>?_
 ·rintro H1 s1 ev s' I1 ⟨ea,cls,od,B,H',rfl,fly,hn,C',bm',nid',rfl,cC,un,hsu⟩
  have hfl:DH B (X.env::X.outer) ea (.ref C') od .none s'.heap:=by rw[<- hst];exact fly.fl
  refine Al (by rw[I.ok.frames,hst]) hfr hfl fun h4 held4 up4=>?_;refine iw held4 fun h5 fl5 up5=>?_;have J5:=I1.caughtC fly.toFly0 (by rw[hst];exact fl5) (up4.trans up5) hn;refine wpAny_handleBy_cons (codeAny_handlers_test ?_) (by intro q;cases q);refine eV (J5.held ea) hgl hm ?_ hd;obtain⟨tl,N,nm,q,bs,hdct,sn,sub,ab,col,dd,k0,k1,k2,k3,k5,hC,T,dd1,cd1,sl1,hlk,hmro⟩:=cC.obj J5.kIn;obtain⟨tl',N',nm',q',bs',hdct',sn',sub',ab',col',dd',k0',k1',k2',k3',k5',hD,TD,_⟩:=cD.obj J5.kIn;obtain⟨dd2,cd2,sl2,hlk2,hsub⟩:=un;rw[hlk]at hlk2;cases hlk2;rw[hmro]at hsub;obtain⟨ob,_,hob,hobc,_⟩:=fl5.there;refine gS hC hD hob hobc (TD.hasType hbase) hsub (codeAny_handlers_suite ?_);refine iw fl5 fun h6 fl6 up6=>?_;have J6:=I1.caughtC fly.toFly0 (by rw[hst];exact fl6) ((up4.trans up5).trans up6) hn;refine wpAny_execs_cons ?_;obtain⟨tl2,N2,nm2,q2,bs2,hdct2,sn2,sub2,ab2,col2,ddd2,j0,j1,j2,j3,j5,hC2,T2,_⟩:=c1.obj J6.mod.kin;refine md (K:=X.K) (fI:=fI) (C:=C) (nm:=nm2) (q:=q2) (N:=N2) (bs:=bs2) (bm:=tl2) (hdct:=hdct2) (sn:=sn2) (sub:=sub2) (ab:=ab2) (col:=col2) (dd:=ddd2) (k0:=j0) (k1:=j1) (k2:=j2) (k3:=j3) (k5:=j5)
   c2 c3 c4 (ha:=ea) (T2.hasType c4.hasBase) rfl (by rw[hes];show(false||(backTo cpos (starEach [] X.env)).any (·.1))=false;rw[hpl];rfl) hi hf (eV (J6.held ea) hgC hmC ⟨rfl,?_⟩ hdC)
  rw[hes];have ha':=ha ea cpos pins _ σ _ _ (J6.held ea) (hsu ea hn);rw[hes]at ha';refine Calls.evalArgs_plain (wpAny_mono ha' (fun us s₂ ⟨vs,H2,I2,r2,z2,hea,v,ev,qE⟩=>⟨rfl,by rw[<- r2.length];exact z2,I2.bk _ _ hC2,I2.kIn,T2.keeps I2.bk,fun h' e2 hx'=>?_⟩) fun _ _ f=>f.elim);subst ev;have I2':Inv X pins σ H2 s₂:=I2.unheld I.ok.hd;obtain⟨u,rfl,ru⟩:=r2.one;obtain⟨t0,he0,ht0,htt⟩:=hx'.there;have ne:∀b o,s₂.heap.get? b=some o->b≠e2:=fun b o z y=>by rw[y,hx'.new]at z;cases z
  have h1e:H2 e2=none:=by
   cases z:H2 e2 with
   |none=>rfl
   |some o=>
    obtain⟨ob,hob⟩:=(I2'.hok e2 o z).there;rw[hx'.new]at hob;cases hob
  have hea2:ea≠e2:=fun z=>by rw[z,h1e]at hea;cases hea
  have Im:Inv X pins σ (aB H2 e2 (xn e2 (.ref C) none)) {s₂ with heap:=h' }:=by
   refine I2'.call' (s':={s₂ with heap:=h' }) (ch:=[]) rfl ⟨fun b o z _ _ _=>hx'.keeps b o z,fun b o z _ _ _=>⟨o.slots,hx'.keeps b o z⟩,fun b o z n _=>by rw[ai (ne b o z)];exact n,fun b o z _=>⟨o,hx'.keeps b o z⟩,fun b xs z=>by rw[ai (aG z h1e)];exact z,fun b o y z=>by rw[ai (aG z h1e)];exact z,fun b ps z=>⟨#[],by rw[ai (aG z h1e),z];simp⟩⟩ (fun b o z=>?_) I2'.bare (fun b z=>absurd z (by simp))
   by_cases hb:b=e2
   ·subst hb
    rw[ac]at z;cases z;exact⟨⟨_,_,he0,rfl,rfl,rfl,rfl,rfl,rfl⟩,⟨_,he0⟩,nr⟩
   ·rw[ai hb]at z
    exact(I2'.hok b o z).stay (fun c u _ y=>hx'.keeps c u y) (fun c y=>by rw[ai (aG y h1e)];exact y) fun c xs y=>by rw[ai (aG y h1e)];exact y
  have hsp:iB C fn [.ref e2,v] (aB H2 e2 (xn e2 (.ref C) none)) (fun r H3=>r=.non/\H3 ea=some (Dp ea (.ref C') od)/\∃d,H3 e2=some (xn e2 (.ref C) (some d))/\E (.ref C) (some d) (lA H3 e2)) (fun _ _ _=>False):=by
   refine⟨e2,v,rfl,ac,fun d hd'=>?_⟩;have hde:d≠e2:=fun y=>by rw[y,ac]at hd';cases hd'
   rw[ai hde]at hd';have hdea:ea≠d:=fun z=>by rw[<- z,hea]at hd';cases hd'
   refine⟨rfl,by rw[ai hea2,ai hdea,ai hea2];exact hea,d,ac,?_⟩;have ee:lA (aB (aB (aB H2 e2 (xn e2 (.ref C) none)) d (.xd [(fn,v)])) e2 (xn e2 (.ref C) (some d))) e2=aB H2 d (.xd [(fn,v)]):=by
    funext b
    by_cases hb:b=e2
    ·rw[hb,dF,ai (Ne.symm hde)];exact h1e.symm
    ·rw[bO hb,ai hb]
     by_cases hbd:b=d
     ·rw[hbd,ac,ac]
     ·rw[ai hbd,ai hb,ai hbd]
   rw[ee];exact qE d hd'
  have hl:([Value.ref e2,u]++[]).length=ps.length:=(F.len _ _ _ _ hsp:[V.ref e2,v].length=ps.length);have r3:aZ [V.ref e2,v] [Value.ref e2,u]:=.cons rfl (.cons ru .nil);have hrq:uc (k+1) (X.held ea).A:=⟨hr.dp,hr.un⟩;refine wpAny_call (codeAny_mono (F.run _ X.stack _ _ ⟨[.ref e2,u],[]⟩ [.ref e2,u] _ _ _ (hrq.make C [u] []) ((Im.held ea).env0.make C [u] []) (hb _ [Value.ref e2,u] Im.kIn hl) r3 hsp) fun r s' hq'=>?_);cases r with
  |error ev=>exact False.elim hq'
  |ok fl=>
   cases fl with
   |ret u'=>
    obtain⟨v',H3,os3,bare3,un3,hok3,rv,ev,hea3,d,he3,qE3⟩:=hq';subst ev;have I3:=Im.call' (ch:=[]) os3 un3 hok3 bare3 (fun b z=>absurd z (by simp));obtain⟨⟨oe,ws,g1,g2,g3,g4,g5⟩,_,_⟩:=(show bz X.prog X.w H3 s'.heap e2 (xn e2 (.ref C) (some d)) from I3.hok e2 _ he3);obtain⟨⟨oo,hs,f1,f2,f3,f4,f5⟩,_,_⟩:=(show bz X.prog X.w H3 s'.heap ea (Dp ea (.ref C') od) from I3.hok ea _ hea3);refine⟨rv,oe,ws,oo,hs,I3.bk _ _ hC2,g1,g2,g4,?_,g5.1,hea2,f1,f4,f5,fun h7 wc=>?_⟩
    ·exact g5.2.2
    ·exact hx ea pins σ H2 s₂ h' H3 s' e2 C (some d) oe h7 I2' I3 hx'.new hx'.keeps un3 os3 he3 g1 g2 g3 wc qE3
   |next=>exact False.elim hq'
   |brk=>exact False.elim hq'
   |cont=>exact False.elim hq'
 ·exact⟨z,σ,H1,I1,r1,q1⟩
end
end L2
namespace PySem
section
variable {cp:Value->Prop}{M:Model}{A:Around}{E:Value->Shared->Prop}{s:Shared}{base:Heap}{env:Env}{outer:List Env}{L e:Addr}{Q:Unit->Shared->Prop}
end
end PySem
namespace L2
open PySem PySem.Spec PyProof.Rows
section
variable {P:Program}{w:World}{K:PySem.W.Frag}{mg:Str->Option Value}{base:Heap}{N:List Str}{qual:Str}{scope:Scope}{f:Addr}{cd:Value}{A:Around}{outer:List Env}{s:Shared}{H:Hp}{E E1:XK}
end
section
variable {X:Cx}
end
section
variable {P:Program}{w:World}{K:PySem.W.Frag}{mg:Str->Option Value}{base:Heap}{N:List Str}{qual:Str}{scope:Scope}{f:Addr}{cd:Value}{A:Around}{outer:List Env}{s:Shared}{H:Hp}{E E1:XK}
end
open QL
section
variable {X:Cx}
end
section
variable {prog:Program}{w:World}{A:Around}{E:Value->Shared->Prop}{s:Shared}
end
section
variable {X:Cx}{e:Expr}{t:TE}{p p2 pos pos2:Pos}
end
end L2
namespace L2
open PySem PySem.Spec PyProof.Rows QL
section
variable {X:Cx}
noncomputable def yP:V->List V->Hp->VK->Prop:=fun x xs H Q=>∃z y,x=.str z/\xs=[.str y]/\∀i:Int,Q (.int i) H
theorem A7:Do X "str.find" yP:=by
 intro pins s σ H x xs v us Q I rx rv h;obtain⟨z,y,rfl,rfl,q⟩:=h;obtain⟨t,rfl⟩:=rx;obtain⟨u,rfl,ru⟩:=rv.one;obtain⟨t',rfl⟩:=ru;exact SC.find ⟨.int _,H,I.tok _,⟨_,rfl⟩,q _⟩
end
theorem ay.sqT{K:PySem.W.Frag}{H H':Hp}{a:Addr}{xs:List V}(e:ay H H')(h:bd K H a xs):bd K H' a xs:=by
 rcases h with(h | ⟨o,h⟩) | h
 ·exact .inl (.inl (e _ _ h))
 ·exact .inl (.inr ⟨o,e _ _ h⟩)
 ·exact .inr h
mutual
theorem hV.up{K:PySem.W.Frag}{H H':Hp}(e:ay H H'):∀(d:Dt) {v:V},hV K H d v->hV K H' d v
 | .non,v,h=>by unfold hV at h ⊢;exact h
 | .bl b,v,h=>by unfold hV at h ⊢;exact h
 | .int i,v,h=>by unfold hV at h ⊢;exact h
 | .str x,v,h=>by unfold hV at h ⊢;exact h
 | .lst ds,v,h=>by unfold hV at h ⊢;obtain⟨a,xs,r,hs,hd⟩:=h;exact⟨a,xs,r,e.seq hs,cK.up e ds hd⟩
 | .tup ds,v,h=>by unfold hV at h ⊢;obtain⟨a,xs,r,hs,hd⟩:=h;exact⟨a,xs,r,e.sqT hs,cK.up e ds hd⟩
theorem cK.up{K:PySem.W.Frag}{H H':Hp}(e:ay H H'):∀(ds:List Dt) {xs:List V},cK K H ds xs->cK K H' ds xs
 | [],xs,h=>by unfold cK at h ⊢;exact h
 |d::ds,xs,h=>by unfold cK at h ⊢;obtain⟨x,r,e0,h1,h2⟩:=h;exact⟨x,r,e0,hV.up e d h1,cK.up e ds h2⟩
end
section
variable {K:PySem.W.Frag}{g:TG}{tb:TS}{D:jf}{σ:St}{H:Hp}
end
noncomputable def cu(H H':Hp):Prop:=∀b xs,H b=some (.tup xs)->H' b=some (.tup xs)
theorem cu.of{H H':Hp}(s:ay H H'):cu H H':=fun b xs h=>s b _ h
theorem cu.put{H:Hp}{l:Addr}{xs:List V}{o:HO}(h:H l=some (.lst xs)):cu H (aB H l o):=fun b ys hb=>by
 rw[ai (fun e=>by rw[e,h]at hb;cases hb)];exact hb
mutual
noncomputable def bu(H:Hp):Dt->V->Prop
 | .int i,v=>v=.int i
 | .tup ds,v=>∃a xs,v=.ref a/\H a=some (.tup xs)/\aS H ds xs
 |_,_=>False
noncomputable def aS(H:Hp):List Dt->List V->Prop
 | [],xs=>xs=[]
 |d::ds,xs=>∃x r,xs=x::r/\bu H d x/\aS H ds r
end
mutual
theorem bu.up{H H':Hp}(e:cu H H'):∀(d:Dt) {v:V},bu H d v->bu H' d v
 | .int i,v,h=>by unfold bu at h ⊢;exact h
 | .tup ds,v,h=>by unfold bu at h ⊢;obtain⟨a,xs,r,hs,hd⟩:=h;exact⟨a,xs,r,e _ _ hs,aS.up e ds hd⟩
 | .non,v,h=>by unfold bu at h;exact h.elim
 | .bl b,v,h=>by unfold bu at h;exact h.elim
 | .str x,v,h=>by unfold bu at h;exact h.elim
 | .lst ds,v,h=>by unfold bu at h;exact h.elim
theorem aS.up{H H':Hp}(e:cu H H'):∀(ds:List Dt) {xs:List V},aS H ds xs->aS H' ds xs
 | [],xs,h=>by unfold aS at h ⊢;exact h
 |d::ds,xs,h=>by unfold aS at h ⊢;obtain⟨x,r,e0,h1,h2⟩:=h;exact⟨x,r,e0,bu.up e d h1,aS.up e ds h2⟩
end
mutual
theorem bu.rd{K:PySem.W.Frag}{H:Hp}:∀(d:Dt) {v:V},bu H d v->hV K H d v
 | .int i,v,h=>by unfold bu at h;unfold hV;exact h
 | .tup ds,v,h=>by unfold bu at h;unfold hV;obtain⟨a,xs,r,hs,hd⟩:=h;exact⟨a,xs,r,bd.of hs,aS.rd ds hd⟩
 | .non,v,h=>by unfold bu at h;exact h.elim
 | .bl b,v,h=>by unfold bu at h;exact h.elim
 | .str x,v,h=>by unfold bu at h;exact h.elim
 | .lst ds,v,h=>by unfold bu at h;exact h.elim
theorem aS.rd{K:PySem.W.Frag}{H:Hp}:∀(ds:List Dt) {xs:List V},aS H ds xs->cK K H ds xs
 | [],xs,h=>by unfold aS at h;unfold cK;exact h
 |d::ds,xs,h=>by unfold aS at h;unfold cK;obtain⟨x,r,e0,h1,h2⟩:=h;exact⟨x,r,e0,bu.rd d h1,aS.rd ds h2⟩
end
theorem aS.cons{H:Hp}{d:Dt}{ds:List Dt}{x:V}{xs:List V}(h:bu H d x)(t:aS H ds xs):aS H (d::ds) (x::xs):=by unfold aS;exact⟨x,xs,rfl,h,t⟩
theorem aS.nil{H:Hp}:aS H [] []:=by unfold aS;rfl
theorem aS.uncons{H:Hp}{d:Dt}{ds:List Dt}{xs:List V}(h:aS H (d::ds) xs):∃x r,xs=x::r/\bu H d x/\aS H ds r:=by unfold aS at h;exact h
theorem aS.length{H:Hp}:∀{ds:List Dt} {xs:List V},aS H ds xs->xs.length=ds.length
 | [],_,h=>by unfold aS at h;rw[h];rfl
 |d::ds,xs,h=>by
  obtain⟨x,r,rfl,_,h2⟩:=h.uncons;simp[aS.length h2]
theorem aS.app{H:Hp}:∀{ds es:List Dt} {xs ys:List V},aS H ds xs->aS H es ys->aS H (ds++es) (xs++ys)
 | [],es,xs,ys,h,k=>by unfold aS at h;subst h;exact k
 |d::ds,es,xs,ys,h,k=>by
  obtain⟨x,r,rfl,h1,h2⟩:=h.uncons;exact aS.cons h1 (aS.app h2 k)
theorem bu.node{H:Hp}{a:Addr}{i:Int}{ds:List Dt}{xs:List V}(h:H a=some (.tup (V.int i::xs)))(t:aS H ds xs):bu H (.tup (.int i::ds)) (.ref a):=by
 unfold bu;exact⟨a,_,rfl,h,aS.cons (by unfold bu;rfl) t⟩
section
variable {np:Nat->Nat}{num:Str->Option Nat}
end
theorem pA:∀{ns:List Int} {us:List Value},aZ (ns.map V.int) us->∃ps:List (Int×Tok),us.toArray=intItems ps.toArray/\ps.map (·.1)=ns
 | [],us,r=>⟨[],by have:=r.zero;subst this;simp[intItems],rfl⟩
 |n::ns,us,r=>by
  cases r with
  |cons h t=>
   obtain⟨tk,rfl⟩:=h;obtain⟨ps,e1,e2⟩:=pA t;refine⟨(n,tk)::ps,?_,by rw[HW,e2]⟩;have:=congrArg Array.toList e1;unfold intItems at this ⊢;simp at this ⊢;exact this
section
variable {X:Cx}
theorem qU(hc:X.calm=true):gz X (.builtin "sum") (fun xs H Q=>∃(p:Addr) (ns:List Int),xs=[.ref p]/\aW X.K H p (ns.map V.int)/\Q (.int ns.sum) H):=by
 intro pins s σ H xs us Q I r h;obtain⟨p,ns,rfl,hs,q⟩:=h;obtain⟨u,rfl,ru⟩:=r.one;cases ru;obtain⟨its,rv,pl,_⟩:=I.list hs;obtain⟨ps,e1,e2⟩:=pA rv;refine sum_intListG (xs:=ps.toArray) (I.ok.hd hc) (by rw[<- e1];exact pl.isList) fun h' tk t' hk=>?_;have e3:preSum (numAt ps.toArray) ps.toArray.size=ns.sum:=by
  rw[preSum_eq,List.take_of_length_le (by simp),<- e2]
 rw[e3];exact⟨.int _,H,I.kept (t':=tk) hk,⟨_,rfl⟩,q⟩
theorem zB:bootBuiltins "sum"=some (.builtin "sum"):=by decide +kernel
end
section
variable {prog:Program}{w:World}{A:Around}{R:Result->Shared->Prop}{I:Addr}{fp wr:List Addr}{n:Nat}{P:Nat->Value->Prop}{St:Nat->Heap->Prop}
noncomputable def oE(val:Nat->Int)(j:Nat)(M:Int):Prop:=(∃i,i<j/\val i=M)/\∀i,i<j->val i<=M
theorem oE.next{val:Nat->Int}{j:Nat}{M:Int}(h:oE val j M):oE val (j+1) (if val j>M then val j else M):=by
 obtain⟨⟨i,hi,e⟩,h2⟩:=h
 by_cases c:val j>M
 ·rw[if_pos c]
  refine⟨⟨j,H_ _,rfl⟩,fun k hk=>?_⟩
  by_cases hk2:k=j
  ·rw[hk2];exact Int.le_refl _
  ·have:=h2 k (by omega);omega
 ·rw[if_neg c]
  refine⟨⟨i,by omega,e⟩,fun k hk=>?_⟩
  by_cases hk2:k=j
  ·rw[hk2];omega
  ·exact h2 k (by omega)
theorem A9(val:Nat->Int):oE val 1 (val 0):=⟨⟨0,by decide,rfl⟩,fun i hi=>by
 have:i=0:=by omega
 rw[this];exact Int.le_refl _⟩
set_option maxHeartbeats 2000000 in
theorem zU(kw:List (Str×Value))(W:Walks prog w A.in1 I fp wr n P St)(val:Nat->Int)(hval:∀i v,P i v->∃t,v=.int (val i) t)(B:Addr)(hB:B∉fp) :
  ∀(m j:Nat) (s:Shared) (M:Int) (t:Tok) (c:Nat),n-j=m->1<=j->j<=n->St j s.heap->oE val j M ->
  s.heap.get? B=some {cls:=.type "list",dict:=none,data:=.seq #[.int M t,.int M t] c,slots:=#[]} ->
  (∀M' t' h' tk,oE val n M'->(∀b o,b∉wr->b≠B->s.heap.get? b=some o->h'.get? b=some o)->R (.ok (.ret (.int M' t'))) {s with heap:=h',toks:=tk}) ->
  codeAny (model prog w) A (.builtin "max.loop" ⟨[.ref I,.none,.ref B],kw⟩) R s:=by
 have hBw:B∉wr:=fun x=>hB (W.sub _ x);have nm:(toString "max" ++ toString ".loop":String)="max.loop":=by decide
 have cmp:=CmpOf.ints_gt (prog:=prog) (w:=w) (A:=A.in1) val hval;intro m
 induction m with
 |zero=>
  intro j s M t c hm h1 hj st gu eB ok;have ej:j=n:=by omega
  subst ej;refine codeAny_builtin F.entry_max_loop ?_;rw[Around.under_plainId F.plain_max_loop _];show wpAny _ A.in1 (seqItems? (.ref B) >>= _) _ _ s;refine wpAny_bind (wpAny_seqItems eB rfl ?_);show wpAny _ A.in1 (tryCatch (pyNext (.ref I)) _ >>= _) _ _ s;refine wpAny_bind (wpAny_tryCatch (W.done s _ _ st fun h' tk kp=>?_));have eB':=kp B _ hBw eB;show wpAny _ A.in1 (updateSeq B (fun _=>#[]) >>= _) _ _ _;refine wpAny_bind (wpAny_updateSeq eB' rfl (wpAny_bind (wpAny_letGo (wpAny_pure ?_))));exact ok M t _ tk gu fun b o h1 h2 e=>(Hr _ _ (Ne.symm h2)).trans (kp b o h1 e)
 |succ m ih=>
  intro j s M t c hm h1 hj st gu eB ok;have hlt:j<n:=by omega
  refine codeAny_builtin F.entry_max_loop ?_;rw[Around.under_plainId F.plain_max_loop _];show wpAny _ A.in1 (seqItems? (.ref B) >>= _) _ _ s;refine wpAny_bind (wpAny_seqItems eB rfl ?_);show wpAny _ A.in1 (tryCatch (pyNext (.ref I)) _ >>= _) _ _ s;refine wpAny_bind (wpAny_tryCatch (W.item j s _ _ hlt st fun v h' tk hP st' kp=>?_));have eB':=kp B _ hBw eB;obtain⟨t2,rfl⟩:=hval j v hP;show wpAny _ A.in1 (tryCatch (holding [.int (val j) t2,.int (val j) t2] (richCompare .Gt (.int (val j) t2) (.int M t) >>= _)) _ >>= _) _ _ _;refine wpAny_bind (wpAny_tryCatch (wpAny_holding (wpAny_bind (richCompare_gives (op:=.Gt) (typeIs_int _ _ t2) (typeIs_int _ _ t) F.slot_int_gt F.entry_int_gt (F.args_int_gt_2 _ _) (gives_int_gt _ _ t2 t) (fun x=>nomatch x) ?_))));refine wpAny_bind (wpAny_holding (wpAny_truthy_bool ?_));refine wpAny_bind (wpAny_letGo (wpAny_pure ?_));have top':=gu.next
  by_cases cc:val j>M
  ·rw[decide_eq_true cc]
   simp only[if_true];refine wpAny_bind (wpAny_updateSeq eB' rfl (wpAny_bind (wpAny_letGo ?_)));rw[nm];rw[if_pos cc]at top';refine wpAny_pure ⟨plainId_quiet F.plain_max_loop _,ih (j+1) _ (val j) t2 _ (by omega) (by omega) hlt (W.frame _ _ _ st' fun b hb o e=>?_) top' (Hw _ eB' rfl) fun M' t' h2 tk2 tp kp2=>?_⟩
   ·exact(Hr _ _ (fun x:B=b=>hB (by rw[x];exact hb))).trans e
   ·exact ok M' t' h2 tk2 tp fun b o x1 x2 e=>kp2 b o x1 x2 ((Hr _ _ (Ne.symm x2)).trans (kp b o x1 e))
  ·rw[decide_eq_false cc]
   simp only[Bool.false_eq_true,if_false];refine wpAny_bind (wpAny_letGo ?_);rw[nm];rw[if_neg cc]at top';refine wpAny_pure ⟨plainId_quiet F.plain_max_loop _,ih (j+1) _ M t c (by omega) (by omega) hlt st' top' eB' fun M' t' h2 tk2 tp kp2=>?_⟩;exact ok M' t' h2 tk2 tp fun b o x1 x2 e=>kp2 b o x1 x2 (kp b o x1 e)
end
section
variable {prog:Program}{w:World}{A:Around}{E:Value->Shared->Prop}{s:Shared}
theorem yc(a d:Value):argsOk "max" ⟨[a],[("default",d)]⟩:=by unfold argsOk;kernel_rfl
set_option maxHeartbeats 2000000 in
theorem mT{l:Addr}{xs:Array (Int×Tok)}{d:Int}{t0:Tok}{Q:Value->Shared->Prop}(hh:A.handled=none)(hl:s.heap.IsList l (intItems xs))
  (ok:∀M t h' tk,(xs.size=0/\M=d)\/(0<xs.size/\oE (numAt xs) xs.size M)->(∀b o,s.heap.get? b=some o->h'.get? b=some o)->Q (.int M t) {s with heap:=h',toks:=tk}) :
  wpAny (model prog w) A (call (.builtin "max") [.ref l] [("default",.int d t0)]) Q E s:=by
 have nm:(toString "max" ++ toString ".loop":String)="max.loop":=by decide
 have sg:∀sig,Manifest.signature? "max"=some sig->Bind.checkArgs "max" sig ⟨[.ref l],[("default",.int d t0)]⟩=pure ():=fun sig e=>by
  have a:=yc (.ref l) (.int d t0)
  simpa only[argsOk,e]using a
 refine wpAny_call (codeAny_call_builtin F.plain_max F.entry_max ?_);have body:wpAny (model prog w) A.in1 (Builtin.«max» ⟨[.ref l],[("default",.int d t0)]⟩) (fun fin s'=>match fin with
   | .done f=>(match(Except.ok f:Result) with | .ok (.ret v)=>Q v s' | .ok _=>False | .error e=>E e s')
   | .again c'=>c'.quiet=true/\codeAny (model prog w) A c' (fun r s'=>match r with | .ok (.ret v)=>Q v s' | .ok _=>False | .error e=>E e s') s') E s:=by
  show wpAny _ A.in1 (Builtin.Builtins.bindParams "max" ["key","default"] 0 ⟨[],[("default",.int d t0)]⟩ >>= _) _ _ s;refine wpAny_bind (wpAny_of_eq (show Builtin.Builtins.bindParams "max" ["key","default"] 0 ⟨[],[("default",.int d t0)]⟩=pure [none,some (.int d t0)] from rfl) ?_);refine wpAny_bind (wpAny_pure ?_);refine wpAny_bind (iter_intList hl fun s2 e st hfp hlI=>?_);refine wpAny_bind (wpAny_newObj_type ?_);rw[nm];have hBf:s2.heap.objs.size∉[s.heap.objs.size,l]:=fun x=>HZ _ (hfp _ x);have W:=Walks.list (prog:=prog) (w:=w) (A:=A.in1) hh s.heap.objs.size l hlI (intItems xs);have hBw:s2.heap.objs.size∉[s.heap.objs.size]:=fun x=>hBf (W.sub _ x);refine wpAny_pure ⟨plainId_quiet F.plain_max_loop _,?_⟩;have st2:=W.frame 0 _ (s2.heap.push {cls:=.type "list",dict:=none,data:=.seq #[] 0}) st fun b _ o e=>Hl _ e;have keep0:∀b o,s.heap.get? b=some o->s2.heap.get? b=some o:=fun b o eo=>by rw[e];exact Hl _ eo
  have new0:∀b o,s.heap.get? b=some o->b∉[s.heap.objs.size]/\b≠s2.heap.objs.size:=fun b o eo=>by
   have h1:=HS eo;have h2:=HS (keep0 b o eo);exact⟨fun x=>HZ _ (Hn.mp x▸h1),HK h2⟩
  have eB:(s2.heap.push {cls:=.type "list",dict:=none,data:=.seq #[] 0}).get? s2.heap.objs.size=some {cls:=.type "list",dict:=none,data:=.seq #[] 0,slots:=#[]}:=Hs _ rfl;have eS:∀(h':Heap) (tk:Nat),({s2 with heap:=h',toks:=tk}:Shared)={s with heap:=h',toks:=tk}:=fun h' tk=>by rw[e]
  refine codeAny_builtin F.entry_max_loop ?_;rw[Around.under_plainId F.plain_max_loop _];show wpAny _ A.in1 (seqItems? (.ref s2.heap.objs.size) >>= _) _ _ _;refine wpAny_bind (wpAny_seqItems eB rfl ?_);show wpAny _ A.in1 (tryCatch (pyNext (.ref s.heap.objs.size)) _ >>= _) _ _ _
  by_cases hz:xs.size=0
  ·have hz2:(intItems xs).size=0:=by unfold intItems;rw[Array.size_map];exact hz
   refine wpAny_bind (wpAny_tryCatch (W.done _ _ _ (by rw[hz2];exact st2) fun h' tk kp=>?_));show wpAny _ A.in1 (rule _ >>= _) _ _ _;refine wpAny_bind (wpAny_rule (wpAny_pure ?_));have:=ok d t0 h' tk (.inl ⟨hz,rfl⟩) fun b o eo=>kp b o (new0 b o eo).1 (Hl _ (keep0 b o eo));rw[<- eS]at this;exact this
  ·have hlt:0<(intItems xs).size:=by unfold intItems;rw[Array.size_map];omega
   refine wpAny_bind (wpAny_tryCatch (W.item 0 _ _ _ hlt st2 fun v h' tk hP st' kp=>?_));have eB':=kp s2.heap.objs.size _ hBw eB;obtain⟨t2,rfl⟩:=intItems_at hP;show wpAny _ A.in1 (updateSeq s2.heap.objs.size (fun _=>#[.int (numAt xs 0) t2,.int (numAt xs 0) t2]) >>= _) _ _ _;refine wpAny_bind (wpAny_updateSeq eB' rfl ?_);rw[nm];refine wpAny_pure ⟨plainId_quiet F.plain_max_loop _,zU [("default",.int d t0)] W (numAt xs) (fun _ _=>intItems_at) s2.heap.objs.size hBf _ 1 _ (numAt xs 0) t2 _ rfl (HP _) hlt (W.frame _ _ _ st' fun b hb o eo=>?_) (A9 _) (Hw _ eB' rfl) fun M' t' h2 tk2 tp kp2=>?_⟩
   ·exact(Hr _ _ (fun x:s2.heap.objs.size=b=>hBf (by rw[x];exact hb))).trans eo
   ·have sz:(intItems xs).size=xs.size:=by unfold intItems;rw[Array.size_map]
    rw[sz]at tp;have:=ok M' t' h2 tk2 (.inr ⟨by omega,tp⟩) fun b o eo=>kp2 b o (new0 b o eo).1 (new0 b o eo).2 ((Hr _ _ (Ne.symm (new0 b o eo).2)).trans (kp b o (new0 b o eo).1 (Hl _ (keep0 b o eo))));rw[<- eS]at this;exact this
 simp only[checkBuiltinCall,F.kind_max];cases hs:Manifest.signature? "max" with
 |none=>exact wpAny_pure body
 |some sig=>
  simp only[sg sig hs];exact wpAny_pure body
end
noncomputable def zH(K:PySem.W.Frag)(t:TA)(tk:TA):TE:=fun σ H Q=>t σ H fun xs H1=>tk σ H1 fun ds H2=>∃(p:Addr) (ns:List Int) (d:Int),xs=[.ref p]/\ds=[.int d]/\aW K H2 p (ns.map V.int)/\∀M:Int,(ns=[]/\M=d)\/(M∈ns/\∀a∈ns,a<=M)->Q (.int M) H2
section
variable {X:Cx}{e:Expr}{t tk:TA}{p pos kpos:Pos}{de:Expr}
theorem Bl(hc:X.calm=true)(hg:Gl X "max")(hm:X.mg "max"=none)(ha:PA X [e] t)(hk:PK X [⟨some "default",de,kpos⟩] tk)
  (he:backTo pos (starEach [e] X.env)=(false,eval e X.env)::backTo pos (starEach [] X.env):=by rfl) (hpl:(backTo pos (starEach [e] X.env)).any (·.1)=false:=by rfl)
  (hall:(backToKw pos (keywordEach [⟨some "default",de,kpos⟩] X.env)).all (·.1.isSome)=true:=by rfl) (hkw:(backToKw pos (keywordEach [⟨some "default",de,kpos⟩] X.env)).any (·.1.isNone)=false:=by rfl)
  (hks:(backToKw pos (keywordEach [⟨some "default",de,kpos⟩] X.env)).filterMap (·.1)=[("default":Str)]:=by rfl) :
  PE X (.Call (.Name "max" p) [e] [⟨some "default",de,kpos⟩] pos) (zH X.K t tk):=by
 intro pins s σ H Q I h;have hb:bootBuiltins "max"=some (.builtin "max"):=by decide +kernel
 refine wpAny_Call_Name_kw (bY I hg hm hb ?_);refine callWith_kw (bF (ha pos pins s σ H _ I h) fun us s1 ⟨vs,H1,I1,r,q⟩=>?_) he hpl hall hkw;refine bF (hk pos pins s1 σ H1 _ I1 q) fun ws s2 ⟨zs,H2,I2,rz,q2⟩=>?_;rw[hks];obtain⟨l,ns,d,rfl,rfl,hs,q3⟩:=q2;obtain⟨u,rfl,ru⟩:=r.one;cases ru;obtain⟨u2,rfl,ru2⟩:=rz.one;obtain⟨t0,rfl⟩:=ru2;obtain⟨its,rv,pl,_⟩:=I2.list hs;obtain⟨ps,e1,e2⟩:=pA rv;refine mT (xs:=ps.toArray) (I2.ok.hd hc) (by rw[<- e1];exact pl.isList) fun M t' h' tk' hM kp=>?_;refine⟨.int M,H2,I2.kept (t':=tk') kp,⟨_,rfl⟩,q3 M ?_⟩;have hl:ps.length=ns.length:=by rw[<- e2,Hm]
 have at_:∀i (h:i<ns.length),numAt ps.toArray i=ns[i]:=fun i h=>by
  unfold numAt;subst e2;simp at h;simp[h]
 rcases hM with⟨hz,hM⟩ | ⟨hz,⟨i,hi,ei⟩,gu⟩
 ·refine .inl ⟨Ii.mp ?_,hM⟩
  simp at hz;rw[<- hl,hz];rfl
 ·have hi':i<ns.length:=by simpa[hl]using hi
  refine .inr ⟨by rw[<- ei,at_ i hi'];exact Hu _,fun a ha'=>?_⟩;obtain⟨j,hj⟩:=List.mem_iff_getElem?.mp ha';obtain⟨hj1,hj2⟩:=Hk.mp hj;have:=gu j (by simpa[hl]using hj1);rw[at_ j hj1,hj2]at this;exact this
end
end L2
namespace L2
open PySem PySem.Spec PyProof.Rows QL bC
theorem v_{α β:Type}{g:α->β}:∀(l:List α) (f':α->Option β),(∀k∈l,f' k=some (g k))->l.filterMap f'=l.map g
 | [],_,_=>rfl
 |a::l,f',h=>by
  rw[List.filterMap_cons,h a List.mem_cons_self,HW,v_ l f' fun k hk=>h k (HH _ hk)]
section
variable {X:Cx}
noncomputable def AJ(K:PySem.W.Frag):R2:=fun x y H Q=>∃a b xs ys,x=.ref a/\y=.ref b/\bd K H a xs/\bd K H b ys/\xs.length+ys.length<=sizeLine/\∀p H',bd K H' p (xs++ys)->ay H H'->Q (.ref p) H'
theorem lu:a_ X (binaryOp .Add) (AJ X.K):=by
 intro pins s σ H x y v u Q I rx ry h;obtain⟨a,b,xs,ys,rfl,rfl,ha,hb,hz,q⟩:=h
 by_cases hx:xs=[]
 ·subst hx
  cases rx;cases ry;obtain⟨its,r1,p1,_⟩:=I.tuple ha;obtain⟨its2,r2,p2,_⟩:=I.tuple hb;have e1:its=[]:=r1.zero;subst e1;obtain⟨⟨cls,dd,data,sl⟩,ho,hc,n,hd⟩:=id p1;obtain⟨⟨cls2,dd2,data2,sl2⟩,ho2,hc2,n2,hd2⟩:=id p2;simp only at hc hd hc2 hd2;subst hc hd hc2 hd2;exact concat_meets ⟨_,ho,rfl⟩ ⟨_,ho2,rfl⟩ noFill_tuple_add seq_tuple_add PySem.F.slot_tuple_add PySem.F.entry_tuple_add (PySem.F.args_tuple_add_2 _ _)
   (tuple_addW0 a b _ _ n n2 dd dd2 sl sl2 (by rfl)) ⟨ho,ho2,⟨.ref b,H,I,rfl,q b H (by rw[Io];exact hb) (ay.refl _)⟩⟩
 ·refine bX pins s σ H _ _ v u Q I rx ry ⟨a,b,xs,ys,rfl,rfl,ha,hb,hx,hz,fun e=>?_,fun _ p hp=>q p _ (bd.of ac) (ae hp)⟩
  refine q a H ?_ (ay.refl _);rw[e,Ia];exact ha
noncomputable def zm(te ts:TE):TE:=fun σ H Q=>te σ H fun x H1=>ts σ H1 fun y H2=>∃r:List Nat,x=.str (tx r)/\y=.int (-1)/\r.length<=1000/\Q (.str (tx r.reverse)) H2
theorem Co(n:Nat):Builtin.Str.strSliceIndices none none (-1) n=(List.range n).map fun k=>n-1-k:=by
 unfold Builtin.Str.strSliceIndices sliceRange
 by_cases hn:n=0
 ·subst hn;decide
 ·simp only[show ¬ ((-1:Int)>0) by decide,if_false]
  rw[if_pos (by omega)];have e:(((n:Int)-1 - -1 - -1-1)/(- -1)).toNat=n:=by
   have:(- -1:Int)=1:=by decide
   rw[this,Int.ediv_one];omega
  rw[e];refine List.map_congr_left fun k hk=>?_;omega
variable {e st:Expr}{te ts:TE}{p2 pos:Pos}
theorem A0(he:PE X e te)(hs:PE X st ts):PE X (.Subscript e (.Slice none none (some st) p2) pos) (zm te ts):=by
 intro pins s σ H Q I h;refine Subscript_ (bF (he pins s σ H _ I h) fun v s1 ⟨x,H1,I1,r1,q1⟩=>?_);refine wpAny_Slice ?_;rw[evalPart_none];refine wpAny_pure (wpAny_pure ?_);show wpAny _ _ (eval st X.env) _ _ _;refine bF (hs pins s1 σ H1 _ I1 q1) fun vs s2 ⟨y,H2,I2,r2,r,ex,ey,hl,q⟩=>?_;subst ex;subst ey;obtain⟨t1,rfl⟩:=r1;obtain⟨t2,rfl⟩:=r2;have I3:Inv X pins σ H2 {s2 with heap:=s2.heap.push {cls:=.type "slice",data:=.fields #[.none,.none,.int (-1) t2]} }:=I2.kept (t':=s2.toks) fun b ob q=>Hl _ q;have hsl:Heap.IsSlice (s2.heap.push {cls:=.type "slice",data:=.fields #[.none,.none,.int (-1) t2]}) s2.heap.objs.size none none (some (-1,t2)):=⟨_,Hs _ rfl,rfl,rfl⟩;have mO:(if((Option.map (fun x:Int×Tok=>x.1) (some (-1,t2))).getD 1==1&&(slicePicked (tx r) none none (some (-1,t2))).length==(tx r).length)=true then tx r else⟨((slicePicked (tx r) none none (some (-1,t2))).filterMap ((tx r).cps[·]?)).toArray⟩)=tx r.reverse:=by
  have e1:slicePicked (tx r) none none (some (-1,t2))=(List.range r.length).map fun k=>r.length-1-k:=by
   unfold slicePicked;rw[<- Co,<- aE r]
   rfl
  rw[if_neg (by simp),e1];have e2:((List.range r.length).map fun k=>r.length-1-k).filterMap ((tx r).cps[·]?)=r.reverse:=by
   have:∀k∈List.range r.length,(tx r).cps[r.length-1-k]?=some (r.reverse.getD k 0):=fun k hk=>by
    have hk':=List.mem_range.mp hk;rw[<- Array.getElem?_toList,j7,List.getD_eq_getElem?_getD,List.getElem?_reverse hk',Hj (by omega),Option.getD_some]
   rw[List.filterMap_map];refine(v_ (g:=fun k=>r.reverse.getD k 0) _ _ (fun k hk=>this k hk)).trans ?_;apply List.ext_getElem?;intro i;rw[Ho]
   by_cases hi:i<r.length
   ·rw[List.getElem?_range hi,Option.map_some,List.getD_eq_getElem?_getD,Hj (by rw[HI];exact hi),Option.getD_some]
   ·rw[List.getElem?_eq_none (by rw[List.length_range];omega),List.getElem?_eq_none (by rw[HI];omega)];rfl
  rw[e2]
  rfl
 have hg:wpAny (model X.prog X.w) X.A (getItem (.str (tx r) t1) (.ref s2.heap.objs.size)) (EP X pins σ Q) X.xe {s2 with heap:=s2.heap.push {cls:=.type "slice",data:=.fields #[.none,.none,.int (-1) t2]} }:=by
  refine wpAny_getItem_str_slice hsl (by rfl) ?_;unfold sliceMade;refine post_val_or_str ⟨?_,fun t' k=>?_⟩
  ·rw[mO];rw[aE];exact aj (by rw[HI];omega)
  ·rw[mO];exact⟨.str _,H2,I3.tok _,⟨_,rfl⟩,q⟩
 show wpAny (model X.prog X.w) X.A (subscriptTail e (.Slice none none (some st) p2) (.str (tx r) t1) (.ref s2.heap.objs.size)) (EP X pins σ Q) X.xe _;exact tail_any (ops:=[.ref s2.heap.objs.size,.str (tx r) t1]) (typeIs_str _ _ _) F.slot_str_getitem.lookup hg (by with_unfolding_all rfl)
end
noncomputable abbrev kY(a:Addr):Obj:={cls:=.type "tuple_iterator",data:=.fields #[.ref a,.int 0 0]}
noncomputable abbrev rS(a:Addr):Obj:={cls:=.type "enumerate",data:=.fields #[.none,.bool false,.ref a,rawInt 0,.none,.none]}
theorem xX(a:Addr)(us:Array Value)(n:Nat)(dd:Option Addr)(ss:Array (Option Value)) :
  Meets (Builtin.«enumerate.__new__» ⟨[.type "enumerate",.ref a],[]⟩) (fun _ R s=>s.heap.get? a=some {cls:=.type "tuple",dict:=dd,data:=.seq us n,slots:=ss} /\
   R (.ok (.ret (.ref (s.heap.push (kY a)).objs.size))) {s with heap:=(s.heap.push (kY a)).push (rS s.heap.objs.size)}):=
 .of_wp fun prog w A R s h=>by
  obtain⟨h0,g0,d0,t0,o0⟩:=s;obtain⟨ea,h⟩:=h;have sb:=sub_enumerate;have isT:Heap.IsTuple (Shared.heap ⟨h0,g0,d0,t0,o0⟩) a us:=⟨_,ea,rfl,n,rfl⟩
  wp_walk using AutoSeq1.wpAny_loadPart' ea
  refine wpAny_stack_any fun _=>wpAny_pure ?_
  split
  ·rename_i cc _ _ _ _ _
   cases(cc==Value.type "enumerate")
   ·wp_walk using AutoSeq1.wpAny_loadPart' ea,wpAny_pyIter_tuple isT
    exact⟨_,rfl,h⟩
   ·wp_walk using AutoSeq1.wpAny_loadPart' ea,wpAny_pyIter_tuple isT
    exact⟨_,rfl,h⟩
  ·wp_walk using AutoSeq1.wpAny_loadPart' ea,wpAny_pyIter_tuple isT
   exact⟨_,rfl,h⟩
section
variable {prog:Program}{w:World}{A:Around}{E:Value->Shared->Prop}{s:Shared}
theorem v3{a:Addr}{us:Array Value}{Q:Value->Shared->Prop}(ha:s.heap.IsTuple a us)
  (h:∀h',IsEnum h' (s.heap.objs.size+1) s.heap.objs.size 0 .none->h'.IsTupleIter s.heap.objs.size a 0->(∀b o,s.heap.get? b=some o->h'.get? b=some o)->Q (.ref (s.heap.objs.size+1)) {s with heap:=h' }) :
  wpAny (model prog w) A (call (.type "enumerate") [.ref a]) Q E s:=by
 obtain⟨⟨c,dd,dt,ss⟩,ea,ec,n,ed⟩:=ha;simp only at ec ed;subst ec ed;refine callType_new F.called_enumerate (by decide) (F.typeCall_enumerate_1 _) (F.newCall_enumerate_1 _) (fun ob=>F.args_object_init_2 ob _) F.entry_enumerate_new (xX a us n dd ss) ⟨ea,?_⟩;have sz:(s.heap.push (kY a)).objs.size=s.heap.objs.size+1:=Heap.size_push ..;show _/\_;rw[sz];have ie:IsEnum ((s.heap.push (kY a)).push (rS s.heap.objs.size)) (s.heap.objs.size+1) s.heap.objs.size 0 .none:=by
  have q:=Hs (s.heap.push (kY a)) (o:=rS s.heap.objs.size) rfl;rw[sz]at q;exact q
 exact⟨⟨_,ie,rfl⟩,h _ ie ⟨_,Hl _ (Hs _ rfl),rfl,rfl⟩ fun b o q=>Hl _ (Hl _ q)⟩
theorem v8{i0 a:Addr}{i:Nat}{us:Array Value}{x:Value}{Q:Value->Shared->Prop}(ii:s.heap.IsTupleIter i0 a i)(ha:s.heap.IsTuple a us)(hx:us[i]?=some x)
  (q:∀h',h'.IsTupleIter i0 a (i+1)->Heap.SameBut i0 s.heap h'->Q x {s with heap:=h' }):wpAny (model prog w) A (Builtin.SmallTypes.nextOf (.ref i0)) Q E s:=by
 obtain⟨oi,ei,ci,di⟩:=id ii;obtain⟨oa,ea,_,na,da⟩:=ha;unfold Builtin.SmallTypes.nextOf;refine wpAny_bind (wpAny_callSpecial?_slot (name:=Str.ofString "__next__") ii.typeIs F.slot_tuple_iterator_next (wpAny_call_entry F.slot_tuple_iterator_next ii.typeIs F.entry_tuple_iterator_next ?_ (F.args_tuple_iterator_next_1 _)));show wpAny _ _ (field (.ref i0) 0 >>= _) _ _ s;refine wpAny_bind (wpAny_field ei di (x:=.ref a) rfl ?_);show wpAny _ _ (if(Value.ref a==Value.none)=true then _ else _) _ _ s;rw[if_neg (show ¬ ((Value.ref a==Value.none)=true) from HR)];show wpAny _ _ (field (.ref i0) 1 >>= _) _ _ s;refine wpAny_bind (wpAny_field ei di (x:=.int i 0) rfl ?_);show wpAny _ _ (seqItems? (.ref a) >>= _) _ _ s;refine wpAny_bind (wpAny_seqItems ea da ?_);simp only[Hv,hx];refine wpAny_bind (wpAny_setField ei di (by simp) (wpAny_pure ⟨x,rfl,wpAny_pure (q _ ?_ (Heap.SameBut.update ..))⟩));exact⟨_,Hw _ ei (Obj.isFreed_of_fields (Obj.data_mapFields di _)),(Obj.cls_mapFields ..).trans ci,by rw[Obj.data_mapFields di];simp[rawInt]⟩
theorem xQ{i0 a:Addr}{i:Nat}{us:Array Value}{Q:Value->Shared->Prop}(hh:A.handled=none)(ii:s.heap.IsTupleIter i0 a i)(ha:s.heap.IsTuple a us)(hx:us[i]?=none)
  (q:∀h' e,Heap.ExtBut i0 s.heap h'->(∃o,h'.get? e=some o/\o.cls=.type "StopIteration")->E (.ref e) {s with heap:=h' }):wpAny (model prog w) A (Builtin.SmallTypes.nextOf (.ref i0)) Q E s:=by
 obtain⟨oi,ei,ci,di⟩:=id ii;obtain⟨oa,ea,_,na,da⟩:=ha;unfold Builtin.SmallTypes.nextOf;refine wpAny_bind (wpAny_callSpecial?_slot (name:=Str.ofString "__next__") ii.typeIs F.slot_tuple_iterator_next (wpAny_call_entry F.slot_tuple_iterator_next ii.typeIs F.entry_tuple_iterator_next ?_ (F.args_tuple_iterator_next_1 _)));show wpAny _ _ (field (.ref i0) 0 >>= _) _ _ s;refine wpAny_bind (wpAny_field ei di (x:=.ref a) rfl ?_);show wpAny _ _ (if(Value.ref a==Value.none)=true then _ else _) _ _ s;rw[if_neg (show ¬ ((Value.ref a==Value.none)=true) from HR)];show wpAny _ _ (field (.ref i0) 1 >>= _) _ _ s;refine wpAny_bind (wpAny_field ei di (x:=.int i 0) rfl ?_);show wpAny _ _ (seqItems? (.ref a) >>= _) _ _ s;refine wpAny_bind (wpAny_seqItems ea da ?_);simp only[Hv,hx];refine wpAny_bind (wpAny_rule (wpAny_bind (wpAny_setField ei di (by simp) ?_)));show wpAny _ _ (newExc (.type "StopIteration") [] >>= _) _ _ _;refine wpAny_bind ?_;simp only[newExc,newTuple];refine wpAny_bind (wpAny_newObj_type ?_ (by size_fits));refine wpAny_bind (m:=firstArgMember _ _) (wpAny_of_eq (a:=Value.none) (by first | rfl | (simp only[firstArgMember];rfl)) ?_);refine wpAny_newObj_type ?_ (by size_fits);simp only[raiseNew];refine wpAny_bind (wpAny_handled ?_)
 first | rw[show A.in1.handled=none from hh] | rw[hh]
 refine wpAny_bind (wpAny_pure (wpAny_throw ?_));exact q _ _ (((Heap.SameBut.update ..).extBut.push _).push _) ⟨_,Hs _ rfl,rfl⟩
end
theorem yH{prog:Program}{w:World}{A:Around}(hh:A.handled=none)(i0 a:Addr)(hne:a≠i0)(us:Array Value) :
  Draws prog w A i0 [i0,a] us.size (fun i v=>us[i]?=some v) (fun i h=>h.IsTupleIter i0 a i/\h.IsTuple a us) where
 live:=fun _ _ st=>let ⟨o,ho,_⟩:=st.1;⟨o,ho⟩
 frame:=fun _ _ _ st kp=>⟨by obtain⟨o,ho,r⟩:=st.1;exact⟨o,kp i0 (by simp) o ho,r⟩,by obtain⟨o,ho,r⟩:=st.2;exact⟨o,kp a (by simp) o ho,r⟩⟩
 item:=fun i s Q E hi st q=>by
  refine v8 st.1 st.2 (x:=us[i]) (by simp[hi]) fun h' i1 sb=>?_;refine q _ h' s.toks (by simp[hi]) ⟨i1,?_⟩ sb;obtain⟨o,ho,r⟩:=st.2;exact⟨o,(sb.2 a hne).trans ho,r⟩
 done:=fun s Q E st q=>xQ hh st.1 st.2 (by simp) q
noncomputable def CQ(K:PySem.W.Frag)(a:Addr):It:=
 ⟨fun i H=>∃xs x,bd K H a xs/\xs[i]?=some x,fun i H v H'=>∃T x,v=.ref T/\H T=none/\H'=aB H T (.tup [.int (i:Int),x])/\∀xs,bd K H a xs->xs[i]?=some x,fun i H=>∃xs,bd K H a xs/\xs.length=i⟩
theorem u8{P:Program}{w:World}{K:PySem.W.Frag}{elts:List Expr}{x1:Nat}{tp:Pos}{e it l:Addr}(hei:e≠it)(hel:l≠e)(hil:l≠it) :
  oq P w K (.Tuple elts x1 tp) (CQ K l) [e,it] e (fun i h=>(∃old,IsEnum h e it i old)/\h.IsTupleIter it l i) where
 mem:=by simp
 obj:=fun i h st b hb=>by
  obtain⟨⟨old,he⟩,⟨o1,e1,c1,d1⟩⟩:=st;simp only[HF,List.not_mem_nil,or_false]at hb;rcases hb with rfl | rfl
  ·exact⟨_,he,fun v q=>by cases q⟩
  ·exact⟨_,e1,fun v q=>by rw[d1]at q;cases q⟩
 keep:=fun i h h' st hk=>by
  obtain⟨⟨old,he⟩,⟨o1,e1,r⟩⟩:=st;exact⟨⟨old,hk e (by simp) _ he⟩,⟨o1,hk it (by simp) _ e1,r⟩⟩
 item:=by
  intro X hP hw hK hc i pins s σ H E I hf st hg;subst hP hw hK;obtain⟨xs,x,hq,hx⟩:=hg;obtain⟨its,rv,p,hz⟩:=I.tuple hq;obtain⟨u,hu,ru⟩:=rv.get hx;obtain⟨⟨old,he⟩,h1⟩:=st;obtain⟨o1,e1,_⟩:=id h1;have D:=yH (prog:=X.prog) (w:=X.w) (A:=X.A.in1) (I.ok.hd hc) it l hil its.toArray;have hlt:i<its.toArray.size:=by rw[Ht];exact(Hk.mp hu).1
  refine wpAny_pyNext_enum_itemD D he ⟨h1,p⟩ hlt hei (by simp[hei,Ne.symm hel]) fun v h' tk hv a1 a2 a3 a4 hk=>?_;have ev:v=u:=by
   have:its[i]?=some v:=by simpa using hv
   rw[hu]at this;exact(Option.some.inj this).symm
  subst ev;refine⟨_,rfl,wpAny_letOwnedTupleGo_enum a1 fun h2 he2 hs2=>?_⟩;have hfree:H s.heap.objs.size=none:=I.hok.fresh (HP _);have lt:∀{c o},s.heap.get? c=some o->s.heap.objs.size≠c:=fun e=>Nat.ne_of_gt (HS e);have kk:∀c o,c∉[e,it]->s.heap.get? c=some o->h2.get? c=some o:=fun c o hc q=>
   hs2.extBut _ _ (fun z=>hc (by simp[z])) (hk c o (fun z=>hc (by simp[z])) (fun z=>hc (by simp[z])) q)
  have hT:h2.get? s.heap.objs.size=some {cls:=.type "tuple",data:=.seq #[.int i tk,v]}:=hs2.extBut _ _ (lt he) a3;refine⟨.ref s.heap.objs.size,aB H s.heap.objs.size (.tup [.int i,x]),I.movedT (tk:=tk+1) hf kk (HP _) ⟨show 2<=sizeLine from by decide +kernel,[.int i tk,v],.cons ⟨_,rfl⟩ (.cons ru .nil),_,hT,rfl,_,rfl⟩,rfl,
   ⟨_,x,rfl,hfree,rfl,fun zs hzs=>by rw[I.tuple_inj hzs hq];exact hx⟩,⟨⟨v,by simpa using he2⟩,?_⟩,fun b hb=>?_⟩
  ·obtain⟨o2,e2,r⟩:=a2.1
   exact⟨o2,hs2.extBut _ _ (Ne.symm hei) e2,r⟩
  have hlt:b≠s.heap.objs.size:=by
   simp only[HF,List.not_mem_nil,or_false]at hb;rcases hb with rfl | rfl
   ·exact(lt he).symm
   ·exact(lt e1).symm
  rw[ai hlt];exact(hf b hb).1
 done:=by
  intro X hP hw hK hc i pins s σ H E I hf st hg;subst hP hw hK;obtain⟨xs,hq,hx⟩:=hg;obtain⟨its,rv,p,hz⟩:=I.tuple hq;obtain⟨⟨old,he⟩,h1⟩:=st;have l1:=rv.length;have D:=yH (prog:=X.prog) (w:=X.w) (A:=X.A.in1) (I.ok.hd hc) it l hil its.toArray;have ei:i=its.toArray.size:=by rw[Ht];omega
  subst ei;exact wpAny_pyNext_enum_endD D he ⟨h1,p⟩ fun h' hk=>⟨rfl,I.moved (tk:=s.toks) hf fun c o hc e=>hk c o (fun q=>hc (by simp[q])) e⟩
 self:=fun _ _ _ _ _ st h=>let ⟨⟨_,he⟩,_⟩:=st;wpAny_pyIter_enum he h
noncomputable def vc(K:PySem.W.Frag)(ta:TA):TI:=fun σ H R=>ta σ H fun vs H1=>∃a xs,vs=[.ref a]/\bd K H1 a xs/\R (CQ K a) H1
section
variable {X:Cx}{elts:List Expr}{x1:Nat}{tp:Pos}
theorem Ac{a:Expr}{ta:TA}{p pos:Pos}(hg:Gl X "enumerate")(hm:X.mg "enumerate"=none)(ha:PA X [a] ta)(hs:starEach [a] X.env=[(false,eval a X.env)]:=by rfl):PI X (.Tuple elts x1 tp) (.Call (.Name "enumerate" p) [a] [] pos) (vc X.K ta):=by
 intro pins s σ H R I h;refine Call_ (bY I hg hm boot_enumerate (PyProof.Rows.callWith_type1 (bF (ha pos pins s σ H _ I h) fun us s1 ⟨vs,H1,I1,r1,q1⟩=>?_) (by rw[hs];rfl) (by rfl)));obtain⟨l,xs,rfl,hq,q⟩:=q1;obtain⟨u,rfl,ru⟩:=r1.one;cases ru;obtain⟨its,rv,p1,_⟩:=I1.tuple hq;have hll:l<s1.heap.objs.size:=by obtain⟨o,e,_⟩:=p1;exact HS e
 refine v3 p1 fun h' z1 z2 hk=>?_;have I2:Inv X pins σ H1 {s1 with heap:=h' }:=I1.kept (t':=s1.toks) hk;refine wpAny_pyIter_enum z1 ?_;refine⟨s1.heap.objs.size+1,[s1.heap.objs.size+1,s1.heap.objs.size],_,_,H1,rfl,I2,u8 (l:=l) (Nat.ne_of_gt (H_ _)) (HK (Nat.lt_succ_of_lt hll)) (HK hll),⟨⟨_,z1⟩,z2⟩,fun b hb=>?_,q⟩;have hb':s1.heap.objs.size<=b:=by
  simp only[HF,List.not_mem_nil,or_false]at hb;rcases hb with e | e<;>(rw[e];first | exact HP _ | exact Nat.le_add_right _ _)
 exact I1.fpOk hb' (I1.hok.fresh hb')
end
section
variable {K:PySem.W.Frag}{g:TG}{tb:TS}{D:jf}{σ:St}{H:Hp}
theorem vf{a:Addr}{xs:List V}(Pv:Nat->St->Hp->Prop)(h0:Pv 0 σ H)(hl:∀i σ H,i<=xs.length->Pv i σ H->bd K H a xs)
  (hs:∀(i:Nat) x σ H T,xs[i]?=some x->Pv i σ H->H T=none->g (.ref T) σ (aB H T (.tup [.int (i:Int),x])) fun σ2 H2=>tb {D with nx:=Pv (i+1),ct:=Pv (i+1),bk:=D.nx} σ2 H2) (hd:∀σ H,Pv xs.length σ H->D.nx σ H):ua (CQ K a) g tb D σ H:=by
 refine⟨fun i m σ H=>m=xs.length-i/\i<=xs.length/\Pv i σ H,⟨xs.length,by simp,HQ _,h0⟩,?_⟩;rintro i m σ H ⟨rfl,hi,p⟩;have q:=hl i σ H hi p
 by_cases hlt:i<xs.length
 ·refine .inr ⟨⟨xs,xs[i],q,by simp[hlt]⟩,Pv (i+1),fun σ' H' p'=>⟨xs.length-(i+1),by omega,rfl,hlt,p'⟩,fun x H' y=>?_⟩
  obtain⟨T,x,rfl,hT,rfl,y⟩:=y;exact hs i x σ _ T (y xs q) p hT
 ·have e:i=xs.length:=by omega
  subst e;exact .inl ⟨⟨xs,q,rfl⟩,hd σ H p⟩
end
theorem lz:Slot "reversed" "__next__" "reversed.__next__":=
 .of (owner:="reversed") (n:="__next__") (by rw[typeLookup_type,builtinLookup_eq_fast];kernel_rfl) (by decide +kernel) (by decide +kernel) (by decide +kernel) (by first | exact .inl (by decide +kernel) | exact .inr (by decide +kernel)) (by rw[isSubtype_type];kernel_rfl)
theorem wv:Slot "reversed" "__iter__" "reversed.__iter__":=
 .of (owner:="reversed") (n:="__iter__") (by rw[typeLookup_type,builtinLookup_eq_fast];kernel_rfl) (by decide +kernel) (by decide +kernel) (by decide +kernel) (by first | exact .inl (by decide +kernel) | exact .inr (by decide +kernel)) (by rw[isSubtype_type];kernel_rfl)
theorem BP:Slot "reversed" "__init__" "object.__init__":=
 .of (owner:="object") (n:="__init__") (by rw[typeLookup_type,builtinLookup_eq_fast];kernel_rfl) (by decide +kernel) (by decide +kernel) (by decide +kernel) (by first | exact .inl (by decide +kernel) | exact .inr (by decide +kernel)) (by rw[isSubtype_type];kernel_rfl)
theorem se:Slot "reversed" "__length_hint__" "reversed.__length_hint__":=
 .of (owner:="reversed") (n:="__length_hint__") (by rw[typeLookup_type,builtinLookup_eq_fast];kernel_rfl) (by decide +kernel) (by decide +kernel) (by decide +kernel) (by first | exact .inl (by decide +kernel) | exact .inr (by decide +kernel)) (by rw[isSubtype_type];kernel_rfl)
theorem qJ:entryFor table "reversed.__next__"=some Builtin.«reversed.__next__»:=entryFor_of_tree (by kernel_rfl)
theorem yo:entryFor table "reversed.__length_hint__"=some Builtin.«reversed.__length_hint__»:=entryFor_of_tree (by kernel_rfl)
theorem qP(a:Value):argsOk "reversed.__next__" ⟨[a],[]⟩:=by unfold argsOk;kernel_rfl
theorem w_(a:Value):argsOk "reversed.__iter__" ⟨[a],[]⟩:=by unfold argsOk;kernel_rfl
theorem xc(a:Value):argsOk "reversed.__length_hint__" ⟨[a],[]⟩:=by unfold argsOk;kernel_rfl
theorem x9:entryFor table "reversed.__iter__"=some Builtin.«dict_keyiterator.__iter__»:=
 entryFor_alias (id':="dict_keyiterator.__iter__") (by kernel_rfl) (by first | rfl | decide +kernel | (unfold String.splitOn;simp +decide [String.splitOnAux])) (by decide +kernel) (by kernel_rfl)
theorem yl:TypeCalled "reversed" "reversed.__new__" "object.__init__":=
 ⟨by decide +kernel,by decide +kernel,⟨_,_,F.mro_reversed⟩,F.made_reversed,by decide +kernel,by rw[isSubtype_type];kernel_rfl,BP⟩
theorem xL:typeLookup (.type "tuple") "__reversed__"=pure none:=by rw[typeLookup_type,builtinLookup_eq_fast];kernel_rfl
theorem u_:isSubtype (.type "tuple") (.type "dict")=pure false:=by rw[isSubtype_type];kernel_rfl
noncomputable abbrev A5(a:Addr)(i:Int):Obj:={cls:=.type "reversed",data:=.fields #[.ref a,rawInt i]}
section
variable {prog:Program}{w:World}{A:Around}{E:Value->Shared->Prop}{s:Shared}
set_option maxHeartbeats 1000000 in
theorem yB(a:Addr)(us:Array Value)(n:Nat)(dd:Option Addr)(ss:Array (Option Value)) :
  Meets (Builtin.«reversed.__new__» ⟨[.type "reversed",.ref a],[]⟩) (fun _ R s=>s.heap.get? a=some {cls:=.type "tuple",dict:=dd,data:=.seq us n,slots:=ss}/\(us.size:Int)<2 ^ 63/\∀tk,R (.ok (.ret (.ref s.heap.objs.size))) {s with heap:=s.heap.push (A5 a ((us.size:Int)-1)),toks:=tk}):=
 .of_wp fun prog w A R s h=>by
  obtain⟨h0,g0,d0,t0,o0⟩:=s;obtain⟨ea,hz,h⟩:=h;have isT:IsTup (Shared.heap ⟨h0,g0,d0,t0,o0⟩) a us:=⟨_,ea,rfl,n,rfl⟩;have ty:Shared.TypeIs ⟨h0,g0,d0,t0,o0⟩ (.ref a) "tuple":=⟨_,ea,rfl⟩;unfold Builtin.«reversed.__new__»;refine wpAny_bind (wpAny_of_eq (newClass_reversed _) ?_)
  try dsimp only
  refine wpAny_bind (wpAny_of_eq (a:=()) (by first | rfl | kernel_rfl) ?_);refine wpAny_bind (wpAny_of_eq (a:=()) (by first | rfl | kernel_rfl) ?_)
  try dsimp only
  refine wpAny_bind (wpAny_specialOf ty xL ?_)
  try dsimp only
  refine wpAny_bind ?_
  wp_delta
  refine wpAny_bind (wpAny_isInstance (b:=false) ty u_ ?_);rw[if_neg (by decide)];refine wpAny_bind (wpAny_specialOf ty F.slot_tuple_getitem.lookup ?_)
  try dsimp only
  rw[if_pos (by decide)];refine wpAny_pure ?_;rw[if_neg (by decide)];refine wpAny_bind (len_tuple isT hz ?_);refine wpAny_bind (wpAny_of_eq (a:=some (us.size:Int)) rfl ?_)
  try dsimp only
  unfold Builtin.SmallTypes.newRecord;refine wpAny_bind (wpAny_newObj_type (wpAny_pure ⟨_,rfl,h _⟩))
theorem xU{a:Addr}{us:Array Value}{Q:Value->Shared->Prop}(ha:s.heap.IsTuple a us)(hz:(us.size:Int)<2 ^ 63)
  (q:∀tk,Q (.ref s.heap.objs.size) {s with heap:=s.heap.push (A5 a ((us.size:Int)-1)),toks:=tk}):wpAny (model prog w) A (call (.type "reversed") [.ref a]) Q E s:=by
 obtain⟨⟨c,dd,dt,ss⟩,ea,ec,n,ed⟩:=ha;simp only at ec ed;subst ec ed;refine callType_new yl (by decide) (F.typeCall_reversed_1 _) (F.newCall_reversed_1 _) (fun ob=>F.args_object_init_2 ob _) F.entry_reversed_new (yB a us n dd ss) ⟨ea,hz,fun tk=>?_⟩;exact⟨⟨_,Hs _ rfl,rfl⟩,q tk⟩
noncomputable def eJ(h:Heap)(r a:Addr)(i:Int):Prop:=∃o,h.get? r=some o/\o.cls=.type "reversed"/\o.data=.fields #[.ref a,rawInt i]
theorem eJ.ty{r a:Addr}{i:Int}(x:eJ s.heap r a i):s.TypeIs (.ref r) "reversed":=let ⟨o,e,c,_⟩:=x;⟨o,e,c⟩
theorem xA{r a:Addr}{i:Nat}{us:Array Value}{x:Value}{Q:Option Value->Shared->Prop}(ir:eJ s.heap r a (i:Int))(ha:s.heap.IsTuple a us)(hx:us[i]?=some x)(hz:us.size<2 ^ 62)
  (q:∀h' tk,eJ h' r a ((i:Int)-1)->Heap.SameBut r s.heap h'->Q (some x) {s with heap:=h',toks:=tk}):wpAny (model prog w) A (pyNext (.ref r)) Q E s:=by
 obtain⟨orr,er,cr,dr⟩:=id ir;unfold pyNext;refine wpAny_bind (wpAny_attempt (wpAny_callSpecial?_slot (name:=Str.ofString "__next__") ir.ty lz (wpAny_call_entry lz ir.ty qJ ?_ (qP _))));unfold Builtin.«reversed.__next__»;refine wpAny_bind (wpAny_of_eq (a:=(Value.ref r,[])) rfl ?_)
 try dsimp only
 refine wpAny_bind (wpAny_field er dr (x:=.ref a) rfl ?_);refine wpAny_bind (wpAny_field er dr (x:=rawInt (i:Int)) rfl ?_);show wpAny _ _ (if(i:Int)<0 then _ else _) _ _ s;rw[if_neg (by omega)];have ty:s.TypeIs (.ref a) "tuple":=by obtain⟨o,e,c,_⟩:=ha;exact⟨o,e,c⟩
 refine wpAny_bind (wpAny_specialOf ty F.slot_tuple_getitem.lookup ?_);rw[if_neg (by decide)];refine wpAny_bind (wpAny_mkInt ?_);have hi:i<us.size:=(Array.getElem?_eq_some_iff.mp hx).1;have e62:(2:Nat) ^ 62=4611686018427387904:=by decide
 have e63:(2:Int) ^ 63=9223372036854775808:=by decide
 rw[e62]at hz;refine wpAny_bind (wpAny_attempt (getItem_tuple (k:=(i:Int)) (j:=i) (x:=x) (show IsTup s.heap a us from ha) ?_ ?_ ?_ ?_ ?_))
 ·rw[e63];omega
 ·rw[e63];omega
 ·unfold seqIndex?
  simp;omega
 ·exact hx
 ·dsimp only
  refine wpAny_bind (wpAny_field er dr (x:=rawInt (i:Int)) rfl ?_);show wpAny _ _ (setField (Value.ref r) 1 (rawInt ((i:Int)-1)) >>= _) _ _ _;refine wpAny_bind (wpAny_setField er dr (by simp) (wpAny_pure ⟨x,rfl,wpAny_pure (q _ _ ?_ (Heap.SameBut.update ..))⟩));exact⟨_,Hw _ er (Obj.isFreed_of_fields (Obj.data_mapFields dr _)),(Obj.cls_mapFields ..).trans cr,by rw[Obj.data_mapFields dr];simp[rawInt]⟩
theorem yD{r a:Addr}{Q:Option Value->Shared->Prop}(hh:A.handled=none)(ir:eJ s.heap r a (-1))(q:∀h',Heap.ExtBut r s.heap h'->Q none {s with heap:=h' }):wpAny (model prog w) A (pyNext (.ref r)) Q E s:=by
 obtain⟨orr,er,cr,dr⟩:=id ir;unfold pyNext;refine wpAny_bind (wpAny_attempt (wpAny_callSpecial?_slot (name:=Str.ofString "__next__") ir.ty lz (wpAny_call_entry lz ir.ty qJ ?_ (qP _))));unfold Builtin.«reversed.__next__»;refine wpAny_bind (wpAny_of_eq (a:=(Value.ref r,[])) rfl ?_)
 try dsimp only
 refine wpAny_bind (wpAny_field er dr (x:=.ref a) rfl ?_);refine wpAny_bind (wpAny_field er dr (x:=rawInt (-1)) rfl ?_);show wpAny _ _ (if(-1:Int)<0 then _ else _) _ _ s;rw[if_pos (by decide)];refine wpAny_bind (wpAny_rule ?_);refine wpAny_bind ?_
 wp_delta
 refine wpAny_bind (wpAny_setField er dr (by simp) ?_);have er2:=Hw (Obj.mapFields fun x=>x.setIfInBounds 1 (rawInt (-1))) er (Obj.isFreed_of_fields (Obj.data_mapFields dr _));have dr2:(Obj.mapFields (fun x=>x.setIfInBounds 1 (rawInt (-1))) orr).data=.fields #[.ref a,rawInt (-1)]:=by rw[Obj.data_mapFields dr];simp
 refine wpAny_setField er2 dr2 (by simp) ?_;refine wpAny_bind ?_;unfold Builtin.SmallTypes.stopIteration;show wpAny _ _ (newExc (.type "StopIteration") [] >>= _) _ _ _;refine wpAny_bind ?_;simp only[newExc,newTuple];refine wpAny_bind (wpAny_newObj_type ?_ (by size_fits));refine wpAny_bind (m:=firstArgMember _ _) (wpAny_of_eq (a:=Value.none) (by first | rfl | (simp only[firstArgMember];rfl)) ?_);refine wpAny_newObj_type ?_ (by size_fits);simp only[raiseNew];refine wpAny_bind (wpAny_handled ?_)
 first | rw[show A.in1.handled=none from hh] | rw[hh]
 refine wpAny_bind (wpAny_pure (wpAny_throw ?_));refine wpAny_bind (wpAny_isInstance (T:="StopIteration") (b:=true) ⟨_,Hs _ rfl,rfl⟩ isSubtype_stop ?_);refine wpAny_pure (q _ fun b o hb e=>?_);exact Hl _ (Hl _ ((Hr _ _ (Ne.symm hb)).trans ((Hr _ _ (Ne.symm hb)).trans e)))
theorem rC{r a:Addr}{i:Int}{Q:Value->Shared->Prop}(ir:eJ s.heap r a i)(q:Q (.ref r) s):wpAny (model prog w) A (pyIter (.ref r)) Q E s:=by
 refine wpAny_pyIter_slot ir.ty wv (wpAny_call_entry wv ir.ty x9 ?_ (w_ _));show wpAny _ _ (ret (.ref r)) _ _ s;exact wpAny_pure ⟨_,rfl,"reversed",_,ir.ty,lz.lookup,q⟩
end
theorem va{prog:Program}{w:World}{A:Around}(hh:A.handled=none)(r a:Addr)(hne:a≠r)(us:Array Value)(hz:us.size<2 ^ 62) :
  Walks prog w A r [r,a] [r] us.size (fun i v=>us[us.size-1-i]?=some v) (fun i h=>i<=us.size/\eJ h r a ((us.size:Int)-1-(i:Int))/\h.IsTuple a us) where
 sub:=fun b hb=>by simp at hb;simp[hb]
 frame:=fun _ _ _ x kp=>⟨x.1,by obtain⟨o,e,rr⟩:=x.2.1;exact⟨o,kp r (by simp) o e,rr⟩,by obtain⟨o,e,rr⟩:=x.2.2;exact⟨o,kp a (by simp) o e,rr⟩⟩
 item:=fun i s Q E hi x q=>by
  have e1:(us.size:Int)-1-(i:Int)=((us.size-1-i:Nat):Int):=by omega
  have ir:=x.2.1;rw[e1]at ir;have hx:us[us.size-1-i]?=some (us[us.size-1-i]'(by omega)):=Array.getElem?_eq_getElem (by omega);refine xA ir x.2.2 hx hz fun h' tk ir' sb=>?_;have e2:((us.size-1-i:Nat):Int)-1=(us.size:Int)-1-((i+1:Nat):Int):=by omega
  rw[e2]at ir';refine q _ h' tk hx ⟨hi,ir',?_⟩ fun b o hb eo=>(sb.2 b (fun z=>hb (by simp[z]))).trans eo;obtain⟨o,eo,rr⟩:=x.2.2;exact⟨o,(sb.2 a hne).trans eo,rr⟩
 done:=fun s Q E x q=>by
  have e1:(us.size:Int)-1-(us.size:Int) = -1:=by omega
  have ir:=x.2.1;rw[e1]at ir;exact yD hh ir fun h' ex=>q h' s.toks fun b o hb eo=>ex b o (fun z=>hb (by simp[z])) eo
 self:=fun _ _ _ _ x q=>rC x.2.1 q
theorem Ah:typeLookup (.type "reversed") "__len__"=pure none:=by rw[typeLookup_type,builtinLookup_eq_fast];kernel_rfl
section
variable {prog:Program}{w:World}{A:Around}{E:Value->Shared->Prop}{s:Shared}
theorem yj{r a:Addr}{i:Nat}{us:Array Value}{Q:Value->Shared->Prop}(ir:eJ s.heap r a ((i:Int)-1))(ha:s.heap.IsTuple a us)(hi:i<=us.size)(hz:us.size<2 ^ 62)
  (q:∀t tk,Q (.int (i:Int) t) {s with toks:=tk}):wpAny (model prog w) A (call (.builtin "reversed.__length_hint__") [.ref r]) Q E s:=by
 obtain⟨orr,er,cr,dr⟩:=id ir;have e62:(2:Nat) ^ 62=4611686018427387904:=by decide
 have e63:(2:Int) ^ 63=9223372036854775808:=by decide
 rw[e62]at hz;refine wpAny_call_entry se ir.ty yo ?_ (xc _);unfold Builtin.«reversed.__length_hint__»;refine wpAny_bind (wpAny_of_eq (a:=Value.ref r) rfl ?_);refine wpAny_bind (wpAny_field er dr (x:=.ref a) rfl ?_);rw[if_neg (show ¬ ((Value.ref a==Value.none)=true) from HR)];refine wpAny_bind (len_tuple (show IsTup s.heap a us from ha) (by rw[e63];omega) ?_);refine wpAny_bind (wpAny_of_eq (a:=some (us.size:Int)) rfl ?_)
 try dsimp only
 refine wpAny_bind (wpAny_field er dr (x:=rawInt ((i:Int)-1)) rfl ?_);show wpAny _ _ (if(us.size:Int)<(i:Int)-1+1 then _ else _) _ _ _;rw[if_neg (by omega)];have e1:(i:Int)-1+1=(i:Int):=by omega
 rw[e1];refine wpAny_bind (wpAny_mkInt (wpAny_pure ⟨_,rfl,q _ _⟩))
set_option maxHeartbeats 1000000 in
theorem v7{r a:Addr}{i:Nat}{us:Array Value}{Q:Bool->Shared->Prop}(ir:eJ s.heap r a ((i:Int)-1))(ha:s.heap.IsTuple a us)(hi:i<=us.size)(hz:us.size<=sizeLine)
  (q:∀b tk,Q b {s with toks:=tk}):wpAny (model prog w) A (Builtin.List.listLengthHint (.ref r)) Q E s:=by
 unfold Builtin.List.listLengthHint;refine wpAny_bind (wpAny_specialOf ir.ty Ah ?_)
 try dsimp only
 rw[if_neg (by decide),if_neg (by decide)];refine wpAny_bind (wpAny_specialOf ir.ty se.lookup ?_);have sp:splitId "reversed.__length_hint__"=some ("reversed","__length_hint__"):=by decide +kernel
 dsimp only;rw[sp];dsimp only;refine wpAny_bind (wpAny_isInstance (b:=true) ir.ty (by rw[isSubtype_type];kernel_rfl) ?_);rw[if_neg (by decide),if_neg (by decide +kernel)];refine wpAny_bind (wpAny_rule ?_);refine wpAny_bind (wpAny_of_eq (se.bind _) ?_);have h62:us.size<2 ^ 62:=Ih hz (by decide +kernel);refine wpAny_bind (wpAny_attempt (yj ir ha hi h62 fun t tk=>?_));dsimp only;have zs:sizeLine<2 ^ 62:=by decide +kernel
 have e62:(2:Nat) ^ 62=4611686018427387904:=by decide
 have e63:(2:Int) ^ 63=9223372036854775808:=by decide
 rw[e62]at zs;have z0:(0:Int)<=(i:Int):=by omega
 have z1:(i:Int)<=(sizeLine:Int):=by omega
 have z2:(i:Int).toNat<=sizeLine:=by omega
 generalize(i:Int)=zi at z0 z1 z2 ⊢;refine wpAny_bind (wpAny_pure ?_);show wpAny _ _ (if(!Builtin.List.listFitsIndex zi)=true then _ else _) _ _ _;rw[fitsIndex_both (by rw[e63];omega) (by rw[e63];omega),if_neg (by decide),if_neg (by omega),ut z2,if_neg (by decide)];exact wpAny_pure (q _ _)
set_option maxHeartbeats 1000000 in
theorem uq{R:Result->Shared->Prop}{r a B:Addr}{us:Array Value}{c:Nat}(hh:A.handled=none)(ir:eJ s.heap r a ((us.size:Int)-1))(ha:s.heap.IsTuple a us)(hz:us.size<=sizeLine)(hra:a≠r)(hB:s.heap.get? B=some {cls:=.type "list",data:=.seq #[] c})(hBr:B≠r)(hBa:B≠a)
  (q:∀h' tk acc c',(∀b o,b≠B->b≠r->s.heap.get? b=some o->h'.get? b=some o)->h'.get? B=some {cls:=.type "list",dict:=none,data:=.seq acc c',slots:=#[]}->ItemsOf (fun i v=>us[us.size-1-i]?=some v) acc us.size->R (.ok (.ret .none)) {s with heap:=h',toks:=tk}) :
  wpAny (model prog w) A.in1 (Builtin.List.listExtendWith (.ref B) (.ref r) .none)
   (fun fin s'=>match fin with | .done f=>R (.ok f) s' | .again c'=>c'.quiet=true/\codeAny (model prog w) A c' R s') (fun e s'=>R (.error e) s') s:=by
 have W:=va (prog:=prog) (w:=w) (A:=A.in1) hh r a hra us (Ih hz (by decide +kernel));have Fv:0<=us.size/\eJ s.heap r a ((us.size:Int)-1-((0:Nat):Int))/\s.heap.IsTuple a us:=⟨HQ _,by simpa using ir,ha⟩;have hBf:B∉[r,a]:=by simp[hBr,hBa]
 unfold Builtin.List.listExtendWith;refine wpAny_bind (wpAny_typeOf ir.ty ?_);have k1:Builtin.List.listSameRef (.ref B) (.ref r)=false:=by simp[Builtin.List.listSameRef,hBr]
 rw[if_neg (by rw[k1];decide)];refine wpAny_bind (rC ir ?_);refine wpAny_bind (wpAny_holding (v7 (i:=us.size) ir ha (HP _) hz fun b tk=>?_));have loop:∀(h2:Heap) (tk2 c2:Nat),(∀b o,b≠B->s.heap.get? b=some o->h2.get? b=some o)->h2.get? B=some {cls:=.type "list",data:=.seq #[] c2} ->
   codeAny (model prog w) A (.builtin "list.extend.loop" ⟨[.ref B,.ref r,.none],[]⟩) R {s with heap:=h2,toks:=tk2}:=by
  intro h2 tk2 c2 kp eB;have st2:=W.frame 0 s.heap h2 Fv fun b hb o e=>kp b o (fun z=>hBf (z▸hb)) e;refine codeAny_extend_loopS W.toS hz _ hBf _ us.size 0 {s with heap:=h2,toks:=tk2} _ _ rfl (HQ _) st2 eB (ItemsOf.nil _) fun s' acc' c' hm hB' hacc=>?_;rw[Moved.eq_with hm];refine q s'.heap s'.toks acc' c' (fun b o n1 n2 e=>hm.heap b o (fun z=>?_) (kp b o n1 e)) hB' hacc;simp only[HF,List.not_mem_nil,or_false]at z;rcases z with z | z
  ·exact n1 z
  ·exact n2 z
 cases b with
 |false=>
  rw[if_neg (by decide +kernel)];exact wpAny_pure ⟨plainId_quiet F.plain_extend_loop _,loop s.heap tk c (fun b o _ e=>e) hB⟩
 |true=>
  rw[if_pos (by rfl)];refine wpAny_bind (wpAny_rule (wpAny_bind ?_));unfold Builtin.List.listTouch;show wpAny _ _ (updateSeq B (fun x=>x.push .none) >>= fun _=>updateSeq B (fun x=>x.pop)) _ _ _;refine wpAny_bind (wpAny_updateSeq hB rfl ?_);have eB1:=Hw (Obj.mapSeq (fun x:Array Value=>x.push Value.none)) hB rfl;refine wpAny_updateSeq eB1 rfl ?_;have eB2:=Hw (Obj.mapSeq (fun x:Array Value=>x.pop)) eB1 rfl;refine wpAny_pure ⟨plainId_quiet F.plain_extend_loop _,loop _ tk _ (fun b o n1 e=>?_) eB2⟩;exact(Hr _ _ (Ne.symm n1)).trans ((Hr _ _ (Ne.symm n1)).trans e)
theorem xx{R:Result->Shared->Prop}{r a B:Addr}{us:Array Value}(hh:A.handled=none)(ir:eJ s.heap r a ((us.size:Int)-1))(ha:s.heap.IsTuple a us)(hz:us.size<=sizeLine)(hra:a≠r)(hB:s.heap.get? B=some {cls:=.type "list",data:=.seq #[]})(hBr:B≠r)(hBa:B≠a)
  (q:∀h' tk acc c',(∀b o,b≠B->b≠r->s.heap.get? b=some o->h'.get? b=some o)->h'.get? B=some {cls:=.type "list",dict:=none,data:=.seq acc c',slots:=#[]}->ItemsOf (fun i v=>us[us.size-1-i]?=some v) acc us.size->R (.ok (.ret .none)) {s with heap:=h',toks:=tk}) :
  wpAny (model prog w) A.in1 (Builtin.«list.__init__» ⟨[.ref B,.ref r],[]⟩)
   (fun fin s'=>match fin with | .done f=>R (.ok f) s' | .again c'=>c'.quiet=true/\codeAny (model prog w) A c' R s') (fun e s'=>R (.error e) s') s:=by
 show wpAny _ _ (do let old <- Builtin.List.listItems (.ref B);Builtin.List.listUpdate (.ref B) (fun _=>#[]);letGo old.toList.reverse;Builtin.List.listExtendWith (.ref B) (.ref r) .none) _ _ s;refine wpAny_bind ?_;unfold Builtin.List.listItems;refine wpAny_bind (wpAny_seqItems hB rfl (wpAny_pure ?_));show wpAny _ _ (updateSeq B (fun _=>#[]) >>= fun _=>letGo (#[]:Array Value).toList.reverse >>= fun _=>Builtin.List.listExtendWith (.ref B) (.ref r) .none) _ _ s;refine wpAny_bind (wpAny_updateSeq hB rfl ?_);have eB:=Hw (Obj.mapSeq (fun _=>(#[]:Array Value))) hB rfl;have kp:∀b o,b≠B->s.heap.get? b=some o->(s.heap.update B (Obj.mapSeq (fun _=>(#[]:Array Value)))).get? b=some o:=fun b o n e=>(Hr _ _ (Ne.symm n)).trans e;refine wpAny_bind (wpAny_letGo ?_);refine uq hh ?_ ?_ hz hra eB hBr hBa fun h' tk acc c' hk hB' hacc=>q h' tk acc c' (fun b o n1 n2 e=>hk b o n1 n2 (kp b o n1 e)) hB' hacc
 ·obtain⟨o,e,rr⟩:=ir;exact⟨o,kp r o (Ne.symm hBr) e,rr⟩
 ·obtain⟨o,e,rr⟩:=ha;exact⟨o,kp a o (Ne.symm hBa) e,rr⟩
theorem pV{r a:Addr}{us:Array Value}{Q:Value->Shared->Prop}(hh:A.handled=none)(ir:eJ s.heap r a ((us.size:Int)-1))(ha:s.heap.IsTuple a us)(hz:us.size<=sizeLine)(hra:a≠r)
  (q:∀h' tk acc c',(∀b o,b≠r->s.heap.get? b=some o->h'.get? b=some o)->h'.get? s.heap.objs.size=some {cls:=.type "list",dict:=none,data:=.seq acc c',slots:=#[]}->ItemsOf (fun i v=>us[us.size-1-i]?=some v) acc us.size->Q (.ref s.heap.objs.size) {s with heap:=h',toks:=tk}) :
  wpAny (model prog w) A (call (.type "list") [.ref r]) Q E s:=by
 refine callType_codes (Q₁:=fun ob s1=>ob=.ref s.heap.objs.size/\s1={s with heap:=s.heap.push {cls:=.type "list",data:=.seq #[]} }) F.called_list (F.typeCall_list_1 _) F.entry_list_init (code_list_new _ ⟨rfl,rfl⟩) fun ob s1 h1=>?_;obtain⟨rfl,rfl⟩:=h1;have eB:(s.heap.push {cls:=.type "list",data:=.seq #[]}).get? s.heap.objs.size=some {cls:=.type "list",data:=.seq #[]}:=Hs _ rfl;have lr:s.heap.objs.size≠r:=by obtain⟨o,e,_⟩:=ir;exact Nat.ne_of_gt (HS e)
 have la:s.heap.objs.size≠a:=by obtain⟨o,e,_⟩:=ha;exact Nat.ne_of_gt (HS e)
 refine⟨⟨_,eB,rfl⟩,F.args_list_init_2 _ _,xx (A:=A.in1) hh ?_ ?_ hz hra eB lr la fun h' tk acc c' hk hB' hacc=>?_⟩
 ·obtain⟨o,e,rr⟩:=ir;exact⟨o,Hl _ e,rr⟩
 ·obtain⟨o,e,rr⟩:=ha;exact⟨o,Hl _ e,rr⟩
 ·exact⟨rfl,q h' tk acc c' (fun b o n e=>hk b o (HK (HS e)) n (Hl _ e)) hB' hacc⟩
end
noncomputable def o6(K:PySem.W.Frag)(t:TE):TE:=fun σ H Q=>t σ H fun x H1=>∃a xs,x=.ref a/\bd K H1 a xs/\∀p,H1 p=none->Q (.ref p) (aB H1 p (.lst xs.reverse))
section
variable {X:Cx}{e:Expr}{t:TE}{p p2 pos pos2:Pos}
set_option maxHeartbeats 1000000 in
theorem vH(hc:X.calm=true)(ha:PE X e t)(g1:Gl X "list")(m1:X.mg "list"=none)(g2:Gl X "reversed")(m2:X.mg "reversed"=none)
  (he1:starEach [.Call (.Name "reversed" p2) [e] [] pos2] X.env=[(false,eval (.Call (.Name "reversed" p2) [e] [] pos2) X.env)]:=by rfl) (he2:starEach [e] X.env=[(false,eval e X.env)]:=by rfl) :
  PE X (.Call (.Name "list" p) [.Call (.Name "reversed" p2) [e] [] pos2] [] pos) (o6 X.K t):=by
 intro pins s σ H Q I h;have hl:bootBuiltins "list"=some (.type "list"):=by decide +kernel
 have hr:bootBuiltins "reversed"=some (.type "reversed"):=by decide +kernel
 refine wpAny_Call_Name_kw (bY I g1 m1 hl ?_);refine PyProof.Rows.callWith_type1 ?_ he1 rfl;rw[he1];show wpAny _ _ (spliced [(false,eval (.Call (.Name "reversed" p2) [e] [] pos2) X.env)]) _ _ _;refine Calls.spliced_cons ?_;refine wpAny_Call_Name_kw (bY (I.tok _) g2 m2 hr ?_);refine PyProof.Rows.callWith_type1 ?_ he2 rfl;rw[he2];show wpAny _ _ (spliced [(false,eval e X.env)]) _ _ _;refine Calls.spliced_cons (bF (ha pins _ σ H _ (I.tok _) h) fun u s1 ⟨x,H1,I1,rx,a,xs,ex,hq,q⟩=>Calls.spliced_nil ?_);subst ex;cases rx;obtain⟨its,rv,p1,hz⟩:=I1.tuple hq;have hln:=rv.length;have zs:sizeLine<2 ^ 62:=by decide +kernel
 have e62:(2:Nat) ^ 62=4611686018427387904:=by decide
 have e63:(2:Int) ^ 63=9223372036854775808:=by decide
 rw[e62]at zs;refine xU p1 (by rw[Ht,e63];omega) fun tk=>Calls.spliced_nil ?_;have hlt:a<s1.heap.objs.size:=by obtain⟨o,e,_⟩:=p1;exact HS e
 refine pV (us:=its.toArray) (a:=a) (I.ok.hd hc) ⟨_,Hs _ rfl,rfl,rfl⟩ (by obtain⟨o,e,rr⟩:=p1;exact⟨o,Hl _ e,rr⟩) (by rw[Ht];omega) (HK hlt) fun h' tk' acc c' hk hB hacc=>?_;have sz:(s1.heap.push (A5 a ((its.toArray.size:Int)-1))).objs.size=s1.heap.objs.size+1:=Heap.size_push ..;have eacc:acc=its.reverse.toArray:=by
  obtain⟨hs,hat⟩:=hacc;have hs:acc.size=its.length:=by simpa using hs
  apply Array.ext';apply List.ext_getElem?;intro i;rw[Array.getElem?_toList]
  by_cases hi:i<its.length
  ·have e1:acc[i]?=some (acc[i]'(by omega)):=Array.getElem?_eq_getElem (by omega)
   have e2:=hat i _ e1;rw[e1,List.getElem?_reverse hi,<- e2];simp
  ·rw[Array.getElem?_eq_none (by omega),List.getElem?_eq_none (by rw[HI];omega)]
 have kp:∀b o,s1.heap.get? b=some o->h'.get? b=some o:=fun b o eo=>hk b o (HK (HS eo)) (Hl _ eo);have hfr:H1 (s1.heap.push (A5 a ((its.toArray.size:Int)-1))).objs.size=none:=I1.hok.fresh (by rw[sz];exact Nat.le_succ _);refine⟨.ref _,_,I1.laid (t':=tk') (o:=.lst xs.reverse) kp (by rw[sz];exact Nat.le_succ _) ⟨by rw[HI];exact hz,its.reverse,c',rv.reverse,?_⟩,rfl,q _ hfr⟩;rw[<- eacc];exact hB
end
section
variable {prog:Program}{w:World}{A:Around}{E:Value->Shared->Prop}
theorem t5{i0 a:Addr}{us:Array Value}(hne:a≠i0):∀(n i:Nat) (s:Shared) (Q:List Value->Shared->Prop),s.heap.IsListIter i0 a i->s.heap.IsList a us->i+n<=us.size ->
  (∀h',h'.IsListIter i0 a (i+n)->Heap.SameBut i0 s.heap h'->Q ((us.toList.drop i).take n) {s with heap:=h' })->wpAny (model prog w) A (draw (.ref i0) n) Q E s
 |0,i,s,Q,ii,ha,hn,q=>by
  unfold draw;have:=q s.heap ii (Heap.SameBut.refl _ _);rw[Ix]at this;exact wpAny_pure this
 |n+1,i,s,Q,ii,ha,hn,q=>by
  have hx:us[i]?=some (us[i]'(by omega)):=Array.getElem?_eq_getElem (by omega);unfold draw;refine wpAny_bind (wpAny_pyNext_list_item ii ha hx fun h1 i1 s1=>?_);dsimp only;have ha1:Heap.IsList h1 a us:=by obtain⟨o,e,rr⟩:=ha;exact⟨o,(s1.2 a hne).trans e,rr⟩
  refine wpAny_bind (wpAny_holding (t5 hne n (i+1) {s with heap:=h1} _ i1 ha1 (by omega) fun h2 i2 s2=>?_));refine wpAny_pure ?_;have:=q h2 (by rw[show i+(n+1)=i+1+n by omega];exact i2) (s1.trans s2);have e:us.toList.drop i=us[i]'(by omega)::us.toList.drop (i+1):=by
   rw[List.drop_eq_getElem_cons (by simpa using(by omega:i<us.size))];simp
  rw[e,List.take_succ_cons]at this;exact this
theorem uZ{s:Shared}{a:Addr}{us:Array Value}{targets:List (Bool×(Value->Sem Unit))}{Q:Unit->Shared->Prop}(hh:A.handled=none)(ha:s.heap.IsList a us)
  (hn:targets.length=us.size) (hs:targets.findIdx? (·.1)=none)
  (q:∀h',Heap.ExtBut s.heap.objs.size s.heap h'->wpAny (model prog w) A (assignInOrder (targets.map (·.2)) us.toList) Q E {s with heap:=h' }) :
  wpAny (model prog w) A (unpack (.ref a) targets) Q E s:=by
 have hlt:a≠s.heap.objs.size:=by obtain⟨o,ho,_⟩:=ha;exact HK (HS ho)
 have ty:s.TypeIs (.ref a) "list":=by obtain⟨o,ho,hc,_⟩:=ha;exact⟨o,ho,hc⟩
 unfold unpack;rw[hn,hs];refine wpAny_bind (wpAny_holding ?_);unfold unpackItems;refine wpAny_bind ?_;unfold notIterableAtAll;refine wpAny_bind (wpAny_specialOf ty PySem.F.slot_list_iter.lookup ?_);refine wpAny_pure ?_;simp only[Bool.false_eq_true,if_false];refine wpAny_bind (wpAny_holding (wpAny_pyIter_list ha ?_));have hap:Heap.IsList (s.heap.push {cls:=.type "list_iterator",data:=.fields #[.ref a,.int 0 0]}) a us:=ha.push _;refine wpAny_bind (wpAny_holding (t5 hlt us.size 0 _ _ ⟨_,Hs _ rfl,rfl,rfl⟩ hap (by omega) fun h1 i1 s1=>?_));have al:List.take us.size (List.drop 0 us.toList)=us.toList:=by rw[Iy];exact List.take_of_length_le (by simp)
 rw[al,if_neg (by simp)];have ha1:Heap.IsList h1 a us:=by obtain⟨o,e,rr⟩:=hap;exact⟨o,(s1.2 a hlt).trans e,rr⟩
 refine wpAny_bind (wpAny_holding (wpAny_pyNext_list_end hh i1 ha1 (by simp) fun h2 e2=>?_));simp only[Option.isSome_none,Bool.false_eq_true,if_false];exact wpAny_pure (q h2 fun b o hb e=>e2 b o hb (s1.extBut b o hb (Hl _ e)))
end
noncomputable def yW(K:PySem.W.Frag)(n:Nat)(t:AR):TG:=fun v σ H Q=>∃a xs,v=.ref a/\aW K H a xs/\xs.length=n/\t xs σ H Q
theorem Bz{X:Cx}{es:List Expr}{k:Nat}{t:AR}{n:Nat}{pos:Pos}(hc:X.calm=true)(h:Dq X es t)
  (hn:(assignEach es X.env).length=n:=by rfl) (hst:(assignEach es X.env).findIdx? (·.1)=none:=by rfl):PG X (.Tuple es k pos) (yW X.K n t):=by
 intro pins s σ H v u Q I r hw;obtain⟨a,xs,e1,hq,hl,hw⟩:=hw;subst e1;cases r;obtain⟨its,rv,pl,hz⟩:=I.list hq;rw[arm_assign_Tuple];refine wpAny_bind (wpAny_standAt (uZ (us:=its.toArray) (I.ok.hd hc) pl.isList (by simp[hn,<- hl,rv.length]) hst fun h' hx=>?_));have I1:Inv X pins σ H {s with heap:=h' }:=I.kept (t':=s.toks) fun b o e=>hx b o (HK (HS e)) e;exact h pins _ σ H xs _ Q I1 (by simpa using rv) hw
theorem li:isSubtype (.type "range_iterator") (.type "reversed")=pure false:=by rw[isSubtype_type];kernel_rfl
noncomputable abbrev yJ(a n c:Int):Obj:={cls:=.type "range_iterator",data:=.fields #[rawInt a,rawInt n,rawInt c]}
section
variable {prog:Program}{w:World}{A:Around}{E:Value->Shared->Prop}{s:Shared}
theorem lG{r:Addr}{a b:Int}{t u v:Tok}{Q:Value->Shared->Prop}(hr:IsRange s.heap r a b 1 t u v)(h1:-(2 ^ 62)<=a)(h2:a<2 ^ 62)(h3:-(2 ^ 62)<=b)(h4:b<2 ^ 62)
  (h:Q (.ref s.heap.objs.size) {s with heap:=s.heap.push (yJ (a+(Builtin.Range.rangeSize a b 1-1)*1) (Builtin.Range.rangeSize a b 1) (-1))}):wpAny (model prog w) A (call (.builtin "range.__reversed__") [.ref r]) Q E s:=by
 have ty:s.TypeIs (.ref r) "range":=⟨_,hr,rfl⟩;refine wpAny_call_entry F.slot_range_reversed ty F.entry_range_reversed ?_ (F.args_range_reversed_1 _);unfold Builtin.«range.__reversed__»;refine wpAny_bind (wpAny_of_eq (a:=Value.ref r) rfl ?_);refine wpAny_bind ?_;unfold Builtin.Range.rangeFields;refine wpAny_bind (wpAny_field hr rfl (x:=.int a t) rfl ?_);refine wpAny_bind (wpAny_of_eq (a:=some a) rfl ?_);refine wpAny_bind (wpAny_field hr rfl (x:=.int b u) rfl ?_);refine wpAny_bind (wpAny_of_eq (a:=some b) rfl ?_);refine wpAny_bind (wpAny_field hr rfl (x:=.int 1 v) rfl ?_);refine wpAny_bind (wpAny_of_eq (a:=some 1) rfl ?_);refine wpAny_pure ?_;dsimp only;have hs:=rangeSize_one a b;have f63:(2:Int) ^ 63=9223372036854775808:=by decide
 have f62:(2:Int) ^ 62=4611686018427387904:=by decide
 rw[f62]at h1 h2 h3 h4;have fit:∀x:Int,-9223372036854775808<=x->x<9223372036854775808->Builtin.Range.rangeFitsLong x=true:=fun x g1 g2=>by
  unfold Builtin.Range.rangeFitsLong;rw[f63];simp[g1,g2]
 have hn:0<=Builtin.Range.rangeSize a b 1/\Builtin.Range.rangeSize a b 1<9223372036854775808:=by rw[hs];split<;>omega
 rw[fit a (by omega) (by omega),fit b (by omega) (by omega),fit 1 (by omega) (by omega),fit (-1) (by omega) (by omega),fit (a-1) (by omega) (by omega),fit _ (by omega) hn.2];show wpAny _ _ (newFields "range_iterator" _ >>= _) _ _ _;unfold newFields;exact wpAny_bind (wpAny_newObj_type (wpAny_pure ⟨_,rfl,h⟩))
theorem lg{r:Addr}{a b:Int}{t u v:Tok}{Q₁:Value->Shared->Prop}(hr:IsRange s.heap r a b 1 t u v)(h1:-(2 ^ 62)<=a)(h2:a<2 ^ 62)(h3:-(2 ^ 62)<=b)(h4:b<2 ^ 62)
  (h:Q₁ (.ref s.heap.objs.size) {s with heap:=s.heap.push (yJ (a+(Builtin.Range.rangeSize a b 1-1)*1) (Builtin.Range.rangeSize a b 1) (-1))}) :
  codeAny (model prog w) A (.call (.builtin "reversed.__new__") ⟨[.type "reversed",.ref r],[]⟩) (wants Q₁ E) s:=by
 have ty:s.TypeIs (.ref r) "range":=⟨_,hr,rfl⟩;refine codeAny_of_tree ?_;show wpAny _ A.in1 (do checkBuiltinCall "reversed.__new__" ⟨[.type "reversed",.ref r],[]⟩;again (.builtin "reversed.__new__" ⟨[.type "reversed",.ref r],[]⟩)) _ _ s;refine wpAny_bind (wpAny_of_eq (F.newCall_reversed_1 _) (wpAny_pure ⟨plainId_quiet F.plain_reversed_new _,codeAny_builtin F.entry_reversed_new ?_⟩));rw[Around.under_plainId F.plain_reversed_new _];unfold Builtin.«reversed.__new__»;refine wpAny_bind (wpAny_of_eq (newClass_reversed _) ?_)
 try dsimp only
 refine wpAny_bind (wpAny_of_eq (a:=()) (by first | rfl | kernel_rfl) ?_);refine wpAny_bind (wpAny_of_eq (a:=()) (by first | rfl | kernel_rfl) ?_)
 try dsimp only
 refine wpAny_bind (wpAny_specialOf ty F.slot_range_reversed.lookup ?_)
 try dsimp only
 refine wpAny_bind (wpAny_of_eq (F.slot_range_reversed.bind _) ?_)
 try dsimp only
 first
 |rw[if_neg (show ¬ ((Value.builtin "range.__reversed__" == Value.none)=true) from HR)]
 | (show wpAny _ _ (if(Value.builtin "range.__reversed__" == Value.none)=true then _ else _) _ _ _;rw[if_neg (show ¬ ((Value.builtin "range.__reversed__" == Value.none)=true) from HR)])
 refine wpAny_bind (wpAny_rule ?_);refine wpAny_bind (m:=runValue (.call (.builtin "range.__reversed__") ⟨[.ref r],[]⟩)) (show wpAny _ _ (call (.builtin "range.__reversed__") [.ref r]) _ _ _ from lG hr h1 h2 h3 h4 ?_)
 first
 |exact wpAny_pure h
 |exact wpAny_bind (wpAny_pure (wpAny_pure h))
theorem lT{r:Addr}{a b:Int}{t u v:Tok}{Q:Value->Shared->Prop}(hr:IsRange s.heap r a b 1 t u v)(h1:-(2 ^ 62)<=a)(h2:a<2 ^ 62)(h3:-(2 ^ 62)<=b)(h4:b<2 ^ 62)
  (h:Q (.ref s.heap.objs.size) {s with heap:=s.heap.push (yJ (a+(Builtin.Range.rangeSize a b 1-1)*1) (Builtin.Range.rangeSize a b 1) (-1))}):wpAny (model prog w) A (call (.type "reversed") [.ref r]) Q E s:=by
 refine callType_other (U:="range_iterator") (Q₁:=fun obj s₁=>obj=.ref s.heap.objs.size/\s₁={s with heap:=s.heap.push (yJ (a+(Builtin.Range.rangeSize a b 1-1)*1) (Builtin.Range.rangeSize a b 1) (-1))}) (by decide +kernel) F.create_reversed ⟨_,_,F.mro_reversed⟩ F.made_reversed li (F.typeCall_reversed_1 _) (lg hr h1 h2 h3 h4 ⟨rfl,rfl⟩) ?_;rintro obj s₁ ⟨rfl,rfl⟩;exact⟨⟨_,Hs _ rfl,rfl⟩,h⟩
end
noncomputable def DC(hi:Int)(n:Nat):It:=⟨fun i _=>i<n,fun i H x H'=>H'=H/\x=.int (hi-i),fun i _=>n<=i⟩
theorem uN{P:Program}{w:World}{K:PySem.W.Frag}{tg:Expr}(it:Addr)(lo:Int)(n:Nat):oq P w K tg (DC lo n) [it] it (fun i h=>IsRangeIter h it (lo+(i:Nat)*(-1)) ((n:Int)-(i:Nat)) (-1)) where
 mem:=by simp
 obj:=fun i h st b hb=>by
  have e:b=it:=by simpa using hb
  subst e;exact⟨_,st,fun v z=>by
   have z':Data.fields _=Data.cell v:=z;cases z'⟩
 keep:=fun i h h' st k=>k it (by simp) _ st
 item:=by
  intro X hP hw hK hc i pins s σ H E I hf st hg;subst hP hw hK;obtain⟨f0,f1,f2,f3,f4,f5⟩:=hf it (by simp);have W:=Walks.range (prog:=X.prog) (w:=X.w) (I.ok.hd hc) it lo (-1) n;refine W.item i s _ _ hg st fun v h' tk hv st' kk=>?_;obtain⟨t,rfl⟩:=hv;have I1:Inv X pins σ H {s with heap:=h',toks:=tk}:=I.turned (fun b o hb e=>kk b o (by simpa using hb) e) f0 f1 f3 f4 f5;refine⟨_,rfl,rG (s:={s with heap:=h',toks:=tk}) (n:="range_iterator") st' rfl rfl (by decide) ⟨.int (lo-i),H,I1,⟨t,?_⟩,⟨rfl,rfl⟩,st',fun b hb=>(hf b hb).1⟩⟩;rw[show lo+(i:Int)*(-1)=lo-i by omega]
 done:=by
  intro X hP hw hK hc i pins s σ H E I hf st hg;subst hP hw hK;obtain⟨f0,f1,f2,f3,f4,f5⟩:=hf it (by simp);exact wpAny_pyNext_range_end (I.ok.hd hc) st (by have:n<=i:=hg;omega) fun h' eb=>⟨rfl,I.turned (t':=s.toks) (fun b o hb e=>eb b o hb e) f0 f1 f3 f4 f5⟩
 self:=fun _ _ _ _ _ st h=>wpAny_pyIter_rangeiter st h
section
variable {X:Cx}{tg:Expr}
theorem rm{pins:List (Addr×Obj)}{σ:St}{H:Hp}{s:Shared}{R:It->Hp->Prop}{E:Value->Shared->Prop}{lo hi:Int}{t u v:Tok}{tk:Nat}(I:Inv X pins σ H s)(h1:-(2 ^ 62)<=lo)(h2:lo<2 ^ 62)(h3:-(2 ^ 62)<=hi)(h4:hi<2 ^ 62)
  (q:R (DC (lo+(hi-lo).toNat-1) (hi-lo).toNat) H):wpAny (model X.prog X.w) X.A (call (.type "reversed") [.ref s.heap.objs.size]) (fun v s'=>wpAny (model X.prog X.w) X.A (pyIter v) (Fl X pins σ tg R) E s') E {s with heap:=s.heap.push {cls:=.type "range",data:=.fields #[.int lo t,.int hi u,.int 1 v]},toks:=tk}:=by
 refine lT (s:={s with heap:=s.heap.push {cls:=.type "range",data:=.fields #[.int lo t,.int hi u,.int 1 v]},toks:=tk}) (IsRange.new ..) h1 h2 h3 h4 ?_;have I1:Inv X pins σ H {s with heap:=s.heap.push {cls:=.type "range",data:=.fields #[.int lo t,.int hi u,.int 1 v]},toks:=tk}:=I.kept fun b o e=>Hl _ e;have e0:Builtin.Range.rangeSize lo hi 1=(((hi-lo).toNat:Nat):Int):=by rw[rangeSize_one];split<;>omega
 rw[e0];have st:IsRangeIter ((s.heap.push {cls:=.type "range",data:=.fields #[.int lo t,.int hi u,.int 1 v]}).push (yJ (lo+((((hi-lo).toNat:Nat):Int)-1)*1) (((hi-lo).toNat:Nat):Int) (-1))) (s.heap.push {cls:=.type "range",data:=.fields #[.int lo t,.int hi u,.int 1 v]}).objs.size ((lo+(hi-lo).toNat-1)+((0:Nat):Int)*(-1)) ((((hi-lo).toNat:Nat):Int)-((0:Nat):Int)) (-1):=by
  rw[show(lo+(hi-lo).toNat-1)+((0:Nat):Int)*(-1)=lo+((((hi-lo).toNat:Nat):Int)-1)*1 by omega,show(((hi-lo).toNat:Nat):Int)-((0:Nat):Int)=(((hi-lo).toNat:Nat):Int) by omega];exact Hs _ rfl
 refine wpAny_pyIter_rangeiter st ?_;refine⟨(s.heap.push {cls:=.type "range",data:=.fields #[.int lo t,.int hi u,.int 1 v]}).objs.size,[(s.heap.push {cls:=.type "range",data:=.fields #[.int lo t,.int hi u,.int 1 v]}).objs.size],_,_,H,rfl,
  I1.kept (t':=tk) fun b o e=>Hl _ e,uN _ (lo+(hi-lo).toNat-1) (hi-lo).toNat,st,fun b hb=>?_,q⟩
 have e:b=(s.heap.push {cls:=.type "range",data:=.fields #[.int lo t,.int hi u,.int 1 v]}).objs.size:=by simpa using hb
 subst e;exact I1.fpOk (HP _) (I1.hok.fresh (HP _))
noncomputable def Ae(ta:TA):TI:=fun σ H R=>ta σ H fun vs H1=>∃j:Int,vs=[.int j]/\-(2 ^ 62)<=j/\j<2 ^ 62/\R (DC (j.toNat-1) j.toNat) H1
noncomputable def zT(ta:TA):TI:=fun σ H R=>ta σ H fun vs H1=>∃i j:Int,vs=[.int i,.int j]/\(-(2 ^ 62)<=i/\i<2 ^ 62/\-(2 ^ 62)<=j/\j<2 ^ 62)/\R (DC (i+(j-i).toNat-1) (j-i).toNat) H1
theorem Br{a b:Expr}{ta:TA}{p p2 pos pos2:Pos}(hg:Gl X "reversed")(hm:X.mg "reversed"=none)(g2:Gl X "range")(m2:X.mg "range"=none)(ha:PA X [a,b] ta)(hs:starEach [a,b] X.env=[(false,eval a X.env),(false,eval b X.env)]:=by rfl)(hs2:starEach [b] X.env=[(false,eval b X.env)]:=by rfl)
  (he1:starEach [.Call (.Name "range" p2) [a,b] [] pos2] X.env=[(false,eval (.Call (.Name "range" p2) [a,b] [] pos2) X.env)]:=by rfl) :
  PI X tg (.Call (.Name "reversed" p) [.Call (.Name "range" p2) [a,b] [] pos2] [] pos) (zT ta):=by
 intro pins s σ H R I h;refine Call_ (bY I hg hm boot_reversed (PyProof.Rows.callWith_type1 ?_ he1 rfl));rw[he1];show wpAny _ _ (spliced [(false,eval (.Call (.Name "range" p2) [a,b] [] pos2) X.env)]) _ _ _;refine Calls.spliced_cons ?_;refine wpAny_Call_Name_kw (bY I g2 m2 boot_range ?_);refine PyProof.Rows.callWith_type1 (bF (ha pos2 pins s σ H _ I h) fun us s1 ⟨vs,H1,I1,r1,q1⟩=>?_) (by rw[hs,hs2]) (by rw[hs2];rfl);obtain⟨i,j,e,⟨q1,q2,q3,q4⟩,q⟩:=q1;subst e;cases r1 with
 |cons r rr=>
  cases rr with
  |cons r' rr=>
   cases rr;obtain⟨t,rfl⟩:=r;obtain⟨t',rfl⟩:=r';exact call_range_2 (Calls.spliced_nil (rm I1 q1 q2 q3 q4 q))
theorem A_{a:Expr}{ta:TA}{p p2 pos pos2:Pos}(hg:Gl X "reversed")(hm:X.mg "reversed"=none)(g2:Gl X "range")(m2:X.mg "range"=none)(ha:PA X [a] ta)(hs:starEach [a] X.env=[(false,eval a X.env)]:=by rfl)
  (he1:starEach [.Call (.Name "range" p2) [a] [] pos2] X.env=[(false,eval (.Call (.Name "range" p2) [a] [] pos2) X.env)]:=by rfl) :
  PI X tg (.Call (.Name "reversed" p) [.Call (.Name "range" p2) [a] [] pos2] [] pos) (Ae ta):=by
 intro pins s σ H R I h;refine Call_ (bY I hg hm boot_reversed (PyProof.Rows.callWith_type1 ?_ he1 rfl));rw[he1];show wpAny _ _ (spliced [(false,eval (.Call (.Name "range" p2) [a] [] pos2) X.env)]) _ _ _;refine Calls.spliced_cons ?_;refine wpAny_Call_Name_kw (bY I g2 m2 boot_range ?_);refine PyProof.Rows.callWith_type1 (bF (ha pos2 pins s σ H _ I h) fun us s1 ⟨vs,H1,I1,r1,q1⟩=>?_) hs rfl;obtain⟨j,e,q1,q2,q⟩:=q1;subst e;cases r1 with
 |cons r rr=>
  cases rr;obtain⟨t,rfl⟩:=r;exact call_range_1 (Calls.spliced_nil (rm I1 (by omega) (by omega) q1 q2 (by simpa using q)))
end
theorem uy{hi:Int}{n:Nat}{g:TG}{tb:TS}{D:jf}{σ:St}{H:Hp}(Pv:Nat->St->Hp->Prop)(h0:Pv 0 σ H)
  (hs:∀i σ H,i<n->Pv i σ H->g (.int (hi-i)) σ H fun σ2 H2=>tb {D with nx:=Pv (i+1),ct:=Pv (i+1),bk:=D.nx} σ2 H2) (hd:∀σ H,Pv n σ H->D.nx σ H):ua (DC hi n) g tb D σ H:=by
 refine⟨fun i m σ H=>m=n-i/\i<=n/\Pv i σ H,⟨n,by simp,HQ _,h0⟩,?_⟩;rintro i m σ H ⟨rfl,hi,p⟩
 by_cases hlt:i<n
 ·refine .inr ⟨hlt,Pv (i+1),fun σ' H' p'=>⟨n-(i+1),by omega,rfl,hlt,p'⟩,fun x H' y=>?_⟩
  obtain⟨e,y⟩:=y;subst e y;exact hs i σ _ hlt p
 ·have e:i=n:=by omega
  subst e;exact .inl ⟨HP _,hd σ H p⟩
section
variable {prog:Program}{w:World}{A:Around}{E:Value->Shared->Prop}{s:Shared}
open HT in
theorem kc{t sl:Addr}{items:Array Value}{vl vu:Value}{lo hi:Option Int}{Q:Value->Shared->Prop}(ht:IsTup s.heap t items)(hs:s.heap.IsSliceOf sl vl vu .none)(pl:IsPart vl lo)(pu:IsPart vu hi)
  (hw:sIx items.size 0 lo=0/\sIx items.size items.size hi=items.size) (h:Q (.ref t) s):wpAny (model prog w) A (getItem (.ref t) (.ref sl)) Q E s:=by
 obtain⟨os,hos,hcs,hds⟩:=id hs;have hTs:s.TypeIs (.ref sl) "slice":=⟨os,hos,hcs⟩;unfold getItem
 try with_reducible refine wpAny_holding ?_
 first | refine wpAny_bind (wpAny_pure ?_) | skip
 refine wpAny_bind (wpAny_sequenceKey ht.typeIs (by decide) ?_);refine wpAny_bind (wpAny_callSpecial?_slot (name:=Str.ofString "__getitem__") ht.typeIs PyProof.Rows.slot_tuple_getitem
  (wpAny_call_entry PyProof.Rows.slot_tuple_getitem ht.typeIs entry_tuple_getitem ?_ (args_tuple_getitem _ _)))
 show wpAny _ _ (Builtin.Tuple.tupleItemsOf (.ref t) >>= _) _ _ s;refine wpAny_bind (tupleItemsOf_ ht ?_);refine wpAny_bind (wpAny_typeOf hTs ?_);rw[if_pos (by decide)];refine wpAny_bind (gW hs pl pu ?_);have hyes:(((sIx items.size 0 lo:Nat):Int)==0&&(1:Int)==1&&(sIx items.size items.size hi-sIx items.size 0 lo)==items.size)=true:=by
  rw[hw.1,hw.2];simp
 show wpAny _ _ (if(((sIx items.size 0 lo:Nat):Int)==0&&(1:Int)==1&&(sIx items.size items.size hi-sIx items.size 0 lo)==items.size)=true then _ else _) _ _ s;rw[if_pos hyes];refine wpAny_bind ?_;unfold Builtin.Tuple.tupleIsExact;refine wpAny_bind (wpAny_typeOf ht.typeIs ?_);refine wpAny_pure ?_;rw[if_pos (by decide)];refine wpAny_bind (wpAny_rule ?_);exact wpAny_pure ⟨_,rfl,wpAny_pure h⟩
end
section
variable {X:Cx}
end
noncomputable def Dh(K:PySem.W.Frag):V->Option Int->Option Int->Hp->VK->Prop:=fun x lo hi H Q=>∃a xs,x=.ref a/\H a=some (.tup xs)/\∀p H',H' p=some (.tup (dZ xs lo hi))->ay H H'->Q (.ref p) H'
section
variable {X:Cx}
theorem gD:DT X (Dh X.K):=by
 intro pins s σ H x v vl vu lo hi sl Q I rx hs pl pu h;obtain⟨a,xs,rfl,ha0,q⟩:=h;have ha:bd X.K H a xs:=bd.of ha0;cases rx;obtain⟨its,r,ht,hz⟩:=I.tuple ha;have hlen:its.toArray.size=xs.length:=by rw[Ht];exact r.length.symm
 refine⟨"tuple",_,PyProof.Rows.slot_tuple_getitem.lookup,ht.typeIs,?_⟩
 by_cases hw:HT.sIx xs.length 0 lo=0/\HT.sIx xs.length xs.length hi=xs.length
 ·refine kc ht hs pl pu (by rw[hlen];exact hw) ?_
  refine⟨.ref a,H,I,rfl,q a H ?_ (ay.refl _)⟩;have e:dZ xs lo hi=xs:=by unfold dZ;rw[hw.1,hw.2,Iy,Nat.sub_zero,Ic]
  rw[e];exact ha0
 ·refine HT.getItem_tuple_cut ht hs pl pu (by rw[hlen];exact hw) ?_ (by rw[hlen];exact hz)
  rw[hlen];refine⟨.ref s.heap.objs.size,_,I.laid (t':=s.toks) (o:=.tup (dZ xs lo hi)) (fun b ob q=>Hl _ q) (HP _) ?_,rfl,q _ _ ac (ae (I.hok.fresh (HP _)))⟩;exact⟨HY (jv xs lo hi) hz,_,(r.drop (HT.sIx xs.length 0 lo)).take (HT.sIx xs.length xs.length hi-HT.sIx xs.length 0 lo),IsTup.new _ _⟩
noncomputable def za(K:PySem.W.Frag):List V->Hp->VK->Prop:=fun xs H Q=>∃a ys,xs=[.ref a,.ty "tuple"]/\bd K H a ys/\Q (.bl true) H
theorem hU:gz X (.builtin "isinstance") (za X.K):=by
 intro pins s σ H xs us Q I r h;obtain⟨a,ys,rfl,ha,q⟩:=h;obtain⟨u,v,rfl,ru,rv⟩:=r.two;rw[wD rv rfl];obtain⟨its,_,ht,_⟩:=I.tuple ha;cases(show u=Value.ref a from ru);obtain⟨o,h1,h2,_⟩:=ht;exact PySem.W.kia_one PySem.W.kitx_tuple I.kIn ⟨o,h1,h2⟩ (uK _ _) (fun z=>nomatch z) fun tk=>⟨.bl true,H,I.tok tk,rfl,q⟩
end
section
variable {X:Cx}
end
theorem Fe{a:Addr}{P:Addr->Prop}:(∃p,V.ref a=V.ref p/\P p)=P a:=by simp
theorem EZ{a:Int}{P:Int->Prop}:(∃p,V.int a=V.int p/\P p)=P a:=by simp
theorem EC{a:Bool}{P:Bool->Prop}:(∃p,V.bl a=V.bl p/\P p)=P a:=by simp
theorem Fw{a:Str}{P:Str->Prop}:(∃p,V.str a=V.str p/\P p)=P a:=by simp
theorem E6{α:Type}{a:Addr}{P:Addr->α->Prop}:(∃p,∃x,V.ref a=V.ref p/\P p x) = ∃x,P a x:=by simp
theorem ES{α:Type}{a:Addr}{P:Addr->α->Prop}:(∃p,∃x,[V.ref a]=[V.ref p]/\P p x) = ∃x,P a x:=by simp
theorem Ep{α:Type}{a:Addr}{v:V}{P:Addr->α->V->Prop}:(∃p,∃x,∃y,V.ref a=V.ref p/\[v]=[y]/\P p x y) = ∃x,P a x v:=by simp
theorem Fk{α β:Type}{a b:Addr}{P:Addr->Addr->α->β->Prop}:(∃p,∃q,∃x,∃y,V.ref a=V.ref p/\V.ref b=V.ref q/\P p q x y) = ∃x,∃y,P a b x y:=by simp
noncomputable def DG(i:Nat):TE:=fun σ H Q=>match σ[i]? with
 |some (some v)=>Q v H
 |_=>False
noncomputable def A1(g:Int->Int->V):R2
 | .int i,.int j,H,Q=>Q (g i j) H
 |x,y,H,Q=>xZ g x y H Q
noncomputable def D1(C:Int->Int->Prop)(g:Int->Int->V):R2
 | .int i,.int j,H,Q=>C i j/\Q (g i j) H
 |x,y,H,Q=>rI C g x y H Q
noncomputable def w6(K:PySem.W.Frag):R2
 | .ref p,.int i,H,Q=>∃xs,aW K H p xs/\∃v,gv xs i=some v/\Q v H
 |x,y,H,Q=>vk K x y H Q
noncomputable def wS(K:PySem.W.Frag):R2
 | .ref p,.int i,H,Q=>∃xs,bd K H p xs/\∃v,gv xs i=some v/\Q v H
 |x,y,H,Q=>vG K x y H Q
theorem zA{g:Int->Int->V}{x y:V}{H:Hp}{Q:VK}:A1 g x y H Q=xZ g x y H Q:=by
 unfold A1;split
 ·simp[xZ]
 ·rfl
theorem BV{C:Int->Int->Prop}{g:Int->Int->V}{x y:V}{H:Hp}{Q:VK}:D1 C g x y H Q=rI C g x y H Q:=by
 unfold D1;split
 ·simp[rI]
 ·rfl
theorem wT{K:PySem.W.Frag}{x y:V}{H:Hp}{Q:VK}:w6 K x y H Q=vk K x y H Q:=by
 unfold w6;split
 ·simp[vk]
 ·rfl
theorem wV{K:PySem.W.Frag}{x y:V}{H:Hp}{Q:VK}:wS K x y H Q=vG K x y H Q:=by
 unfold wS;split
 ·simp[vG]
 ·rfl
theorem BN{g:Int->Int->V}{i j:Int}{H:Hp}{Q:VK}:A1 g (.int i) (.int j) H Q=Q (g i j) H:=rfl
theorem Cg{C:Int->Int->Prop}{g:Int->Int->V}{i j:Int}{H:Hp}{Q:VK}:D1 C g (.int i) (.int j) H Q=(C i j/\Q (g i j) H):=rfl
theorem Az{K:PySem.W.Frag}{p:Addr}{i:Int}{H:Hp}{Q:VK}:w6 K (.ref p) (.int i) H Q = ∃xs,aW K H p xs/\∃v,gv xs i=some v/\Q v H:=rfl
theorem zd{K:PySem.W.Frag}{p:Addr}{i:Int}{H:Hp}{Q:VK}:wS K (.ref p) (.int i) H Q = ∃xs,bd K H p xs/\∃v,gv xs i=some v/\Q v H:=rfl
theorem F0{α β:Type}{f:α->β}{a:α}{l:List α}:List.map f (a::l)=f a::List.map f l:=rfl
theorem GP{α β:Type}{f:α->β}:List.map f []=[]:=rfl
theorem GM{α:Type}{a:α}{l m:List α}:(a::l)++m=a::(l++m):=rfl
theorem GR{α:Type}{m:List α}:[]++m=m:=rfl
theorem GU{α:Type}{a:α}{l:List α}:(a::l)[0]?=some a:=rfl
theorem Gj{α:Type}{a:α}{l:List α}{n:Nat}:(a::l)[n+1]?=l[n]?:=rfl
theorem Fv{α:Type}{a b:α}{l:List α}:(a::l).set 0 b=b::l:=rfl
theorem Ha{α:Type}{a b:α}{l:List α}{n:Nat}:(a::l).set (n+1) b=a::l.set n b:=rfl
section
variable {X:Cx}
theorem am(i:Nat){x:Str}{pos:Pos}(hN:X.N[i]?=some x:=by rfl)(hv:D4 X.env.scope x:=by first | exact Or.inl rfl | exact Or.inr (Or.inl rfl) | exact Or.inr (Or.inr rfl))(hd:(x==("__debug__":Str))=false:=by decide)
  (hc:(x==("__classdict__":Str))=false:=by decide):PE X (.Name x pos) (DG i):=fun pins s σ H Q I h=>pv i hN hv hd hc pins s σ H Q I (by
 unfold DG at h
 split at h
 ·exact⟨_,‹_›,h⟩
 ·exact h.elim)
theorem a_.m0{f:Value->Value->Sem Value}{g:Int->Int->V}(h:a_ X f (xZ g)):a_ X f (A1 g):=fun pins s σ H x y v u Q I a b c=>h pins s σ H x y v u Q I a b (zA▸c)
theorem a_.m1{f:Value->Value->Sem Value}{C:Int->Int->Prop}{g:Int->Int->V}(h:a_ X f (rI C g)):a_ X f (D1 C g):=fun pins s σ H x y v u Q I a b c=>h pins s σ H x y v u Q I a b (BV▸c)
theorem aV:B6 X (w6 X.K):=fun e sl pins s σ H x y v u Q I a b c d=>lW e sl pins s σ H x y v u Q I a b (wT▸c) d
theorem aC:B6 X (wS X.K):=fun e sl pins s σ H x y v u Q I a b c d=>yG e sl pins s σ H x y v u Q I a b (wV▸c) d
end
end L2
set_option maxHeartbeats 4000000
namespace Q14
open PySem L2 bC QL
local macro_rules | `(tactic| walk_at "wp")=>`(tactic| ((try dsimp only[F0,GP,GM,GR,GU,Gj,Fv,Ha,vC,zP,AG,Cy,zr,vg,Db,zC,w4,BH,tC,B1,Eu,wM,CT,Cd,EM,zO,zI,wd,sJ,tK,rT,m6,CK,yW,AJ,Dh,za,Ae,zT,Dc,zm,zH,o6,vc,yP,Dk,Ce,Dl,wu,rF,sj,v2,zu,yS,AB,vj,Cw,CS,sY,yw,p_,Cs,C9,DZ,jn,pG,nC,D',zZ,Bm,rU,EH,Fj,CL,EV,tI,yT,D3,Et,wy,sN,Cz,zN,zv,y0,zQ,CC,Df,Di,wZ,AC,rB,tZ,L2.start,HW,List.map_nil,Hx,List.length_nil,List.replicate,List.cons_append,Io,Nat.reduceAdd,Nat.reduceSub,List.getElem?_cons_zero,HV,List.set_cons_zero,List.set_cons_succ,dh,Cx.blk,so,BE,y_,Au,Cx.wish,Cx.nox,DG,BN,Cg,Az,zd,jd]);(try simp only[vC,zP,AG,Cy,zr,vg,Db,zC,w4,BH,tC,B1,Eu,wM,CT,Cd,EM,zO,zI,wd,sJ,tK,rT,m6,CK,yW,AJ,Dh,za,Ae,zT,Dc,zm,zH,o6,vc,yP,Dk,Ce,Dl,wu,rF,sj,v2,zu,yS,AB,vj,Cw,CS,sY,yw,p_,Cs,C9,DZ,jn,pG,nC,D',zZ,Bm,rU,EH,Fj,CL,EV,tI,yT,D3,Et,wy,sN,Cz,zN,zv,y0,zQ,CC,Df,Di,wZ,AC,rB,tZ,L2.start,HW,List.map_nil,Hx,List.length_nil,List.replicate,List.cons_append,Io,Ia,Nat.reduceAdd,Nat.reduceSub,List.getElem?_cons_zero,HV,List.set_cons_zero,List.set_cons_succ,Option.some.injEq,V.int.injEq,V.str.injEq,V.ref.injEq,V.bl.injEq,List.cons.injEq,and_true,true_and,exists_and_left,exists_eq_left',exists_eq_left,decide_eq_true_eq,Bool.not_eq_true',decide_eq_false_iff_not,dh,Cx.blk,Bu,so,BE,Option.join_some,Nat.succ_eq_add_one,Nat.zero_add,exists_const,and_assoc,exists_eq,exists_eq',y_,Au,Int.reducePow,Int.reduceNeg,Int.reduceLT,or_true,true_or,reduceCtorEq,Int.zero_add,↓reduceIte,Bool.false_eq_true,Bool.not_true,Bool.not_false,Cx.wish,Cx.nox,↓Fe,↓EZ,↓EC,↓Fw,↓E6,↓ES,↓Ep,↓Fk,zA,BV,wT,wV,x8,jd,vk,vG,xZ,rI,DG])))
set_option hygiene false in
local macro_rules|`(tactic|walk_at "nc")=>`(tactic|(clear h1;refine ao fun N1 h1=>?_;walk_at "wp"))
set_option hygiene false in
local macro_rules|`(tactic|walk_at "n")=>`(tactic|(refine ao fun N1 h1=>?_;walk_at "wp"))
set_option hygiene false in
local macro_rules|`(tactic|walk_at "o")=>`(tactic|(refine ao fun N2 h2=>?_;walk_at "wp"))
set_option hygiene false in
local macro_rules|`(tactic|walk_at "f")=>`(tactic|refine F.ok sc (fun vs H Q E h=>?_) (fun cdv A outer s H vs Q E hr h=>?_))
set_option hygiene false in
local macro_rules|`(tactic|walk_at "x")=>`(tactic|refine F.okX sc (fun vs H Q E h=>?_) (fun cdv A outer s H vs Q E hr h=>?_))
set_option hygiene false in
local macro_rules|`(tactic|walk_at "y")=>`(tactic|refine F.okW sc (fun vs H Q E h=>?_) (fun cdv A outer s H vs Q E hr h=>?_))
set_option hygiene false in
local macro_rules|`(tactic|walk_at "c")=>`(tactic|exact⟨rfl,rfl,rfl,by decide +kernel,rfl,by decide +kernel,by decide +kernel⟩)
noncomputable def gu(i:Nat):Stmt:=PySem.Challenge.pw_quiltlaw_k14_first_fault.main.body.getD i (.Pass ⟨0,0,0,0⟩)
noncomputable def AY:Stmt->List Stmt
 | .ClassDef (body:=b) ..=>b
 |_=>[]
noncomputable def kL(i j:Nat):Stmt:=(AY (gu i)).getD j (.Pass ⟨0,0,0,0⟩)
section
variable {P:Program}{w:World}{K:W.Frag}{mg:Str->Option Value}{base:Heap}
noncomputable abbrev DM(z:Str)(c:Nat):Bool:=!(Builtin.Str.occurrences z ⟨#[c]⟩ 0 z.length 1).isEmpty
noncomputable abbrev ma:Stmt:=gu 25
noncomputable def gX(r:List Nat)(z:Str):Bool:=r.all (DM z)
noncomputable def iS:Sp:=fun vs H Q _=>∃(r:List Nat) (z:Str),vs=[.str (tx r),.str z]/\r.length<=100000/\∀H',ay H H'->Q (.bl (gX r z)) H'
theorem uY:aF ["text","letters"] ["text","letters"] (ak ma):=by walk_at "c"
theorem GH{r:List Nat}{i c:Nat}(h:(tx r).cps[i]?=some c):r[i]?=some c:=by
 rw[<- h];show r[i]?=r.toArray[i]?;simp
theorem EU(r:List Nat):(tx r).cps.size=r.length:=by show r.toArray.size=_;simp
theorem vw{f:Addr}{fd:FuncData}(F:c_ K "only_of" "only_of" ma f fd)(nb:NB mg):bc P w K mg base bH 1 f fd ["text","letters"] iS:=by
 have sc:=uY;walk_at "f"
 ·obtain⟨r,z,rfl,_⟩:=h;rfl
 ·obtain⟨r,z,rfl,hr',q⟩:=h
  refine⟨_,(ah (aI (av (uG rfl) rfl nb.all zR (aa (bS ["sign"] [1] rfl (bw.of (by kernel_rfl)) (by kernel_rfl) (C6 (am 0))
    (fun _ _ _ _=>(aH (i:=0) (by show(["sign","letters"]:List Str).Nodup;decide +kernel) rfl (Or.inl rfl))) (fun _ _ _ _=>bI) (fun _ _ _ _=>(lM xf (am 0) (am 1) (by with_unfolding_all rfl)))) ad)))),?_⟩
  walk_at "wp";refine zp (x:=tx r) (fun i acc σ H'=>H'=H/\acc=((r.take i).map (DM z)).map V.bl/\i<=r.length/\∃x,σ=[x,some (.str z)]) ⟨rfl,rfl,HQ _,_,rfl⟩ ?_ ?_ ?_ ?_
  ·rintro i acc σ H' ⟨_,rfl,hi,_⟩
   rw[Hm,Hm,Ie];exact bp (by omega)
  ·rintro i acc σ H' ⟨_,_,h,_⟩
   rw[EU];exact h
  ·rintro i c acc σ H' hc ⟨rfl,rfl,hi,y,rfl⟩
   have hc':=GH hc;have hi':=(Hk.mp hc').1;walk_at "wp";refine⟨?_,hi'⟩;rw[List.take_add_one,hc'];simp
  ·rintro acc σ H' ⟨rfl,rfl,_⟩ l hl
   refine⟨_,aW.of ac,?_⟩;rw[EU,Ic];have e:(r.map (DM z)).all id=gX r z:=by unfold gX;rw[List.all_map];rfl
   rw[e];exact q _ (ae hl)
noncomputable abbrev mL:Stmt:=gu 26
noncomputable abbrev CB:Str:="ABCDEFGHIJKLMNOPQRSTUVWXYZ"
noncomputable def cB(r:List Nat):Bool:=decide (1<=r.length)&&decide (r.length<=4)&&gX r CB
noncomputable def kM:Sp:=fun vs H Q _=>∃(r:List Nat),vs=[.str (tx r)]/\r.length<=100000/\∀H',ay H H'->Q (.bl (cB r)) H'
theorem vU:aF ["text"] ["text"] (ak mL):=by walk_at "c"
theorem wb{f:Addr}{fd:FuncData}{t1 t2:Tok}(F:c_ K "is_name" "is_name" mL f fd)(nb:NB mg)(m_LONGEST_NAME:mg "LONGEST_NAME"=some (.int 4 t1))(m_CAPITALS:mg "CAPITALS"=some (.str "ABCDEFGHIJKLMNOPQRSTUVWXYZ" t2))(c_only_of:eX P w K mg base bH 1 "only_of" ["text","letters"] iS):bc P w K mg base bH 2 f fd ["text"] kM:=by
 have sc:=vU;walk_at "f"
 ·obtain⟨r,rfl,_⟩:=h;rfl
 ·obtain⟨r,rfl,hr',q⟩:=h
  refine⟨_,(ah (aI (pZ (uO (a_.m0 oO) (a_.m0 oO) af (av ba rfl nb.len aQ (aa (am 0) ad)) (eY (v:=.int 4) rfl m_LONGEST_NAME ⟨_,rfl⟩)) (sQ (aP c_only_of (hr.mono (by decide)) rfl bh (aa (am 0) (aa (eY (v:=.str "ABCDEFGHIJKLMNOPQRSTUVWXYZ") rfl m_CAPITALS ⟨_,rfl⟩) ad))))))),?_⟩;walk_at "wp";refine⟨by rw[aE];exact aj (by omega),?_⟩;rw[aE];unfold cB at q
  by_cases h1:1<=r.length
  ·rw[if_pos (by omega)]
   by_cases h2:r.length<=4
   ·rw[if_pos (by omega)]
    refine⟨r,_,rfl,hr',fun H' sm=>?_⟩;have z:=q H' sm;rw[decide_eq_true h1,decide_eq_true h2]at z;exact z
   ·rw[if_neg (by omega)]
    have z:=q H (fun _ _ e=>e);rw[decide_eq_true h1,decide_eq_false h2]at z;exact z
  ·rw[if_neg (by omega)]
   have z:=q H (fun _ _ e=>e);rw[decide_eq_false h1]at z;exact z
noncomputable abbrev dD:Stmt:=kL 27 0
noncomputable def cH(K:W.Frag)(CF:Addr):Sp:=fun vs H Q E=>∃(a C dx l:Addr) (n:List Nat) (c:Int) (ps:bC),vs=[.ref a,.str (tx n),.int c,.ref l]/\H a=some (.ins C dx [])/\oI K C/\aL K C "name"/\aL K C "cost"/\aL K C "part_names"/\H l=some (.lst (aD ps)) /\
 ps.length<=1000/\(∀r∈n::ps,r.length<=100000) /\
 ((∀r∈n::ps,cB r=true)/\1<=c/\c<=9->∀H',ay H H'->Q .non (aB H' a (.ins C dx [("name",.str (tx n)),("cost",.int c),("part_names",.ref l)]))) /\
 (¬ ((∀r∈n::ps,cB r=true)/\1<=c/\c<=9)->∀H',ay H H'->E (.ref CF) none H')
theorem tm:aF ["self","name","cost","part_names","text"] ["self","name","cost","part_names"] (ak dD):=by walk_at "c"
theorem sS{f zfa:Addr}{fd:FuncData}(F:c_ K "__init__" "Rule.__init__" dD f fd)(nb:NB mg)(zAa:mg "NoRule"=some (.ref zfa))(zta:XR K zfa)(c_is_name:eX P w K mg base bH 2 "is_name" ["text"] kM):bc P w K mg base (dM P w) 3 f fd ["self","name","cost","part_names"] (cH K zfa):=by
 have sc:=tm;walk_at "x"
 ·obtain⟨a,C,dx,l,n,c,ps,rfl,_⟩:=h;rfl
 ·obtain⟨a,C,dx,l,n,c,ps,rfl,ha,cl,n1,n2,n3,hl,hpl,hrl,good,bad⟩:=h
  refine⟨_,(ag (bP PassesOwn.leaving rfl (dU (aq rR (bv (aa (am 1) ad)) (am 3))) (aH (i:=4) sc.nd rfl (Or.inl rfl))
   (ah (bg (ky (lx (aP (CX:=dM P w) c_is_name.lift (hr.mono (by decide)) rfl b8 (aa (am 4) ad)) fun _=>rfl))
   (ah (fU zta rfl rfl zAa (g_ fun _ _ _ h=>h) (bf ad)))
   aN)))
   (ag (bg (PW.pt (hJ (aA (a_.m0 nE) (am 2) af (aJ _)) (fq (aA (a_.m0 jb) (am 2) af (aJ _)))))
   (ah (fU zta rfl rfl zAa (g_ fun _ _ _ h=>h) (bf ad)))
   aN)
   (ag (dS (am 0) (am 1) rfl)
   (ag (dS (am 0) (am 2) rfl)
   (ah (dS (am 0) (am 3) rfl)))))),?_⟩
  walk_at "wp";refine⟨aj (by omega),fun p hp=>?_⟩;have m1:ay H (aB H p (.lst [V.str (tx n)])):=ae hp;have e1:aB H p (.lst [V.str (tx n)]) p=some (.lst [V.str (tx n)]):=ac;generalize aB H p (.lst [V.str (tx n)])=H1 at m1 e1 ⊢;refine⟨_,e1,_,m1 _ _ hl,by rw[au];exact aj (by simp;omega),fun p2 hp2=>?_⟩;have e12:[V.str (tx n)]++aD ps=aD (n::ps):=rfl;rw[e12];have m2:ay H1 (aB H1 p2 (.lst (aD (n::ps)))):=ae hp2;have e2:aB H1 p2 (.lst (aD (n::ps))) p2=some (.lst (aD (n::ps))):=ac;generalize aB H1 p2 (.lst (aD (n::ps)))=H2 at m2 e2 ⊢;generalize hqs:n::ps=qs at hrl good bad e2 ⊢;have m02:=m1.trans m2;refine⟨⟨_,aW.of e2⟩,mI (xs:=aD qs) (fun i σ H'=>ay H2 H'/\(∀r∈qs.take i,cB r=true)/\∃x,σ=[some (.ref a),some (.str (tx n)),some (.int c),some (.ref l),x]) ⟨fun _ _ e=>e,by simp,_,rfl⟩ (fun i σ H' _ h=>aW.of (h.1 _ _ e2)) ?_ ?_⟩
  ·rintro i v σ H' hv ⟨sm,hok,x,rfl⟩
   have hi:i<qs.length:=by have:=(Hk.mp hv).1;rwa [au]at this
   rw[bb hi]at hv;cases hv;walk_at "wp";refine⟨_,rfl,hrl _ (Hu hi),fun H3 sm3=>⟨_,rfl,?_⟩⟩
   by_cases hb:cB qs[i]=true
   ·rw[if_neg (by rw[hb];decide)]
    refine⟨sm.trans sm3,fun r hr=>?_⟩;rw[List.take_add_one,Hj hi]at hr;rcases Hz.mp hr with h | h
    ·exact hok r h
    ·rw[show r=qs[i] by simpa using h];exact hb
   ·rw[if_pos (by simpa using hb)]
    exact⟨aj (by omega),bad (fun h=>hb (h.1 _ (Hu hi))) _ ((m02.trans sm).trans sm3)⟩
  ·rintro σ H' ⟨sm,hok,x,rfl⟩
   rw[au,Ic]at hok;have smH:=m02.trans sm;walk_at "wp"
   by_cases c1:c<1
   ·rw[if_pos c1]
    exact⟨aj (by omega),bad (fun h=>by omega) _ smH⟩
   ·rw[if_neg c1]
    by_cases c9:9<c
    ·rw[if_pos c9]
     exact⟨aj (by omega),bad (fun h=>by omega) _ smH⟩
    ·rw[if_neg c9]
     have g:=good ⟨hok,by omega,by omega⟩ H' smH;have l1:(cj "name" (V.str (tx n)) []).length<=1:=cE _ _ _;have l2:(cj "cost" (V.int c) (cj "name" (V.str (tx n)) [])).length<=2:=HY (cE _ _ _) (by omega);have d1:¬ (("name":Str)="cost"):=by decide +kernel
     have d2:¬ (("name":Str)="part_names"):=by decide +kernel
     have d3:¬ (("cost":Str)="part_names"):=by decide +kernel
     have e:cj "part_names" (V.ref l) (cj "cost" (V.int c) (cj "name" (V.str (tx n)) []))=[(("name":Str),V.str (tx n)),(("cost":Str),V.int c),(("part_names":Str),V.ref l)]:=by
      simp only[cj,if_neg d1,if_neg d2,if_neg d3]
     refine⟨C,dx,[],smH _ _ ha,cl,n1,by simp,C,dx,_,ac,cl,n2,by omega,C,dx,_,ac,cl,n3,by omega,?_⟩;rw[lZ,lZ,e];exact g
noncomputable def bM(a:Addr)(H H':Hp):Prop:=∀b o,b≠a->H b=some o->H' b=some o
theorem bM.of{a:Addr}{H H':Hp}(s:ay H H'):bM a H H':=fun b o _ e=>s b o e
theorem bM.put{a:Addr}{H H':Hp}{o:HO}(s:bM a H H'):bM a H (aB H' a o):=fun b u hb e=>by rw[ai hb];exact s b u hb e
theorem bM.then{a:Addr}{H H' H2:Hp}(s:bM a H H')(t:ay H' H2):bM a H H2:=fun b u hb e=>t b u (s b u hb e)
noncomputable abbrev Cp:Str:="abcdefghijklmnopqrstuvwxyz"
noncomputable def i'(r:List Nat):Bool:=decide (r.length=1)&&gX r Cp
noncomputable def gJ(n:List Nat)(ps:bC)(c:Int):Prop:=(∀r∈n::ps,cB r=true)/\1<=c/\c<=9
noncomputable abbrev dz:Stmt:=kL 28 0
noncomputable def iE(K:W.Frag)(CF:Addr):Sp:=fun vs H Q E=>∃(a C dx:Addr) (n sg:List Nat) (c:Int),vs=[.ref a,.str (tx n),.int c,.str (tx sg)]/\H a=some (.ins C dx [])/\oI K C/\(aL K C "name"/\aL K C "cost"/\aL K C "part_names"/\aL K C "sign")/\n.length<=100000/\sg.length<=100000 /\
 (gJ n [] c/\i' sg=true->∀(l:Addr) (H':Hp),bM a H H'->H l=none->H' l=some (.lst [])->H' a=some (.ins C dx [("name",.str (tx n)),("cost",.int c),("part_names",.ref l),("sign",.str (tx sg))])->Q .non H') /\
 (¬ (gJ n [] c/\i' sg=true)->∀H',bM a H H'->E (.ref CF) none H')
theorem tG:aF ["self","name","cost","sign"] ["self","name","cost","sign"] (ak dz):=by walk_at "c"
theorem rL{f zfa:Addr}{fd:FuncData}{t3:Tok}(F:c_ K "__init__" "CellRule.__init__" dz f fd)(nb:NB mg)(m_SMALLS:mg "SMALLS"=some (.str "abcdefghijklmnopqrstuvwxyz" t3))(zAa:mg "NoRule"=some (.ref zfa))(zta:XR K zfa)
  (c_only_of:eX P w K mg base bH 1 "only_of" ["text","letters"] iS) (zia:xy P w K mg base (dM P w) 3 "Rule" "__init__" ["self","name","cost","part_names"] (cH K zfa)):bc P w K mg base (dM P w) 4 f fd ["self","name","cost","sign"] (iE K zfa):=by
 have sc:=tG;walk_at "x"
 ·obtain⟨a,C,dx,n,sg,c,rfl,_⟩:=h;rfl
 ·obtain⟨a,C,dx,n,sg,c,rfl,ha,cl,⟨n1,n2,n3,n4⟩,hn,hsg,good,bad⟩:=h
  refine⟨_,(ag (bN (n_ (E:=E) zia (hr.mono (by decide)) rfl (dG fun _ _ _ h=>h) (aa (am 0) (aa (am 1) (aa (am 2) (aa (bv ad) ad))))))
   (ag (bg (PW.pt (hJ (aA kn (av ba rfl nb.len aQ (aa (am 3) ad)) af (aJ _)) (fq (ky (lx (aP (CX:=dM P w) c_only_of.lift (hr.mono (by decide)) rfl b8 (aa (am 3) (aa (eY (v:=.str "abcdefghijklmnopqrstuvwxyz") rfl m_SMALLS ⟨_,rfl⟩) ad))) fun _=>rfl)))))
   (ah (fU zta rfl rfl zAa (g_ fun _ _ _ h=>h) (bf ad)))
   aN)
   (ah (dS (am 0) (am 3) rfl)))),?_⟩
  walk_at "wp";refine⟨HQ _,fun l hl=>?_⟩;have m1:ay H (aB H l (.lst [])):=ae hl;have e1:aB H l (.lst []) l=some (.lst []):=ac;generalize aB H l (.lst [])=H1 at m1 e1 ⊢;have hla:l≠a:=fun e=>by rw[e,ha]at hl;cases hl
  refine⟨a,C,dx,l,n,c,[],rfl,m1 _ _ ha,cl,n1,n2,n3,e1,by simp,fun r hr=>by rw[show r=n by simpa using hr];exact hn,fun ok H2 sm2=>?_,fun nok H2 sm2=>bad (fun h=>nok h.1) _ (.of (m1.trans sm2))⟩;have sx:bM a H (aB H2 a (.ins C dx [("name",.str (tx n)),("cost",.int c),("part_names",.ref l)])):=(bM.of (m1.trans sm2)).put;have ea:aB H2 a (.ins C dx [("name",.str (tx n)),("cost",.int c),("part_names",.ref l)]) a=some (.ins C dx [("name",.str (tx n)),("cost",.int c),("part_names",.ref l)]):=ac;have el:aB H2 a (.ins C dx [("name",.str (tx n)),("cost",.int c),("part_names",.ref l)]) l=some (.lst []):=by rw[ai hla];exact sm2 _ _ e1
  generalize aB H2 a (.ins C dx [("name",.str (tx n)),("cost",.int c),("part_names",.ref l)])=H3 at sx ea el ⊢;dsimp only;have sgl:i' sg=true->sg.length=1/\gX sg Cp=true:=fun h=>by
   unfold i' at h;rw[Bool.and_eq_true,decide_eq_true_eq]at h;exact h
  refine⟨by rw[aE];exact aj (by omega),?_⟩;rw[aE]
  by_cases h1:(sg.length:Int)=1
  ·rw[if_neg (fun h=>h h1)]
   refine⟨sg,_,rfl,hsg,fun H4 sm4=>⟨_,rfl,?_⟩⟩
   by_cases hb:gX sg Cp=true
   ·rw[if_neg (by rw[hb];decide)]
    have d1:¬ (("name":Str)="sign"):=by decide +kernel
    have d2:¬ (("cost":Str)="sign"):=by decide +kernel
    have d3:¬ (("part_names":Str)="sign"):=by decide +kernel
    have e:cj "sign" (V.str (tx sg)) [(("name":Str),V.str (tx n)),(("cost":Str),V.int c),(("part_names":Str),V.ref l)]=[(("name":Str),V.str (tx n)),(("cost":Str),V.int c),(("part_names":Str),V.ref l),(("sign":Str),V.str (tx sg))]:=by
     simp only[cj,if_neg d1,if_neg d2,if_neg d3]
    refine⟨C,dx,_,sm4 _ _ ea,cl,n4,by simp,?_⟩;rw[e];exact good ⟨ok,by unfold i';rw[decide_eq_true (by omega),hb];rfl⟩ l _ (sx.then sm4).put hl (by rw[ai hla];exact sm4 _ _ el) ac
   ·rw[if_pos (by simpa using hb)]
    exact⟨aj (by omega),bad (fun h=>hb (sgl h.2).2) _ (sx.then sm4)⟩
  ·rw[if_pos h1]
   exact⟨aj (by omega),bad (fun h=>h1 (by have:=(sgl h.2).1;omega)) _ sx⟩
noncomputable def cP(K:W.Frag)(CF:Addr):Sp:=fun vs H Q E=>∃(a C dx:Addr) (n o1 o2:List Nat) (c:Int),vs=[.ref a,.str (tx n),.int c,.str (tx o1),.str (tx o2)]/\H a=some (.ins C dx [])/\oI K C/\(aL K C "name"/\aL K C "cost"/\aL K C "part_names"/\aL K C "one"/\aL K C "other")/\n.length<=100000/\o1.length<=100000/\o2.length<=100000 /\
 (gJ n [o1,o2] c->∀(l:Addr) (H':Hp),bM a H H'->H l=none->H' l=some (.lst (aD [o1,o2]))->H' a=some (.ins C dx [("name",.str (tx n)),("cost",.int c),("part_names",.ref l),("one",.str (tx o1)),("other",.str (tx o2))])->Q .non H') /\
 (¬ gJ n [o1,o2] c->∀H',bM a H H'->E (.ref CF) none H')
theorem tU{n o1 o2:List Nat}{c:Int}{l:Addr}:cj "other" (V.str (tx o2)) (cj "one" (V.str (tx o1)) [(("name":Str),V.str (tx n)),(("cost":Str),V.int c),(("part_names":Str),V.ref l)])=[(("name":Str),V.str (tx n)),(("cost":Str),V.int c),(("part_names":Str),V.ref l),(("one":Str),V.str (tx o1)),(("other":Str),V.str (tx o2))]:=by
 have d1:¬ (("name":Str)="one"):=by decide +kernel
 have d2:¬ (("cost":Str)="one"):=by decide +kernel
 have d3:¬ (("part_names":Str)="one"):=by decide +kernel
 have d4:¬ (("name":Str)="other"):=by decide +kernel
 have d5:¬ (("cost":Str)="other"):=by decide +kernel
 have d6:¬ (("part_names":Str)="other"):=by decide +kernel
 have d7:¬ (("one":Str)="other"):=by decide +kernel
 simp only[cj,if_neg d1,if_neg d2,if_neg d3,if_neg d4,if_neg d5,if_neg d6,if_neg d7]
noncomputable abbrev b7:Stmt:=kL 29 0
theorem pW:aF ["self","name","cost","one","other"] ["self","name","cost","one","other"] (ak b7):=by walk_at "c"
theorem o5{f zfa:Addr}{fd:FuncData}(F:c_ K "__init__" "BesideRule.__init__" b7 f fd)(nb:NB mg)
  (zia:xy P w K mg base (dM P w) 3 "Rule" "__init__" ["self","name","cost","part_names"] (cH K zfa)):bc P w K mg base (dM P w) 4 f fd ["self","name","cost","one","other"] (cP K zfa):=by
 have sc:=pW;walk_at "x"
 ·obtain⟨a,C,dx,n,o1,o2,c,rfl,_⟩:=h;rfl
 ·obtain⟨a,C,dx,n,o1,o2,c,rfl,ha,cl,⟨n1,n2,n3,n4,n5⟩,hn,ho1,ho2,good,bad⟩:=h
  refine⟨_,(ag (bN (n_ (E:=E) zia (hr.mono (by decide)) rfl (dG fun _ _ _ h=>h) (aa (am 0) (aa (am 1) (aa (am 2) (aa (bv (aa (am 3) (aa (am 4) ad))) ad))))))
   (ag (dS (am 0) (am 3) rfl)
   (ah (dS (am 0) (am 4) rfl)))),?_⟩
  walk_at "wp";refine⟨aj (by omega),fun l hl=>?_⟩;have m1:ay H (aB H l (.lst [V.str (tx o1),V.str (tx o2)])):=ae hl;have e1:aB H l (.lst [V.str (tx o1),V.str (tx o2)]) l=some (.lst (aD [o1,o2])):=ac;generalize aB H l (.lst [V.str (tx o1),V.str (tx o2)])=H1 at m1 e1 ⊢;have hla:l≠a:=fun e=>by rw[e,ha]at hl;cases hl
  refine⟨a,C,dx,l,n,c,[o1,o2],rfl,m1 _ _ ha,cl,n1,n2,n3,e1,by simp,fun r hr=>?_,fun ok H2 sm2=>?_,fun nok H2 sm2=>bad (fun h=>nok h) _ (.of (m1.trans sm2))⟩
  ·have h3:r=n\/r=o1\/r=o2:=by simpa using hr
   rcases h3 with rfl | rfl | rfl
   ·exact hn
   ·exact ho1
   ·exact ho2
  ·have sx:bM a H (aB H2 a (.ins C dx [("name",.str (tx n)),("cost",.int c),("part_names",.ref l)])):=(bM.of (m1.trans sm2)).put
   have ea:aB H2 a (.ins C dx [("name",.str (tx n)),("cost",.int c),("part_names",.ref l)]) a=some (.ins C dx [("name",.str (tx n)),("cost",.int c),("part_names",.ref l)]):=ac;have el:aB H2 a (.ins C dx [("name",.str (tx n)),("cost",.int c),("part_names",.ref l)]) l=some (.lst (aD [o1,o2])):=by rw[ai hla];exact sm2 _ _ e1
   generalize aB H2 a (.ins C dx [("name",.str (tx n)),("cost",.int c),("part_names",.ref l)])=H3 at sx ea el ⊢;dsimp only;refine⟨C,dx,_,ea,cl,n4,by simp,C,dx,_,ac,cl,n5,?_,?_⟩
   ·exact Ih (cE _ _ _) (by simp)
   ·rw[lZ,tU]
    exact good ok l _ sx.put hl (by rw[ai hla];exact el) ac
noncomputable abbrev cJ:Stmt:=kL 30 0
theorem qy:aF ["self","name","cost","one","other"] ["self","name","cost","one","other"] (ak cJ):=by walk_at "c"
theorem ql{f zfa:Addr}{fd:FuncData}(F:c_ K "__init__" "AboveRule.__init__" cJ f fd)(nb:NB mg)
  (zia:xy P w K mg base (dM P w) 3 "Rule" "__init__" ["self","name","cost","part_names"] (cH K zfa)):bc P w K mg base (dM P w) 4 f fd ["self","name","cost","one","other"] (cP K zfa):=by
 have sc:=qy;walk_at "x"
 ·obtain⟨a,C,dx,n,o1,o2,c,rfl,_⟩:=h;rfl
 ·obtain⟨a,C,dx,n,o1,o2,c,rfl,ha,cl,⟨n1,n2,n3,n4,n5⟩,hn,ho1,ho2,good,bad⟩:=h
  refine⟨_,(ag (bN (n_ (E:=E) zia (hr.mono (by decide)) rfl (dG fun _ _ _ h=>h) (aa (am 0) (aa (am 1) (aa (am 2) (aa (bv (aa (am 3) (aa (am 4) ad))) ad))))))
   (ag (dS (am 0) (am 3) rfl)
   (ah (dS (am 0) (am 4) rfl)))),?_⟩
  walk_at "wp";refine⟨aj (by omega),fun l hl=>?_⟩;have m1:ay H (aB H l (.lst [V.str (tx o1),V.str (tx o2)])):=ae hl;have e1:aB H l (.lst [V.str (tx o1),V.str (tx o2)]) l=some (.lst (aD [o1,o2])):=ac;generalize aB H l (.lst [V.str (tx o1),V.str (tx o2)])=H1 at m1 e1 ⊢;have hla:l≠a:=fun e=>by rw[e,ha]at hl;cases hl
  refine⟨a,C,dx,l,n,c,[o1,o2],rfl,m1 _ _ ha,cl,n1,n2,n3,e1,by simp,fun r hr=>?_,fun ok H2 sm2=>?_,fun nok H2 sm2=>bad (fun h=>nok h) _ (.of (m1.trans sm2))⟩
  ·have h3:r=n\/r=o1\/r=o2:=by simpa using hr
   rcases h3 with rfl | rfl | rfl
   ·exact hn
   ·exact ho1
   ·exact ho2
  ·have sx:bM a H (aB H2 a (.ins C dx [("name",.str (tx n)),("cost",.int c),("part_names",.ref l)])):=(bM.of (m1.trans sm2)).put
   have ea:aB H2 a (.ins C dx [("name",.str (tx n)),("cost",.int c),("part_names",.ref l)]) a=some (.ins C dx [("name",.str (tx n)),("cost",.int c),("part_names",.ref l)]):=ac;have el:aB H2 a (.ins C dx [("name",.str (tx n)),("cost",.int c),("part_names",.ref l)]) l=some (.lst (aD [o1,o2])):=by rw[ai hla];exact sm2 _ _ e1
   generalize aB H2 a (.ins C dx [("name",.str (tx n)),("cost",.int c),("part_names",.ref l)])=H3 at sx ea el ⊢;dsimp only;refine⟨C,dx,_,ea,cl,n4,by simp,C,dx,_,ac,cl,n5,?_,?_⟩
   ·exact Ih (cE _ _ _) (by simp)
   ·rw[lZ,tU]
    exact good ok l _ sx.put hl (by rw[ai hla];exact el) ac
noncomputable def io(K:W.Frag)(CF:Addr):Sp:=fun vs H Q E=>∃(a C dx:Addr) (n o1:List Nat) (c t:Int),vs=[.ref a,.str (tx n),.int c,.str (tx o1),.int t]/\H a=some (.ins C dx [])/\oI K C/\(aL K C "name"/\aL K C "cost"/\aL K C "part_names"/\aL K C "part"/\aL K C "turning")/\n.length<=100000/\o1.length<=100000 /\
 (gJ n [o1] c/\0<=t/\t<=7->∀(l:Addr) (H':Hp),bM a H H'->H l=none->H' l=some (.lst (aD [o1]))->H' a=some (.ins C dx [("name",.str (tx n)),("cost",.int c),("part_names",.ref l),("part",.str (tx o1)),("turning",.int t)])->Q .non H') /\
 (¬ (gJ n [o1] c/\0<=t/\t<=7)->∀H',bM a H H'->E (.ref CF) none H')
theorem AI{n o1:List Nat}{c t:Int}{l:Addr}:cj "turning" (V.int t) (cj "part" (V.str (tx o1)) [(("name":Str),V.str (tx n)),(("cost":Str),V.int c),(("part_names":Str),V.ref l)])=[(("name":Str),V.str (tx n)),(("cost":Str),V.int c),(("part_names":Str),V.ref l),(("part":Str),V.str (tx o1)),(("turning":Str),V.int t)]:=by
 have d1:¬ (("name":Str)="part"):=by decide +kernel
 have d2:¬ (("cost":Str)="part"):=by decide +kernel
 have d3:¬ (("part_names":Str)="part"):=by decide +kernel
 have d4:¬ (("name":Str)="turning"):=by decide +kernel
 have d5:¬ (("cost":Str)="turning"):=by decide +kernel
 have d6:¬ (("part_names":Str)="turning"):=by decide +kernel
 have d7:¬ (("part":Str)="turning"):=by decide +kernel
 simp only[cj,if_neg d1,if_neg d2,if_neg d3,if_neg d4,if_neg d5,if_neg d6,if_neg d7]
noncomputable abbrev dI:Stmt:=kL 31 0
theorem si:aF ["self","name","cost","part","turning"] ["self","name","cost","part","turning"] (ak dI):=by walk_at "c"
theorem tj{f zfa:Addr}{fd:FuncData}(F:c_ K "__init__" "TurnRule.__init__" dI f fd)(nb:NB mg)(zAa:mg "NoRule"=some (.ref zfa))(zta:XR K zfa)
  (zia:xy P w K mg base (dM P w) 3 "Rule" "__init__" ["self","name","cost","part_names"] (cH K zfa)):bc P w K mg base (dM P w) 4 f fd ["self","name","cost","part","turning"] (io K zfa):=by
 have sc:=si;walk_at "x"
 ·obtain⟨a,C,dx,n,o1,c,t,rfl,_⟩:=h;rfl
 ·obtain⟨a,C,dx,n,o1,c,t,rfl,ha,cl,⟨n1,n2,n3,n4,n5⟩,hn,ho1,good,bad⟩:=h
  refine⟨_,(ag (bN (n_ (E:=E) zia (hr.mono (by decide)) rfl (dG fun _ _ _ h=>h) (aa (am 0) (aa (am 1) (aa (am 2) (aa (bv (aa (am 3) ad)) ad))))))
   (ag (bg (PW.pt (hJ (aA (a_.m0 nE) (am 4) af (aJ _)) (fq (aA (a_.m0 jb) (am 4) af (aJ _)))))
   (ah (fU zta rfl rfl zAa (g_ fun _ _ _ h=>h) (bf ad)))
   aN)
   (ag (dS (am 0) (am 3) rfl)
   (ah (dS (am 0) (am 4) rfl))))),?_⟩
  walk_at "wp";refine⟨aj (by omega),fun l hl=>?_⟩;have m1:ay H (aB H l (.lst [V.str (tx o1)])):=ae hl;have e1:aB H l (.lst [V.str (tx o1)]) l=some (.lst (aD [o1])):=ac;generalize aB H l (.lst [V.str (tx o1)])=H1 at m1 e1 ⊢;have hla:l≠a:=fun e=>by rw[e,ha]at hl;cases hl
  refine⟨a,C,dx,l,n,c,[o1],rfl,m1 _ _ ha,cl,n1,n2,n3,e1,by simp,fun r hr=>?_,fun ok H2 sm2=>?_,fun nok H2 sm2=>bad (fun h=>nok h.1) _ (.of (m1.trans sm2))⟩
  ·have h3:r=n\/r=o1:=by simpa using hr
   rcases h3 with rfl | rfl
   ·exact hn
   ·exact ho1
  ·have sx:bM a H (aB H2 a (.ins C dx [("name",.str (tx n)),("cost",.int c),("part_names",.ref l)])):=(bM.of (m1.trans sm2)).put
   have ea:aB H2 a (.ins C dx [("name",.str (tx n)),("cost",.int c),("part_names",.ref l)]) a=some (.ins C dx [("name",.str (tx n)),("cost",.int c),("part_names",.ref l)]):=ac;have el:aB H2 a (.ins C dx [("name",.str (tx n)),("cost",.int c),("part_names",.ref l)]) l=some (.lst (aD [o1])):=by rw[ai hla];exact sm2 _ _ e1
   generalize aB H2 a (.ins C dx [("name",.str (tx n)),("cost",.int c),("part_names",.ref l)])=H3 at sx ea el ⊢;dsimp only
   by_cases t0:t<0
   ·rw[if_pos t0]
    exact⟨aj (by omega),bad (fun h=>by omega) _ sx⟩
   ·rw[if_neg t0]
    by_cases t7:7<t
    ·rw[if_pos t7]
     exact⟨aj (by omega),bad (fun h=>by omega) _ sx⟩
    ·rw[if_neg t7]
     refine⟨C,dx,_,ea,cl,n4,by simp,C,dx,_,ac,cl,n5,?_,?_⟩
     ·exact Ih (cE _ _ _) (by simp)
     ·rw[lZ,AI]
      exact good ⟨ok,by omega,by omega⟩ l _ sx.put hl (by rw[ai hla];exact el) ac
noncomputable abbrev cS:Stmt:=kL 27 1
noncomputable def bU(K:W.Frag):Sp:=fun vs H Q _=>∃(a C dx l:Addr) (fs:List (Str×V)) (ps:bC),vs=[.ref a]/\H a=some (.ins C dx fs)/\oI K C/\aL K C "part_names"/\fs.lookup ("part_names":Str)=some (V.ref l)/\H l=some (.lst (aD ps))/\bR H ps Q
theorem qx:aF ["self"] ["self"] (ak cS):=by walk_at "c"
theorem eR{f:Addr}{fd:FuncData}(F:c_ K "parts" "Rule.parts" cS f fd)(nb:NB mg):bc P w K mg base bH 1 f fd ["self"] (bU K):=by
 have sc:=qx;walk_at "f"
 ·obtain⟨a,C,dx,l,fs,ps,rfl,_⟩:=h;rfl
 ·obtain⟨a,C,dx,l,fs,ps,rfl,ha,cl,n1,lk,hl,q⟩:=h
  refine⟨_,(ah (aI (gQ iO rfl nb.list rO (aa (gM (am 0) rfl) ad)))),?_⟩;walk_at "wp";refine⟨C,dx,fs,ha,cl,n1,V.ref l,lk,l,rfl,_,.inl (aW.of hl),fun l' hl'=>q l' _ hl' ac (ae hl')⟩
noncomputable abbrev BR(n:List Nat)(c:Int)(l:Addr)(sg:List Nat):List (Str×V):=[("name",.str (tx n)),("cost",.int c),("part_names",.ref l),("sign",.str (tx sg))]
noncomputable abbrev B7(n:List Nat)(c:Int)(l:Addr)(o1 o2:List Nat):List (Str×V):=[("name",.str (tx n)),("cost",.int c),("part_names",.ref l),("one",.str (tx o1)),("other",.str (tx o2))]
noncomputable abbrev B4(n:List Nat)(c:Int)(l:Addr)(o1:List Nat)(t:Int):List (Str×V):=[("name",.str (tx n)),("cost",.int c),("part_names",.ref l),("part",.str (tx o1)),("turning",.int t)]
theorem jZ{r:List Nat}(h:cB r=true):1<=r.length/\r.length<=4:=by
 unfold cB at h;rw[Bool.and_eq_true,Bool.and_eq_true,decide_eq_true_eq,decide_eq_true_eq]at h;exact h.1
theorem ka{r:List Nat}(h:i' r=true):r.length=1:=by
 unfold i' at h;rw[Bool.and_eq_true,decide_eq_true_eq]at h;exact h.1
theorem ao{a b:TS}{D:jf}{σ:St}{H:Hp}(h:∀N:St->Hp->Prop,(∀σ2 H2,b D σ2 H2->N σ2 H2)->a {D with nx:=N} σ H):vC a b D σ H:=h (b D) fun _ _ z=>z
noncomputable abbrev mJ:Stmt:=gu 55
noncomputable def pC:Sp:=fun vs H Q _=>∃(i:Int),vs=[.int i]/\Q (.bl true) H
theorem vy:aF ["_law_found"] ["_law_found"] (ak mJ):=by walk_at "c"
theorem vq{f:Addr}{fd:FuncData}(F:c_ K "_law_whole" "_law_whole" mJ f fd)(nb:NB mg):bc P w K mg base bH 1 f fd ["_law_found"] pC:=by
 have sc:=vy;walk_at "f"
 ·obtain⟨i,rfl,_⟩:=h;rfl
 ·obtain⟨i,rfl,q⟩:=h
  refine⟨_,(ah (aI (pZ (av fz rfl nb.isinstance df (aa (am 0) (aa (nY (v:=.ty "int") rfl nb.int Cl rfl) ad))) (sQ (CA (av fz rfl nb.isinstance df (aa (am 0) (aa (nY (v:=.ty "bool") rfl nb.bool By rfl) ad)))))))),?_⟩;walk_at "wp";refine⟨_,ke.int i,_,uK K _,?_⟩;walk_at "wp";refine⟨_,ke.int i,_,tw K,?_⟩;exact q
structure RV where
 n:List Nat
 c:Int
 o1:List Nat
 o2:List Nat
 sg:List Nat
 t:Int
structure RC where
 rr:Addr
 cc:Addr
 cb:Addr
 ca:Addr
 ct:Addr
noncomputable def RC.at(R:RC)(k:Nat):Addr:=match k with | 0=>R.cc | 1=>R.cb | 2=>R.ca | _=>R.ct
noncomputable def vL(k:Nat)(l:Addr)(v:RV):List (Str×V):=match k with | 0=>BR v.n v.c l v.sg | 1=>B7 v.n v.c l v.o1 v.o2 | 2=>B7 v.n v.c l v.o1 v.o2 | _=>B4 v.n v.c l v.o1 v.t
noncomputable def aT(k:Nat)(v:RV):bC:=match k with | 0=>[] | 1=>[v.o1,v.o2] | 2=>[v.o1,v.o2] | _=>[v.o1]
noncomputable def Fr(k:Nat)(v:RV):Prop:=match k with | 0=>gJ v.n [] v.c/\i' v.sg=true | 1=>gJ v.n [v.o1,v.o2] v.c | 2=>gJ v.n [v.o1,v.o2] v.c | _=>gJ v.n [v.o1] v.c/\0<=v.t/\v.t<=7
structure RV.small(v:RV):Prop where
 n:v.n.length<=1000
 o1:v.o1.length<=1000
 o2:v.o2.length<=1000
 sg:v.sg.length<=1000
structure RV.good(v:RV):Prop where
 n:cB v.n=true
 c1:1<=v.c
 c9:v.c<=9
 o1:cB v.o1=true
 o2:cB v.o2=true
 sg:i' v.sg=true
 t0:0<=v.t
 t7:v.t<=7
theorem RV.good.small{v:RV}(g:v.good):v.small:=⟨by have:=jZ g.n;omega,by have:=jZ g.o1;omega,by have:=jZ g.o2;omega,by have:=ka g.sg;omega⟩
theorem RV.good.ok{v:RV}(g:v.good):∀k,Fr k v
 |0=>⟨⟨fun r hr=>by rw[show r=v.n by simpa using hr];exact g.n,g.c1,g.c9⟩,g.sg⟩
 |1=>⟨fun r hr=>by rcases(show r=v.n\/r=v.o1\/r=v.o2 by simpa using hr) with rfl | rfl | rfl<;>first | exact g.n | exact g.o1 | exact g.o2,g.c1,g.c9⟩
 |2=>⟨fun r hr=>by rcases(show r=v.n\/r=v.o1\/r=v.o2 by simpa using hr) with rfl | rfl | rfl<;>first | exact g.n | exact g.o1 | exact g.o2,g.c1,g.c9⟩
 |_+3=>⟨⟨fun r hr=>by rcases(show r=v.n\/r=v.o1 by simpa using hr) with rfl | rfl<;>first | exact g.n | exact g.o1,g.c1,g.c9⟩,g.t0,g.t7⟩
noncomputable def jq(R:RC)(H:Hp)(k:Nat)(a:Addr)(v:RV):Prop:=∃dx l,H a=some (.ins (R.at k) dx (vL k l v))/\H l=some (.lst (aD (aT k v)))
theorem jq.up{R:RC}{H H':Hp}{k:Nat}{a:Addr}{v:RV}(r:jq R H k a v)(s:ay H H'):jq R H' k a v:=by
 obtain⟨dx,l,h1,h2⟩:=r;exact⟨dx,l,s _ _ h1,s _ _ h2⟩
structure qj(K:W.Frag)(R:RC):Prop where
 i0:mD K R.cc
 i1:mD K R.cb
 i2:mD K R.ca
 i3:mD K R.ct
 a0:aL K R.cc "name"/\aL K R.cc "cost"/\aL K R.cc "part_names"/\aL K R.cc "sign"
 a1:aL K R.cb "name"/\aL K R.cb "cost"/\aL K R.cb "part_names"/\aL K R.cb "one"/\aL K R.cb "other"
 a2:aL K R.ca "name"/\aL K R.ca "cost"/\aL K R.ca "part_names"/\aL K R.ca "one"/\aL K R.ca "other"
 a3:aL K R.ct "name"/\aL K R.ct "cost"/\aL K R.ct "part_names"/\aL K R.ct "part"/\aL K R.ct "turning"
 r0:W.kitOne K (.ref R.cc) (.ref R.rr)=some true
 r1:W.kitOne K (.ref R.cb) (.ref R.rr)=some true
 r2:W.kitOne K (.ref R.ca) (.ref R.rr)=some true
 r3:W.kitOne K (.ref R.ct) (.ref R.rr)=some true
 s0:W.kitOne K (.ref R.cc) (.ref R.cc)=some true
 s1:W.kitOne K (.ref R.cb) (.ref R.cb)=some true
 s2:W.kitOne K (.ref R.ca) (.ref R.ca)=some true
 s3:W.kitOne K (.ref R.ct) (.ref R.ct)=some true
theorem qj.icls{R:RC}(rk:qj K R):∀k,mD K (R.at k)
 |0=>rk.i0
 |1=>rk.i1
 |2=>rk.i2
 |_+3=>rk.i3
theorem qj.name{R:RC}(rk:qj K R):∀k,aL K (R.at k) "name"/\aL K (R.at k) "cost"/\aL K (R.at k) "part_names"
 |0=>⟨rk.a0.1,rk.a0.2.1,rk.a0.2.2.1⟩
 |1=>⟨rk.a1.1,rk.a1.2.1,rk.a1.2.2.1⟩
 |2=>⟨rk.a2.1,rk.a2.2.1,rk.a2.2.2.1⟩
 |_+3=>⟨rk.a3.1,rk.a3.2.1,rk.a3.2.2.1⟩
theorem lX(l:Addr)(v:RV):∀k,(vL k l v).lookup ("name":Str)=some (V.str (tx v.n))/\(vL k l v).lookup ("cost":Str)=some (V.int v.c)/\(vL k l v).lookup ("part_names":Str)=some (V.ref l)/\(vL k l v).lookup ("parts":Str)=none/\(vL k l v).lookup ("told":Str)=none
 |0=>⟨rfl,rfl,rfl,rfl,rfl⟩
 |1=>⟨rfl,rfl,rfl,rfl,rfl⟩
 |2=>⟨rfl,rfl,rfl,rfl,rfl⟩
 |_+3=>⟨rfl,rfl,rfl,rfl,rfl⟩
theorem j_{H1 H2:Hp}{x dx:Addr}{o o':HO}(hx:H1 x=none)(hd:H1 dx=none)(s:bM x (aB (aB H1 dx o) x o') H2):ay H1 H2:=
 fun b u e=>s b u (aG e hx) (by rw[ai (aG e hx),ai (aG e hd)];exact e)
theorem B8{CX:jL}{k:Nat}{m:Str}{C0 C1 C2 C3:Addr}{s0 s1 s2 s3:Sp}(h0:∃ps,nM P w K mg base CX k C0 m ps s0)(h1:∃ps,nM P w K mg base CX k C1 m ps s1)(h2:∃ps,nM P w K mg base CX k C2 m ps s2)(h3:∃ps,nM P w K mg base CX k C3 m ps s3) :
  tP P w K mg base CX k m [(C0,s0),(C1,s1),(C2,s2),(C3,s3)]:=⟨fun o ho=>by
 simp only[HF,List.not_mem_nil,or_false]at ho;rcases ho with rfl | rfl | rfl | rfl
 ·exact h0
 ·exact h1
 ·exact h2
 ·exact h3⟩
noncomputable def mU(K:W.Frag)(R:RC):List (Addr×Sp):=[(R.cc,bU K),(R.cb,bU K),(R.ca,bU K),(R.ct,bU K)]
theorem rH{R:RC}{H:Hp}{k a}{v:RV}{Q:VK}{E:XK}(rk:qj K R)(r:jq R H k a v)(q:bR H (aT k v) Q) :
  ∃o∈mU K R,∃dx fs,H a=some (.ins o.1 dx fs)/\fs.lookup ("parts":Str)=none/\o.2 [.ref a] H Q E:=by
 obtain⟨dx,l,h1,h2⟩:=r;have key:bU K [.ref a] H Q E:=⟨a,R.at k,dx,l,_,_,rfl,h1,(rk.icls k).cl,(rk.name k).2.2,(lX l v k).2.2.1,h2,q⟩;have mem:(R.at k,bU K)∈mU K R:=by
  unfold mU
  match k with
  |0=>simp[RC.at]
  |1=>simp[RC.at]
  |2=>simp[RC.at]
  |_+3=>simp[RC.at]
 exact⟨_,mem,dx,_,h1,(lX l v k).2.2.2.1,key⟩
noncomputable abbrev jK:Stmt:=gu 38
noncomputable abbrev oU:Str:="abcdefghijklmnopqrstuvwxyz"
noncomputable def cU(r:List Nat):Bool:=decide (1<=r.length)&&decide (r.length<=4)&&gX r oU&&decide ((met (cO (tx r))).length=r.length)
noncomputable def le:Sp:=fun vs H Q _=>∃(r:List Nat),vs=[.str (tx r)]/\r.length<=1000/\∀H',ay H H'->Q (.bl (cU r)) H'
theorem rX:aF ["text"] ["text"] (ak jK):=by walk_at "c"
theorem r8{f:Addr}{fd:FuncData}{t1 t2:Tok}(F:c_ K "are_signs" "are_signs" jK f fd)(nb:NB mg)(m_MOST_SIGNS:mg "MOST_SIGNS"=some (.int 4 t1))(m_SMALLS:mg "SMALLS"=some (.str "abcdefghijklmnopqrstuvwxyz" t2))(c_only_of:eX P w K mg base bH 1 "only_of" ["text","letters"] iS):bc P w K mg base bH 2 f fd ["text"] le:=by
 have sc:=rX;walk_at "f"
 ·obtain⟨r,rfl,_⟩:=h;rfl
 ·obtain⟨r,rfl,hr',q⟩:=h
  refine⟨_,(ah (aI (pZ (uO (a_.m0 oO) (a_.m0 oO) af (av ba rfl nb.len aQ (aa (am 0) ad)) (eY (v:=.int 4) rfl m_MOST_SIGNS ⟨_,rfl⟩)) (pZ (aP c_only_of (hr.mono (by decide)) rfl bh (aa (am 0) (aa (eY (v:=.str "abcdefghijklmnopqrstuvwxyz") rfl m_SMALLS ⟨_,rfl⟩) ad))) (sQ (lM dA (yn rfl (am 0) rfl nb.len rfl nb.set) (av ba rfl nb.len aQ (aa (am 0) ad)) (aJ _))))))),?_⟩;walk_at "wp";refine⟨by rw[aE];exact aj (by omega),?_⟩;rw[aE];unfold cU at q
  by_cases h1:1<=r.length
  ·rw[if_pos (by omega)]
   by_cases h2:r.length<=4
   ·rw[if_pos (by omega)]
    refine⟨r,_,rfl,by omega,fun H' sm=>⟨_,rfl,?_⟩⟩;have z:=q H' sm;rw[decide_eq_true h1,decide_eq_true h2]at z;cases ho:gX r oU with
    |false=>
     rw[ho]at z;rw[if_neg (by simp)];exact z
    |true=>
     rw[ho]at z;rw[if_pos rfl];refine⟨by rw[EU];unfold scanBound;omega,by exact aj (by omega),?_⟩;have e:decide (((met (cO (tx r))).length:Int)=(r.length:Int))=decide ((met (cO (tx r))).length=r.length):=by
      apply decide_eq_decide.mpr
      constructor<;>intro h<;>omega
     rw[e];exact z
   ·rw[if_neg (by omega)]
    have z:=q H (fun _ _ e=>e);rw[decide_eq_true h1,decide_eq_false h2]at z;exact z
  ·rw[if_neg (by omega)]
   have z:=q H (fun _ _ e=>e);rw[decide_eq_false h1]at z;exact z
noncomputable def Dr(y:Str×List Int):List V:=.str y.1::y.2.map V.int
theorem lh{α:Type}{l:List α}{i:Nat}{x:α}(h:l[i]?=some x):l.drop i=x::l.drop (i+1):=by
 obtain⟨hi,e⟩:=Hk.mp h;rw[List.drop_eq_getElem_cons hi,e]
noncomputable def vm(C:Addr)(H:Hp)(y:Str×List Int)(E:XK):Prop:=∀(t d:Addr) (H':Hp),ay H H'->H' t=some (.tup (Dr y))->H' d=some (.xd [("why",.ref t)])->E (.ref C) (some d) H'
theorem vm.made{C:Addr}{H H':Hp}{y:Str×List Int}{E:XK}(b:vm C H y E)(sm:ay H H'){p d:Addr}(hp:H' p=none)(hd:aB H' p (.tup (Dr y)) d=none):E (.ref C) (some d) (aB (aB H' p (.tup (Dr y))) d (.xd [("why",.ref p)])):=by
 have hdp:p≠d:=fun x=>by rw[<- x,ac]at hd;cases hd
 exact b p d _ ((sm.trans (ae hp)).trans (ae hd)) (by rw[ai hdp,ac]) ac
structure BT(K:W.Frag)(R:RC):Prop where
 kit:∀i j,i<4->j<4->W.kitOne K (.ref (R.at i)) (.ref (R.at j))=some (decide (i=j))
noncomputable abbrev jQ:Stmt:=kL 5 0
theorem AK:aF ["self","why"] ["self","why"] (ak jQ):=by walk_at "c"
theorem zb{f C:Addr}{fd:FuncData}(F:c_ K "__init__" "NoGrammar.__init__" jQ f fd)(xs:W.XSt K C "why"):bc P w K mg base bH 1 f fd ["self","why"] (iB C "why"):=by
 have sc:=AK;walk_at "f"
 ·obtain⟨a,v,rfl,_⟩:=h;rfl
 ·obtain⟨a,v,rfl,ha,q⟩:=h
  refine⟨_,(ah (sh (pv 0) (pv 1) rfl)),?_⟩;walk_at "wp";exact⟨C,ha,xs,fun d hd=>q d hd⟩
noncomputable abbrev DV(z x:Str):Bool:=!(Builtin.Str.occurrences z x 0 z.length 1).isEmpty
noncomputable def gB(sg:Str):List (Nat×RV)->Nat->Option Nat
 | [],_=>none
 |r::rs,j=>if r.1=0/\DV sg (tx r.2.sg)=false then some j else gB sg rs (j+1)
noncomputable def iZ(sg st:List Nat)(rs:List (Nat×RV)):Option (Str×List Int):=
 if cU sg=false then some ("signs",[]) else if cB st=false then some ("start",[]) else if 24<rs.length then some ("rules",[(rs.length:Int)]) else
  match gB (tx sg) rs 0 with
  |some k=>some ("sign",[(k:Int)])
  |none=>none
noncomputable abbrev fm:Stmt:=gu 37
noncomputable def cL(R:RC)(H:Hp)(as:List Addr)(rs:List (Nat×RV)):Prop:=as.length=rs.length/\∀(i:Nat) a r,as[i]?=some a->rs[i]?=some r->jq R H r.1 a r.2
theorem cL.up{R:RC}{H H':Hp}{as:List Addr}{rs:List (Nat×RV)}(h:cL R H as rs)(s:ay H H'):cL R H' as rs:=⟨h.1,fun i a r e1 e2=>(h.2 i a r e1 e2).up s⟩
noncomputable def gU(R:RC)(C:Addr):Sp:=fun vs H Q E=>∃(sg st:List Nat) (a:Addr) (as:List Addr) (rs:List (Nat×RV)),vs=[.str (tx sg),.str (tx st),.ref a]/\sg.length<=1000/\st.length<=1000/\H a=some (.lst (as.map V.ref))/\cL R H as rs/\(∀r∈rs,r.1<4)/\rs.length<=100 /\
 (iZ sg st rs=none->∀H',ay H H'->Q .non H')/\∀y,iZ sg st rs=some y->vm C H y E
theorem mB:aF ["signs","start","rules","k","rule"] ["signs","start","rules"] (ak fm):=by walk_at "c"
theorem mF{R:RC}{f zba:Addr}{fd:FuncData}{t1:Tok}(F:c_ K "check_made_of" "check_made_of" fm f fd)(nb:NB mg)(rk:qj K R)(rk4:BT K R)(m_MOST_RULES:mg "MOST_RULES"=some (.int 24 t1))(zeb:mg "CellRule"=some (.ref R.cc))
  (zqa:mg "NoGrammar"=some (.ref zba)) (zla:XI P w K mg base 1 zba "why") (c_are_signs:eX P w K mg base bH 2 "are_signs" ["text"] le) (c_is_name:eX P w K mg base bH 2 "is_name" ["text"] kM):bc P w K mg base (dM P w) 3 f fd ["signs","start","rules"] (gU R zba):=by
 have sc:=mB;walk_at "x"
 ·obtain⟨sg,st,a,as,rs,rfl,_⟩:=h;rfl
 ·obtain⟨sg,st,a,as,rs,rfl,hsg,hst,ha,hrs,hk4,hn,good,bad⟩:=h
  refine⟨_,(ag (bg (ky (lx (aP (CX:=dM P w) c_are_signs.lift (hr.mono (by decide)) rfl b8 (aa (am 0) ad)) fun _=>rfl))
   (ah (dJ zla (hr.mono (by decide)) rfl rfl zqa (dB fun _ _ _ h=>h) (aa (aR (bf ad)) ad)))
   aN)
   (ag (bg (ky (lx (aP (CX:=dM P w) c_is_name.lift (hr.mono (by decide)) rfl b8 (aa (am 1) ad)) fun _=>rfl))
   (ah (dJ zla (hr.mono (by decide)) rfl rfl zqa (dB fun _ _ _ h=>h) (aa (aR (bf ad)) ad)))
   aN)
   (ag (bg (aA (a_.m0 jb) (av aO rfl nb.len aQ (aa (am 2) ad)) (eY (v:=.int 24) rfl m_MOST_RULES ⟨_,rfl⟩) (aJ _))
   (ah (dJ zla (hr.mono (by decide)) rfl rfl zqa (dB fun _ _ _ h=>h) (aa (aR (bf (aa (av aO rfl nb.len aQ (aa (am 2) ad)) ad))) ad)))
   aN)
   (ah (bP PassesOwn.leaving rfl (ol rfl nb.enumerate (aa (am 2) ad)) (fj (n:=2) rfl (aY (aH (i:=3) sc.nd rfl (Or.inl rfl)) (aY (aH (i:=4) sc.nd rfl (Or.inl rfl)) cM)))
   (ah (bg (PW.pt (kP (lx (av fz rfl nb.isinstance df (aa (am 4) (aa (eY (v:=.ref _) rfl zeb rfl) ad))) fun _=>rfl) (lU (aA tu (gM (am 4) rfl) (am 0) (by with_unfolding_all rfl)))))
   (ah (dJ zla (hr.mono (by decide)) rfl rfl zqa (dB fun _ _ _ h=>h) (aa (aR (bf (aa (am 3) ad))) ad)))
   aN))))))),?_⟩
  have tupw:∀(H':Hp) (y:Str×List Int),ay H H'->iZ sg st rs=some y->∀p,H' p=none->1<=sizeLine/\∀d,aB H' p (.tup (Dr y)) d=none->E (.ref zba) (some d) (aB (aB H' p (.tup (Dr y))) d (.xd [("why",.ref p)])):=
   fun H' y sm hy p hp=>⟨aj (by omega),fun d hd=>(bad y hy).made sm hp hd⟩
  walk_at "n";refine⟨sg,rfl,hsg,fun H1 sm1=>⟨_,rfl,?_⟩⟩;unfold iZ at good tupw;cases e1:cU sg with
  |false=>
   rw[if_pos rfl];rw[if_pos e1]at tupw;exact⟨aj (by omega),tupw H1 _ sm1 rfl⟩
  |true=>
  rw[if_neg (by decide)];rw[if_neg (by rw[e1];decide)]at good tupw;refine h1 _ _ ?_;clear h1;walk_at "o";refine⟨st,rfl,by omega,fun H2 sm2=>⟨_,rfl,?_⟩⟩;have sm12:=sm1.trans sm2;cases e2:cB st with
  |false=>
   rw[if_pos rfl];rw[if_pos e2]at tupw;exact⟨aj (by omega),tupw H2 _ sm12 rfl⟩
  |true=>
  rw[if_neg (by decide)];rw[if_neg (by rw[e2];decide)]at good tupw;refine h2 _ _ ?_;clear h2;have ha2:=sm12 _ _ ha;have hal:(as.map V.ref).length=rs.length:=by rw[Hm];exact hrs.1
  refine ao fun N3 h3=>?_;walk_at "wp";refine⟨_,aW.of ha2,?_⟩;rw[hal]
  by_cases h24:24<rs.length
  ·rw[if_pos (by omega)]
   rw[if_pos h24]at tupw;refine⟨_,aW.of ha2,aj (by omega),?_⟩;rw[hal];exact tupw H2 _ sm12 rfl
  rw[if_neg (by omega)];rw[if_neg h24]at good tupw;refine h3 _ _ ?_;clear h3;walk_at "wp";refine⟨_,aW.of ha2,?_⟩;refine jY (xs:=as.map V.ref) (fun i σ H'=>ay H H'/\gB (tx sg) (rs.drop i) i=gB (tx sg) rs 0/\∃x y,σ=[some (.str (tx sg)),some (.str (tx st)),some (.ref a),x,y]) ⟨sm12,rfl,_,_,rfl⟩ ?_ ?_ ?_
  ·rintro i σ H' _ ⟨sm,_⟩
   exact aW.of (sm _ _ ha)
  ·rintro i x σ H3 T hx ⟨sm,hb,x1,y1,rfl⟩ hT
   have hlt:i<rs.length:=by have:=(Hk.mp hx).1;rw[hal]at this;exact this
   obtain⟨ra,hra,rfl⟩:∃ra,as[i]?=some ra/\V.ref ra=x:=by
    rw[Ho]at hx;cases e:as[i]? with
    |none=>rw[e]at hx;cases hx
    |some ra=>rw[e]at hx;exact⟨ra,rfl,Option.some.inj hx⟩
   have hrr:rs[i]?=some rs[i]:=Hj hlt;have hr4:=hk4 _ (Hu hlt);generalize rs[i]=r at hrr hr4;rw[lh hrr]at hb;have smT:ay H (aB H3 T (.tup [V.int (i:Int),V.ref ra])):=sm.trans (ae hT);have eT:aB H3 T (.tup [V.int (i:Int),V.ref ra]) T=some (.tup [V.int (i:Int),V.ref ra]):=ac;generalize aB H3 T (.tup [V.int (i:Int),V.ref ra])=H4 at smT eT ⊢;have rr:=(hrs.2 i ra r hra hrr).up smT;obtain⟨dx,pl,hra4,_⟩:=id rr;walk_at "wp";refine⟨_,bd.of eT,rfl,_,_,rfl,_,_,rfl,rfl,?_⟩;refine⟨_,(rk.icls r.1).ty hra4,_,rk4.kit r.1 0 hr4 (by decide),?_⟩;have hb':(if r.1=0/\DV (tx sg) (tx r.2.sg)=false then some i else gB (tx sg) (rs.drop (i+1)) (i+1))=gB (tx sg) rs 0:=hb
   by_cases e0:r.1=0
   ·rw[if_pos (by simp[e0])]
    obtain⟨r0,v⟩:=r;have e0':r0=0:=e0;subst e0';refine⟨ra,rfl,_,_,_,hra4,rk.i0.cl,rk.a0.2.2.2,_,rfl,_,rfl,?_⟩;cases hin:DV (tx sg) (tx v.sg) with
    |false=>
     rw[if_pos hin];rw[if_pos ⟨rfl,hin⟩]at hb';rw[<- hb']at tupw;exact⟨aj (by omega),tupw H4 _ smT rfl⟩
    |true=>
     rw[if_neg (by rw[show(!(Builtin.Str.occurrences (tx sg) (tx v.sg) 0 (tx sg).length 1).isEmpty)=true from hin];decide)];rw[if_neg (fun z=>by rw[hin]at z;exact absurd z.2 (by decide))]at hb';exact⟨smT,hb'⟩
   ·rw[if_neg (by simp[e0])]
    rw[if_neg (fun z=>e0 z.1)]at hb';exact⟨smT,hb'⟩
  ·rintro σ H' ⟨sm,hb,x,y,rfl⟩
   walk_at "wp";rw[hal,List.drop_of_length_le (HP _)]at hb;refine good ?_ H' sm;rw[<- hb];rfl
noncomputable def i_(m:List (Str×List Nat))(z:Str)(i:Nat):List (Str×List Nat):=m.map fun q=>if q.1=z then(q.1,q.2++[i]) else q
structure tL(H0:Hp)(p:Addr)(t:NT)(H:Hp):Prop where
 same:ay H0 H
 at_:cz H p t
 fresh:∀x∈t,H0 x.2.1=none
 nodup:((kb t).map (·.1)).Nodup
theorem oY(t:NT):(kb t).length=t.length:=by unfold kb;rw[Hm]
theorem qm(m:List (Str×List Nat))(z:Str):(bG m z).length<=m.length+1:=by
 unfold bG;split
 ·omega
 ·rw[HN];simp
theorem i8(m:List (Str×List Nat))(z:Str)(i:Nat):(i_ m z i).map (·.1)=m.map (·.1):=by
 unfold i_;rw[HE]
 apply List.map_congr_left;intro q _;simp only[Function.comp]
 split<;>rfl
theorem xK{m:List (Str×List Nat)}{j i:Nat}{q:Str×List Nat}(nd:(m.map (·.1)).Nodup)(hj:m[j]?=some q):m.set j (q.1,q.2++[i])=i_ m q.1 i:=by
 unfold i_;apply List.ext_getElem?;intro k;rw[Ho,List.getElem?_set];have hlt:j<m.length:=(Hk.mp hj).1
 by_cases e:j=k
 ·subst e
  rw[if_pos rfl,if_pos hlt,hj];simp
 ·rw[if_neg e]
  cases hk:m[k]? with
  |none=>rfl
  |some y=>
   have hne:y.1≠q.1:=by
    intro h;have h1:(m.map (·.1))[j]?=some q.1:=by rw[Ho,hj];rfl
    have h2:(m.map (·.1))[k]?=some q.1:=by rw[Ho,hk];simp[h]
    exact e ((List.getElem?_inj (Hk.mp h1).1 nd).mp (h1.trans h2.symm))
   simp[hne]
theorem tL.free{H0 H:Hp}{p:Addr}{t:NT}(N:tL H0 p t H){l:Addr}(h:H l=none):H0 l=none:=N.same.free h
theorem ny{te:TE}{σ:St}{H0 H:Hp}{p:Addr}{t:NT}{z:Str}{i:Nat}{Q:VK}(hp:H0 p=none)(hv:σ[i]?=some (some (.ref p)))(hte:∀R:VK,R (.str z) H->te σ H R)(N:tL H0 p t H)(hn:t.length<sizeLine)
  (h:∀(H':Hp) (t':NT) (j:Nat) (x:Str×Addr×List Nat),tL H0 p t' H'->t'[j]?=some x->x.1=z->kb t'=bG (kb t) z->t'.length<=t.length+1->(∀a o,a≠p->H a=some o->H' a=some o)->Q (.ref x.2.1) H'):uC (x8 i) te (zZ pG) σ H Q:=by
 refine⟨.ref p,hv,p,rfl,.inl ⟨_,.inl N.at_.dict⟩,hte _ ⟨HQ _,fun l hl=>?_⟩⟩;have hl0:=N.free hl;refine N.at_.setdef hl hn fun H' t' j x N' hj hx hm hy hk=>h H' t' j x ⟨fun b o e=>hk b o (fun q=>by rw[q,hp]at e;exact nomatch e) (N.same b o e),N',fun y hyy=>?_,?_⟩ hj hx hm ?_ hk
 ·rcases hy y hyy with q | q
  ·exact N.fresh y q
  ·rw[q];exact hl0
 ·rw[hm];exact lQ N.nodup
 ·have:=qm (kb t) z
  rw[<- hm,oY,oY]at this;exact this
theorem tL.put{H0 H:Hp}{p:Addr}{t:NT}{j k:Nat}{x:Str×Addr×List Nat}(N:tL H0 p t H)(hj:t[j]?=some x) :
  tL H0 p (t.set j (x.1,x.2.1,x.2.2++[k])) (aB H x.2.1 (.lst (B9 (x.2.2++[k]))))/\kb (t.set j (x.1,x.2.1,x.2.2++[k]))=i_ (kb t) x.1 k:=by
 have hm:=Hq hj;have e:kb (t.set j (x.1,x.2.1,x.2.2++[k]))=i_ (kb t) x.1 k:=by
  rw[Bg];exact xK (q:=(x.1,x.2.2)) N.nodup (by unfold kb;rw[Ho,hj];rfl)
 refine⟨⟨bK N.same (N.fresh x hm),N.at_.put hj,fun y hy=>?_,?_⟩,e⟩
 ·rcases List.mem_or_eq_of_mem_set hy with q | q
  ·exact N.fresh y q
  ·rw[q];exact N.fresh x hm
 ·rw[e,i8];exact N.nodup
noncomputable abbrev dY:Stmt:=gu 39
theorem kS:aF ["start","rules","numbers","k","rule","part"] ["start","rules"] (ak dY):=by walk_at "c"
noncomputable def eW(m:List (Str×List Nat))(i:Nat)(r:Nat×RV):List (Str×List Nat):=((aT r.1 r.2).map tx).foldl bG (i_ (bG m (tx r.2.n)) (tx r.2.n) i)
noncomputable def gm:Nat->List (Nat×RV)->List (Str×List Nat)->List (Str×List Nat)
 |_,[],m=>m
 |i,r::rs,m=>gm (i+1) rs (eW m i r)
theorem kW{m:List (Str×List Nat)}{z:Str}{n:Nat}(h:∀q∈m,q.2.length<=n):∀q∈bG m z,q.2.length<=n:=by
 unfold bG;split
 ·exact h
 ·intro q hq
  rcases Hz.mp hq with z1 | z1
  ·exact h q z1
  ·rw[Hn.mp z1];exact HQ _
theorem nw:∀{zs:List Str} {m:List (Str×List Nat)} {n:Nat},(∀q∈m,q.2.length<=n)->∀q∈zs.foldl bG m,q.2.length<=n
 | [],_,_,h=>h
 |z::zs,_,_,h=>nw (zs:=zs) (kW h)
theorem ue{m:List (Str×List Nat)}{i n:Nat}{r:Nat×RV}(h:∀q∈m,q.2.length<=n):∀q∈eW m i r,q.2.length<=n+1:=by
 unfold eW;refine nw fun q hq=>?_;unfold i_ at hq;obtain⟨q0,hq0,rfl⟩:=Ij.mp hq;have:=kW h q0 hq0
 split
 ·rw[HN];simp;exact this
 ·omega
theorem oy:∀{rs:List (Nat×RV)} {i n:Nat} {m:List (Str×List Nat)},(∀q∈m,q.2.length<=n)->∀q∈gm i rs m,q.2.length<=n+rs.length
 | [],_,_,_,h=>h
 |r::rs,i,n,m,h=>fun q hq=>by
  have:=oy (rs:=rs) (i:=i+1) (ue (i:=i) (r:=r) h) q hq;rw[Hx];omega
theorem gy:∀{rs:List (Nat×RV)} {i:Nat} {m:List (Str×List Nat)} {r:Nat×RV},gm i (rs++[r]) m=eW (gm i rs m) (i+rs.length) r
 | [],i,m,r=>rfl
 |r0::rs,i,m,r=>by
  show gm (i+1) (rs++[r]) (eW m i r0)=eW (gm (i+1) rs (eW m i r0)) (i+(rs.length+1)) r;rw[gy,show i+1+rs.length=i+(rs.length+1) by omega]
theorem u7(k:Nat)(v:RV):(aT k v).length<=2:=by
 match k with
 |0=>simp[aT]
 |1=>simp[aT]
 |2=>simp[aT]
 |_+3=>simp[aT]
noncomputable def bZ(z:Str)(rs:List (Nat×RV)):List (Str×List Nat):=gm 0 rs [(z,[])]
noncomputable def gi(K:W.Frag)(R:RC):Sp:=fun vs H Q _=>∃(z:Str) (a:Addr) (as:List Addr) (rs:List (Nat×RV)),vs=[.str z,.ref a]/\H a=some (.lst (as.map V.ref))/\cL R H as rs/\rs.length<=100 /\
 ∀p H' t,H p=none->cz H' p t->kb t=bZ z rs->(∀x∈t,H x.2.1=none)->ay H H'->Q (.ref p) H'
theorem kG{R:RC}{f:Addr}{fd:FuncData}(F:c_ K "numbers_by_name" "numbers_by_name" dY f fd)(nb:NB mg)(rk:qj K R)(cp_parts:tP P w K mg base bH 1 "parts" (mU K R)):bc P w K mg base bH 2 f fd ["start","rules"] (gi K R):=by
 have sc:=kS;walk_at "f"
 ·obtain⟨r,a,_,_,rfl,_⟩:=h;rfl
 ·obtain⟨z,a,as,rs,rfl,ha,hrs,hn,q⟩:=h
  refine⟨_,(ag (aK (i:=2) sc.nd rfl (Or.inl rfl) (Bh (Ay (pv 0) (bv ad) BA) rfl rfl (by simp) (by decide)))
   (ag (bP PassesOwn.never rfl (ol rfl nb.enumerate (aa (pv 1) ad)) (fj (n:=2) rfl (aY (aH (i:=3) sc.nd rfl (Or.inl rfl)) (aY (aH (i:=4) sc.nd rfl (Or.inl rfl)) cM)))
   (ag (bN (gb PySem.F.plainAttrs_list PySem.F.slot_list_append PySem.F.type_list_append b6 (oz (pv 2) (gM (pv 4) rfl) (bv ad) ⟨rfl,rfl,rfl,rfl⟩) (aa (pv 3) ad)))
   (ah (bP PassesOwn.never rfl (dU (t_ cp_parts (hr.mono (by decide)) bh (pv 4))) (aH (i:=5) sc.nd rfl (Or.inl rfl))
   (ah (bN (oz (pv 2) (pv 5) (bv ad) ⟨rfl,rfl,rfl,rfl⟩)))))))
   (ah (aI (pv 2))))),?_⟩
  walk_at "wp";intro p hp;refine⟨HQ _,fun l hl=>?_⟩;have hlp:l≠p:=fun e=>by rw[e,ac]at hl;exact nomatch hl
  have hl0:H l=none:=by rw[ai hlp]at hl;exact hl
  have hap:a≠p:=fun e=>by rw[e,hp]at ha;exact nomatch ha
  have hal:a≠l:=fun e=>by rw[e,hl0]at ha;exact nomatch ha
  refine⟨by rw[ai (Ne.symm hlp),ac],[(.inr z,.ref l)],rfl,by simp,as.map V.ref,aW.of (by rw[ai hap,ai hal,ai hap];exact ha),?_⟩;refine jY (xs:=as.map V.ref) (fun i σ H'=>ay H H'/\∃t,cz H' p t/\(∀x∈t,H x.2.1=none)/\((kb t).map (·.1)).Nodup/\kb t=gm 0 (rs.take i) [(z,[])]/\t.length<=1+3*i/\∃x y u,σ=[some (.str z),some (.ref a),some (.ref p),x,y,u]) ?_ ?_ ?_ ?_
  ·refine⟨fun b o e=>?_,[(z,l,[])],⟨by rw[ac];rfl,fun x hx=>?_,by simp⟩,fun x hx=>?_,by simp[kb],rfl,by simp,_,_,_,rfl⟩
   ·have h1:b≠p:=fun q=>by rw[q,hp]at e;exact nomatch e
    have h2:b≠l:=fun q=>by rw[q,hl0]at e;exact nomatch e
    rw[ai h1,ai h2,ai h1];exact e
   ·rw[Hn.mp hx,ai hlp,ac];rfl
   ·rw[Hn.mp hx];exact hl0
  ·rintro i σ H' _ ⟨sm,_⟩
   exact aW.of (sm _ _ ha)
  ·rintro i x σ H1 T hx ⟨sm,t,N,fr,nd,em,hlen,x1,y1,u1,rfl⟩ hT
   have hlt:i<rs.length:=by have:=(Hk.mp hx).1;rw[Hm,hrs.1]at this;exact this
   obtain⟨ra,hra,rfl⟩:∃ra,as[i]?=some ra/\V.ref ra=x:=by
    rw[Ho]at hx;cases e:as[i]? with
    |none=>rw[e]at hx;cases hx
    |some ra=>rw[e]at hx;exact⟨ra,rfl,Option.some.inj hx⟩
   have hrr:rs[i]?=some rs[i]:=Hj hlt;generalize rs[i]=r at hrr;have rr:=hrs.2 i ra r hra hrr;have smT:ay H (aB H1 T (.tup [V.int (i:Int),V.ref ra])):=sm.trans (ae hT);have gT:∀b o,H1 b=some o->aB H1 T (.tup [V.int (i:Int),V.ref ra]) b=some o:=ae hT;have eT:bd K (aB H1 T (.tup [V.int (i:Int),V.ref ra])) T [V.int (i:Int),V.ref ra]:=bd.of ac;have N2:=N.grow gT;generalize aB H1 T (.tup [V.int (i:Int),V.ref ra])=H2 at smT gT eT N2 ⊢;clear gT N hT sm H1;simp only[zC,w4,jd,BH];refine⟨_,_,rfl,eT,rfl,_,_,rfl,_,_,rfl,rfl,?_⟩;refine ao fun N1 h1=>?_;have rr2:=rr.up smT;have NI:tL H p t H2:=⟨smT,N2,fr,nd⟩;have hz:sizeLine>1000:=bp (by decide);obtain⟨dx,pl,hra2,_⟩:=id rr2;walk_at "wp";refine ny (z:=tx r.2.n) hp rfl (fun S hS=>⟨_,rfl,ra,_,dx,_,_,rfl,hra2,(rk.icls r.1).cl,(rk.name r.1).1,(lX pl r.2 r.1).1,hS⟩) NI (by omega) fun H3 t3 j x N3 hj hx hm hl3 hk=>?_;have hxl:=N3.at_.list x (Hq hj);refine⟨.inl ⟨rfl,_,aW.of hxl⟩,_,rfl,_,hxl,?_,h1 _ _ ?_⟩
   ·have h2:(x.1,x.2.2)∈bG (kb t) (tx r.2.n):=by rw[<- hm];exact Ij.mpr ⟨x,Hq hj,rfl⟩
    have h3:=kW (oy (rs:=rs.take i) (i:=0) (n:=0) (m:=[(z,[])]) (fun q hq=>by rw[Hn.mp hq];exact HQ _)) (z:=tx r.2.n) (x.1,x.2.2) (by rw[<- em];exact h2);rw[Ie]at h3;unfold B9;rw[Hm];have h4:x.2.2.length<=100:=by simp at h3;omega
    omega
   clear h1;obtain⟨N4,hm4⟩:=N3.put (k:=i) hj;have hl4:(t3.set j (x.1,x.2.1,x.2.2++[i])).length<=t.length+1:=by rw[Iq];exact hl3
   have hm4:kb (t3.set j (x.1,x.2.1,x.2.2++[i]))=i_ (bG (kb t) (tx r.2.n)) (tx r.2.n) i:=by rw[hm4,hm,hx]
   have eI:B9 (x.2.2++[i])=B9 x.2.2++[V.int (i:Int)]:=by unfold B9;rw[Hy];rfl
   rw[eI]at N4;generalize t3.set j (x.1,x.2.1,x.2.2++[i])=t4 at N4 hm4 hl4;generalize aB H3 x.2.1 (.lst (B9 x.2.2++[V.int (i:Int)]))=H4 at N4 ⊢;clear hk hxl hj N3 hm hl3 hx NI N2 hra2 rr2;have rr4:=rr.up N4.same;have hpk:=u7 r.1 r.2;walk_at "wp";refine rH rk rr4 fun lp H5 hlp hH5 sm5=>⟨lp,rfl,⟨_,aW.of hH5⟩,?_⟩;have hpp:lp≠p:=fun e=>by rw[e,N4.at_.dict]at hlp;exact nomatch hlp
   refine mI (xs:=aD (aT r.1 r.2)) (fun n σ H'=>n<=(aT r.1 r.2).length/\∃t',tL H p t' H'/\kb t'=(((aT r.1 r.2).take n).map tx).foldl bG (i_ (bG (kb t) (tx r.2.n)) (tx r.2.n) i)/\t'.length<=t.length+1+n/\H' lp=some (.lst (aD (aT r.1 r.2)))/\∃u,σ=[some (.str z),some (.ref a),some (.ref p),some (.int (i:Int)),some (.ref ra),u])
    ⟨HQ _,t4,⟨N4.same.trans sm5,N4.at_.grow sm5,N4.fresh,N4.nodup⟩,hm4,hl4,hH5,_,rfl⟩ ?_ ?_ ?_
   ·rintro n σ H' _ ⟨_,t',_,_,_,hH',_⟩
    exact aW.of hH'
   ·rintro n v σ H' hv ⟨hn1,t',N',hm',hl',hH',u,rfl⟩
    have hnl:n<(aT r.1 r.2).length:=by have:=(Hk.mp hv).1;rwa [au]at this
    rw[bb hnl]at hv;cases hv;walk_at "wp";refine ny (z:=tx (aT r.1 r.2)[n]) hp rfl (fun S hS=>⟨_,rfl,hS⟩) N' (by omega) fun H6 t6 j x N6 hj hx hm6 hl6 hk=>?_;refine⟨hnl,t6,N6,?_,by omega,hk _ _ hpp hH'⟩;rw[hm6,hm',List.take_add_one,Hj hnl,Hy,List.foldl_append]
    rfl
   ·rintro σ H' ⟨_,t',N',hm',hl',hH',u,rfl⟩
    rw[au,Ic]at hm';refine⟨N'.same,t',N'.at_,N'.fresh,N'.nodup,?_,?_,_,_,_,rfl⟩
    ·rw[hm',List.take_add_one,hrr,em]
     show _=gm 0 (rs.take i++[r]) _;rw[gy,Ie,Iw (Nat.le_of_lt hlt),Nat.zero_add]
     rfl
    ·rw[au]at hl';omega
  ·rintro σ H' ⟨sm,t,N,fr,_,em,_,x,y,u,rfl⟩
   walk_at "wp";refine q p H' t hp N ?_ fr sm;rw[em,Hm,hrs.1,Ic];rfl
noncomputable def jm(sg st:List Nat)(rs:List (Nat×RV)):Option (Str×List Int):=
 match iZ sg st rs with
 |some y=>some y
 |none=>if 8<(bZ (tx st) rs).length then some ("names",[((bZ (tx st) rs).length:Int)]) else none
noncomputable def gG(sg st:List Nat)(lk pn:Addr):List (Str×V):=[("signs",.str (tx sg)),("start",.str (tx st)),("kept",.ref lk),("numbers",.ref pn)]
noncomputable def jM(R:RC)(H:Hp)(C dx a:Addr)(sg st:List Nat)(as:List Addr)(rs:List (Nat×RV)):Prop:=
 ∃lk pn t,H a=some (.ins C dx (gG sg st lk pn))/\H lk=some (.lst (as.map V.ref))/\cL R H as rs/\cz H pn t/\kb t=bZ (tx st) rs
noncomputable def tR(R:RC)(H:Hp)(C dx a:Addr)(sg st:List Nat)(as:List Addr)(rs:List (Nat×RV))(lk pn:Addr)(t:NT):Prop:=
 H a=some (.ins C dx (gG sg st lk pn))/\H lk=some (.lst (as.map V.ref))/\cL R H as rs/\cz H pn t/\kb t=bZ (tx st) rs
theorem tR.f{R:RC}{H:Hp}{C dx a:Addr}{sg st:List Nat}{as:List Addr}{rs:List (Nat×RV)}{lk pn:Addr}{t:NT}(g:tR R H C dx a sg st as rs lk pn t):jM R H C dx a sg st as rs:=⟨lk,pn,t,g⟩
theorem jM.up{R:RC}{H H':Hp}{C dx a:Addr}{sg st:List Nat}{as:List Addr}{rs:List (Nat×RV)}(g:jM R H C dx a sg st as rs)(s:ay H H'):jM R H' C dx a sg st as rs:=by
 obtain⟨lk,pn,t,h1,h2,h3,h4,h5⟩:=g;exact⟨lk,pn,t,s _ _ h1,s _ _ h2,h3.up s,h4.grow s,h5⟩
noncomputable def A'(a C:Addr)(H:Hp)(y:Str×List Int)(E:XK):Prop:=∀(t d:Addr) (H':Hp),bM a H H'->H' t=some (.tup (Dr y))->H' d=some (.xd [("why",.ref t)])->E (.ref C) (some d) H'
theorem Bo(k:Nat)(l:Addr)(v:RV):vL k l v≠[]:=fun e=>by
 have:=(lX l v k).1;rw[e]at this;exact nomatch this
theorem cL.upX{R:RC}{H H':Hp}{a C dx:Addr}{as:List Addr}{rs:List (Nat×RV)}(h:cL R H as rs)(ha:H a=some (.ins C dx []))(s:bM a H H'):cL R H' as rs:=by
 refine⟨h.1,fun i b r e1 e2=>?_⟩;obtain⟨d,l,h1,h2⟩:=h.2 i b r e1 e2;refine⟨d,l,s _ _ (fun e=>?_) h1,s _ _ (fun e=>?_) h2⟩
 ·rw[e,ha]at h1
  have:=Option.some.inj h1;exact absurd (HO.ins.inj this).2.2.symm (Bo _ _ _)
 ·rw[e,ha]at h2;cases h2
noncomputable abbrev dy:Stmt:=kL 36 0
noncomputable def ic(K:W.Frag)(R:RC)(CF:Addr):Sp:=fun vs H Q E=>∃(a C dx l:Addr) (sg st:List Nat) (as:List Addr) (rs:List (Nat×RV)),vs=[.ref a,.str (tx sg),.str (tx st),.ref l]/\H a=some (.ins C dx [])/\oI K C/\(aL K C "signs"/\aL K C "start"/\aL K C "kept"/\aL K C "numbers") /\
 sg.length<=1000/\st.length<=1000/\H l=some (.lst (as.map V.ref))/\cL R H as rs/\(∀r∈rs,r.1<4)/\rs.length<=100 /\
 (jm sg st rs=none->∀H' lk pn t,bM a H H'->tR R H' C dx a sg st as rs lk pn t->H lk=none->H pn=none->(∀x∈t,H x.2.1=none)->Q .non H')/\∀y,jm sg st rs=some y->A' a CF H y E
theorem tf:aF ["self","signs","start","rules"] ["self","signs","start","rules"] (ak dy):=by walk_at "c"
theorem rZ{R:RC}{f zba:Addr}{fd:FuncData}{t1:Tok}(F:c_ K "__init__" "Grammar.__init__" dy f fd)(nb:NB mg)(m_MOST_NAMES:mg "MOST_NAMES"=some (.int 8 t1))
  (zqa:mg "NoGrammar"=some (.ref zba)) (zla:XI P w K mg base 1 zba "why") (c_check_made_of:eX P w K mg base (dM P w) 3 "check_made_of" ["signs","start","rules"] (gU R zba)) (c_numbers_by_name:eX P w K mg base bH 2 "numbers_by_name" ["start","rules"] (gi K R)) :
  bc P w K mg base (dM P w) 4 f fd ["self","signs","start","rules"] (ic K R zba):=by
 have sc:=tf;walk_at "x"
 ·obtain⟨a,C,dx,l,sg,st,as,rs,rfl,_⟩:=h;rfl
 ·obtain⟨a,C,dx,l,sg,st,as,rs,rfl,ha,cl,⟨n1,n2,n3,n4⟩,hsg,hst,hl,hrs,hk4,hn,good,bad⟩:=h
  refine⟨_,(ag (bN (aP (E:=E) c_check_made_of (hr.mono (by decide)) rfl (dG fun _ _ _ h=>h) (aa (am 1) (aa (am 2) (aa (am 3) ad)))))
   (ag (dS (am 0) (am 1) rfl)
   (ag (dS (am 0) (am 2) rfl)
   (ag (dS (am 0) (gQ iO rfl nb.list rO (aa (am 3) ad)) rfl)
   (ag (dS (am 0) (aP (CX:=dM P w) c_numbers_by_name.lift (hr.mono (by decide)) rfl b8 (aa (am 2) (aa (am 3) ad))) rfl)
   (ah (bg (aA (a_.m0 jb) (av qG rfl nb.len aQ (aa (gM (am 0) rfl) ad)) (eY (v:=.int 8) rfl m_MOST_NAMES ⟨_,rfl⟩) (aJ _))
   (ah (dJ zla (hr.mono (by decide)) rfl rfl zqa (dB fun _ _ _ h=>h) (aa (aR (bf (aa (av qG rfl nb.len aQ (aa (gM (am 0) rfl) ad)) ad))) ad)))
   aN))))))),?_⟩
  walk_at "n";refine⟨sg,st,l,as,rs,rfl,hsg,hst,hl,hrs,hk4,hn,fun g0 H1 sm1=>h1 _ _ ?_,fun y hy t d H' sm ht hd=>bad y (by unfold jm;rw[hy]) t d H' (.of sm) ht hd⟩;clear h1;have ha1:=sm1 _ _ ha;have hla:l≠a:=fun e=>by rw[e,ha]at hl;cases hl
  walk_at "o";refine⟨C,dx,_,ha1,cl,n1,by simp,h2 _ _ ?_⟩;clear h2;have sx2:bM a H (aB H1 a (.ins C dx [("signs",.str (tx sg))])):=(bM.of sm1).put;have ea2:aB H1 a (.ins C dx [("signs",.str (tx sg))]) a=some (.ins C dx [("signs",.str (tx sg))]):=ac;show _;change vC _ _ _ _ (aB H1 a (.ins C dx [("signs",.str (tx sg))]));generalize aB H1 a (.ins C dx [("signs",.str (tx sg))])=H2 at sx2 ea2 ⊢;clear sm1 ha1;refine ao fun N3 h3=>?_;walk_at "wp";have d1:¬ (("signs":Str)="start"):=by decide +kernel
  have e3:cj "start" (V.str (tx st)) [(("signs":Str),V.str (tx sg))]=[(("signs":Str),V.str (tx sg)),(("start":Str),V.str (tx st))]:=by simp only[cj,if_neg d1]
  refine⟨C,dx,_,ea2,cl,n2,by simp,?_⟩;rw[e3];refine h3 _ _ ?_;clear h3;have sx3:bM a H (aB H2 a (.ins C dx [(("signs":Str),V.str (tx sg)),(("start":Str),V.str (tx st))])):=sx2.put;have ea3:aB H2 a (.ins C dx [(("signs":Str),V.str (tx sg)),(("start":Str),V.str (tx st))]) a=some (.ins C dx [(("signs":Str),V.str (tx sg)),(("start":Str),V.str (tx st))]):=ac;generalize aB H2 a (.ins C dx [(("signs":Str),V.str (tx sg)),(("start":Str),V.str (tx st))])=H3 at sx3 ea3 ⊢;clear sx2 ea2;have hl3:=sx3 _ _ hla hl;refine ao fun N4 h4=>?_;walk_at "wp";refine⟨_,.inl (aW.of hl3),fun lk hlk=>?_⟩;have hka:lk≠a:=fun e=>by rw[e,ea3]at hlk;cases hlk
  have hlk0:lk≠l:=fun e=>by rw[e,hl3]at hlk;cases hlk
  have sk:ay H3 (aB H3 lk (.lst (as.map V.ref))):=ae hlk;have ek:aB H3 lk (.lst (as.map V.ref)) lk=some (.lst (as.map V.ref)):=ac;have fr1:H lk=none:=by
   cases e:H lk with
   |none=>rfl
   |some u=>rw[sx3 _ _ hka e]at hlk;cases hlk
  generalize aB H3 lk (.lst (as.map V.ref))=H4 at sk ek ⊢;have d2:¬ (("signs":Str)="kept"):=by decide +kernel
  have d3:¬ (("start":Str)="kept"):=by decide +kernel
  have e4:cj "kept" (V.ref lk) [(("signs":Str),V.str (tx sg)),(("start":Str),V.str (tx st))]=[(("signs":Str),V.str (tx sg)),(("start":Str),V.str (tx st)),(("kept":Str),V.ref lk)]:=by simp only[cj,if_neg d2,if_neg d3]
  refine⟨C,dx,_,sk _ _ ea3,cl,n3,by simp,?_⟩;rw[e4];refine h4 _ _ ?_;clear h4;have sx5:bM a H (aB H4 a (.ins C dx [(("signs":Str),V.str (tx sg)),(("start":Str),V.str (tx st)),(("kept":Str),V.ref lk)])):=(sx3.then sk).put;have ea5:aB H4 a (.ins C dx [(("signs":Str),V.str (tx sg)),(("start":Str),V.str (tx st)),(("kept":Str),V.ref lk)]) a=some (.ins C dx [(("signs":Str),V.str (tx sg)),(("start":Str),V.str (tx st)),(("kept":Str),V.ref lk)]):=ac;have ek5:aB H4 a (.ins C dx [(("signs":Str),V.str (tx sg)),(("start":Str),V.str (tx st)),(("kept":Str),V.ref lk)]) lk=some (.lst (as.map V.ref)):=by rw[ai hka];exact ek
  generalize aB H4 a (.ins C dx [(("signs":Str),V.str (tx sg)),(("start":Str),V.str (tx st)),(("kept":Str),V.ref lk)])=H5 at sx5 ea5 ek5 ⊢;refine ao fun N5 h5=>?_;walk_at "wp";refine⟨tx st,l,as,rs,rfl,sx5 _ _ hla hl,hrs.upX ha sx5,hn,fun pn H6 t hpn hN hm hfr sm6=>?_⟩;have hpa:pn≠a:=fun e=>by rw[e,ea5]at hpn;cases hpn
  have hpk:pn≠lk:=fun e=>by rw[e,ek5]at hpn;cases hpn
  have fr2:H pn=none:=by
   cases e:H pn with
   |none=>rfl
   |some u=>rw[sx5 _ _ hpa e]at hpn;cases hpn
  have fr3:∀x∈t,H x.2.1=none:=fun x hx=>by
   have h5x:=hfr x hx;cases e:H x.2.1 with
   |none=>rfl
   |some u=>rw[sx5 _ _ (fun z=>by rw[z,ea5]at h5x;cases h5x) e]at h5x;cases h5x
  have d4:¬ (("signs":Str)="numbers"):=by decide +kernel
  have d5:¬ (("start":Str)="numbers"):=by decide +kernel
  have d6:¬ (("kept":Str)="numbers"):=by decide +kernel
  have e6:cj "numbers" (V.ref pn) [(("signs":Str),V.str (tx sg)),(("start":Str),V.str (tx st)),(("kept":Str),V.ref lk)]=gG sg st lk pn:=by unfold gG;simp only[cj,if_neg d4,if_neg d5,if_neg d6]
  have ea6:=sm6 _ _ ea5;refine⟨C,dx,_,ea6,cl,n4,by simp,?_⟩;rw[e6];refine h5 _ _ ?_;clear h5;have sx7:bM a H (aB H6 a (.ins C dx (gG sg st lk pn))):=(sx5.then sm6).put;have gf:tR R (aB H6 a (.ins C dx (gG sg st lk pn))) C dx a sg st as rs lk pn t:=by
   refine⟨ac,by rw[ai hka];exact sm6 _ _ ek5,hrs.upX ha sx7,⟨by rw[ai hpa];exact hN.dict,fun x hx=>?_,hN.apart⟩,hm⟩;have hq:=hN.list x hx;rw[ai (fun e=>by rw[e,ea6]at hq;cases hq)];exact hq
  have ea7:aB H6 a (.ins C dx (gG sg st lk pn)) a=some (.ins C dx (gG sg st lk pn)):=ac;have ed7:aB H6 a (.ins C dx (gG sg st lk pn)) pn=some (.dK (uV t)):=by rw[ai hpa];exact hN.dict
  generalize aB H6 a (.ins C dx (gG sg st lk pn))=H7 at sx7 gf ea7 ed7 ⊢;have hlen:(uV t).length=(bZ (tx st) rs).length:=by rw[<- hm];unfold uV kb;rw[Hm,Hm]
  walk_at "wp";refine⟨C,dx,_,ea7,cl,n4,_,rfl,pn,rfl,_,ed7,?_⟩;rw[hlen]
  by_cases h8:8<(bZ (tx st) rs).length
  ·rw[if_pos (by omega)]
   refine⟨C,dx,_,ea7,cl,n4,_,rfl,pn,rfl,_,ed7,aj (by omega),fun p hp=>⟨aj (by omega),fun d hd=>?_⟩⟩;rw[hlen]at hd ⊢;have hdp:p≠d:=fun x=>by rw[<- x,ac]at hd;cases hd
   refine bad ("names",[((bZ (tx st) rs).length:Int)]) (by unfold jm;rw[g0];simp only[];rw[if_pos h8]) p d _ (((sx7.then (ae hp))).then (ae hd)) (by rw[ai hdp,ac];rfl) ac
  ·rw[if_neg (by omega)]
   exact good (by unfold jm;rw[g0];simp only[];rw[if_neg h8]) H7 lk pn t sx7 gf fr1 fr2 fr3
noncomputable abbrev dL:Stmt:=kL 36 2
noncomputable def fT(R:RC)(C:Addr):Sp:=fun vs H Q _=>∃(a dx:Addr) (sg st:List Nat) (as:List Addr) (rs:List (Nat×RV)) (k:Nat) (b:Addr),vs=[.ref a,.int (k:Int)]/\jM R H C dx a sg st as rs/\as[k]?=some b/\Q (.ref b) H
theorem sf:aF ["self","k"] ["self","k"] (ak dL):=by walk_at "c"
theorem sw{R:RC}{f C:Addr}{fd:FuncData}(F:c_ K "rule" "Grammar.rule" dL f fd)(nb:NB mg)(cl:oI K C)(na:aL K C "signs"/\aL K C "start"/\aL K C "kept"/\aL K C "numbers"):bc P w K mg base bH 1 f fd ["self","k"] (fT R C):=by
 have sc:=sf;walk_at "f"
 ·obtain⟨a,dx,sg,st,as,rs,k,b,rfl,_⟩:=h;rfl
 ·obtain⟨a,dx,sg,st,as,rs,k,b,rfl,g,hb,q⟩:=h
  obtain⟨lk,pn,t,ha,hk,hrs,hN,hm⟩:=id g;have hu:=hr.units;refine⟨_,(ah (aI (az aV (gM (am 0) rfl) (am 1) (fun _ _=>rfl)))),?_⟩;walk_at "wp";exact⟨C,dx,_,ha,cl,na.2.2.1,_,rfl,lk,rfl,_,aW.of hk,_,aU (by rw[Ho,hb];rfl),q⟩
noncomputable abbrev dE:Stmt:=kL 36 3
noncomputable def iL(R:RC)(C:Addr):Sp:=fun vs H Q _=>∃(a dx:Addr) (sg st:List Nat) (as:List Addr) (rs:List (Nat×RV)),vs=[.ref a]/\jM R H C dx a sg st as rs/\Q (.int (rs.length:Int)) H
theorem rN:aF ["self"] ["self"] (ak dE):=by walk_at "c"
theorem r9{R:RC}{f C:Addr}{fd:FuncData}(F:c_ K "many" "Grammar.many" dE f fd)(nb:NB mg)(cl:oI K C)(na:aL K C "signs"/\aL K C "start"/\aL K C "kept"/\aL K C "numbers"):bc P w K mg base bH 1 f fd ["self"] (iL R C):=by
 have sc:=rN;walk_at "f"
 ·obtain⟨a,dx,sg,st,as,rs,rfl,_⟩:=h;rfl
 ·obtain⟨a,dx,sg,st,as,rs,rfl,g,q⟩:=h
  obtain⟨lk,pn,t,ha,hk,hrs,hN,hm⟩:=id g;have hu:=hr.units;refine⟨_,(ah (aI (av aO rfl nb.len aQ (aa (gM (am 0) rfl) ad)))),?_⟩;walk_at "wp";refine⟨C,dx,_,ha,cl,na.2.2.1,_,rfl,lk,rfl,_,aW.of hk,?_⟩;rw[Hm,hrs.1];exact q
noncomputable abbrev r_:Stmt:=gu 15
noncomputable def jl(K:W.Frag)(CF:Addr):Sp:=fun vs H Q E=>∃(a b:Addr) (p q:bC) (r c r' c':Nat),vs=[.ref a,.ref b]/\H a=some (.lst (aD p))/\H b=some (.lst (aD q))/\fD p r c/\fD q r' c'/\0<r/\r<=6/\c<=6/\0<r'/\r'<=6/\c'<=6 /\
 (c=c'/\r+r'<=6->bR H (p++q) Q)/\(¬ (c=c'/\r+r'<=6)->E (.ref CF) none H)
theorem Aa:aF ["one","other"] ["one","other"] (ak r_):=by walk_at "c"
theorem yA{f zga:Addr}{fd:FuncData}{tk:Tok}(F:c_ K "above" "above" r_ f fd)(nb:NB mg)(m_MOST:mg "MOST"=some (.int 6 tk))(zDa:mg "NoFit"=some (.ref zga))(zTa:XR K zga):bc P w K mg base (dM P w) 1 f fd ["one","other"] (jl K zga):=by
 have sc:=Aa;walk_at "x"
 ·obtain⟨a,b,p,q,r,c,r',c',rfl,_⟩:=h;rfl
 ·obtain⟨a,b,p,q,r,c,r',c',rfl,ha,hb,hp,hq,hr0,hr1,hc1,hr0',hr1',hc1',fit,nofit⟩:=h
  refine⟨_,(ag (bg (PW.pt (hJ (aA kn (av ba rfl nb.len aQ (aa (az aV (am 0) af (fun _ _=>rfl)) ad)) (av ba rfl nb.len aQ (aa (az aV (am 1) af (fun _ _=>rfl)) ad)) (aJ _)) (fq (aA (a_.m0 jb) (aq (a_.m0 bA) (av aO rfl nb.len aQ (aa (am 0) ad)) (av aO rfl nb.len aQ (aa (am 1) ad))) (eY (v:=.int 6) rfl m_MOST ⟨_,rfl⟩) (aJ _)))))
   (ah (fU zTa rfl rfl zDa (g_ fun _ _ _ h=>h) (bf ad)))
   aN)
   (ah (aI (aq rR (am 0) (am 1))))),?_⟩
  walk_at "wp";obtain⟨hl0,hc0⟩:=lB hp hr0;obtain⟨hl0',hc0'⟩:=lB hq hr0';refine⟨_,aW.of ha,_,aU (bb hl0),_,rfl,by rw[aE];exact aj (by omega),_,aW.of hb,_,aU (bb hl0'),_,rfl,by rw[aE];exact aj (by omega),?_⟩;rw[aE,aE,hc0,hc0']
  by_cases h1:(c:Int)=(c':Int)
  ·rw[if_neg (fun h=>h h1)]
   refine⟨_,aW.of ha,_,aW.of hb,?_⟩;rw[au,au,hp.1,hq.1]
   by_cases h2:6<(r:Int)+(r':Int)
   ·rw[if_pos h2]
    exact⟨aj (by omega),nofit (by omega)⟩
   ·rw[if_neg h2]
    refine⟨_,ha,_,hb,by rw[au,au,hp.1,hq.1];exact aj (by omega),fun l hl=>?_⟩;refine fit ⟨by omega,by omega⟩ l _ hl ?_ (ae hl);rw[ac];unfold aD;rw[Hy]
  ·rw[if_pos h1]
   exact⟨aj (by omega),nofit (by omega)⟩
noncomputable abbrev ou:Stmt:=gu 14
noncomputable def nO(p q:bC):bC:=(p.zip q).map fun x=>x.1++x.2
noncomputable def gY(K:W.Frag)(CF:Addr):Sp:=fun vs H Q E=>∃(a b:Addr) (p q:bC) (r c r' c':Nat),vs=[.ref a,.ref b]/\H a=some (.lst (aD p))/\H b=some (.lst (aD q))/\fD p r c/\fD q r' c'/\0<r/\r<=6/\c<=6/\0<r'/\r'<=6/\c'<=6 /\
 (r=r'/\c+c'<=6->bR H (nO p q) Q)/\(¬ (r=r'/\c+c'<=6)->E (.ref CF) none H)
theorem xB:aF ["one","other"] ["one","other"] (ak ou):=by walk_at "c"
theorem x5{f zga:Addr}{fd:FuncData}{tk:Tok}(F:c_ K "beside" "beside" ou f fd)(nb:NB mg)(m_MOST:mg "MOST"=some (.int 6 tk))(zDa:mg "NoFit"=some (.ref zga))(zTa:XR K zga):bc P w K mg base (dM P w) 1 f fd ["one","other"] (gY K zga):=by
 have sc:=xB;walk_at "x"
 ·obtain⟨a,b,p,q,r,c,r',c',rfl,_⟩:=h;rfl
 ·obtain⟨a,b,p,q,r,c,r',c',rfl,ha,hb,hp,hq,hr0,hr1,hc1,hr0',hr1',hc1',fit,nofit⟩:=h
  refine⟨_,(ag (bg (PW.pt (hJ (aA kn (av aO rfl nb.len aQ (aa (am 0) ad)) (av aO rfl nb.len aQ (aa (am 1) ad)) (aJ _)) (fq (aA (a_.m0 jb) (aq (a_.m0 bA) (av ba rfl nb.len aQ (aa (az aV (am 0) af (fun _ _=>rfl)) ad)) (av ba rfl nb.len aQ (aa (az aV (am 1) af (fun _ _=>rfl)) ad))) (eY (v:=.int 6) rfl m_MOST ⟨_,rfl⟩) (aJ _)))))
   (ah (fU zTa rfl rfl zDa (g_ fun _ _ _ h=>h) (bf ad)))
   aN)
   (ah (aI (bS ["first","second"] [] rfl (bw.of (by kernel_rfl)) (by kernel_rfl) (CU rfl nb.zip (aa (am 0) (aa (am 1) ad)))
    (fun _ _ _ _=>(Bb (K:=K) (n:=2) rfl rfl (aY (aH (i:=0) (by show(["first","second"]:List Str).Nodup;decide +kernel) rfl (Or.inl rfl)) (aY (aH (i:=1) (by show(["first","second"]:List Str).Nodup;decide +kernel) rfl (Or.inl rfl)) cM)))) (fun _ _ _ _=>bI) (fun _ _ _ _=>(aq oV (am 0) (am 1))))))),?_⟩
  walk_at "wp";obtain⟨hl0,hc0⟩:=lB hp hr0;obtain⟨hl0',hc0'⟩:=lB hq hr0';refine⟨_,aW.of ha,_,aW.of hb,?_⟩;rw[au,au,hp.1,hq.1]
  by_cases h1:(r:Int)=(r':Int)
  ·rw[if_neg (fun h=>h h1)]
   refine⟨_,aW.of ha,_,aU (bb hl0),_,rfl,by rw[aE];exact aj (by omega),_,aW.of hb,_,aU (bb hl0'),_,rfl,by rw[aE];exact aj (by omega),?_⟩;rw[aE,aE,hc0,hc0']
   by_cases h2:6<(c:Int)+(c':Int)
   ·rw[if_pos h2]
    exact⟨aj (by omega),nofit (by omega)⟩
   ·rw[if_neg h2]
    refine⟨_,aW.of ha,_,aW.of hb,?_⟩;have hplen:p.length=r:=hp.1;have hqlen:q.length=r:=by rw[hq.1];omega
    have hput:(nO p q).length=r:=by unfold nO;rw[Hm,List.length_zip,hplen,hqlen,Nat.min_self]
    refine AM (xs:=aD p) (ys:=aD q) (n:=r) (by rw[au,au,hplen,hqlen,Nat.min_self]) (fun i acc σ H'=>ay H H'/\acc=aD ((nO p q).take i)/\i<=r/\∃y z,σ=[y,z]) ⟨fun _ _ e=>e,rfl,HQ _,_,_,rfl⟩ ?_ ?_ ?_ ?_ ?_
    ·rintro i acc σ H' ⟨_,rfl,hi,_⟩
     rw[au,Ie];exact bp (by omega)
    ·rintro i acc σ H' ⟨_,_,h,_⟩
     exact h
    ·rintro i acc σ H' ⟨sm,_⟩
     exact⟨aW.of (sm _ _ ha),aW.of (sm _ _ hb)⟩
    ·rintro i x y acc σ H' T hx hy ⟨sm,rfl,_,y1,z1,rfl⟩ hT
     have hi:i<p.length:=by have:=(Hk.mp hx).1;rwa [au]at this
     have hi':i<q.length:=by omega
     rw[bb hi]at hx;rw[bb hi']at hy;cases hx;cases hy;have hrow:=hp.2 _ (Hu hi);have hrow':=hq.2 _ (Hu hi');walk_at "wp";refine⟨_,bd.of ac,rfl,_,_,rfl,_,_,rfl,rfl,?_⟩;have e:(nO p q)[i]?=some (p[i]++q[i]):=by
      unfold nO;simp[List.getElem?_zip_eq_some,hi,hi'];exact⟨_,_,⟨rfl,rfl⟩,rfl⟩
     have et:tx p[i]++tx q[i]=tx (p[i]++q[i]):=by
      show(⟨_++_⟩:Str)=⟨_⟩;simp[tx]
     refine⟨_,rfl,_,rfl,by rw[aE,aE];exact aj (by omega),sm.trans (ae hT),?_,by omega⟩;rw[et,List.take_add_one,e];exact(fO _ _).symm
    ·rintro acc σ H' ⟨sm,rfl,_⟩ l hl
     refine fit ⟨by omega,by omega⟩ l _ (sm.free hl) ?_ (sm.trans (ae hl));rw[ac,<- hput,Ic]
  ·rw[if_pos h1]
   exact⟨aj (by omega),nofit (by omega)⟩
noncomputable abbrev oB:Stmt:=gu 18
noncomputable def qR(K:W.Frag):Sp:=fun vs H Q _=>∃(a:Addr) (p:bC),vs=[.ref a]/\aW K H a (aD p)/\rK p/\bR H (fe p) Q
theorem xJ:aF ["picture"] ["picture"] (ak oB):=by walk_at "c"
theorem ya{f:Addr}{fd:FuncData}(F:c_ K "mirror" "mirror" oB f fd)(nb:NB mg):bc P w K mg base bH 1 f fd ["picture"] (qR K):=by
 have sc:=xJ;walk_at "f"
 ·obtain⟨a,p,rfl,_⟩:=h;rfl
 ·obtain⟨a,p,rfl,hS,hp,q⟩:=h
  refine⟨_,(ah (aI (bS ["row"] [] rfl (bw.of (by kernel_rfl)) (by kernel_rfl) (dU (am 0))
    (fun _ _ _ _=>(aH (i:=0) (by show(["row"]:List Str).Nodup;decide +kernel) rfl (Or.inl rfl))) (fun _ _ _ _=>bI) (fun _ _ _ _=>(vd rfl rfl nb.reversed (aa (am 0) ad)))))),?_⟩
  walk_at "wp";refine⟨⟨_,hS⟩,mw (xs:=aD p) (fun i acc σ H'=>H'=H/\acc=aD (fe (p.take i))/\i<=p.length/\∃x,σ=[x]) ⟨rfl,rfl,HQ _,_,rfl⟩ ?_ ?_ ?_ ?_ ?_⟩
  ·rintro i acc σ H' ⟨_,rfl,_⟩
   refine bp ?_;rw[au];unfold fe;rw[Hm,Ie];have:=hp.1;omega
  ·rintro i acc σ H' ⟨_,_,h,_⟩
   rw[au];exact h
  ·rintro i acc σ H' ⟨rfl,_⟩
   exact hS
  ·rintro i x acc σ H' hx ⟨rfl,rfl,hi,y,rfl⟩
   have hl:i<p.length:=by have:=(Hk.mp hx).1;rwa [au]at this
   rw[bb hl]at hx;cases hx;have hr:=hp.2 _ (Hu hl);walk_at "wp";refine⟨by rw[aE];omega,by decide,?_,hl⟩;rw[j7,gZ,List.take_add_one,Hj hl];unfold fe;rw[Hy];exact(fO _ _).symm
  ·rintro acc σ H' ⟨rfl,rfl,_⟩ l hl
   rw[au,Ic];exact q l _ hl ac (ae hl)
noncomputable abbrev cW:Stmt:=gu 20
noncomputable def qY(K:W.Frag):Sp:=fun vs H Q _=>∃(a:Addr) (p:bC) (i:Nat),vs=[.ref a,.int (i:Int)]/\aW K H a (aD p)/\rK p/\(∀r∈p,i<r.length)/\∀H',ay H H'->Q (.str (tx (col p i))) H'
theorem xC:aF ["picture","i"] ["picture","i"] (ak cW):=by walk_at "c"
theorem xq{f:Addr}{fd:FuncData}(F:c_ K "column_from_below" "column_from_below" cW f fd)(nb:NB mg):bc P w K mg base bH 1 f fd ["picture","i"] (qY K):=by
 have sc:=xC;walk_at "f"
 ·obtain⟨a,p,i,rfl,_⟩:=h;rfl
 ·obtain⟨a,p,i,rfl,hS,hp,hi,q⟩:=h
  refine⟨_,(ah (aI (gb PySem.F.plainAttrs_str PySem.F.slot_str_join PySem.F.type_str_join nX cV (aa (bS ["row"] [1] rfl (bw.of (by kernel_rfl)) (by kernel_rfl) (Cv rfl nb.reversed (aa (am 0) ad))
    (fun _ _ _ _=>(aH (i:=0) (by show(["row","i"]:List Str).Nodup;decide +kernel) rfl (Or.inl rfl))) (fun _ _ _ _=>bI) (fun _ _ _ _=>(az nj (am 0) (am 1) (fun _ _=>rfl)))) ad)))),?_⟩
  walk_at "wp";have hd:∀n,((p.reverse.take n).map fun r=>V.str ⟨#[r.getD i 0]⟩)=(((p.reverse.take n).map fun r=>r.getD i 0).map fun c=>(⟨#[c]⟩:Str)).map V.str:=fun n=>by rw[HE,HE];rfl
  refine⟨rfl,_,hS,zK (xs:=aD p) (fun n acc σ H'=>H'=H/\acc=((p.reverse.take n).map fun r=>V.str ⟨#[r.getD i 0]⟩)/\n<=p.length/\∃x,σ=[x,some (.int (i:Int))]) ⟨rfl,rfl,HQ _,_,rfl⟩ ?_ ?_ ?_ ?_ ?_⟩
  ·rintro n acc σ H' ⟨_,rfl,_⟩
   refine bp ?_;rw[Hm,Ie];have:=hp.1;rw[HI];omega
  ·rintro n acc σ H' ⟨_,_,h,_⟩
   rw[au];exact h
  ·rintro n acc σ H' ⟨rfl,_⟩
   exact hS
  ·rintro n x acc σ H' hx ⟨rfl,rfl,hn,y,rfl⟩
   have hl:n<p.reverse.length:=by
    have:=(Hk.mp hx).1
    rwa [HI,au,<- HI (as:=p)]at this
   have hx':(aD p.reverse)[n]?=some x:=by unfold aD at hx ⊢;rwa [List.map_reverse]
   rw[bb hl]at hx';cases hx';have hm:p.reverse[n]∈p:=List.mem_reverse.mp (Hu hl);have hr:=hp.2 _ hm;have hri:=hi _ hm;walk_at "wp";have hc:(tx p.reverse[n]).cps.toList[i]?=some (p.reverse[n].getD i 0):=by rw[j7,List.getD_eq_getElem?_getD,Hj hri];rfl
   refine⟨by rw[aE];exact aj (by omega),_,aU hc,?_,by rw[HI]at hl;exact hl⟩;rw[List.take_add_one,Hj hl,Hy]
   rfl
  ·rintro acc σ H' ⟨rfl,rfl,_⟩ l hl
   rw[au,<- HI (as:=p),Ic]at *;refine⟨(col p i).map fun c=>(⟨#[c]⟩:Str),.inl (aW.of ?_),?_,?_⟩
   ·rw[ac];unfold col;rw[HE,HE];rfl
   ·rw[HE]
    have e:((fun y:Str=>y.length)∘fun c=>(⟨#[c]⟩:Str))=fun _=>1:=by funext c;rfl
    rw[e,List.map_const',List.sum_replicate_nat,Hm];have e0:(Str.ofString "").length=0:=rfl;rw[e0];have:=hp.1;unfold col;rw[Hm,HI];omega
   ·rw[gZ];exact q _ (ae hl)
noncomputable abbrev mE:Stmt:=gu 19
noncomputable def ig(K:W.Frag):Sp:=fun vs H Q _=>∃(a:Addr) (p:bC) (r c:Nat),vs=[.ref a]/\aW K H a (aD p)/\fD p r c/\0<r/\r<=64/\c<=64/\bR H (fQ p) Q
theorem vT:aF ["picture"] ["picture"] (ak mE):=by walk_at "c"
theorem vN{f:Addr}{fd:FuncData}(F:c_ K "quarter" "quarter" mE f fd)(nb:NB mg)(c_column_from_below:eX P w K mg base bH 1 "column_from_below" ["picture","i"] (qY K)):bc P w K mg base bH 2 f fd ["picture"] (ig K):=by
 have sc:=vT;walk_at "f"
 ·obtain⟨a,p,r,c,rfl,_⟩:=h;rfl
 ·obtain⟨a,p,r,c,rfl,hS,hp,hr0,hr1,hc1,q⟩:=h
  refine⟨_,(ah (aI (bS ["i"] [0] rfl (bw.of (by kernel_rfl)) (by kernel_rfl) (bQ rfl nb.range (aa (av ba rfl nb.len aQ (aa (az aV (am 0) af (fun _ _=>rfl)) ad)) ad))
    (fun _ _ _ _=>(aH (i:=0) (by show(["i","picture"]:List Str).Nodup;decide +kernel) rfl (Or.inl rfl))) (fun _ _ _ _=>bI) (fun _ _ _ _=>(aP c_column_from_below (hr.mono (by decide)) rfl bh (aa (am 1) (aa (am 0) ad))))))),?_⟩
  walk_at "wp";have hl0:0<p.length:=by rw[hp.1];exact hr0
  have hc0:(p[0]).length=c:=hp.2 _ (Hu hl0);have hh:(p.headD []).length=c:=bJ hp hr0;refine⟨_,hS,_,aU (bb hl0),_,rfl,by rw[aE];exact aj (by omega),by rw[aE];omega,by rw[aE];omega,?_⟩;rw[aE,hc0,Hv];refine ij (lo:=0) (n:=c) (fun i acc σ H'=>ay H H'/\acc=aD ((List.range i).map (col p))/\i<=c/\∃x,σ=[x,some (.ref a)]) ⟨ay.refl _,rfl,HQ _,_,rfl⟩ ?_ ?_ ?_ ?_
  ·rintro i acc σ H' ⟨_,rfl,_⟩
   refine bp ?_;rw[au,Hm,List.length_range];omega
  ·rintro i acc σ H' ⟨_,_,h,_⟩
   exact h
  ·rintro i acc σ H' hi ⟨sm,rfl,_,y,rfl⟩
   walk_at "wp";refine⟨a,p,i,by simp,sm.seq hS,rK.of hp hr1 hc1,fun x hx=>by rw[hp.2 x hx];exact hi,fun H2 sm2=>⟨sm.trans sm2,?_,hi⟩⟩;rw[List.range_succ,Hy];exact(fO _ _).symm
  ·rintro acc σ H' ⟨sm,rfl,_⟩ l hl
   refine q l _ (sm.free hl) ?_ (sm.trans (ae hl));rw[ac];unfold fQ;rw[hh]
noncomputable abbrev ph:Stmt:=gu 17
noncomputable def mv(K:W.Frag):Sp:=fun vs H Q _=>∃(a:Addr) (p:bC) (r c t:Nat),vs=[.ref a,.int (t:Int)]/\aW K H a (aD p)/\fD p r c/\0<r/\0<c/\r<=64/\c<=64/\t<8/\bR H (turned p t) Q
theorem yb:aF ["picture","t","result","step"] ["picture","t"] (ak ph):=by walk_at "c"
theorem yg{f:Addr}{fd:FuncData}(F:c_ K "turned" "turned" ph f fd)(nb:NB mg)(c_mirror:eX P w K mg base bH 1 "mirror" ["picture"] (qR K))(c_quarter:eX P w K mg base bH 2 "quarter" ["picture"] (ig K)):bc P w K mg base bH 3 f fd ["picture","t"] (mv K):=by
 have sc:=yb;walk_at "f"
 ·obtain⟨a,p,r,c,t,rfl,_⟩:=h;rfl
 ·obtain⟨a,p,r,c,t,rfl,hS,hp,hr0,hc0,hr1,hc1,ht,q⟩:=h
  refine⟨_,(ag (aK (i:=2) sc.nd rfl (Or.inl rfl) (gQ iO rfl nb.list rO (aa (pv 0) ad)))
   (ag (bg (aA yO (pv 1) af (aJ _))
   (ah (aK (i:=2) sc.nd rfl (Or.inl rfl) (aP c_mirror (hr.mono (by decide)) rfl bh (aa (pv 2) ad))))
   aN)
   (ag (bP PassesOwn.never rfl (bQ rfl nb.range (aa (aq aX (pv 1) af) ad)) (aH (i:=3) sc.nd rfl (Or.inl rfl))
   (ah (aK (i:=2) sc.nd rfl (Or.inl rfl) (aP c_quarter (hr.mono (by decide)) rfl bh (aa (pv 2) ad)))))
   (ah (aI (pv 2)))))),?_⟩
  walk_at "wp"
  -- the bB,from the list at l
  have loop:∀(l:Addr) (p':bC) (H1:Hp),H l=none->H1 l=some (.lst (aD p'))->ay H H1->fD p' r c->turned p t=bB (t%4) p' ->
    ∀(g:TG) (tb:TS) (D:jf),g=jd 3->tb=vg (nC (ig K) [] E0 (jn (x8 2) pG)) (jd 2)->(∀σ' H' v,σ'[2]?=some (some v)->Q v H'->D.nx σ' H')->ua (yq 0 ((t:Int)%4).toNat) g tb D [some (V.ref a),some (V.int t),some (V.ref l),none] H1:=by
   intro l p' H1 hl h1 sm hp' et g tb D hg htb hD;subst hg htb;have e4:((t:Int)%4).toNat=t%4:=by omega
   rw[e4];refine eQ (fun i σ H2=>∃(l2:Addr) (x:Option V),σ=[some (V.ref a),some (V.int t),some (V.ref l2),x]/\H l2=none/\H2 l2=some (.lst (aD (bB i p')))/\ay H H2) ⟨l,none,rfl,hl,h1,sm⟩ ?_ ?_
   ·rintro i σ H2 hi ⟨l2,x,rfl,h2,h3,sm2⟩
    walk_at "wp";have hq:=eZ i hp' hr0 hc0;have gp:∀r' c',fD (bB i p') r' c'->0<r'->r'<=64->c'<=64->ig K [V.ref l2] H2 (fun x_1 H1=>∃l2,x_1=V.ref l2/\H l2=none/\H1 l2=some (HO.lst (aD (bB (i+1) p')))/\ay H H1) E0:=fun r' c' h4 h5 h6 h7=>
     ⟨l2,bB i p',r',c',rfl,aW.of h3,h4,h5,h6,h7,fun l3 H3 h8 h9 sm3=>⟨l3,rfl,sm2.free h8,by rw[h9,<- lI 1 i p'];rfl,sm2.trans sm3⟩⟩
    by_cases hi2:i%2=0
    ·rw[if_pos hi2,if_pos hi2]at hq
     exact gp r c hq hr0 hr1 hc1
    ·rw[if_neg hi2,if_neg hi2]at hq
     exact gp c r hq hc0 hc1 hr1
   ·rintro σ H2 ⟨l2,x,rfl,h2,h3,sm2⟩
    exact hD _ _ _ rfl (q l2 H2 h2 (by rw[h3,et]) sm2)
  refine⟨_,.inl hS,fun l hl=>?_⟩
  split
  ·rename_i h4
   refine⟨l,p,rfl,aW.of ac,rK.of hp hr1 hc1,fun l2 H2 h2 h3 sm2=>⟨by omega,by omega,?_⟩⟩;refine loop l2 (fe p) H2 ((ae hl).free h2) h3 ((ae hl).trans sm2) (jG hp) (by unfold turned;rw[if_pos (by omega)]) _ _ _ rfl rfl ?_;intro σ' H' v e hq;exact⟨v,e,hq⟩
  ·rename_i h4
   refine⟨by omega,by omega,?_⟩;refine loop l p _ hl ac (ae hl) hp (by unfold turned;rw[if_neg (by omega)]) _ _ _ rfl rfl ?_;intro σ' H' v e hq;exact⟨v,e,hq⟩
noncomputable abbrev dC:Stmt:=kL 28 1
noncomputable def i5(C:Addr):Sp:=fun vs H Q _=>∃(a dx l b:Addr) (n sg:List Nat) (c:Int),vs=[.ref a,.ref b]/\H a=some (.ins C dx (BR n c l sg))/\bR H [sg] Q
theorem sM:aF ["self","pictures"] ["self","pictures"] (ak dC):=by walk_at "c"
theorem rP{f C:Addr}{fd:FuncData}(F:c_ K "made" "CellRule.made" dC f fd)(cl:oI K C)(na:aL K C "sign"):bc P w K mg base bH 1 f fd ["self","pictures"] (i5 C):=by
 have sc:=sM;walk_at "f"
 ·obtain⟨a,dx,l,b,n,sg,c,rfl,_⟩:=h;rfl
 ·obtain⟨a,dx,l,b,n,sg,c,rfl,ha,q⟩:=h
  refine⟨_,(ah (aI (bv (aa (gM (am 0) rfl) ad)))),?_⟩;walk_at "wp";exact⟨C,dx,_,ha,cl,na,_,rfl,aj (by decide),fun p hp=>q p _ hp ac (ae hp)⟩
noncomputable def cQ(spf:Sp):Sp:=fun vs H Q E=>∃(a b a1 a2:Addr),vs=[.ref a,.ref b]/\H b=some (.lst [.ref a1,.ref a2])/\spf [.ref a1,.ref a2] H Q E
noncomputable abbrev b9:Stmt:=kL 29 1
theorem pj:aF ["self","pictures"] ["self","pictures"] (ak b9):=by walk_at "c"
theorem pM{f zga:Addr}{fd:FuncData}(F:c_ K "made" "BesideRule.made" b9 f fd)(c_beside:eX P w K mg base (dM P w) 1 "beside" ["one","other"] (gY K zga)):bc P w K mg base (dM P w) 2 f fd ["self","pictures"] (cQ (gY K zga)):=by
 have sc:=pj;walk_at "x"
 ·obtain⟨a,b,a1,a2,rfl,_⟩:=h;rfl
 ·obtain⟨a,b,a1,a2,rfl,hb,q⟩:=h
  refine⟨_,(ah (aI (aP (E:=E) c_beside (hr.mono (by decide)) rfl (dG fun _ _ _ h=>h) (aa (az aV (am 1) af (fun _ _=>rfl)) (aa (az aV (am 1) af (fun _ _=>rfl)) ad))))),?_⟩;walk_at "wp";exact⟨_,aW.of hb,_,rfl,_,aW.of hb,_,rfl,q⟩
noncomputable abbrev cI:Stmt:=kL 30 1
theorem qi:aF ["self","pictures"] ["self","pictures"] (ak cI):=by walk_at "c"
theorem qp{f zga:Addr}{fd:FuncData}(F:c_ K "made" "AboveRule.made" cI f fd)(c_above:eX P w K mg base (dM P w) 1 "above" ["one","other"] (jl K zga)):bc P w K mg base (dM P w) 2 f fd ["self","pictures"] (cQ (jl K zga)):=by
 have sc:=qi;walk_at "x"
 ·obtain⟨a,b,a1,a2,rfl,_⟩:=h;rfl
 ·obtain⟨a,b,a1,a2,rfl,hb,q⟩:=h
  refine⟨_,(ah (aI (aP (E:=E) c_above (hr.mono (by decide)) rfl (dG fun _ _ _ h=>h) (aa (az aV (am 1) af (fun _ _=>rfl)) (aa (az aV (am 1) af (fun _ _=>rfl)) ad))))),?_⟩;walk_at "wp";exact⟨_,aW.of hb,_,rfl,_,aW.of hb,_,rfl,q⟩
noncomputable def ik(K:W.Frag)(C:Addr):Sp:=fun vs H Q E=>∃(a dx l b a1:Addr) (n o1:List Nat) (c t:Int),vs=[.ref a,.ref b]/\H a=some (.ins C dx (B4 n c l o1 t))/\H b=some (.lst [.ref a1])/\mv K [.ref a1,.int t] H Q E0
noncomputable abbrev dw:Stmt:=kL 31 1
theorem rQ:aF ["self","pictures"] ["self","pictures"] (ak dw):=by walk_at "c"
theorem su{f C:Addr}{fd:FuncData}(F:c_ K "made" "TurnRule.made" dw f fd)(cl:oI K C)(na:aL K C "turning")(zsd:eX P w K mg base bH 3 "turned" ["picture","t"] (mv K)):bc P w K mg base bH 4 f fd ["self","pictures"] (ik K C):=by
 have sc:=rQ;walk_at "f"
 ·obtain⟨a,dx,l,b,a1,n,o1,c,t,rfl,_⟩:=h;rfl
 ·obtain⟨a,dx,l,b,a1,n,o1,c,t,rfl,ha,hb,q⟩:=h
  refine⟨_,(ah (aI (aP zsd (hr.mono (by decide)) rfl bh (aa (az aV (am 1) af (fun _ _=>rfl)) (aa (gM (am 0) rfl) ad))))),?_⟩;walk_at "wp";exact⟨_,aW.of hb,_,rfl,C,dx,_,ha,cl,na,_,rfl,q⟩
structure jg(p:bC)(r c:Nat):Prop where
 rc:fD p r c
 r0:0<r
 r6:r<=6
 c0:0<c
 c6:c<=6
inductive mm:Nat->List bC->Prop
 |cell:mm 0 []
 |beside {p q:bC} {r c r' c':Nat}:jg p r c->jg q r' c'->mm 1 [p,q]
 |above {p q:bC} {r c r' c':Nat}:jg p r c->jg q r' c'->mm 2 [p,q]
 |turn {p:bC} {r c:Nat}:jg p r c->mm 3 [p]
noncomputable def qc(H:Hp)(l:Addr)(as:List Addr)(ps:List bC):Prop:=H l=some (.lst (as.map V.ref))/\as.length=ps.length/\∀i (h1:i<as.length) (h2:i<ps.length),H as[i]=some (.lst (aD ps[i]))
noncomputable def d8(k:Nat)(v:RV)(ps:List bC):Option bC:=
 match k,ps with
 |0,_=>some [v.sg]
 |1,[p,q]=>if p.length=q.length/\(p.headD []).length+(q.headD []).length<=6 then some (nO p q) else none
 |2,[p,q]=>if(p.headD []).length=(q.headD []).length/\p.length+q.length<=6 then some (p++q) else none
 |_,[p]=>some (turned p v.t.toNat)
 |_,_=>none
noncomputable def nK(K:W.Frag)(R:RC)(CF:Addr):List (Addr×Sp):=[(R.cc,i5 R.cc),(R.cb,cQ (gY K CF)),(R.ca,cQ (jl K CF)),(R.ct,ik K R.ct)]
theorem zW{R:RC}{CF:Addr}{H:Hp}{k a b}{v:RV}{as:List Addr}{ps:List bC}{Q:VK}{E:XK}(r:jq R H k a v)(ok:Fr k v)(pa:qc H b as ps)(ft:mm k ps)
  (q:∀p,d8 k v ps=some p->bR H p Q) (x:d8 k v ps=none->E (.ref CF) none H) :
  ∃o∈nK K R CF,∃dx fs,H a=some (.ins o.1 dx fs)/\fs.lookup ("made":Str)=none/\o.2 [.ref a,.ref b] H Q E:=by
 obtain⟨dx,l,h1,_⟩:=r;obtain⟨hb,hl,hat⟩:=pa;cases ft with
 |cell=>exact⟨(R.cc,i5 R.cc),by simp[nK],dx,_,h1,rfl,a,dx,l,b,v.n,v.sg,v.c,rfl,h1,q _ rfl⟩
 | @beside p q' r c r' c' hp hq=>
  obtain⟨a1,a2,rfl⟩:∃a1 a2,as=[a1,a2]:=by match as,hl with | [a1,a2],_=>exact⟨a1,a2,rfl⟩
  have e1:=hat 0 (by simp) (by simp);have e2:=hat 1 (by simp) (by simp);have hh1:=bJ hp.rc hp.r0;have hh2:=bJ hq.rc hq.r0;have hl1:=hp.rc.1;have hl2:=hq.rc.1;refine⟨(R.cb,cQ (gY K CF)),by simp[nK],dx,_,h1,rfl,a,b,a1,a2,rfl,hb,a1,a2,p,q',r,c,r',c',rfl,e1,e2,hp.rc,hq.rc,hp.r0,hp.r6,hp.c6,hq.r0,hq.r6,hq.c6,fun fit=>q _ ?_,fun nofit=>x ?_⟩
  ·show(if _ then _ else _)=_
   rw[if_pos (by rw[hl1,hl2,hh1,hh2];exact fit)]
  ·show(if _ then _ else _)=_
   rw[if_neg (by rw[hl1,hl2,hh1,hh2];exact nofit)]
 | @above p q' r c r' c' hp hq=>
  obtain⟨a1,a2,rfl⟩:∃a1 a2,as=[a1,a2]:=by match as,hl with | [a1,a2],_=>exact⟨a1,a2,rfl⟩
  have e1:=hat 0 (by simp) (by simp);have e2:=hat 1 (by simp) (by simp);have hh1:=bJ hp.rc hp.r0;have hh2:=bJ hq.rc hq.r0;have hl1:=hp.rc.1;have hl2:=hq.rc.1;refine⟨(R.ca,cQ (jl K CF)),by simp[nK],dx,_,h1,rfl,a,b,a1,a2,rfl,hb,a1,a2,p,q',r,c,r',c',rfl,e1,e2,hp.rc,hq.rc,hp.r0,hp.r6,hp.c6,hq.r0,hq.r6,hq.c6,fun fit=>q _ ?_,fun nofit=>x ?_⟩
  ·show(if _ then _ else _)=_
   rw[if_pos (by rw[hl1,hl2,hh1,hh2];exact fit)]
  ·show(if _ then _ else _)=_
   rw[if_neg (by rw[hl1,hl2,hh1,hh2];exact nofit)]
 | @turn p r c hp=>
  obtain⟨a1,rfl⟩:∃a1,as=[a1]:=by match as,hl with | [a1],_=>exact⟨a1,rfl⟩
  have e1:=hat 0 (by simp) (by simp);have t0:0<=v.t:=ok.2.1;have t7:v.t<=7:=ok.2.2;refine⟨(R.ct,ik K R.ct),by simp[nK],dx,_,h1,rfl,a,dx,l,b,a1,v.n,v.o1,v.c,v.t,rfl,h1,hb,a1,p,r,c,v.t.toNat,by rw[Iv t0],aW.of e1,hp.rc,hp.r0,hp.c0,by have:=hp.r6;omega,by have:=hp.c6;omega,by omega,q _ rfl⟩
noncomputable abbrev pY:Stmt:=gu 41
noncomputable def mh(K:W.Frag):Sp:=fun vs H Q _=>∃(a:Addr) (ns:List Int) (k:Nat),vs=[.ref a,.int (k:Int)]/\aW K H a (ns.map V.int)/\k<=1000/\∀c:Int,Q (.int c) H
theorem xz:aF ["_law_script","_law_k","_law_cell_here","_law_mixed"] ["_law_script","_law_k"] (ak pY):=by walk_at "c"
theorem xD{f:Addr}{fd:FuncData}(F:c_ K "_law_cell" "_law_cell" pY f fd)(nb:NB mg):bc P w K mg base bH 1 f fd ["_law_script","_law_k"] (mh K):=by
 have sc:=xz;walk_at "f"
 ·obtain⟨a,ns,k,rfl,_⟩:=h;rfl
 ·obtain⟨a,ns,k,rfl,hS,hk,q⟩:=h
  refine⟨_,(ag (aK (i:=2) sc.nd rfl (Or.inl rfl) af)
   (ag (bg (aA nE (pv 1) (av aO rfl nb.len aQ (aa (pv 0) ad)) (aJ _))
   (ah (aK (i:=2) sc.nd rfl (Or.inl rfl) (az lW (pv 0) (pv 1) (fun _ _=>rfl))))
   aN)
   (ag (aK (i:=3) sc.nd rfl (Or.inl rfl) (aq aX (aq f_ (aq bA (aq bA (aq aX (pv 2) af) (aq f_ af (pv 1))) af) af) af))
   (ah (aI (aq bA (aq f_ (aq bi (pv 2) af) af) (aq aX (aq bA (aq f_ (pv 3) af) (pv 1)) af))))))),?_⟩
  walk_at "wp";refine⟨_,hS,?_⟩;rw[Hm]
  split
  ·rename_i hlt
   have hlt':k<ns.length:=by omega
   refine⟨_,hS,V.int ns[k],aU (by rw[Ho,Hj hlt'];rfl),?_⟩;walk_at "wp";exact q _
  ·exact q _
noncomputable def g9(s:Nat):Nat:=match s with | 0=>1 | 1=>3 | 2=>5 | _=>7
noncomputable def CY(d s m:Nat):List Nat:=(List.range (1+m)).map fun i=>97+(d+i*g9 s)%26
theorem Bq:∀d,d<26->∀s,s<4->∀m,m<4->cU (CY d s m)=true:=by decide +kernel
theorem BM:∀n,n<4->([V.int 1,V.int 3,V.int 5,V.int 7]:List V)[n]?=some (V.int (g9 n:Nat))/\g9 n<=7
 |0,_=>⟨rfl,by decide⟩
 |1,_=>⟨rfl,by decide⟩
 |2,_=>⟨rfl,by decide⟩
 |3,_=>⟨rfl,by decide⟩
theorem zx:∀n,n<26->(Str.ofString "abcdefghijklmnopqrstuvwxyz").cps.toList[n]?=some (97+n):=by decide +kernel
theorem kQ{r:List Nat}(h:cU r=true):1<=r.length/\r.length<=4:=by
 unfold cU at h;simp only[Bool.and_eq_true,decide_eq_true_eq]at h;exact⟨h.1.1.1,h.1.1.2⟩
noncomputable abbrev mP:Stmt:=gu 42
noncomputable def pJ:Sp:=fun vs H Q _=>∃(c:Int),vs=[.int c,.int 4]/\∀(r:List Nat) (H':Hp),cU r=true->ay H H'->Q (.str (tx r)) H'
theorem vV:aF ["_law_cell_here","_law_most","_law_letters","_law_step"] ["_law_cell_here","_law_most"] (ak mP):=by walk_at "c"
theorem wj{f:Addr}{fd:FuncData}(F:c_ K "_law_signs" "_law_signs" mP f fd)(nb:NB mg):bc P w K mg base bH 1 f fd ["_law_cell_here","_law_most"] pJ:=by
 have sc:=vV;walk_at "f"
 ·obtain⟨c,rfl,_⟩:=h;rfl
 ·obtain⟨c,rfl,q⟩:=h
  refine⟨_,(ag (aK (i:=2) sc.nd rfl (Or.inr rfl) cV)
   (ag (aK (i:=3) sc.nd rfl (Or.inr rfl) (az aC (aR (bE (bE (bE (bE ad))))) (aq (a_.m1 aX) (aq (a_.m1 bi) (am 0) (am 1)) af) (fun _ _=>rfl)))
   (ah (aI (gb PySem.F.plainAttrs_str PySem.F.slot_str_join PySem.F.type_str_join nX cV (aa (bS ["_law_k"] [2,0,1,3] rfl (bw.of (by kernel_rfl)) (by kernel_rfl) (bQ rfl nb.range (aa (aq (a_.m0 bA) af (aq (a_.m1 aX) (am 0) (am 1))) ad))
    (fun _ _ _ _=>(aH (i:=0) (by show(["_law_k","_law_letters","_law_cell_here","_law_most","_law_step"]:List Str).Nodup;decide +kernel) rfl (Or.inl rfl))) (fun _ _ _ _=>bI) (fun _ _ _ _=>(az nj (am 1) (aq (a_.m1 aX) (aq (a_.m0 bA) (aq (a_.m1 bi) (aq (a_.m1 bi) (am 2) (am 3)) af) (aq (a_.m1 f_) (am 0) (am 4))) af) (fun _ _=>rfl)))) ad)))))),?_⟩
  obtain⟨m,hm⟩:∃m:Nat,c%4=(m:Int):=⟨_,(Iv (Ir _ (by omega))).symm⟩;obtain⟨s4,hs4⟩:∃m:Nat,c/4%4=(m:Int):=⟨_,(Iv (Ir _ (by omega))).symm⟩;obtain⟨d,hd⟩:∃m:Nat,c/4/4%26=(m:Int):=⟨_,(Iv (Ir _ (by omega))).symm⟩;have m2:m<4:=by have:=Iu c (b:=4) (by omega);omega
  have s2:s4<4:=by have:=Iu (c/4) (b:=4) (by omega);omega
  have d2:d<26:=by have:=Iu (c/4/4) (b:=26) (by omega);omega
  walk_at "n";refine h1 _ _ ?_;walk_at "nc";obtain⟨stp,stl⟩:=BM s4 s2;refine⟨aj (by decide),fun p hp=>⟨_,bd.of ac,_,by rw[hs4];exact aU stp,h1 _ _ ?_⟩⟩;clear h1;have s1:ay H (aB H p (.tup [V.int 1,V.int 3,V.int 5,V.int 7])):=ae hp;generalize aB H p (.tup [V.int 1,V.int 3,V.int 5,V.int 7])=H1 at s1 ⊢;walk_at "wp";rw[hm];have en:(1+(m:Int)).toNat=1+m:=by omega
  rw[en];refine⟨rfl,by omega,by omega,?_⟩;have chr:∀i:Nat,(c/4/4+(i:Int)*((g9 s4:Nat):Int))%26=(((d+i*g9 s4)%26:Nat):Int):=fun i=>by
   rw[Int.add_emod,hd]
   push_cast
   rw[Int.add_emod (d:Int) ((i:Int)*((g9 s4:Nat):Int)),Int.emod_eq_of_lt (a:=(d:Int)) (by omega) (by omega)]
  refine gx (n:=1+m) (f:=fun i=>some (V.str ⟨#[97+(d+i*g9 s4)%26]⟩)) (fun σ=>∃x,σ=[x,some (.str "abcdefghijklmnopqrstuvwxyz"),some (.int c),some (.int 4),some (.int ((g9 s4:Nat):Int))]) ⟨_,rfl⟩ (by omega) ?_ ?_
  ·rintro i hi σ H' N1 N0 ⟨y,rfl⟩ sm k1 k0
   walk_at "wp";have hb:i*g9 s4<=4*7:=Nat.mul_le_mul (by omega) stl;have h2:(i:Int)*((g9 s4:Nat):Int)=((i*g9 s4:Nat):Int):=by push_cast;rfl
   refine⟨by omega,by decide,97+(d+i*g9 s4)%26,?_,k1 _ _ _ rfl sm ⟨_,rfl⟩⟩;rw[chr i];exact aU (zx _ (Nat.mod_lt _ (by omega)))
  ·intro H' sm l hl
   rw[lY];have e0:(List.range (1+m)).map (fun i=>V.str ⟨#[97+(d+i*g9 s4)%26]⟩)=((CY d s4 m).map fun c=>(⟨#[c]⟩:Str)).map V.str:=by
    unfold CY;rw[HE,HE];rfl
   rw[e0];have hg:=Bq d d2 s4 s2 m m2;have hgl:=kQ hg;refine⟨_,.inl (aW.of ac),?_,?_⟩
   ·rw[HE]
    have e1:((fun y:Str=>y.length)∘fun c=>(⟨#[c]⟩:Str))=fun _=>1:=by funext c;rfl
    have e0:(Str.ofString "").length=0:=rfl;rw[e1,List.map_const',List.sum_replicate_nat,Hm,e0];omega
   ·rw[gZ]
    exact q _ _ hg ((s1.trans sm).trans (ae hl))
theorem Ad:∀n,n<26->(Str.ofString "ABCDEFGHIJKLMNOPQRSTUVWXYZ").cps.toList[n]?=some (65+n):=by decide +kernel
noncomputable def Bc(c:Nat):Bool:=DM CB c
theorem vX:∀n,n<26->Bc (65+n)=true:=by decide +kernel
noncomputable abbrev m3:Stmt:=gu 45
noncomputable def pw:Sp:=fun vs H Q _=>∃(c:Int),vs=[.int c]/\∀(l:Addr) (p:bC) (H':Hp),H l=none->H' l=some (.lst (aD p))->p.length=4->(∀r∈p,cB r=true)->ay H H'->Q (.ref l) H'
theorem vZ:aF ["_law_cell_here","_law_letters","_law_rest","_law_word","_law_spot","_law_first","_law_step","_law_names_here","_law_k"] ["_law_cell_here"] (ak m3):=by walk_at "c"
theorem vb{f:Addr}{fd:FuncData}(F:c_ K "_law_names" "_law_names" m3 f fd)(nb:NB mg):bc P w K mg base bH 1 f fd ["_law_cell_here"] pw:=by
 have sc:=vZ;walk_at "f"
 ·obtain⟨c,rfl,_⟩:=h;rfl
 ·obtain⟨c,rfl,q⟩:=h
  refine⟨_,(ag (aK (i:=1) sc.nd rfl (Or.inr rfl) cV)
   (ag (aK (i:=2) sc.nd rfl (Or.inr rfl) (aq (a_.m1 bi) (am 0) af))
   (ag (oM (i:=3) ["_law_k"] [1,2] sc.nd rfl (Or.inl rfl) rfl  rfl (bw.of (by kernel_rfl)) (by kernel_rfl) (bQ rfl nb.range (aa (aq (a_.m0 bA) af (aq (a_.m1 aX) (am 0) af)) ad))
    (fun _ _ _ _=>(aH (i:=0) (by show(["_law_k","_law_letters","_law_rest"]:List Str).Nodup;decide +kernel) rfl (Or.inl rfl))) (fun _ _ _ _=>bI) (fun _ _ _ _=>(az nj (am 1) (aq (a_.m1 aX) (aq (a_.m1 bi) (am 2) (aq (a_.m0 bA) af (aq (a_.m1 f_) af (am 0)))) af) (fun _ _=>rfl))))
   (ag (aK (i:=4) sc.nd rfl (Or.inl rfl) (aq (a_.m1 aX) (am 2) (av aO rfl nb.len aQ (aa (am 3) ad))))
   (ag (aK (i:=5) sc.nd rfl (Or.inl rfl) (gb PySem.F.plainAttrs_str PySem.F.slot_str_find PySem.F.type_str_find A7 (am 1) (aa (az aV (am 3) (am 4) (fun _ _=>rfl)) ad)))
   (ag (aK (i:=6) sc.nd rfl (Or.inl rfl) (aq (a_.m1 f_) (aq (a_.m0 bA) af (aq (a_.m1 aX) (aq (a_.m1 bi) (am 2) af) af)) (aq (a_.m1 aX) (aq (a_.m1 bi) (am 0) af) af)))
   (ag (aK (i:=7) sc.nd rfl (Or.inl rfl) (bv ad))
   (ag (bP PassesOwn.never rfl (bQ rfl nb.range (bE ad)) (aH (i:=8) sc.nd rfl (Or.inl rfl))
   (ag (jy (az nj (am 1) (aq (a_.m1 aX) (aq (a_.m0 bA) (am 5) (aq (a_.m1 f_) (am 8) (am 6))) af) (fun _ _=>rfl)) (CD (am 3) (am 4) zo))
   (ah (bN (gb PySem.F.plainAttrs_list PySem.F.slot_list_append PySem.F.type_list_append b6 (am 7) (aa (gb PySem.F.plainAttrs_str PySem.F.slot_str_join PySem.F.type_str_join nX cV (aa (am 3) ad)) ad))))))
   (ah (aI (am 7))))))))))),?_⟩
  obtain⟨m,hm⟩:∃m:Nat,c%4=(m:Int):=⟨_,(Iv (Ir _ (by omega))).symm⟩;have m2:m<4:=by have:=Iu c (b:=4) (by omega);omega
  walk_at "n";refine h1 _ _ ?_;walk_at "nc";refine h1 _ _ ?_;walk_at "nc";rw[hm];have en:(1+(m:Int)).toNat=1+m:=by omega
  rw[en];refine⟨by omega,by omega,?_⟩;have up26:∀x:Int,∃n:Nat,n<26/\x%26=(n:Int):=fun x=>⟨(x%26).toNat,by have:=Iu x (b:=26) (by omega);omega,by have:=Ir x (b:=26) (by omega);omega⟩
  let fc:Nat->Nat:=fun i=>65+(c/8/(1+7*(i:Int))%26).toNat
  refine gx (n:=1+m) (f:=fun i=>some (V.str ⟨#[fc i]⟩)) (fun σ=>∃x,σ=[x,some (.str "ABCDEFGHIJKLMNOPQRSTUVWXYZ"),some (.int (c/8))]) ⟨_,rfl⟩ (by omega) ?_ ?_
  ·rintro i hi σ H' N1 N0 ⟨y,rfl⟩ sm k1 k0
   walk_at "wp";obtain⟨n,h1,h2⟩:=up26 (c/8/(1+7*(i:Int)));refine⟨by omega,by omega,by decide,fc i,?_,k1 _ _ _ rfl sm ⟨_,rfl⟩⟩;show gv _ _=some (65+(c/8/(1+7*(i:Int))%26).toNat);rw[h2];exact aU (Ad n h1)
  ·intro H' sm l hl
   rw[lY];have e0:(List.range (1+m)).map (fun i=>V.str ⟨#[fc i]⟩)=(((List.range (1+m)).map fc).map fun c=>V.str ⟨#[c]⟩):=by rw[HE];rfl
   rw[e0];have hcs:∀x∈(List.range (1+m)).map fc,Bc x=true:=fun x hx=>by
    obtain⟨i,_,rfl⟩:=Ij.mp hx;obtain⟨n,h1,h2⟩:=up26 (c/8/(1+7*(i:Int)));show Bc (65+(c/8/(1+7*(i:Int))%26).toNat)=true;rw[h2];exact vX n h1
   have hcl:((List.range (1+m)).map fc).length=1+m:=by simp
   generalize(List.range (1+m)).map fc=cs at hcs hcl ⊢;refine h1 _ _ ?_;clear h1;have s1:ay H (aB H' l (.lst (cs.map fun c=>V.str ⟨#[c]⟩))):=sm.trans (ae hl);have e1:aB H' l (.lst (cs.map fun c=>V.str ⟨#[c]⟩)) l=some (.lst (cs.map fun c=>V.str ⟨#[c]⟩)):=ac;generalize aB H' l (.lst (cs.map fun c=>V.str ⟨#[c]⟩))=H1 at s1 e1 ⊢;have fr:H l=none:=sm.free hl;walk_at "n";have lm:(cs.map fun c=>V.str ⟨#[c]⟩).length=1+m:=by rw[Hm,hcl]
   refine⟨_,aW.of e1,by rw[lm];omega,h1 _ _ ?_⟩;clear h1;rw[lm];obtain⟨k,hk⟩:∃k:Nat,c/8%((1+m:Nat):Int)=(k:Int):=⟨_,(Iv (Ir _ (by omega))).symm⟩;have hk2:k<1+m:=by have:=Iu (c/8) (b:=((1+m:Nat):Int)) (by omega);omega
   rw[hk];walk_at "n";refine⟨rfl,_,aW.of e1,V.str ⟨#[cs[k]'(by omega)]⟩,aU (by rw[Ho,Hj (by omega)];rfl),_,rfl,fun fi=>h1 _ _ ?_⟩;walk_at "nc";refine⟨.inr ⟨by omega,by omega⟩,h1 _ _ ?_⟩;clear h1;generalize(1+c/8/5%8)*(c/4%2)=st;walk_at "n";refine⟨aj (by decide),fun ln hn=>h1 _ _ ?_⟩;clear h1;have hnl:l≠ln:=fun e=>by rw[<- e,e1]at hn;cases hn
   have s2:ay H (aB H1 ln (.lst [])):=s1.trans (ae hn);have e2:aB H1 ln (.lst []) l=some (.lst (cs.map fun c=>V.str ⟨#[c]⟩)):=by rw[ai hnl];exact e1
   have e3:aB H1 ln (.lst []) ln=some (.lst (aD [])):=ac;have frn:H ln=none:=s1.free hn;generalize aB H1 ln (.lst [])=H2 at s2 e2 e3 ⊢;walk_at "n";refine⟨by decide,?_⟩;refine eQ (n:=4) (fun i σ H'=>ay H H'/\(∃ds:List Nat,H' l=some (.lst (ds.map fun c=>V.str ⟨#[c]⟩))/\(∀x∈ds,Bc x=true)/\ds.length=1+m)/\(∃p:bC,H' ln=some (.lst (aD p))/\p.length=i/\∀r∈p,cB r=true)/\∃x,σ=[some (V.int c),some (V.str (Str.ofString "ABCDEFGHIJKLMNOPQRSTUVWXYZ")),some (V.int (c/8)),some (V.ref l),some (V.int k),some (V.int fi),some (V.int st),some (V.ref ln),x]) ⟨s2,⟨cs,e2,hcs,hcl⟩,⟨[],e3,rfl,fun r hr=>nomatch hr⟩,_,rfl⟩ ?_ ?_
   ·rintro i σ H' hi ⟨sm',⟨ds,hds,dcap,dl⟩,⟨p,hp,pl,pn⟩,x,rfl⟩
    walk_at "wp";obtain⟨n,hn1,hn2⟩:=up26 (fi+(i:Int)*st);have nm:cB (ds.set k (65+n))=true:=by
     have hall:(ds.set k (65+n)).all (DM CB)=true:=Ik.mpr fun x hx=>by
      rcases List.mem_or_eq_of_mem_set hx with h | h
      ·exact dcap x h
      ·rw[h];exact vX n hn1
     unfold cB gX;rw[hall,Iq,dl];simp;omega
    have es:(ds.map fun c=>V.str ⟨#[c]⟩).set k (V.str ⟨#[65+n]⟩)=(ds.set k (65+n)).map fun c=>V.str ⟨#[c]⟩:=by rw[List.map_set]
    refine⟨.inl ⟨by omega,by omega⟩,by decide,65+n,by rw[hn2];exact aU (Ad n hn1),_,hds,k,by rw[Hm,dl];unfold BB;rw[if_pos (by omega),if_pos (by omega)];simp,?_⟩;rw[es];have t1:aB H' l (.lst ((ds.set k (65+n)).map fun c=>V.str ⟨#[c]⟩)) l=some (.lst ((ds.set k (65+n)).map fun c=>V.str ⟨#[c]⟩)):=ac;have t2:aB H' l (.lst ((ds.set k (65+n)).map fun c=>V.str ⟨#[c]⟩)) ln=some (.lst (aD p)):=by rw[ai (Ne.symm hnl)];exact hp
    have t3:ay H (aB H' l (.lst ((ds.set k (65+n)).map fun c=>V.str ⟨#[c]⟩))):=bK sm' fr;generalize aB H' l (.lst ((ds.set k (65+n)).map fun c=>V.str ⟨#[c]⟩))=H3 at t1 t2 t3 ⊢;refine⟨.inl ⟨rfl,_,aW.of t2⟩,rfl,(ds.set k (65+n)).map fun c=>(⟨#[c]⟩:Str),.inl (aW.of (by rw[t1,HE];rfl)),?_,_,t2,?_,?_⟩
    ·have e1:((fun y:Str=>y.length)∘fun c=>(⟨#[c]⟩:Str))=fun _=>1:=by funext c;rfl
     have e0:(Str.ofString "").length=0:=rfl;rw[HE,e1,List.map_const',List.sum_replicate_nat,Hm,e0,Iq];omega
    ·rw[au,pl];exact bp (by omega)
    ·rw[gZ]
     refine⟨bK t3 frn,⟨ds.set k (65+n),by rw[ai hnl];exact t1,fun x hx=>?_,by rw[Iq,dl]⟩,p++[ds.set k (65+n)],?_,by rw[HN,pl];rfl,fun r hr=>?_⟩
     ·rcases List.mem_or_eq_of_mem_set hx with h | h
      ·exact dcap x h
      ·rw[h];exact vX n hn1
     ·rw[ac];unfold aD;rw[Hy];rfl
     ·rcases Hz.mp hr with h | h
      ·exact pn r h
      ·rw[Hn.mp h];exact nm
   ·rintro σ H' ⟨sm',_,⟨p,hp,pl,pn⟩,x,rfl⟩
    refine h1 _ _ ?_;walk_at "wp";exact q ln p H' frn hp pl pn sm'
theorem gw{H:Hp}{a b:Addr}{xs ys:List V}{Q:VK}(ha:H a=some (.tup xs))(hb:H b=some (.tup ys))(hx:xs≠[])(hy:ys≠[])(hz:xs.length+ys.length<=1000)(q:∀p,H p=none->Q (.ref p) (aB H p (.tup (xs++ys)))):zY K (.ref a) (.ref b) H Q:=
 ⟨a,b,xs,ys,rfl,rfl,bd.of ha,bd.of hb,hx,aj (by omega),fun e=>absurd e hy,fun _=>q⟩
noncomputable def e7(r:Nat×RV):List V:=match r.1 with
 |0=>[.str "cell",.str (tx r.2.n),.int r.2.c,.str (tx r.2.sg)]
 |1=>[.str "beside",.str (tx r.2.n),.int r.2.c,.str (tx r.2.o1),.str (tx r.2.o2)]
 |2=>[.str "above",.str (tx r.2.n),.int r.2.c,.str (tx r.2.o1),.str (tx r.2.o2)]
 |_=>[.str "turned",.str (tx r.2.n),.int r.2.c,.str (tx r.2.o1),.int r.2.t]
noncomputable def bV(H:Hp)(l:Addr)(ts:List Addr)(rs:List (Nat×RV)):Prop:=H l=some (.lst (ts.map V.ref))/\ts.length=rs.length/\∀(i:Nat) t r,ts[i]?=some t->rs[i]?=some r->H t=some (.tup (e7 r))
theorem bV.up{H H':Hp}{l:Addr}{ts:List Addr}{rs:List (Nat×RV)}(h:bV H l ts rs)(s:ay H H'):bV H' l ts rs:=⟨s _ _ h.1,h.2.1,fun i t r e1 e2=>s _ _ (h.2.2 i t r e1 e2)⟩
theorem EO:V.str (Str.ofString "beside")≠V.str (Str.ofString "cell"):=fun h=>absurd (V.str.inj h) (by decide +kernel)
theorem EN:V.str (Str.ofString "above")≠V.str (Str.ofString "cell"):=fun h=>absurd (V.str.inj h) (by decide +kernel)
theorem EL:V.str (Str.ofString "turned")≠V.str (Str.ofString "cell"):=fun h=>absurd (V.str.inj h) (by decide +kernel)
theorem FV:V.str (Str.ofString "above")≠V.str (Str.ofString "beside"):=fun h=>absurd (V.str.inj h) (by decide +kernel)
theorem G':V.str (Str.ofString "turned")≠V.str (Str.ofString "beside"):=fun h=>absurd (V.str.inj h) (by decide +kernel)
theorem Gh:V.str (Str.ofString "turned")≠V.str (Str.ofString "above"):=fun h=>absurd (V.str.inj h) (by decide +kernel)
theorem Fz:V.str (Str.ofString "beside")≠V.str (Str.ofString "turned"):=fun h=>absurd (V.str.inj h) (by decide +kernel)
theorem FR:V.str (Str.ofString "above")≠V.str (Str.ofString "turned"):=fun h=>absurd (V.str.inj h) (by decide +kernel)
theorem j'{k:Nat}(h:k<4):k=0\/k=1\/k=2\/k=3:=by omega
structure jk(r:Nat×RV):Prop where
 k4:r.1<4
 good:r.2.good
 small:r.2.small
noncomputable abbrev oW:Stmt:=gu 48
noncomputable def mG(R:RC):Sp:=fun vs H Q _=>∃(t:Addr) (r:Nat×RV),vs=[.ref t]/\H t=some (.tup (e7 r))/\jk r/\∀b H',jq R H' r.1 b r.2->ay H H'->Q (.ref b) H'
theorem yf:aF ["_law_told"] ["_law_told"] (ak oW):=by walk_at "c"
theorem xH{R:RC}{f CF:Addr}{fd:FuncData}(F:c_ K "_law_rule_made" "_law_rule_made" oW f fd)(nb:NB mg)(rk:qj K R)
  (zwb:ot P w K mg base (dM P w) 4 "CellRule" R.cc ["self","name","cost","sign"] (iE K CF)) (zYa:ot P w K mg base (dM P w) 4 "BesideRule" R.cb ["self","name","cost","one","other"] (cP K CF))
  (zfb:ot P w K mg base (dM P w) 4 "AboveRule" R.ca ["self","name","cost","one","other"] (cP K CF)) (zxb:ot P w K mg base (dM P w) 4 "TurnRule" R.ct ["self","name","cost","part","turning"] (io K CF)):bc P w K mg base bH 6 f fd ["_law_told"] (mG R):=by
 have sc:=yf;walk_at "f"
 ·obtain⟨t,r,rfl,_⟩:=h;rfl
 ·obtain⟨t,⟨k,v⟩,rfl,ht,⟨hk,g,sm⟩,good⟩:=h
  refine⟨_,(ag (bg (aA dA (az aC (am 0) af (fun _ _=>rfl)) cV (aJ _))
   (ah (aI (lv (CX:=dM P w) zwb (hr.mono (by decide)) rfl b8 (aa (az aC (am 0) af (fun _ _=>rfl)) (aa (az aC (am 0) af (fun _ _=>rfl)) (aa (az aC (am 0) af (fun _ _=>rfl)) ad))))))
   aN)
   (ag (bg (aA dA (az aC (am 0) af (fun _ _=>rfl)) cV (aJ _))
   (ah (aI (lv (CX:=dM P w) zYa (hr.mono (by decide)) rfl b8 (aa (az aC (am 0) af (fun _ _=>rfl)) (aa (az aC (am 0) af (fun _ _=>rfl)) (aa (az aC (am 0) af (fun _ _=>rfl)) (aa (az aC (am 0) af (fun _ _=>rfl)) ad)))))))
   aN)
   (ag (bg (aA dA (az aC (am 0) af (fun _ _=>rfl)) cV (aJ _))
   (ah (aI (lv (CX:=dM P w) zfb (hr.mono (by decide)) rfl b8 (aa (az aC (am 0) af (fun _ _=>rfl)) (aa (az aC (am 0) af (fun _ _=>rfl)) (aa (az aC (am 0) af (fun _ _=>rfl)) (aa (az aC (am 0) af (fun _ _=>rfl)) ad)))))))
   aN)
   (ah (aI (lv (CX:=dM P w) zxb (hr.mono (by decide)) rfl b8 (aa (az aC (am 0) af (fun _ _=>rfl)) (aa (az aC (am 0) af (fun _ _=>rfl)) (aa (az aC (am 0) af (fun _ _=>rfl)) (aa (az aC (am 0) af (fun _ _=>rfl)) ad)))))))))),?_⟩
  have sq:=bd.of (K:=K) ht;have g:v.good:=g;have sm:v.small:=g.small;have bn:v.n.length<=100000:=by have:=sm.n;omega
  have b1:v.o1.length<=100000:=by have:=sm.o1;omega
  have b2:v.o2.length<=100000:=by have:=sm.o2;omega
  have bs:v.sg.length<=100000:=by have:=sm.sg;omega
  walk_at "wp";rcases j' hk with rfl | rfl | rfl | rfl
  ·change bd K H t [.str (Str.ofString "cell"),.str (tx v.n),.int v.c,.str (tx v.sg)]at sq
   refine⟨_,sq,_,rfl,rfl,?_⟩;rw[if_pos rfl];refine⟨_,sq,_,rfl,_,sq,_,rfl,_,sq,_,rfl,fun x dx hx hd hne=>?_⟩;exact⟨x,R.cc,dx,v.n,v.sg,v.c,rfl,ac,rk.i0.cl,rk.a0,bn,bs,fun ok pl H' sx hpl hl' ha=>⟨rfl,good x H' ⟨dx,pl,ha,hl'⟩ (j_ hx hd sx)⟩,fun nok=>absurd (g.ok 0) nok⟩
  ·change bd K H t [.str (Str.ofString "beside"),.str (tx v.n),.int v.c,.str (tx v.o1),.str (tx v.o2)]at sq
   refine⟨_,sq,_,rfl,rfl,?_⟩;rw[if_neg EO];refine⟨_,sq,_,rfl,rfl,?_⟩;rw[if_pos rfl];refine⟨_,sq,_,rfl,_,sq,_,rfl,_,sq,_,rfl,_,sq,_,rfl,fun x dx hx hd hne=>?_⟩;exact⟨x,R.cb,dx,v.n,v.o1,v.o2,v.c,rfl,ac,rk.i1.cl,rk.a1,bn,b1,b2,fun ok pl H' sx hpl hl' ha=>⟨rfl,good x H' ⟨dx,pl,ha,hl'⟩ (j_ hx hd sx)⟩,fun nok=>absurd (g.ok 1) nok⟩
  ·change bd K H t [.str (Str.ofString "above"),.str (tx v.n),.int v.c,.str (tx v.o1),.str (tx v.o2)]at sq
   refine⟨_,sq,_,rfl,rfl,?_⟩;rw[if_neg EN];refine⟨_,sq,_,rfl,rfl,?_⟩;rw[if_neg FV];refine⟨_,sq,_,rfl,rfl,?_⟩;rw[if_pos rfl];refine⟨_,sq,_,rfl,_,sq,_,rfl,_,sq,_,rfl,_,sq,_,rfl,fun x dx hx hd hne=>?_⟩;exact⟨x,R.ca,dx,v.n,v.o1,v.o2,v.c,rfl,ac,rk.i2.cl,rk.a2,bn,b1,b2,fun ok pl H' sx hpl hl' ha=>⟨rfl,good x H' ⟨dx,pl,ha,hl'⟩ (j_ hx hd sx)⟩,fun nok=>absurd (g.ok 2) nok⟩
  ·change bd K H t [.str (Str.ofString "turned"),.str (tx v.n),.int v.c,.str (tx v.o1),.int v.t]at sq
   refine⟨_,sq,_,rfl,rfl,?_⟩;rw[if_neg EL];refine⟨_,sq,_,rfl,rfl,?_⟩;rw[if_neg G'];refine⟨_,sq,_,rfl,rfl,?_⟩;rw[if_neg Gh];refine⟨_,sq,_,rfl,_,sq,_,rfl,_,sq,_,rfl,_,sq,_,rfl,fun x dx hx hd hne=>?_⟩;exact⟨x,R.ct,dx,v.n,v.o1,v.c,v.t,rfl,ac,rk.i3.cl,rk.a3,bn,b1,fun ok pl H' sx hpl hl' ha=>⟨rfl,good x H' ⟨dx,pl,ha,hl'⟩ (j_ hx hd sx)⟩,fun nok=>absurd (g.ok 3) nok⟩
noncomputable abbrev mS:Stmt:=gu 46
noncomputable def pP:Sp:=fun vs H Q _=>∃(t:Addr) (r:Nat×RV),vs=[.ref t]/\H t=some (.tup (e7 r))/\r.1<4/\bR H (aT r.1 r.2) Q
theorem vz:aF ["_law_told"] ["_law_told"] (ak mS):=by walk_at "c"
theorem vh{f:Addr}{fd:FuncData}(F:c_ K "_law_parts" "_law_parts" mS f fd)(nb:NB mg):bc P w K mg base bH 1 f fd ["_law_told"] pP:=by
 have sc:=vz;walk_at "f"
 ·obtain⟨t,r,rfl,_⟩:=h;rfl
 ·obtain⟨t,⟨k,v⟩,rfl,ht,hk,good⟩:=h
  refine⟨_,(ag (bg (aA dA (az aC (am 0) af (fun _ _=>rfl)) cV (aJ _))
   (ah (aI (bv ad)))
   aN)
   (ag (bg (aA dA (az aC (am 0) af (fun _ _=>rfl)) cV (aJ _))
   (ah (aI (bv (aa (az aC (am 0) af (fun _ _=>rfl)) ad))))
   aN)
   (ah (aI (bv (aa (az aC (am 0) af (fun _ _=>rfl)) (aa (az aC (am 0) af (fun _ _=>rfl)) ad))))))),?_⟩
  have sq:=bd.of (K:=K) ht;walk_at "wp";have give:∀(ps:bC) (xs:List V),aD ps=xs->aT k v=ps->∀p,H p=none->Q (.ref p) (aB H p (.lst xs)):=fun ps xs e1 e2 p hp=>good p _ hp (by show aB H p _ p=some (.lst (aD (aT k v)));rw[ac,e2,e1]) (ae hp);rcases j' hk with rfl | rfl | rfl | rfl
  ·change bd K H t [.str (Str.ofString "cell"),.str (tx v.n),.int v.c,.str (tx v.sg)]at sq
   refine⟨_,sq,_,rfl,rfl,?_⟩;rw[if_pos rfl];exact⟨HQ _,give [] [] rfl rfl⟩
  ·change bd K H t [.str (Str.ofString "beside"),.str (tx v.n),.int v.c,.str (tx v.o1),.str (tx v.o2)]at sq
   refine⟨_,sq,_,rfl,rfl,?_⟩;rw[if_neg EO];refine⟨_,sq,_,rfl,rfl,?_⟩;rw[if_neg Fz];exact⟨_,sq,_,rfl,_,sq,_,rfl,aj (by decide),give [v.o1,v.o2] _ rfl rfl⟩
  ·change bd K H t [.str (Str.ofString "above"),.str (tx v.n),.int v.c,.str (tx v.o1),.str (tx v.o2)]at sq
   refine⟨_,sq,_,rfl,rfl,?_⟩;rw[if_neg EN];refine⟨_,sq,_,rfl,rfl,?_⟩;rw[if_neg FR];exact⟨_,sq,_,rfl,_,sq,_,rfl,aj (by decide),give [v.o1,v.o2] _ rfl rfl⟩
  ·change bd K H t [.str (Str.ofString "turned"),.str (tx v.n),.int v.c,.str (tx v.o1),.int v.t]at sq
   refine⟨_,sq,_,rfl,rfl,?_⟩;rw[if_neg EL];refine⟨_,sq,_,rfl,rfl,?_⟩;rw[if_pos rfl];exact⟨_,sq,_,rfl,aj (by decide),give [v.o1] _ rfl rfl⟩
structure ja(p:bC)(sg:List Nat)(r:Nat×RV):Prop where
 good:jk r
 n:r.2.n∈p
 o1:r.2.o1∈p
 o2:r.2.o2∈p
 sg:∃c∈sg,r.2.sg=[c]
theorem bV.app{H:Hp}{l t:Addr}{ts:List Addr}{rs:List (Nat×RV)}{r:Nat×RV}(h:bV H l ts rs)(ht:H t=some (.tup (e7 r))):bV (aB H l (.lst (ts.map V.ref++[V.ref t]))) l (ts++[t]) (rs++[r]):=by
 obtain⟨h1,h2,h3⟩:=h;refine⟨by rw[ac,Hy];rfl,by rw[HN,HN,h2];rfl,fun i t' r' e1 e2=>?_⟩;have hold:∀t' r',H t'=some (.tup (e7 r'))->aB H l (.lst (ts.map V.ref++[V.ref t])) t'=some (.tup (e7 r')):=fun t' r' e=>by
  rw[ai (fun z=>by rw[z,h1]at e;cases e)];exact e
 by_cases hi:i<ts.length
 ·rw[HM hi]at e1
  rw[HM (by omega)]at e2;exact hold _ _ (h3 i t' r' e1 e2)
 ·rw[HL (by omega)]at e1
  rw[HL (by omega)]at e2;have hi2:i=ts.length:=by
   have:=(Hk.mp e1).1;simp at this;omega
  subst hi2;rw[Nat.sub_self]at e1;rw[h2,Nat.sub_self]at e2;cases e1;cases e2
  exact hold _ _ ht
theorem uE{r:List Nat}(h:cU r=true):gX r oU=true:=by
 unfold cU at h;simp only[Bool.and_eq_true,decide_eq_true_eq]at h;exact h.1.2
theorem A4{r:List Nat}{c:Nat}(h:cU r=true)(hc:c∈r):i' [c]=true:=by
 have:=uE h;unfold gX at this;rw[Ik]at this;unfold i' gX;rw[List.all_cons,this c hc]
 rfl
noncomputable def cG(ks:List Str)(z:Str):List Str:=if z∈ks then ks else ks++[z]
theorem rq(m:List (Str×List Nat))(z:Str):(bG m z).map (·.1)=cG (m.map (·.1)) z:=by
 unfold bG cG
 split
 ·rfl
 ·rw[Hy];rfl
theorem oX:∀(zs:List Str) (m:List (Str×List Nat)),(zs.foldl bG m).map (·.1)=zs.foldl cG (m.map (·.1))
 | [],_=>rfl
 |z::zs,m=>by rw[List.foldl_cons,List.foldl_cons,oX zs,rq]
theorem xE(m:List (Str×List Nat))(i:Nat)(r:Nat×RV):(eW m i r).map (·.1)=(tx r.2.n::(aT r.1 r.2).map tx).foldl cG (m.map (·.1)):=by
 unfold eW;rw[oX,i8,rq,List.foldl_cons]
theorem vB(ks:List Str)(z:Str):(cG ks z).length<=ks.length+1:=by
 unfold cG;split
 ·omega
 ·simp
noncomputable def pL(z:Str)(rs:List (Nat×RV)):List Nat:=rs.zipIdx.filterMap fun x=>if tx x.1.2.n=z then some x.2 else none
theorem wk(z:Str)(rs:List (Nat×RV))(r:Nat×RV):pL z (rs++[r])=pL z rs++if tx r.2.n=z then[rs.length] else[]:=by
 unfold pL;rw[List.zipIdx_append,List.filterMap_append]
 congr 1
 simp
 split<;>rename_i h<;>simp[h]
theorem wl{z:Str}:∀{rs:List (Nat×RV)},(∀r∈rs,tx r.2.n≠z)->pL z rs=[]:=by
 intro rs h;unfold pL;rw[List.filterMap_eq_nil_iff];intro x hx;rw[if_neg (h x.1 (List.fst_mem_of_mem_zipIdx hx))]
structure NI(rs:List (Nat×RV))(m:List (Str×List Nat)):Prop where
 nd:(m.map (·.1)).Nodup
 ix:∀q∈m,q.2=pL q.1 rs
 all:∀r∈rs,tx r.2.n∈m.map (·.1)
theorem pT{m:List (Str×List Nat)}{z y:Str}:y∈(bG m z).map (·.1)↔y∈m.map (·.1)\/y=z:=by
 unfold bG
 split
 ·rename_i h
  exact⟨fun q=>.inl q,fun q=>q.elim id fun e=>e▸h⟩
 ·rw[Hy,Hz];simp
theorem NI.name{rs:List (Nat×RV)}{m:List (Str×List Nat)}(h:NI rs m)(z:Str):NI rs (bG m z):=by
 refine⟨lQ h.nd,fun q hq=>?_,fun r hr=>pT.mpr (.inl (h.all r hr))⟩;unfold bG at hq
 split at hq
 ·exact h.ix q hq
 ·rename_i hz
  rcases Hz.mp hq with q1 | q1
  ·exact h.ix q q1
  ·rw[Hn.mp q1]
   exact(wl (z:=z) fun r hr e=>hz (by rw[<- e];exact h.all r hr)).symm
theorem NI.names{rs:List (Nat×RV)}:∀(zs:List Str) {m:List (Str×List Nat)},NI rs m->NI rs (zs.foldl bG m)
 | [],_,h=>h
 |z::zs,m,h=>NI.names zs (h.name z)
theorem NI.put{rs:List (Nat×RV)}{m:List (Str×List Nat)}{r:Nat×RV}(h:NI rs m)(hn:tx r.2.n∈m.map (·.1)):NI (rs++[r]) (i_ m (tx r.2.n) rs.length):=by
 refine⟨by rw[i8];exact h.nd,fun q hq=>?_,fun r' hr'=>?_⟩
 ·unfold i_ at hq
  obtain⟨p,hp,rfl⟩:=Ij.mp hq;rw[wk]
  by_cases e:p.1=tx r.2.n
  ·rw[if_pos e]
   show p.2++[rs.length]=pL p.1 rs++_;rw[if_pos e.symm,h.ix p hp]
  ·rw[if_neg e,if_neg (fun z=>e z.symm),Ia]
   exact h.ix p hp
 ·rw[i8]
  rcases Hz.mp hr' with q | q
  ·exact h.all r' q
  ·rw[Hn.mp q];exact hn
theorem rg(z:Str):∀(n:Nat) (rs:List (Nat×RV)),rs.length=n->NI rs (bZ z rs)
 |0,rs,h=>by
  rw[Ii.mp h];exact⟨by simp[bZ,gm],fun q hq=>by rw[show q=(z,[]) by simpa[bZ,gm]using hq];rfl,fun r hr=>nomatch hr⟩
 |n+1,rs,h=>by
  obtain⟨rs',r,rfl⟩:∃rs' r,rs=rs'++[r]:=⟨rs.dropLast,rs.getLast (by intro e;rw[e]at h;cases h),(List.dropLast_concat_getLast _).symm⟩;have hl:rs'.length=n:=by rw[HN,List.length_singleton]at h;omega
  have ih:=rg z n rs' hl;unfold bZ at ih ⊢;rw[gy,Nat.zero_add];unfold eW;exact((ih.name (tx r.2.n)).put (pT.mpr (.inr rfl))).names _
theorem vK{R:RC}{H:Hp}{l:Addr}{ts:List Addr}{rs:List (Nat×RV)}{Q:List V->Hp->Prop}(hR:bV H l ts rs)(hg:∀r∈rs,jk r)(hn:rs.length<=100)(q:∀(as:List Addr) H',ay H H'->cL R H' as rs->Q (as.map V.ref) H') :
  gR (AH K l) (jd 0) tZ (nC (mG R) [] E0 (jn (x8 0) pG)) [none] H Q:=by
 obtain⟨hl,htl,hat⟩:=hR;refine mw (xs:=ts.map V.ref) (fun i acc σ H'=>ay H H'/\(∃as:List Addr,acc=as.map V.ref/\cL R H' as (rs.take i))/\i<=ts.length/\∃x,σ=[x]) ⟨ay.refl _,⟨[],rfl,rfl,fun i a r e=>by simp at e⟩,HQ _,_,rfl⟩ ?_ ?_ ?_ ?_ ?_
 ·rintro i acc σ H' ⟨_,⟨as,rfl,h,_⟩,hi,_⟩
  rw[Hm,h,Ie];exact bp (by omega)
 ·rintro i acc σ H' ⟨_,_,h,_⟩
  rw[Hm];exact h
 ·rintro i acc σ H' ⟨sm,_⟩
  exact aW.of (sm _ _ hl)
 ·rintro i x acc σ H' hx ⟨sm,⟨as,rfl,hA⟩,hi,y,rfl⟩
  have hlt:i<ts.length:=by have:=(Hk.mp hx).1;rwa [Hm]at this
  rw[Ho,Hj hlt]at hx;cases hx;have hlr:i<rs.length:=by omega
  have hrr:rs[i]?=some rs[i]:=Hj hlr;have ht:=sm _ _ (hat i ts[i] rs[i] (Hj hlt) hrr);walk_at "wp";refine⟨ts[i],rs[i],rfl,ht,hg _ (Hu hlr),fun b H2 hb s2=>⟨sm.trans s2,⟨as++[b],by rw[Hy];rfl,?_⟩,hlt⟩⟩;have hal:as.length=i:=by have:=hA.1;rw[Ie]at this;omega
  rw[List.take_add_one,hrr];refine⟨by rw[HN,HN,hA.1];rfl,fun j a r e1 e2=>?_⟩
  by_cases hj:j<as.length
  ·rw[HM hj]at e1
   rw[HM (by rw[<- hA.1];exact hj)]at e2;exact(hA.2 j a r e1 e2).up s2
  ·rw[HL (by omega)]at e1
   rw[HL (by rw[<- hA.1];omega)]at e2;have:j-as.length=0:=by
    have:=(Hk.mp e1).1;simp at this;omega
   rw[this]at e1;rw[<- hA.1,this]at e2;cases e1;cases e2
   exact hb
 ·rintro acc σ H' ⟨sm,⟨as,rfl,hA⟩,_⟩
  rw[Hm,htl,Ic]at hA;exact q as H' sm hA
noncomputable def Du(rs:List (Nat×RV)):List ThM.NR:=rs.map fun r=>(tx r.2.n,(aT r.1 r.2).map tx)
theorem uX{ks:List Str}{z y:Str}:y∈cG ks z↔y∈ks\/y=z:=ThM.mem_addNew
theorem ld{y:Str}:∀(zs ks:List Str),y∈zs.foldl cG ks↔y∈ks\/y∈zs
 | [],ks=>by simp
 |z::zs,ks=>by
  rw[List.foldl_cons,ld zs,uX,HF];exact⟨fun h=>h.elim (fun h=>h.elim .inl fun e=>.inr (.inl e)) fun h=>.inr (.inr h),fun h=>h.elim (fun h=>.inl (.inl h)) fun h=>h.elim (fun e=>.inl (.inr e)) .inr⟩
theorem lL:∀(zs ks:List Str),(zs.foldl cG ks).length<=ks.length+zs.length
 | [],ks=>HP _
 |z::zs,ks=>by
  have h1:=lL zs (cG ks z);have h2:=vB ks z;rw[List.foldl_cons,Hx];omega
theorem x3(z:Str)(rs:List (Nat×RV))(r:Nat×RV):(bZ z (rs++[r])).map (·.1)=(tx r.2.n::(aT r.1 r.2).map tx).foldl cG ((bZ z rs).map (·.1)):=by
 unfold bZ;rw[gy,xE]
theorem zl{α:Type}{P:List α->Prop}(h0:P [])(h1:∀rs r,P rs->P (rs++[r]))(rs:List α):P rs:=by
 have:∀(n:Nat) (rs:List α),rs.length=n->P rs:=by
  intro n
  induction n with
  |zero=>intro rs h;rw[Ii.mp h];exact h0
  |succ n ih=>
   intro rs h;have hne:rs≠[]:=by intro e;rw[e]at h;cases h
   rw[<- List.dropLast_concat_getLast hne];exact h1 _ _ (ih _ (by rw[List.length_dropLast];omega))
 exact this _ rs rfl
theorem AE(z:Str)(rs:List (Nat×RV)):∀y,y∈(bZ z rs).map (·.1)↔y=z\/∃r∈Du rs,y=r.1\/y∈r.2:=by
 refine zl (P:=fun rs=>∀y,y∈(bZ z rs).map (·.1)↔y=z\/∃r∈Du rs,y=r.1\/y∈r.2) ?_ ?_ rs
 ·intro y
  have e:(bZ z []).map (·.1)=[z]:=rfl;rw[e];unfold Du;simp
 ·intro rs r ih y
  rw[x3,ld,ih y,HF];unfold Du;rw[Hy]
  constructor
  ·rintro((h | ⟨q,hq,h⟩) | h)
   ·exact .inl h
   ·exact .inr ⟨q,Hz.mpr (.inl hq),h⟩
   ·exact .inr ⟨_,Hz.mpr (.inr (Hn.mpr rfl)),h⟩
  ·rintro(h | ⟨q,hq,h⟩)
   ·exact .inl (.inl h)
   ·rcases Hz.mp hq with hq | hq
    ·exact .inl (.inr ⟨q,hq,h⟩)
    ·rw[Hn.mp hq]at h
     exact .inr h
theorem Bw{sg:List Nat}{c:Nat}(h:c∈sg):DV (tx sg) (tx [c])=true:=by
 have:=StrLaws.found_one (tx sg) c;show(!(Builtin.Str.occurrences (tx sg) ⟨#[c]⟩ 0 (tx sg).length 1).isEmpty)=true;rw[this,j7,decide_eq_true h]
theorem lJ{sg:List Nat}:∀{rs:List (Nat×RV)} {j:Nat},(∀r∈rs,∃c∈sg,r.2.sg=[c])->gB (tx sg) rs j=none
 | [],_,_=>rfl
 |r::rs,j,h=>by
  obtain⟨c,hc,e⟩:=h r List.mem_cons_self;unfold gB;rw[if_neg (fun z=>by rw[e,Bw hc]at z;exact absurd z.2 (by decide))];exact lJ fun r' hr'=>h r' (HH _ hr')
theorem xr{p:bC}{sg st:List Nat}{rs:List (Nat×RV)}(hsg:cU sg=true)(hst:st∈p)(hpn:∀r∈p,cB r=true)(hp:p.length<=8)(hn:rs.length<=24)(hr:∀r∈rs,ja p sg r):jm sg st rs=none:=by
 have h0:iZ sg st rs=none:=by
  unfold iZ;rw[if_neg (by rw[hsg];decide),if_neg (by rw[hpn _ hst];decide),if_neg (by omega),lJ fun r h=>(hr r h).sg]
 unfold jm;rw[h0];simp only[];rw[if_neg];have hk:∀z∈(bZ (tx st) rs).map (·.1),z∈p.map tx:=fun z hz=>by
  rcases(AE _ _ _).mp hz with e | ⟨q,hq,e⟩
  ·rw[e];exact List.mem_map_of_mem hst
  ·unfold Du at hq
   obtain⟨r,hr',rfl⟩:=Ij.mp hq;have R:=hr r hr';rcases e with e | e
   ·rw[e];exact List.mem_map_of_mem R.n
   ·obtain⟨y,hy,rfl⟩:=Ij.mp e
    refine List.mem_map_of_mem ?_;obtain⟨k,v⟩:=r;rcases j' R.good.k4 with rfl | rfl | rfl | rfl
    ·exact absurd hy List.not_mem_nil
    ·rcases(show y=v.o1\/y=v.o2 by simpa[aT]using hy) with rfl | rfl
     ·exact R.o1
     ·exact R.o2
    ·rcases(show y=v.o1\/y=v.o2 by simpa[aT]using hy) with rfl | rfl
     ·exact R.o1
     ·exact R.o2
    ·rw[show y=v.o1 by simpa[aT]using hy];exact R.o1
 have:=ThM.nd_len (rg (tx st) _ rs rfl).nd hk;rw[Hm,Hm]at this;omega
structure FN(K:W.Frag)(C:Addr):Prop where
 cl:mD K C
 na:aL K C "signs"/\aL K C "start"/\aL K C "kept"/\aL K C "numbers"
noncomputable abbrev gq:Stmt:=gu 49
noncomputable def fJ:Sp:=fun vs H Q _=>∃(c:Int) (b:Addr) (p:bC) (sg:List Nat),vs=[.int c,.ref b,.str (tx sg)]/\H b=some (.lst (aD p))/\p.length=4/\(∀r∈p,cB r=true)/\cU sg=true /\
 ∀t r H',ja p sg r->H' t=some (.tup (e7 r))->((c%4=0->r.1=0)/\(c%4=1->r.1=3)/\(c%4≠0->c%4≠1->r.1=1\/r.1=2))->ay H H'->Q (.ref t) H'
theorem nR:aF ["_law_cell_here","_law_names_here","_law_signs_here","_law_rest","_law_head","_law_parts_here"] ["_law_cell_here","_law_names_here","_law_signs_here"] (ak gq):=by walk_at "c"
theorem nP{f:Addr}{fd:FuncData}(F:c_ K "_law_drawn_rule" "_law_drawn_rule" gq f fd)(nb:NB mg):bc P w K mg base bH 1 f fd ["_law_cell_here","_law_names_here","_law_signs_here"] fJ:=by
 have sc:=nR;walk_at "f"
 ·obtain⟨c,b,p,sg,rfl,_⟩:=h;rfl
 ·obtain⟨c,b,p,sg,rfl,hb,hp,hpn,hsg,q⟩:=h
  refine⟨_,(ag (aK (i:=3) sc.nd rfl (Or.inl rfl) (aq (a_.m1 bi) (am 0) af))
   (ag (aK (i:=4) sc.nd rfl (Or.inl rfl) (aR (aa (az aV (am 1) (aq (a_.m1 aX) (am 3) af) (fun _ _=>rfl)) (aa (aq (a_.m0 bA) af (aq (a_.m1 aX) (aq (a_.m1 bi) (am 3) af) af)) ad))))
   (ag (aK (i:=5) sc.nd rfl (Or.inl rfl) (aR (aa (az aV (am 1) (aq (a_.m1 aX) (aq (a_.m1 bi) (am 3) af) af) (fun _ _=>rfl)) (aa (az aV (am 1) (aq (a_.m1 aX) (aq (a_.m1 bi) (am 3) af) af) (fun _ _=>rfl)) ad))))
   (ag (bg (aA dA (aq (a_.m1 aX) (am 0) af) af (aJ _))
   (ah (aI (aq bX (aq bX (aR (bf ad)) (am 4)) (aR (aa (az nj (am 2) (aq (a_.m1 aX) (aq (a_.m1 bi) (am 3) af) (av ba rfl nb.len aQ (aa (am 2) ad))) (fun _ _=>rfl)) ad)))))
   aN)
   (ag (bg (aA dA (aq (a_.m1 aX) (am 0) af) af (aJ _))
   (ah (aI (aq bX (aq bX (aR (bf ad)) (am 4)) (aR (aa (az aC (am 5) af (fun _ _=>rfl)) (aa (aq (a_.m1 aX) (aq (a_.m1 bi) (am 3) af) af) ad))))))
   aN)
   (ah (aI (aq bX (aq bX (aR (aa (az aC (aR (bf (bf ad))) (aq (a_.m1 aX) (am 0) af) (fun _ _=>rfl)) ad)) (am 4)) (am 5))))))))),?_⟩
  have hsl:=kQ hsg;have mO:∀x:Int,∃z∈p,gv (aD p) (x%4)=some (V.str (tx z)):=fun x=>by
   obtain⟨j,hj⟩:∃j:Nat,x%4=(j:Int):=⟨_,(Iv (Ir _ (by omega))).symm⟩;have:x%4<4:=Iu _ (by omega);exact⟨p[j]'(by omega),Hu _,by rw[hj];exact aU (bb (by omega))⟩
  have spick:∀x:Int,∃c∈sg,gv (tx sg).cps.toList (x%(sg.length:Int))=some c:=fun x=>by
   rw[j7];exact Cm (Ir _ (by omega)) (Iu _ (by omega))
  have hsz:(tx sg).length<=sizeLine:=by rw[aE];exact aj (by omega)
  walk_at "n";refine h1 _ _ ?_;walk_at "nc";obtain⟨z1,hz1,p1⟩:=mO (c/4);refine⟨_,aW.of hb,_,p1,aj (by decide),fun th hth=>h1 _ _ ?_⟩;clear h1;have s1:ay H (aB H th (.tup [V.str (tx z1),V.int (1+c/4/4%9)])):=ae hth;have e1:aB H th (.tup [V.str (tx z1),V.int (1+c/4/4%9)]) th=some (.tup [V.str (tx z1),V.int (1+c/4/4%9)]):=ac;generalize aB H th (.tup [V.str (tx z1),V.int (1+c/4/4%9)])=H1 at s1 e1 ⊢;walk_at "n";obtain⟨z2,hz2,p2⟩:=mO (c/4/36);obtain⟨z3,hz3,p3⟩:=mO (c/4/144);refine⟨_,aW.of (s1 _ _ hb),_,p2,_,aW.of (s1 _ _ hb),_,p3,aj (by decide),fun tp htp=>h1 _ _ ?_⟩;clear h1;have s2:ay H1 (aB H1 tp (.tup [V.str (tx z2),V.str (tx z3)])):=ae htp;have e2:aB H1 tp (.tup [V.str (tx z2),V.str (tx z3)]) tp=some (.tup [V.str (tx z2),V.str (tx z3)]):=ac;generalize aB H1 tp (.tup [V.str (tx z2),V.str (tx z3)])=H2 at s2 e2 ⊢;have e1':=s2 _ _ e1;have sm:=s1.trans s2;clear s1 s2 e1;obtain⟨ch,hch,pc⟩:=spick (c/4/36);have t0:0<=c/4/144%8:=Ir _ (by omega);have t7:c/4/144%8<8:=Iu _ (by omega);have c0:0<=c/4/4%9:=Ir _ (by omega);have c9:c/4/4%9<9:=Iu _ (by omega);have gd:∀k,k<4->ja p sg (k,⟨z1,1+c/4/4%9,z2,z3,[ch],c/4/144%8⟩):=fun k hk=>by
   have g:RV.good ⟨z1,1+c/4/4%9,z2,z3,[ch],c/4/144%8⟩:=⟨hpn _ hz1,by show 1<=1+c/4/4%9;omega,by show 1+c/4/4%9<=9;omega,hpn _ hz2,hpn _ hz3,A4 hsg hch,t0,by show c/4/144%8<=7;omega⟩;exact⟨⟨hk,g,g.small⟩,hz1,hz2,hz3,ch,hch,rfl⟩
  walk_at "wp"
  by_cases k0:c%4=0
  ·rw[if_pos k0]
   refine⟨aj (by decide),fun p1 hp1=>?_⟩;refine gw ac (ae hp1 _ _ e1') (by simp) (by simp) (by simp) fun p2 hp2=>?_;walk_at "wp";refine⟨hsz,by rw[aE];omega,hsz,ch,by rw[aE];exact pc,aj (by decide),fun p3 hp3=>?_⟩;refine gw (ae hp3 _ _ ac) ac (by simp) (by simp) (by simp) fun p4 hp4=>?_;refine q p4 (0,⟨z1,1+c/4/4%9,z2,z3,[ch],c/4/144%8⟩) _ (gd 0 (by decide)) ac ⟨fun _=>rfl,fun h=>absurd (k0.symm.trans h) (by decide),fun h=>absurd k0 h⟩ (((sm.trans (ae hp1)).trans (ae hp2)).trans ((ae hp3).trans (ae hp4)))
  ·rw[if_neg k0]
   by_cases k1:c%4=1
   ·rw[if_pos k1]
    refine⟨aj (by decide),fun p1 hp1=>?_⟩;refine gw ac (ae hp1 _ _ e1') (by simp) (by simp) (by simp) fun p2 hp2=>?_;walk_at "wp";refine⟨_,bd.of (ae hp2 _ _ (ae hp1 _ _ e2)),_,rfl,aj (by decide),fun p3 hp3=>?_⟩;refine gw (ae hp3 _ _ ac) ac (by simp) (by simp) (by simp) fun p4 hp4=>?_;refine q p4 (3,⟨z1,1+c/4/4%9,z2,z3,[ch],c/4/144%8⟩) _ (gd 3 (by decide)) ac ⟨fun h=>absurd h k0,fun _=>rfl,fun _ h=>absurd k1 h⟩ (((sm.trans (ae hp1)).trans (ae hp2)).trans ((ae hp3).trans (ae hp4)))
   ·rw[if_neg k1]
    have two:c%2=0\/c%2=1:=by omega
    refine⟨aj (by decide),fun p1 hp1=>?_⟩;rcases two with h2 | h2
    ·rw[h2]
     refine⟨_,bd.of ac,_,rfl,aj (by decide),fun p2 hp2=>?_⟩;refine gw ac (ae hp2 _ _ (ae hp1 _ _ e1')) (by simp) (by simp) (by simp) fun p3 hp3=>?_;refine gw ac (ae hp3 _ _ (ae hp2 _ _ (ae hp1 _ _ e2))) (by simp) (by simp) (by simp) fun p4 hp4=>?_;exact q p4 (1,⟨z1,1+c/4/4%9,z2,z3,[ch],c/4/144%8⟩) _ (gd 1 (by decide)) ac ⟨fun h=>absurd h k0,fun h=>absurd h k1,fun _ _=>.inl rfl⟩ (((sm.trans (ae hp1)).trans (ae hp2)).trans ((ae hp3).trans (ae hp4)))
    ·rw[h2]
     refine⟨_,bd.of ac,_,rfl,aj (by decide),fun p2 hp2=>?_⟩;refine gw ac (ae hp2 _ _ (ae hp1 _ _ e1')) (by simp) (by simp) (by simp) fun p3 hp3=>?_;refine gw ac (ae hp3 _ _ (ae hp2 _ _ (ae hp1 _ _ e2))) (by simp) (by simp) (by simp) fun p4 hp4=>?_;exact q p4 (2,⟨z1,1+c/4/4%9,z2,z3,[ch],c/4/144%8⟩) _ (gd 2 (by decide)) ac ⟨fun h=>absurd h k0,fun h=>absurd h k1,fun _ _=>.inr rfl⟩ (((sm.trans (ae hp1)).trans (ae hp2)).trans ((ae hp3).trans (ae hp4)))
noncomputable abbrev jo:Stmt:=gu 43
noncomputable def k_(K:W.Frag):Sp:=fun vs H Q _=>∃(a:Addr) (p:bC) (r c:Nat),vs=[.ref a]/\aW K H a (aD p)/\fD p r c/\0<r/\r<=64/\c<=64/\bR H (fQ p) Q
theorem tD:aF ["_law_rows","_law_last"] ["_law_rows"] (ak jo):=by walk_at "c"
theorem sX{f:Addr}{fd:FuncData}(F:c_ K "_law_quarter" "_law_quarter" jo f fd)(nb:NB mg):bc P w K mg base bH 1 f fd ["_law_rows"] (k_ K):=by
 have sc:=tD;walk_at "f"
 ·obtain⟨a,p,r,c,rfl,_⟩:=h;rfl
 ·obtain⟨a,p,r,c,rfl,hS,hp,hr0,hr1,hc1,q⟩:=h
  refine⟨_,(ag (aK (i:=1) sc.nd rfl (Or.inr rfl) (aq (a_.m0 i6) (av aO rfl nb.len aQ (aa (am 0) ad)) af))
   (ah (aI (bS ["_law_i"] [0,1] rfl (bw.of (by kernel_rfl)) (by kernel_rfl) (bQ rfl nb.range (aa (av ba rfl nb.len aQ (aa (az aV (am 0) af (fun _ _=>rfl)) ad)) ad))
    (fun _ _ _ _=>(aH (i:=0) (by show(["_law_i","_law_rows","_law_last"]:List Str).Nodup;decide +kernel) rfl (Or.inr rfl))) (fun _ _ _ _=>bI) (fun _ _ _ _=>(C5 (K:=K) rfl PySem.F.plainAttrs_str PySem.F.slot_str_join PySem.F.type_str_join (yr (K:=K) rfl) cV (aa (bS ["_law_j"] [1,2,0] rfl (bw.of (by kernel_rfl)) (by kernel_rfl) (bQ rfl nb.range (aa (av (vO (K:=K) rfl) rfl nb.len aQ (aa (am 1) ad)) ad))
    (fun _ _ _ _=>(aH (i:=0) (by show(["_law_j","_law_rows","_law_last","_law_i"]:List Str).Nodup;decide +kernel) rfl (Or.inl rfl))) (fun _ _ _ _=>bI) (fun _ _ _ _=>(az nj (az (o8 (K:=K) rfl) (am 1) (aq (a_.m0 i6) (am 2) (am 0)) (fun _ _=>rfl)) (am 3) (fun _ _=>rfl)))) ad))))))),?_⟩
  have hl0:0<p.length:=by rw[hp.1];exact hr0
  have hc0:(p[0]).length=c:=hp.2 _ (Hu hl0);have hpl:p.length=r:=hp.1;walk_at "n";refine⟨_,hS,h1 _ _ ?_⟩;clear h1;rw[au];walk_at "wp";have h0:gv (aD p) 0=some (V.str (tx p[0])):=(show gv _ ((0:Nat):Int)=_ from aU (bb hl0));refine⟨_,hS,_,h0,_,rfl,by rw[aE];exact aj (by omega),by rw[aE];omega,by rw[aE];omega,?_⟩;rw[aE,hc0,Hv];refine ij (lo:=0) (n:=c) (fun i acc σ H'=>ay H H'/\acc=aD ((List.range i).map (col p))/\i<=c/\∃x,σ=[x,some (.ref a),some (.int ((p.length:Int)-1))]) ⟨ay.refl _,rfl,HQ _,_,rfl⟩ ?_ ?_ ?_ ?_
  ·rintro i acc σ H' ⟨_,rfl,_⟩
   rw[au,Hm,List.length_range];exact bp (by omega)
  ·rintro i acc σ H' ⟨_,_,h,_⟩
   exact h
  ·rintro i acc σ H' hi ⟨sm,rfl,_,y,rfl⟩
   walk_at "wp";have hS':=sm.seq hS;have hpl2:((aD p).length:Int)=(p.length:Int):=by rw[au]
   refine⟨rfl,_,hS',by rw[hpl2];omega,by rw[hpl2];omega,?_⟩;rw[hpl2,Hv];refine gx (n:=p.length) (f:=fun j=>some (V.str ⟨#[(p.reverse.getD j []).getD i 0]⟩)) (fun σ=>∃x,σ=[x,some (.ref a),some (.int ((p.length:Int)-1)),some (.int (i:Int))]) ⟨_,rfl⟩ (by omega) ?_ ?_
   ·rintro j hj σ H2 M1 M0 ⟨y,rfl⟩ sm2 k1 k0
    walk_at "wp";have ej:(p.length:Int)-1-(j:Int)=((p.length-1-j:Nat):Int):=by omega
    have hx:p.length-1-j<p.length:=by omega
    have erev:p.reverse.getD j []=p[p.length-1-j]:=by rw[List.getD_eq_getElem?_getD,List.getElem?_reverse hj,Hj hx];rfl
    have hrow:(p[p.length-1-j]).length=c:=hp.2 _ (Hu hx);refine⟨_,sm2.seq hS',V.str (tx p[p.length-1-j]),by rw[ej];exact aU (bb hx),_,rfl,by rw[aE];exact aj (by omega),(p[p.length-1-j]).getD i 0,?_,k1 _ _ _ (by rw[erev]) sm2 ⟨_,rfl⟩⟩;refine aU ?_;rw[j7,List.getD_eq_getElem?_getD,Hj (by omega)]
    rfl
   ·intro H2 sm2 l hl
    rw[lY];have ec:(List.range p.length).map (fun j=>V.str ⟨#[(p.reverse.getD j []).getD i 0]⟩)=((col p i).map fun c=>(⟨#[c]⟩:Str)).map V.str:=by
     unfold col;rw[HE,HE];apply List.ext_getElem?;intro j;rw[Ho,Ho]
     by_cases hj:j<p.length
     ·rw[List.getElem?_range hj,Hj (by rw[HI];exact hj),Option.map_some,Option.map_some]
      show some (V.str ⟨#[(p.reverse.getD j []).getD i 0]⟩)=some (V.str ⟨#[(p.reverse[j]'(by rw[HI];exact hj)).getD i 0]⟩);rw[List.getD_eq_getElem?_getD (l:=p.reverse),Hj (by rw[HI];exact hj),Option.getD_some]
     ·rw[List.getElem?_eq_none (by rw[List.length_range];omega),List.getElem?_eq_none (by rw[HI];omega)];rfl
    rw[ec];refine⟨_,.inl (aW.of ac),?_,(sm.trans sm2).trans (ae hl),?_,hi⟩
    ·rw[HE]
     have e:((fun y:Str=>y.length)∘fun c=>(⟨#[c]⟩:Str))=fun _=>1:=by funext c;rfl
     have e0:(Str.ofString "").length=0:=rfl;rw[e,List.map_const',List.sum_replicate_nat,Hm,e0];unfold col;rw[Hm,HI];omega
    ·rw[gZ,List.range_succ,Hy]
     exact(fO _ _).symm
  ·rintro acc σ H' ⟨sm,rfl,_⟩ l hl
   refine q l _ (sm.free hl) ?_ (sm.trans (ae hl));rw[ac];unfold fQ;rw[bJ hp hr0]
noncomputable abbrev kC:Stmt:=gu 44
noncomputable def nz(K:W.Frag):Sp:=fun vs H Q _=>∃(a:Addr) (p:bC) (r c t:Nat),vs=[.ref a,.int (t:Int)]/\H a=some (.lst (aD p))/\fD p r c/\0<r/\0<c/\r<=64/\c<=64/\t<8/\∀l H',H' l=some (.lst (aD (turned p t)))->ay H H'->Q (.ref l) H'
theorem ur:aF ["_law_rows","_law_t","_law_step"] ["_law_rows","_law_t"] (ak kC):=by walk_at "c"
theorem uz{f:Addr}{fd:FuncData}(F:c_ K "_law_turned" "_law_turned" kC f fd)(nb:NB mg)(zyb:eX P w K mg base bH 1 "_law_quarter" ["_law_rows"] (k_ K)):bc P w K mg base bH 2 f fd ["_law_rows","_law_t"] (nz K):=by
 have sc:=ur;walk_at "f"
 ·obtain⟨a,p,r,c,t,rfl,_⟩:=h;rfl
 ·obtain⟨a,p,r,c,t,rfl,hS,hp,hr0,hc0,hr1,hc1,ht,q⟩:=h
  refine⟨_,(ag (bg (aA (a_.m0 jb) (am 1) af (aJ _))
   (ah (oM (i:=0) ["_law_row"] [] sc.nd rfl (Or.inl rfl) rfl  rfl (bw.of (by kernel_rfl)) (by kernel_rfl) (dU (am 0))
    (fun _ _ _ _=>(aH (i:=0) (by show(["_law_row"]:List Str).Nodup;decide +kernel) rfl (Or.inl rfl))) (fun _ _ _ _=>bI) (fun _ _ _ _=>(A0 (am 0) (tY on af)))))
   aN)
   (ag (bP PassesOwn.never rfl (bQ rfl nb.range (aa (aq (a_.m1 aX) (am 1) af) ad)) (aH (i:=2) sc.nd rfl (Or.inl rfl))
   (ah (aK (i:=0) sc.nd rfl (Or.inl rfl) (aP zyb (hr.mono (by decide)) rfl bh (aa (am 0) ad)))))
   (ah (aI (am 0))))),?_⟩
  refine ao fun N2 h2=>?_;have loop:∀(l2:Addr) (p':bC) (H2:Hp) (y:Option V),H2 l2=some (.lst (aD p'))->ay H H2->fD p' r c->turned p t=bB (t%4) p'->N2 [some (V.ref l2),some (V.int t),y] H2:=by
   intro l2 p' H2 y hH2 sm2 hp' et;refine h2 _ _ ?_;clear h2;refine ao fun N3 h3=>?_;walk_at "wp";refine⟨by omega,by omega,?_⟩;have e4:((t:Int)%4).toNat=t%4:=by omega
   rw[e4];refine eQ (lo:=0) (n:=t%4) (fun i σ H3=>∃(l3:Addr) (x:Option V),σ=[some (V.ref l3),some (V.int t),x]/\H3 l3=some (.lst (aD (bB i p')))/\ay H H3) ⟨l2,_,rfl,hH2,sm2⟩ ?_ ?_
   ·rintro i σ H3 hi ⟨l3,x,rfl,h4,sm3⟩
    walk_at "wp";have hq:=eZ i hp' hr0 hc0;have gp2:∃r' c',fD (bB i p') r' c'/\0<r'/\r'<=64/\c'<=64:=by
     by_cases hi2:i%2=0
     ·rw[if_pos hi2,if_pos hi2]at hq;exact⟨r,c,hq,hr0,hr1,hc1⟩
     ·rw[if_neg hi2,if_neg hi2]at hq;exact⟨c,r,hq,hc0,hc1,hr1⟩
    obtain⟨r',c',g3,g4,g5,g6⟩:=gp2;refine⟨l3,_,r',c',rfl,aW.of h4,g3,g4,g5,g6,fun l4 H4 h8 h9 sm4=>?_⟩;exact⟨l4,rfl,by rw[<- lI 1 i p'];exact h9,sm3.trans sm4⟩
   ·rintro σ H3 ⟨l3,x,rfl,h4,sm3⟩
    refine h3 _ _ ?_;walk_at "wp";exact q l3 H3 (by rw[et];exact h4) sm3
  walk_at "wp";have hpl:p.length=r:=hp.1
  split
  ·rename_i h4
   refine⟨⟨_,aW.of hS⟩,?_⟩;refine pI (as:=p) (emb:=fun x=>V.str (tx x)) (f:=fun x=>some (V.str (tx x.reverse))) (fun σ=>∃x,σ=[x]) ⟨_,rfl⟩ (fun H' sm=>aW.of (sm _ _ hS)) (by omega) ?_ ?_
   ·rintro i x hx σ H' M1 M0 ⟨y,rfl⟩ sm k1 k0
    walk_at "wp";have hxl:x.length=c:=hp.2 x (Hq hx);exact⟨x,rfl,by omega,k1 _ _ _ rfl sm ⟨_,rfl⟩⟩
   ·intro H' sm l hl
    rw[lY];have em:p.map (fun x=>V.str (tx x.reverse))=aD (fe p):=by unfold aD fe;rw[HE];rfl
    rw[em];refine loop l (fe p) _ _ ac (sm.trans (ae hl)) (jG hp) ?_;unfold turned;rw[if_pos (by omega)]
  ·rename_i h4
   refine loop a p H _ hS (ay.refl _) hp ?_;unfold turned;rw[if_neg (by omega)]
theorem CV(r s:List Nat):tx r++tx s=tx (r++s):=by
 show(⟨_++_⟩:Str)=⟨_⟩;simp[tx]
noncomputable abbrev rY:Stmt:=gu 47
noncomputable def k9:Sp:=fun vs H Q _=>∃(t lp:Addr) (r:Nat×RV) (as:List Addr) (ps:List bC),vs=[.ref t,.ref lp]/\H t=some (.tup (e7 r))/\r.1<4/\0<=r.2.t/\r.2.t<=7/\qc H lp as ps/\mm r.1 ps /\
 (∀p,d8 r.1 r.2 ps=some p->∀l H',H' l=some (.lst (aD p))->ay H H'->Q (.ref l) H')/\(d8 r.1 r.2 ps=none->∀H',ay H H'->Q .non H')
theorem zS:aF ["_law_told","_law_pictures","_law_one","_law_other"] ["_law_told","_law_pictures"] (ak rY):=by walk_at "c"
theorem zX{f:Addr}{fd:FuncData}(F:c_ K "_law_put" "_law_put" rY f fd)(nb:NB mg)(zVb:eX P w K mg base bH 2 "_law_turned" ["_law_rows","_law_t"] (nz K)):bc P w K mg base bH 3 f fd ["_law_told","_law_pictures"] k9:=by
 have sc:=zS;walk_at "f"
 ·obtain⟨t,lp,r,as,ps,rfl,_⟩:=h;rfl
 ·obtain⟨t,lp,⟨k,v⟩,as,ps,rfl,ht,hk,ht0,ht7,⟨hlp,hal,hat⟩,hfit,good,bad⟩:=h
  refine⟨_,(ag (bg (aA dA (az aC (am 0) af (fun _ _=>rfl)) cV (aJ _))
   (ah (aI (bv (aa (az aC (am 0) af (fun _ _=>rfl)) ad))))
   aN)
   (ag (bg (aA dA (az aC (am 0) af (fun _ _=>rfl)) cV (aJ _))
   (ah (aI (aP zVb (hr.mono (by decide)) rfl bh (aa (az aV (am 1) af (fun _ _=>rfl)) (aa (az aC (am 0) af (fun _ _=>rfl)) ad)))))
   aN)
   (ag (jy (am 1) (Bz (n:=2) rfl (aY (aH (i:=2) sc.nd rfl (Or.inr rfl)) (aY (aH (i:=3) sc.nd rfl (Or.inr rfl)) cM))))
   (ag (bg (aA dA (az aC (am 0) af (fun _ _=>rfl)) cV (aJ _))
   (ag (bg (PW.pt (hJ (aA kn (av aO rfl nb.len aQ (aa (am 2) ad)) (av aO rfl nb.len aQ (aa (am 3) ad)) (aJ _)) (fq (aA (a_.m0 jb) (aq (a_.m0 bA) (av ba rfl nb.len aQ (aa (az aV (am 2) af (fun _ _=>rfl)) ad)) (av ba rfl nb.len aQ (aa (az aV (am 3) af (fun _ _=>rfl)) ad))) af (aJ _)))))
   (ah (aI cn))
   aN)
   (ah (aI (bS ["_law_k"] [2,3] rfl (bw.of (by kernel_rfl)) (by kernel_rfl) (bQ rfl nb.range (aa (av aO rfl nb.len aQ (aa (am 2) ad)) ad))
    (fun _ _ _ _=>(aH (i:=0) (by show(["_law_k","_law_one","_law_other"]:List Str).Nodup;decide +kernel) rfl (Or.inl rfl))) (fun _ _ _ _=>bI) (fun _ _ _ _=>(aq oV (az (o8 (K:=K) rfl) (am 1) (am 0) (fun _ _=>rfl)) (az (o8 (K:=K) rfl) (am 2) (am 0) (fun _ _=>rfl))))))))
   aN)
   (ag (bg (PW.pt (hJ (aA kn (av ba rfl nb.len aQ (aa (az aV (am 2) af (fun _ _=>rfl)) ad)) (av ba rfl nb.len aQ (aa (az aV (am 3) af (fun _ _=>rfl)) ad)) (aJ _)) (fq (aA (a_.m0 jb) (aq (a_.m0 bA) (av aO rfl nb.len aQ (aa (am 2) ad)) (av aO rfl nb.len aQ (aa (am 3) ad))) af (aJ _)))))
   (ah (aI cn))
   aN)
   (ah (aI (aq rR (am 2) (am 3))))))))),?_⟩
  have sq:=bd.of (K:=K) ht;have hfit:mm k ps:=hfit;have ht0:0<=v.t:=ht0;have ht7:v.t<=7:=ht7;walk_at "wp";cases hfit with
  |cell=>
   change bd K H t [.str (Str.ofString "cell"),.str (tx v.n),.int v.c,.str (tx v.sg)]at sq;refine⟨_,sq,_,rfl,rfl,?_⟩;rw[if_pos rfl];exact⟨_,sq,_,rfl,aj (by decide),fun p hp=>good [v.sg] rfl p _ (by rw[ac];rfl) (ae hp)⟩
  | @turn p r c hp=>
   obtain⟨a1,rfl⟩:∃a1,as=[a1]:=by match as,hal with | [a1],_=>exact⟨a1,rfl⟩
   have e1:H a1=some (.lst (aD p)):=hat 0 (by simp) (by simp);change bd K H t [.str (Str.ofString "turned"),.str (tx v.n),.int v.c,.str (tx v.o1),.int v.t]at sq;refine⟨_,sq,_,rfl,rfl,?_⟩;rw[if_neg EL];refine⟨_,sq,_,rfl,rfl,?_⟩;rw[if_pos rfl];have h0:gv ([V.ref a1]:List V) 0=some (V.ref a1):=rfl;obtain⟨tn,htn⟩:∃tn:Nat,v.t=(tn:Int):=⟨v.t.toNat,by omega⟩;refine⟨_,aW.of hlp,_,h0,_,sq,_,rfl,?_⟩;have hpl:=hp.r0;refine⟨a1,p,r,c,tn,by rw[htn],e1,hp.rc,hp.r0,hp.c0,by have:=hp.r6;omega,by have:=hp.c6;omega,by omega,fun l H' hl sm=>good _ ?_ l H' hl sm⟩;show some (turned p v.t.toNat)=some (turned p tn);rw[htn];rfl
  | @beside p q' r c r' c' hp hq=>
   obtain⟨a1,a2,rfl⟩:∃a1 a2,as=[a1,a2]:=by match as,hal with | [a1,a2],_=>exact⟨a1,a2,rfl⟩
   have e1:H a1=some (.lst (aD p)):=hat 0 (by simp) (by simp);have e2:H a2=some (.lst (aD q')):=hat 1 (by simp) (by simp);change bd K H t [.str (Str.ofString "beside"),.str (tx v.n),.int v.c,.str (tx v.o1),.str (tx v.o2)]at sq;refine⟨_,sq,_,rfl,rfl,?_⟩;rw[if_neg EO];refine⟨_,sq,_,rfl,rfl,?_⟩;rw[if_neg Fz];refine⟨_,aW.of hlp,rfl,_,_,rfl,_,_,rfl,rfl,_,sq,_,rfl,rfl,?_⟩;rw[if_pos rfl];have hl1:p.length=r:=hp.rc.1;have hl2:q'.length=r':=hq.rc.1;have hh1:=bJ hp.rc hp.r0;have hh2:=bJ hq.rc hq.r0;have h1:((aD p).length:Int)=(r:Int):=by rw[au,hl1]
   have h2:((aD q').length:Int)=(r':Int):=by rw[au,hl2]
   have p0:0<p.length:=by rw[hl1];exact hp.r0
   have q0:0<q'.length:=by rw[hl2];exact hq.r0
   have c1:(p[0]).length=c:=hp.rc.2 _ (Hu p0);have c2:(q'[0]).length=c':=hq.rc.2 _ (Hu q0);have b1:=hp.r6;have b2:=hp.c6;have b3:=hq.r6;have b4:=hq.c6
   refine⟨a1,rfl,_,aW.of e1,a2,rfl,_,aW.of e2,?_⟩;rw[h1,h2]
   by_cases er:r=r'
   ·rw[if_neg (by omega)]
    have z1:gv (aD p) 0=some (V.str (tx p[0])):=(show gv _ ((0:Nat):Int)=_ from aU (bb p0));have z2:gv (aD q') 0=some (V.str (tx q'[0])):=(show gv _ ((0:Nat):Int)=_ from aU (bb q0));refine⟨a1,rfl,_,aW.of e1,_,z1,_,rfl,by rw[aE];exact aj (by omega),a2,rfl,_,aW.of e2,_,z2,_,rfl,by rw[aE];exact aj (by omega),?_⟩;rw[aE,aE,c1,c2];have mk:(p.length=q'.length/\(p.headD []).length+(q'.headD []).length<=6)↔c+c'<=6:=by rw[hl1,hl2,hh1,hh2];exact⟨fun h=>h.2,fun h=>⟨er,h⟩⟩
    by_cases ec:6<(c:Int)+(c':Int)
    ·rw[if_pos ec]
     refine bad ?_ H (ay.refl _);show(if _ then _ else _)=_;rw[if_neg (fun h=>by have:=mk.mp h;omega)]
    ·rw[if_neg ec]
     refine⟨a1,rfl,_,aW.of e1,by rw[h1];omega,by rw[h1];omega,?_⟩;rw[h1,Hv];refine gx (n:=r) (f:=fun k=>some (V.str (tx (p.getD k []++q'.getD k [])))) (fun σ=>∃x,σ=[x,some (.ref a1),some (.ref a2)]) ⟨_,rfl⟩ (by omega) ?_ ?_
     ·rintro k hk σ H2 M1 M0 ⟨y,rfl⟩ sm k1 k0
      walk_at "wp";have kp:k<p.length:=by omega
      have kq:k<q'.length:=by omega
      have g1:p.getD k []=p[k]:=by rw[List.getD_eq_getElem?_getD,Hj kp];rfl
      have g2:q'.getD k []=q'[k]:=by rw[List.getD_eq_getElem?_getD,Hj kq];rfl
      have w1:(p[k]).length=c:=hp.rc.2 _ (Hu kp);have w2:(q'[k]).length=c':=hq.rc.2 _ (Hu kq);refine⟨_,aW.of (sm _ _ e1),_,aU (bb kp),_,aW.of (sm _ _ e2),_,aU (bb kq),_,rfl,_,rfl,by rw[aE,aE];exact aj (by omega),?_⟩;rw[CV];exact k1 _ _ _ (by rw[g1,g2]) sm ⟨_,rfl⟩
     ·intro H2 sm l hl
      rw[lY];refine good (nO p q') ?_ l _ ?_ (sm.trans (ae hl))
      ·show(if _ then _ else _)=_
       rw[if_pos (mk.mpr (by omega))]
      ·rw[ac]
       congr 2
       unfold nO aD;rw[HE];apply List.ext_getElem?;intro k;rw[Ho,Ho]
       by_cases hk:k<r
       ·have kp:k<p.length:=by omega
        have kq:k<q'.length:=by omega
        rw[List.getElem?_range hk,(show(p.zip q')[k]?=some (p[k],q'[k]) from List.getElem?_zip_eq_some.mpr ⟨Hj kp,Hj kq⟩),Option.map_some,Option.map_some,List.getD_eq_getElem?_getD,List.getD_eq_getElem?_getD,Hj kp,Hj kq]
        rfl
       ·rw[List.getElem?_eq_none (by rw[List.length_range];omega),List.getElem?_eq_none (by rw[List.length_zip];omega)];rfl
   ·rw[if_pos (by omega)]
    refine bad ?_ H (ay.refl _);show(if _ then _ else _)=_;rw[if_neg (fun h=>er (by rw[<- hl1,<- hl2];exact h.1))]
  | @above p q' r c r' c' hp hq=>
   obtain⟨a1,a2,rfl⟩:∃a1 a2,as=[a1,a2]:=by match as,hal with | [a1,a2],_=>exact⟨a1,a2,rfl⟩
   have e1:H a1=some (.lst (aD p)):=hat 0 (by simp) (by simp);have e2:H a2=some (.lst (aD q')):=hat 1 (by simp) (by simp);change bd K H t [.str (Str.ofString "above"),.str (tx v.n),.int v.c,.str (tx v.o1),.str (tx v.o2)]at sq;refine⟨_,sq,_,rfl,rfl,?_⟩;rw[if_neg EN];refine⟨_,sq,_,rfl,rfl,?_⟩;rw[if_neg FR];refine⟨_,aW.of hlp,rfl,_,_,rfl,_,_,rfl,rfl,_,sq,_,rfl,rfl,?_⟩;rw[if_neg FV];have hl1:p.length=r:=hp.rc.1;have hl2:q'.length=r':=hq.rc.1;have hh1:=bJ hp.rc hp.r0;have hh2:=bJ hq.rc hq.r0;have h1:((aD p).length:Int)=(r:Int):=by rw[au,hl1]
   have h2:((aD q').length:Int)=(r':Int):=by rw[au,hl2]
   have p0:0<p.length:=by rw[hl1];exact hp.r0
   have q0:0<q'.length:=by rw[hl2];exact hq.r0
   have c1:(p[0]).length=c:=hp.rc.2 _ (Hu p0);have c2:(q'[0]).length=c':=hq.rc.2 _ (Hu q0);have b1:=hp.r6;have b2:=hp.c6;have b3:=hq.r6;have b4:=hq.c6
   have z1:gv (aD p) 0=some (V.str (tx p[0])):=(show gv _ ((0:Nat):Int)=_ from aU (bb p0));have z2:gv (aD q') 0=some (V.str (tx q'[0])):=(show gv _ ((0:Nat):Int)=_ from aU (bb q0));have mk:((p.headD []).length=(q'.headD []).length/\p.length+q'.length<=6)↔c=c'/\r+r'<=6:=by rw[hl1,hl2,hh1,hh2]
   refine⟨a1,rfl,_,aW.of e1,_,z1,_,rfl,by rw[aE];exact aj (by omega),a2,rfl,_,aW.of e2,_,z2,_,rfl,by rw[aE];exact aj (by omega),?_⟩;rw[aE,aE,c1,c2]
   by_cases ec:c=c'
   ·rw[if_neg (by omega)]
    refine⟨a1,rfl,_,aW.of e1,a2,rfl,_,aW.of e2,?_⟩;rw[h1,h2]
    by_cases er:6<(r:Int)+(r':Int)
    ·rw[if_pos er]
     refine bad ?_ H (ay.refl _);show(if _ then _ else _)=_;rw[if_neg (fun h=>by have:=mk.mp h;omega)]
    ·rw[if_neg er]
     refine⟨a1,rfl,a2,rfl,_,e1,_,e2,by rw[au,au];exact aj (by omega),fun l hl=>good (p++q') ?_ l _ ?_ (ae hl)⟩
     ·show(if _ then _ else _)=_
      rw[if_pos (mk.mpr ⟨ec,by omega⟩)]
     ·rw[ac];unfold aD;rw[Hy]
   ·rw[if_pos (by omega)]
    refine bad ?_ H (ay.refl _);show(if _ then _ else _)=_;rw[if_neg (fun h=>ec (mk.mp h).1)]
inductive Gr(rs:List (Nat×RV)):Dt->List Nat->bC->Int->Nat->Prop
 |cell {n:Nat} {v:RV}:rs[n]?=some (0,v)->Gr rs (.tup [.int (n:Int)]) v.n [v.sg] v.c 1
 |turn {n:Nat} {v:RV} {d:Dt} {p:bC} {c:Int} {k:Nat}:rs[n]?=some (3,v)->Gr rs d v.o1 p c k->Gr rs (.tup [.int (n:Int),d]) v.n (turned p v.t.toNat) (v.c+c) (k+1)
 |pair {n kd:Nat} {v:RV} {d1 d2:Dt} {p1 p2 p:bC} {c1 c2:Int} {k1 k2:Nat}:(kd=1\/kd=2)->rs[n]?=some (kd,v)->Gr rs d1 v.o1 p1 c1 k1->Gr rs d2 v.o2 p2 c2 k2->d8 kd v [p1,p2]=some p->Gr rs (.tup [.int (n:Int),d1,d2]) v.n p (v.c+(c1+c2)) (max k1 k2+1)
theorem Gr.more{rs:List (Nat×RV)}(r:Nat×RV){d:Dt}{nm:List Nat}{p:bC}{c:Int}{k:Nat}(g:Gr rs d nm p c k):Gr (rs++[r]) d nm p c k:=by
 have up:∀{n:Nat} {x:Nat×RV},rs[n]?=some x->(rs++[r])[n]?=some x:=fun{n x} e=>by rw[HM (Hk.mp e).1];exact e
 induction g with
 |cell e=>exact .cell (up e)
 |turn e _ ih=>exact .turn (up e) ih
 |pair h e _ _ m ih1 ih2=>exact .pair h (up e) ih1 ih2 m
theorem oQ{k:Nat}{v:RV}{p1 p2 p:bC}{r c r' c':Nat}(hk:k=1\/k=2)(h1:jg p1 r c)(h2:jg p2 r' c')(m:d8 k v [p1,p2]=some p):∃r c,jg p r c:=by
 have e1:=bJ h1.rc h1.r0;have e2:=bJ h2.rc h2.r0;have l1:=h1.rc.1;have l2:=h2.rc.1;rcases hk with rfl | rfl
 ·have m':(if p1.length=p2.length/\(p1.headD []).length+(p2.headD []).length<=6 then some (nO p1 p2) else none)=some p:=m
  by_cases c0:p1.length=p2.length/\(p1.headD []).length+(p2.headD []).length<=6
  ·rw[if_pos c0]at m'
   cases m';rw[l1,l2,e1,e2]at c0;refine⟨r,c+c',⟨?_,h1.r0,h1.r6,by have:=h1.c0;omega,c0.2⟩⟩;refine⟨by unfold nO;rw[Hm,List.length_zip,l1,l2];omega,fun x hx=>?_⟩;unfold nO at hx;obtain⟨y,hy,rfl⟩:=Ij.mp hx;have:=List.of_mem_zip hy;rw[HN,h1.rc.2 _ this.1,h2.rc.2 _ this.2]
  ·rw[if_neg c0]at m';cases m'
 ·have m':(if(p1.headD []).length=(p2.headD []).length/\p1.length+p2.length<=6 then some (p1++p2) else none)=some p:=m
  by_cases c0:(p1.headD []).length=(p2.headD []).length/\p1.length+p2.length<=6
  ·rw[if_pos c0]at m'
   cases m';rw[l1,l2,e1,e2]at c0;refine⟨r+r',c,⟨⟨by rw[HN,l1,l2],fun x hx=>?_⟩,by have:=h1.r0;omega,c0.2,h1.c0,h1.c6⟩⟩;rcases Hz.mp hx with h | h
   ·exact h1.rc.2 _ h
   ·rw[c0.1];exact h2.rc.2 _ h
  ·rw[if_neg c0]at m';cases m'
theorem rA{p:bC}{r c:Nat}(h:jg p r c)(t:Nat):∃r c,jg (turned p t) r c:=by
 have hm:fD (if 4<=t then fe p else p) r c:=by split;exact jG h.rc;exact h.rc
 have:=eZ (t%4) hm h.r0 h.c0;unfold turned
 by_cases e:t%4%2=0
 ·rw[if_pos e,if_pos e]at this;exact⟨r,c,this,h.r0,h.r6,h.c0,h.c6⟩
 ·rw[if_neg e,if_neg e]at this;exact⟨c,r,this,h.c0,h.c6,h.r0,h.r6⟩
theorem Gr.pic6{rs:List (Nat×RV)}(hg:∀r∈rs,jk r){d:Dt}{nm:List Nat}{p:bC}{c:Int}{k:Nat}(g:Gr rs d nm p c k):∃r c,jg p r c:=by
 induction g with
 | @cell n v e=>
  have:=ka (hg _ (Hq e)).good.sg;exact⟨1,1,⟨rfl,fun x hx=>by rw[Hn.mp hx];exact this⟩,by decide,by decide,by decide,by decide⟩
 |turn e _ ih=>obtain⟨r,c,h⟩:=ih;exact rA h _
 |pair h e _ _ m ih1 ih2=>obtain⟨r,c,h1⟩:=ih1;obtain⟨r',c',h2⟩:=ih2;exact oQ h h1 h2 m
structure SI where
 d:Dt
 nm:List Nat
 p:bC
 c:Int
 m:Int
 k:Nat
noncomputable def gN(H:Hp)(a:Addr)(x:SI):Prop:=∃vt lp,H a=some (.tup [vt,.str (tx x.nm),.ref lp,.int x.c,.int x.m,.int (x.k:Int)])/\bu H x.d vt/\H lp=some (.lst (aD x.p))/\x.p≠[]
theorem gN.up{H H':Hp}{a:Addr}{x:SI}(h:gN H a x)(s:ay H H'):gN H' a x:=by
 obtain⟨vt,lp,h1,h2,h3,h4⟩:=h;exact⟨vt,lp,s _ _ h1,h2.up (cu.of s) _,s _ _ h3,h4⟩
theorem qb{H:Hp}{l lp:Addr}{as:List Addr}{p:bC}(h1:H l=some (.lst (as.map V.ref)))(h2:H lp=some (.lst (aD p)))(h3:p≠[]):lp≠l:=fun e=>by
 rw[e,h1]at h2;have h4:=HO.lst.inj (Option.some.inj h2);cases p with
 |nil=>exact h3 rfl
 |cons r p=>
  cases as with
  |nil=>exact nomatch h4
  |cons a as=>have:=(List.cons.inj h4).1;cases this
theorem gN.put{H:Hp}{l a:Addr}{as:List Addr}{o:HO}{x:SI}(h:gN H a x)(hl:H l=some (.lst (as.map V.ref))):gN (aB H l o) a x:=by
 obtain⟨vt,lp,h1,h2,h3,h4⟩:=h;refine⟨vt,lp,?_,h2.up (cu.put hl) _,?_,h4⟩
 ·rw[ai (fun e=>by rw[e,hl]at h1;cases h1)];exact h1
 ·rw[ai (qb hl h3 h4)];exact h3
noncomputable def bD(H:Hp)(as:List Addr)(xs:List SI):Prop:=as.length=xs.length/\∀(i:Nat) a x,as[i]?=some a->xs[i]?=some x->gN H a x
theorem bD.up{H H':Hp}{as:List Addr}{xs:List SI}(h:bD H as xs)(s:ay H H'):bD H' as xs:=⟨h.1,fun i a x e1 e2=>(h.2 i a x e1 e2).up s⟩
theorem bD.got{H:Hp}{as:List Addr}{xs:List SI}(h:bD H as xs){i:Nat}(hi:i<xs.length):∃a x,as[i]?=some a/\xs[i]?=some x/\gN H a x:=by
 have h1:i<as.length:=by rw[h.1];exact hi
 exact⟨as[i],xs[i],Hj h1,Hj hi,h.2 i _ _ (Hj h1) (Hj hi)⟩
noncomputable def vE(r:Nat×RV)(ys:List SI):Prop:=(r.1=0/\ys=[])\/(r.1=3/\∃x,ys=[x]/\r.2.o1=x.nm)\/((r.1=1\/r.1=2)/\∃x y,ys=[x,y]/\r.2.o1=x.nm/\r.2.o2=y.nm/\d8 r.1 r.2 [x.p,y.p]≠none)
theorem Bs{H:Hp}{a b:Addr}{xs:List V}{Q:VK}{neg:Bool}(ha:H a=some (.lst xs))(hb:H b=some (.lst []))(q:Q (.bl (xs.isEmpty != neg)) H):Dv K neg (.ref a) (.ref b) H Q:=by
 cases xs with
 |nil=>
  refine .inl ⟨[],by unfold Dt.deps;omega,.inl ⟨?_,?_⟩,by simpa using q⟩
  ·unfold hV;exact⟨a,_,rfl,aW.of ha,by unfold cK;rfl⟩
  ·unfold hV;exact⟨b,_,rfl,aW.of hb,by unfold cK;rfl⟩
 |cons x xs=>exact .inr ⟨a,b,_,_,rfl,rfl,aW.of ha,aW.of hb,by simp,by simpa using q⟩
theorem Cb{α:Type}{xs:List α}{j:Nat}{v:α}(h:j<xs.length)(e:xs[xs.length-1-j]?=some v):gv xs (-1-(j:Int))=some v:=by
 unfold gv BB;rw[if_neg (by omega),if_pos (by omega),Option.bind_some,show(-1-(j:Int)+(xs.length:Int)).toNat=xs.length-1-j by omega];exact e
noncomputable def wR(k:Nat):Str:=if k=1 then "beside" else "above"
theorem fR{H H':Hp}{a:Addr}(s:ay H H')(h:H' a=none):H a=none:=by
 cases e:H a with
 |none=>rfl
 |some o=>rw[s _ _ e]at h;cases h
noncomputable abbrev o9:Stmt:=gu 50
noncomputable def qQ:Sp:=fun vs H Q _=>∃(ls b:Addr) (c:Int) (as:List Addr) (xs:List SI) (p:bC) (sg:List Nat),vs=[.ref ls,.int c,.ref b,.str (tx sg)]/\H ls=some (.lst (as.map V.ref))/\bD H as xs/\H b=some (.lst (aD p))/\p.length=4/\(∀r∈p,cB r=true)/\cU sg=true/\(∀x∈xs,x.nm∈p/\∃r c,jg x.p r c)/\xs.length<=1000 /\
 ∀tp t lb r bs ys H',H' tp=some (.tup [.ref t,.ref lb])->H' t=some (.tup (e7 r))->ja p sg r->H' lb=some (.lst (bs.map V.ref))->bD H' bs ys->(∀y∈ys,y∈xs)->vE r ys->H lb=none->ay H H'->Q (.ref tp) H'
theorem xP:aF ["_law_stock","_law_cell_here","_law_names_here","_law_signs_here","_law_told","_law_rest","_law_one","_law_other","_law_words","_law_word","_law_rule"] ["_law_stock","_law_cell_here","_law_names_here","_law_signs_here"] (ak o9):=by walk_at "c"
theorem yh{f:Addr}{fd:FuncData}(F:c_ K "_law_next" "_law_next" o9 f fd)(nb:NB mg)(zva:eX P w K mg base bH 1 "_law_drawn_rule" ["_law_cell_here","_law_names_here","_law_signs_here"] fJ)(zEa:eX P w K mg base bH 3 "_law_put" ["_law_told","_law_pictures"] k9):bc P w K mg base bH 4 f fd ["_law_stock","_law_cell_here","_law_names_here","_law_signs_here"] qQ:=by
 have sc:=xP;walk_at "f"
 ·obtain⟨ls,b,c,as,xs,p,sg,rfl,_⟩:=h;rfl
 ·obtain⟨ls,b,c,as,xs,p,sg,rfl,hls,hst,hb,hp,hpn,hsg,hxs,hxl,q⟩:=h
  have hu:=hr.units;refine⟨_,(ag (aK (i:=4) sc.nd rfl (Or.inl rfl) (aP zva (hr.mono (by decide)) rfl bh (aa (aq (a_.m1 f_) (aq (a_.m1 bi) (am 1) af) af) (aa (am 2) (aa (am 3) ad)))))
   (ag (bg (PW.pt (hJ (aA (AO hu) (am 0) (bv ad) (aJ _)) (fq (aA (a_.m0 nE) (aq (a_.m1 aX) (am 1) af) af (aJ _)))))
   (ah (aI (aR (aa (am 4) (aa (bv ad) ad)))))
   aN)
   (ag (aK (i:=5) sc.nd rfl (Or.inl rfl) (aq (a_.m1 bi) (am 1) af))
   (ag (aK (i:=6) sc.nd rfl (Or.inl rfl) (az aV (am 0) (aq (a_.m1 aX) (am 5) (av aO rfl nb.len aQ (aa (am 0) ad))) (fun _ _=>rfl)))
   (ag (aK (i:=7) sc.nd rfl (Or.inl rfl) (az aV (am 0) (aq (a_.m0 i6) (tY on af) (aq (a_.m1 aX) (aq (a_.m1 bi) (am 5) af) (av aO rfl nb.len aQ (aa (am 0) ad)))) (fun _ _=>rfl)))
   (xM (bg (aA (a_.m0 nE) (aq (a_.m1 aX) (am 1) af) af (aJ _))
   (ah (aI (aR (aa (aR (bf (aa (az aC (am 4) af (fun _ _=>rfl)) (aa (az aC (am 4) af (fun _ _=>rfl)) (aa (az aC (am 6) af (fun _ _=>rfl)) (aa (aq (a_.m1 aX) (aq (a_.m1 bi) (am 5) af) af) ad)))))) (aa (bv (aa (am 6) ad)) ad)))))
   aN)
   (Bf (C8 (i:=8) sc.nd rfl (Or.inl rfl) (Dj (DO (y9 (AX (AX vp))) (DO (y9 (AX (AX vp))) vp))) (aq aX (aq bi (pv 5) af) af) (fun _ _=>rfl))
   (ag (bP PassesOwn.never rfl (vi (am 8)) (aH (i:=9) sc.nd rfl (Or.inl rfl))
   (ag (aK (i:=10) sc.nd rfl (Or.inl rfl) (aR (aa (am 9) (aa (az aC (am 4) af (fun _ _=>rfl)) (aa (az aC (am 4) af (fun _ _=>rfl)) (aa (az aC (am 6) af (fun _ _=>rfl)) (aa (az aC (am 7) af (fun _ _=>rfl)) ad)))))))
   (ah (bg (aA jV (aP zEa (hr.mono (by decide)) rfl bh (aa (am 10) (aa (bv (aa (az aC (am 6) af (fun _ _=>rfl)) (aa (az aC (am 7) af (fun _ _=>rfl)) ad))) ad))) cn (aJ _))
   (ah (aI (aR (aa (am 10) (aa (bv (aa (am 6) (aa (am 7) ad))) ad)))))
   aN))))
   (ah (aI (aR (aa (am 4) (aa (bv ad) ad))))))))))))),?_⟩
  walk_at "n";refine⟨_,b,p,sg,rfl,hb,hp,hpn,hsg,fun t r H1 hro ht hkind s1=>h1 _ _ ?_⟩;clear h1;have hk0:r.1=0:=hkind.1 (by omega);obtain⟨rk,v⟩:=r;cases hk0;have sqt:bd K H1 t [.str (Str.ofString "cell"),.str (tx v.n),.int v.c,.str (tx v.sg)]:=bd.of ht;have hls1:=s1 _ _ hls;have hst1:=hst.up s1;have cellQ:∀H2,ay H1 H2->∀lb,H2 lb=none->∀tp,aB H2 lb (.lst []) tp=none->Q (.ref tp) (aB (aB H2 lb (.lst [])) tp (.tup [.ref t,.ref lb])):=fun H2 s2 lb hlb tp htp=>
   q tp t lb (0,v) [] [] _ ac (ae htp _ _ (ae hlb _ _ (s2 _ _ ht))) hro (ae htp _ _ ac) ⟨rfl,fun i a x e=>by simp at e⟩ (fun y hy=>nomatch hy) (.inl ⟨rfl,rfl⟩) (fR (s1.trans s2) hlb) ((s1.trans s2).trans ((ae hlb).trans (ae htp)))
  walk_at "n";refine⟨HQ _,fun pe hpe=>?_⟩;refine Bs (ae hpe _ _ hls1) ac ?_;have s2:ay H1 (aB H1 pe (.lst [])):=ae hpe;generalize aB H1 pe (.lst [])=H2 at s2 ⊢;refine⟨_,rfl,?_⟩
  by_cases hx0:xs=[]
  ·have ha0:as=[]:=Ii.mp (by rw[hst.1,hx0];rfl)
   rw[if_pos (by rw[ha0];rfl)];exact⟨HQ _,fun lb hlb=>⟨aj (by decide),fun tp htp=>cellQ H2 s2 lb hlb tp htp⟩⟩
  have hpos:0<xs.length:=List.length_pos_iff.mpr hx0;have hal:=hst.1;rw[if_neg (by cases as with | nil=>rw[<- hal]at hpos;exact absurd hpos (by decide) | cons a as=>simp)]
  by_cases h82:c%8<2
  ·rw[if_pos h82]
   exact⟨HQ _,fun lb hlb=>⟨aj (by decide),fun tp htp=>cellQ H2 s2 lb hlb tp htp⟩⟩
  rw[if_neg h82];refine h1 _ _ ?_;clear h1;have ls2:=s2 _ _ hls1;have st2:=hst1.up s2;have s02:=s1.trans s2;have sq2:bd K H2 t [.str (Str.ofString "cell"),.str (tx v.n),.int v.c,.str (tx v.sg)]:=s2.sqT sqt;walk_at "n";refine h1 _ _ ?_;clear h1;generalize c/8=bt;have hlen:((as.map V.ref).length:Int)=(xs.length:Int):=by rw[Hm,hal]
  walk_at "n";obtain⟨i,hi⟩:∃i:Nat,bt%(xs.length:Int)=(i:Int):=⟨_,(Iv (Ir _ (by omega))).symm⟩;have hi2:i<xs.length:=by have:=Iu bt (b:=(xs.length:Int)) (by omega);omega
  obtain⟨a1,x,ea1,ex,ia1⟩:=st2.got hi2;refine⟨_,aW.of ls2,by rw[hlen];omega,_,aW.of ls2,V.ref a1,by rw[hlen,hi];exact aU (by rw[Ho,ea1];rfl),h1 _ _ ?_⟩;walk_at "nc";obtain⟨j,hj⟩:∃j:Nat,bt/5%(xs.length:Int)=(j:Int):=⟨_,(Iv (Ir _ (by omega))).symm⟩;have hj2:j<xs.length:=by have:=Iu (bt/5) (b:=(xs.length:Int)) (by omega);omega
  have hj3:xs.length-1-j<xs.length:=by omega
  obtain⟨a2,y,ea2,ey,ia2⟩:=st2.got hj3;refine⟨_,aW.of ls2,by rw[hlen];omega,_,aW.of ls2,V.ref a2,by rw[hlen,hj];exact Cb (by rw[Hm,hal];exact hj2) (by rw[Ho,Hm,hal,ea2];rfl),h1 _ _ ?_⟩;clear h1;have xm:x∈xs:=Hq ex;have ym:y∈xs:=Hq ey;obtain⟨xp,rx,cx,x6⟩:=hxs x xm;obtain⟨yp,ry,cy,y6⟩:=hxs y ym;have rv:∀(k:Nat) (o1 o2:List Nat) (tt:Int),k<4->o1∈p->o2∈p->0<=tt->tt<=7->ja p sg (k,{v with o1:=o1,o2:=o2,t:=tt}):=fun k o1 o2 tt hk h1 h2 h3 h4=>by
   have g:=hro.good.good;have g':RV.good {v with o1:=o1,o2:=o2,t:=tt}:=⟨g.n,g.c1,g.c9,hpn _ h1,hpn _ h2,g.sg,h3,h4⟩;exact⟨⟨hk,g',g'.small⟩,hro.n,h1,h2,hro.sg⟩
  obtain⟨vt1,lp1,ta1,tr1,pp1,pn1⟩:=id ia1;obtain⟨vt2,lp2,ta2,tr2,pp2,pn2⟩:=id ia2;have q1:bd K H2 a1 [vt1,.str (tx x.nm),.ref lp1,.int x.c,.int x.m,.int (x.k:Int)]:=bd.of ta1;have q2:bd K H2 a2 [vt2,.str (tx y.nm),.ref lp2,.int y.c,.int y.m,.int (y.k:Int)]:=bd.of ta2;walk_at "n"
  by_cases h84:c%8<4
  ·rw[if_pos h84]
   have t0:0<=bt/7%8:=Ir _ (by omega);have t7:bt/7%8<8:=Iu _ (by omega);refine⟨_,sq2,_,rfl,_,sq2,_,rfl,_,q1,_,rfl,aj (by decide),fun t3 ht3=>⟨aj (by decide),fun lb hlb=>⟨aj (by decide),fun tp htp=>?_⟩⟩⟩;have sA:=(ae (o:=.tup [V.str (Str.ofString "turned"),V.str (tx v.n),V.int v.c,V.str (tx x.nm),V.int (bt/7%8)]) ht3).trans ((ae (o:=.lst [V.ref a1]) hlb).trans (ae (o:=.tup [V.ref t3,V.ref lb]) htp));refine q tp t3 lb (3,{v with o1:=x.nm,o2:=v.o2,t:=bt/7%8}) [a1] [x] _ ac (ae htp _ _ (ae hlb _ _ ac)) (rv 3 x.nm v.o2 _ (by decide) xp hro.o2 t0 (by omega)) (ae htp _ _ ac) ⟨rfl,fun i a z e1 e2=>?_⟩ (fun z hz=>by rw[Hn.mp hz];exact xm) (.inr (.inl ⟨rfl,x,rfl,rfl⟩)) (fR (s02.trans (ae ht3)) hlb) (s02.trans sA)
   match i,e1,e2 with
   |0,e1,e2=>cases e1;cases e2;exact ia1.up sA
   |i+1,e1,e2=>simp at e1
  ·rw[if_neg h84]
   refine h1 _ _ ?_;walk_at "nc";refine⟨aj (by decide),fun w1 hw1=>⟨aj (by decide),fun w2 hw2=>⟨aj (by decide),fun w3 hw3=>?_⟩⟩⟩;have sA:=(ae (o:=.tup [V.str (Str.ofString "beside"),V.str (Str.ofString "above")]) hw1).trans ((ae (o:=.tup [V.str (Str.ofString "above"),V.str (Str.ofString "beside")]) hw2).trans (ae (o:=.lst [V.ref w1,V.ref w2]) hw3));have f1:aB (aB (aB H2 w1 (.tup [V.str (Str.ofString "beside"),V.str (Str.ofString "above")])) w2 (.tup [V.str (Str.ofString "above"),V.str (Str.ofString "beside")])) w3 (.lst [V.ref w1,V.ref w2]) w1=some (.tup [V.str (Str.ofString "beside"),V.str (Str.ofString "above")]):=ae hw3 _ _ (ae hw2 _ _ ac);have f2:aB (aB (aB H2 w1 (.tup [V.str (Str.ofString "beside"),V.str (Str.ofString "above")])) w2 (.tup [V.str (Str.ofString "above"),V.str (Str.ofString "beside")])) w3 (.lst [V.ref w1,V.ref w2]) w2=some (.tup [V.str (Str.ofString "above"),V.str (Str.ofString "beside")]):=ae hw3 _ _ ac;have f3:aB (aB (aB H2 w1 (.tup [V.str (Str.ofString "beside"),V.str (Str.ofString "above")])) w2 (.tup [V.str (Str.ofString "above"),V.str (Str.ofString "beside")])) w3 (.lst [V.ref w1,V.ref w2]) w3=some (.lst [V.ref w1,V.ref w2]):=ac;generalize aB (aB (aB H2 w1 (.tup [V.str (Str.ofString "beside"),V.str (Str.ofString "above")])) w2 (.tup [V.str (Str.ofString "above"),V.str (Str.ofString "beside")])) w3 (.lst [V.ref w1,V.ref w2])=H3 at sA f1 f2 f3 ⊢;obtain⟨wx,ww,fw,aw,kw⟩:∃(wx:Addr) (ww:List V),H3 wx=some (.tup ww)/\gv ([V.ref w1,V.ref w2]:List V) (bt/11%2)=some (V.ref wx)/\∀(i:Nat) z,ww[i]?=some z->∃kd,(kd=1\/kd=2)/\z=V.str (wR kd):=by
    have two:bt/11%2=0\/bt/11%2=1:=by omega
    rcases two with e | e
    ·refine⟨w1,_,f1,by rw[e];rfl,fun i z hz=>?_⟩
     match i,hz with
     |0,hz=>cases hz;exact⟨1,.inl rfl,rfl⟩
     |1,hz=>cases hz;exact⟨2,.inr rfl,rfl⟩
     |i+2,hz=>simp at hz
    ·refine⟨w2,_,f2,by rw[e];rfl,fun i z hz=>?_⟩
     match i,hz with
     |0,hz=>cases hz;exact⟨2,.inr rfl,rfl⟩
     |1,hz=>cases hz;exact⟨1,.inl rfl,rfl⟩
     |i+2,hz=>simp at hz
   refine⟨_,aW.of f3,_,aw,h1 _ _ ?_⟩;walk_at "nc";refine⟨⟨_,bd.of fw⟩,?_⟩;refine ug (xs:=ww) (fun i σ H'=>ay H2 H'/\H' wx=some (.tup ww)/\∃z1 z2,σ=[some (V.ref ls),some (V.int c),some (V.ref b),some (V.str (tx sg)),some (V.ref t),some (V.int bt),some (V.ref a1),some (V.ref a2),some (V.ref wx),z1,z2]) ⟨sA,fw,_,_,rfl⟩ ?_ ?_ ?_
   ·rintro i σ H' _ ⟨_,h,_⟩
    exact bd.of h
   ·rintro i z σ H' hz ⟨sm,hwx,z1,z2,rfl⟩
    obtain⟨kd,hkd,rfl⟩:=kw i z hz;walk_at "wp";have st':=(s02.trans sm);have q1':bd K H' a1 _:=sm.sqT q1;have q2':bd K H' a2 _:=sm.sqT q2;refine⟨_,sm.sqT sq2,_,rfl,_,sm.sqT sq2,_,rfl,_,q1',_,rfl,_,q2',_,rfl,aj (by decide),fun rp hrp=>?_⟩;have sR:=ae (o:=.tup [V.str (wR kd),V.str (tx v.n),V.int v.c,V.str (tx x.nm),V.str (tx y.nm)]) hrp;have hR:aB H' rp (.tup [V.str (wR kd),V.str (tx v.n),V.int v.c,V.str (tx x.nm),V.str (tx y.nm)]) rp=some (.tup (e7 (kd,{v with o1:=x.nm,o2:=y.nm,t:=0}))):=by
     rw[ac];rcases hkd with rfl | rfl<;>rfl
    generalize aB H' rp (.tup [V.str (wR kd),V.str (tx v.n),V.int v.c,V.str (tx x.nm),V.str (tx y.nm)])=H4 at sR hR ⊢;have sm4:=sm.trans sR;refine⟨_,sR.sqT q1',_,rfl,_,sR.sqT q2',_,rfl,aj (by decide),fun pl hpl=>?_⟩;have sP:=ae (o:=.lst [V.ref lp1,V.ref lp2]) hpl;have hP:aB H4 pl (.lst [V.ref lp1,V.ref lp2]) pl=some (.lst (([lp1,lp2]:List Addr).map V.ref)):=ac;generalize aB H4 pl (.lst [V.ref lp1,V.ref lp2])=H5 at sP hP ⊢;have sm5:=sm4.trans sP;have kl:kd<4:=by rcases hkd with rfl | rfl<;>decide
    refine⟨rp,pl,(kd,{v with o1:=x.nm,o2:=y.nm,t:=0}),[lp1,lp2],[x.p,y.p],rfl,sP _ _ hR,kl,by show(0:Int)<=0;decide,by show(0:Int)<=7;decide,⟨hP,rfl,fun i h1 h2=>?_⟩,?_,fun pc hpc l H6 hl s6=>?_,fun _ H6 s6=>?_⟩
    ·match i,h1,h2 with
     |0,_,_=>exact sm5 _ _ pp1
     |1,_,_=>exact sm5 _ _ pp2
     |i+2,h1,_=>simp at h1;omega
    ·rcases hkd with rfl | rfl
     ·exact .beside x6 y6
     ·exact .above x6 y6
    ·dsimp only
     rw[if_pos (fun e:V.ref l=V.non=>by cases e)];refine⟨aj (by decide),fun lb hlb=>⟨aj (by decide),fun tp htp=>?_⟩⟩;have sm6:=sm5.trans s6;have sB:=(ae (o:=.lst [V.ref a1,V.ref a2]) hlb).trans (ae (o:=.tup [V.ref rp,V.ref lb]) htp);refine q tp rp lb (kd,{v with o1:=x.nm,o2:=y.nm,t:=0}) [a1,a2] [x,y] _ ac (sB _ _ (s6 _ _ (sP _ _ hR))) (rv kd x.nm y.nm 0 kl xp yp (by decide) (by decide)) (ae htp _ _ ac) ⟨rfl,fun i a z e1 e2=>?_⟩ (fun z hz=>?_) (.inr (.inr ⟨hkd,x,y,rfl,rfl,rfl,?_⟩)) (fR (s02.trans sm6) hlb) ((s02.trans sm6).trans sB)
     ·match i,e1,e2 with
      |0,e1,e2=>cases e1;cases e2;exact ia1.up (sm6.trans sB)
      |1,e1,e2=>cases e1;cases e2;exact ia2.up (sm6.trans sB)
      |i+2,e1,e2=>simp at e1
     ·rcases HF.mp hz with rfl | hz
      ·exact xm
      ·rw[Hn.mp hz];exact ym
     ·rw[hpc];exact fun e=>nomatch e
    ·dsimp only
     rw[if_neg (fun e:¬ V.non=V.non=>e rfl)];exact⟨sm5.trans s6,s6 _ _ (sP _ _ (sR _ _ hwx))⟩
   ·rintro σ H' ⟨sm,hwx,z1,z2,rfl⟩
    refine h1 _ _ ?_;walk_at "wp";exact⟨HQ _,fun lb hlb=>⟨aj (by decide),fun tp htp=>cellQ H' (s2.trans sm) lb hlb tp htp⟩⟩
structure om(r' r:Nat×RV):Prop where
 k:r'.1=r.1
 sg:r.1=0->r'.2.sg=r.2.sg
 o1:r.1≠0->r'.2.o1=r.2.o1
 o2:r.1=1\/r.1=2->r'.2.o2=r.2.o2
 t:r.1=3->r'.2.t=r.2.t
theorem om.rfl'(r:Nat×RV):om r r:=⟨rfl,fun _=>rfl,fun _=>rfl,fun _=>rfl,fun _=>rfl⟩
theorem gE{a b:List Nat}(h:tx a=tx b):a=b:=by
 have:=congrArg (fun s:Str=>s.cps.toList) h
 simpa[tx]using this
noncomputable def Bp(k:Nat):Str:=match k with | 0=>"cell" | 1=>"beside" | 2=>"above" | _=>"turned"
theorem zw(r:Nat×RV):gv (e7 r) 0=some (.str (Bp r.1)):=by
 obtain⟨k,v⟩:=r
 match k with
 |0=>rfl
 |1=>rfl
 |2=>rfl
 |k+3=>rfl
theorem BC{a b:Nat}(ha:a<4)(hb:b<4)(h:Bp a=Bp b):a=b:=by
 have:∀a:Fin 4,∀b:Fin 4,Bp a.1=Bp b.1->a=b:=by decide +kernel
 exact congrArg Fin.val (this ⟨a,ha⟩ ⟨b,hb⟩ h)
theorem qK(r:Nat×RV):(dZ (e7 r) (some 3) none).all qI=true:=by
 obtain⟨k,v⟩:=r
 match k with
 |0=>rfl
 |1=>rfl
 |2=>rfl
 |k+3=>rfl
theorem tX(r:Nat×RV):¬ (HT.sIx (e7 r).length 0 (some 3)=0/\HT.sIx (e7 r).length (e7 r).length none=(e7 r).length):=by
 obtain⟨k,v⟩:=r
 match k with
 |0=>exact fun h=>by cases h.1
 |1=>exact fun h=>by cases h.1
 |2=>exact fun h=>by cases h.1
 |k+3=>exact fun h=>by cases h.1
theorem j6{a b:Str}(h:uU (.str a) (.str b)=true):a=b:=by
 have h':(a==b)=true:=h;exact eq_of_beq h'
theorem Bi{a b:Int}(h:uU (.int a) (.int b)=true):a=b:=by
 have h':(a==b)=true:=h;exact eq_of_beq h'
theorem oF{x y x' y':V}(h:tM [x,y] [x',y']=true):uU x x'=true/\uU y y'=true:=by
 have h':(([0,1]:List Nat).all (fun j=>match([x,y]:List V)[j]?,([x',y']:List V)[j]? with | some x,some y=>uU x y | _,_=>true)&&true)=true:=h
 simpa using h'
theorem zf{x x':V}(h:tM [x] [x']=true):uU x x'=true:=by
 have h':(([0]:List Nat).all (fun j=>match([x]:List V)[j]?,([x']:List V)[j]? with | some x,some y=>uU x y | _,_=>true)&&true)=true:=h
 simpa using h'
theorem zq{r' r:Nat×RV}(h4':r'.1<4)(h4:r.1<4)(hk:V.str (Bp r'.1)=V.str (Bp r.1))(he:tM (dZ (e7 r') (some 3) none) (dZ (e7 r) (some 3) none)=true):om r' r:=by
 have e:=BC h4' h4 (V.str.inj hk);obtain⟨k',v'⟩:=r';obtain⟨k,v⟩:=r;have e:k'=k:=e;subst e;have h4:k'<4:=h4
 match k',h4 with
 |0,_=>
  have:=gE (j6 (zf (show tM [.str (tx v'.sg)] [.str (tx v.sg)]=true from he)));exact⟨rfl,fun _=>this,fun h=>absurd rfl h,fun h=>(by rcases h with h | h<;>cases h),fun h=>(by cases h)⟩
 |1,_=>
  have:=oF (show tM [.str (tx v'.o1),.str (tx v'.o2)] [.str (tx v.o1),.str (tx v.o2)]=true from he);exact⟨rfl,fun h=>(by cases h),fun _=>gE (j6 this.1),fun _=>gE (j6 this.2),fun h=>(by cases h)⟩
 |2,_=>
  have:=oF (show tM [.str (tx v'.o1),.str (tx v'.o2)] [.str (tx v.o1),.str (tx v.o2)]=true from he);exact⟨rfl,fun h=>(by cases h),fun _=>gE (j6 this.1),fun _=>gE (j6 this.2),fun h=>(by cases h)⟩
 |3,_=>
  have:=oF (show tM [.str (tx v'.o1),.int v'.t] [.str (tx v.o1),.int v.t]=true from he);exact⟨rfl,fun h=>(by cases h),fun _=>gE (j6 this.1),fun h=>(by rcases h with h | h<;>cases h),fun _=>Bi this.2⟩
noncomputable abbrev kA:Stmt:=gu 51
noncomputable def jj:Sp:=fun vs H Q _=>∃(l t:Addr) (b:Bool) (ts:List Addr) (rs:List (Nat×RV)) (r:Nat×RV),vs=[.ref l,.ref t,.bl b]/\bV H l ts rs/\(∀x∈rs,x.1<4)/\H t=some (.tup (e7 r))/\r.1<4/\rs.length<=24 /\
 (∀(k:Nat) r' H',rs[k]?=some r'->om r' r->ay H H'->Q (.int (k:Int)) H')/\(rs.length=24->∀H',ay H H'->Q .non H') /\
 (rs.length<24->∀H0,ay H H0->Q (.int (rs.length:Int)) (aB H0 l (.lst (ts.map V.ref++[V.ref t]))))
theorem uD:aF ["_law_rules","_law_told","_law_again","_law_k","_law_rule"] ["_law_rules","_law_told","_law_again"] (ak kA):=by walk_at "c"
theorem uv{f:Addr}{fd:FuncData}(F:c_ K "_law_number" "_law_number" kA f fd)(nb:NB mg):bc P w K mg base bH 1 f fd ["_law_rules","_law_told","_law_again"] jj:=by
 have sc:=uD;walk_at "f"
 ·obtain⟨l,t,b,ts,rs,r,rfl,_⟩:=h;rfl
 ·obtain⟨l,t,b,ts,rs,r,rfl,hrs,hk4,ht,hr4,hl24,q1,q2,q3⟩:=h
  have hu:=hr.units;refine⟨_,(ag (bP PassesOwn.never rfl (ol rfl nb.enumerate (aa (am 0) ad)) (fj (n:=2) rfl (aY (aH (i:=3) sc.nd rfl (Or.inl rfl)) (aY (aH (i:=4) sc.nd rfl (Or.inl rfl)) cM)))
   (ah (bg (PW.pt (kP (lx (am 2) fun _=>rfl) (kP (aA dA (az aC (am 4) af (fun _ _=>rfl)) (az aC (am 1) af (fun _ _=>rfl)) (aJ _)) (lU (aA (yM hu) (b0 sr (am 4) (dk af) dj) (b0 sr (am 1) (dk af) dj) (aJ _))))))
   (ah (aI (am 3)))
   aN)))
   (ag (bg (aA dA (av aO rfl nb.len aQ (aa (am 0) ad)) af (aJ _))
   (ah (aI cn))
   aN)
   (ag (bN (gb PySem.F.plainAttrs_list PySem.F.slot_list_append PySem.F.type_list_append b6 (am 0) (aa (am 1) ad)))
   (ah (aI (aq (a_.m0 i6) (av aO rfl nb.len aQ (aa (am 0) ad)) af)))))),?_⟩
  walk_at "n";refine⟨_,aW.of hrs.1,?_⟩;refine jY (xs:=ts.map V.ref) (fun i σ H'=>ay H H'/\∃z1 z2,σ=[some (V.ref l),some (V.ref t),some (V.bl b),z1,z2]) ⟨fun _ _ e=>e,_,_,rfl⟩ ?_ ?_ ?_
  ·rintro i σ H' _ ⟨sm,_⟩
   exact aW.of (sm _ _ hrs.1)
  ·rintro i x σ H' T hx ⟨sm,z1,z2,rfl⟩ hT
   rw[Ho]at hx;obtain⟨ti,hti,rfl⟩:=HU.mp hx;obtain⟨r',hr'⟩:∃r',rs[i]?=some r':=⟨_,Hj (by have:=(Hk.mp hti).1;have:=hrs.2.1;omega)⟩;have hri:=sm _ _ (hrs.2.2 i ti r' hti hr');have sT:=ae (o:=.tup [V.int (i:Int),V.ref ti]) hT;have hTT:aB H' T (.tup [V.int (i:Int),V.ref ti]) T=some (.tup [V.int (i:Int),V.ref ti]):=ac;generalize aB H' T (.tup [V.int (i:Int),V.ref ti])=H1 at sT hTT ⊢;walk_at "wp";have sm1:=sm.trans sT;refine⟨_,bd.of hTT,rfl,_,_,rfl,_,_,rfl,rfl,?_⟩;cases b with
   |false=>rw[if_neg (by decide)];exact sm1
   |true=>
    rw[if_pos rfl];refine⟨ti,rfl,_,bd.of (sT _ _ hri),_,zw r',_,bd.of (sm1 _ _ ht),_,zw r,rfl,?_⟩
    by_cases hkk:V.str (Bp r'.1)=V.str (Bp r.1)
    ·rw[if_pos hkk]
     refine⟨ti,rfl,_,bd.of (sT _ _ hri),tX r',fun c1 hc1=>?_⟩;have sC:=ae (o:=.tup (dZ (e7 r') (some 3) none)) hc1;refine⟨_,bd.of (sC _ _ (sm1 _ _ ht)),tX r,fun c2 hc2=>?_⟩;have sD:=ae (o:=.tup (dZ (e7 r) (some 3) none)) hc2;refine⟨_,bd.of (sD _ _ ac),_,bd.of ac,qK r',qK r,?_⟩;have sE:=(sm1.trans sC).trans sD
     by_cases he:tM (dZ (e7 r') (some 3) none) (dZ (e7 r) (some 3) none)=true
     ·rw[if_pos he]
      exact q1 i r' _ hr' (zq (hk4 _ (Hq hr')) hr4 hkk he) sE
     ·rw[if_neg he];exact sE
    ·rw[if_neg hkk];exact sm1
  ·rintro σ H' ⟨sm,z1,z2,rfl⟩
   refine h1 _ _ ?_;walk_at "wp";have hl':=sm _ _ hrs.1;have hln:(ts.map V.ref).length=rs.length:=by rw[Hm];exact hrs.2.1
   refine⟨_,aW.of hl',?_⟩;rw[hln]
   by_cases h24:(rs.length:Int)=24
   ·rw[if_pos h24];exact q2 (by omega) _ sm
   ·rw[if_neg h24]
    refine⟨.inl ⟨rfl,_,aW.of hl'⟩,_,hl',?_,_,aW.of ac,?_⟩
    ·rw[hln];exact bp (by omega)
    ·have:=q3 (by omega) H' sm
     rw[HN,hln];rw[show(((rs.length+[V.ref t].length:Nat):Int)-1)=(rs.length:Int) by simp];exact this
theorem dH{H:Hp}{a b:Addr}{xs ys:List V}{Q:VK}(ha:H a=some (.tup xs))(hb:H b=some (.tup ys))(hx:xs≠[])(hz:xs.length+ys.length<=1000)(q:∀p H',H' p=some (.tup (xs++ys))->ay H H'->Q (.ref p) H'):zY K (.ref a) (.ref b) H Q:=
 ⟨a,b,xs,ys,rfl,rfl,bd.of ha,bd.of hb,hx,aj (by omega),fun e=>q a H (by rw[e,Ia];exact ha) (ay.refl _),fun _ p hp=>q p _ ac (ae hp)⟩
mutual
noncomputable def m9:Dt->Nat
 | .tup ds=>kt ds
 |_=>1
noncomputable def kt:List Dt->Nat
 | []=>0
 |d::ds=>m9 d+kt ds
end
theorem xR(ys:List SI)(h:∀y∈ys,y.m=(m9 y.d:Int)):((kt (ys.map SI.d):Nat):Int)=(ys.map SI.m).sum:=by
 induction ys with
 |nil=>unfold kt;rfl
 |cons y ys ih=>
  rw[HW,HW,List.sum_cons];unfold kt;rw[Int.natCast_add,ih (fun z hz=>h z (by simp[hz])),h y (by simp)]
structure lj(rs:List (Nat×RV))(p:bC)(x:SI):Prop where
 gr:Gr rs x.d x.nm x.p x.c x.k
 nm:x.nm∈p
 k1:x.k<=18
 m1:x.m=(m9 x.d:Int)
 m2:x.m<=60
theorem lj.more{rs:List (Nat×RV)}{p:bC}{x:SI}(r:Nat×RV)(h:lj rs p x):lj (rs++[r]) p x:=⟨h.gr.more r,h.nm,h.k1,h.m1,h.m2⟩
structure FI where
 a:Addr
 vt:V
 lp:Addr
 x:SI
noncomputable def FI.vals(z:FI):List V:=[z.vt,.str (tx z.x.nm),.ref z.lp,.int z.x.c,.int z.x.m,.int (z.x.k:Int)]
noncomputable def FI.at(H:Hp)(z:FI):Prop:=H z.a=some (.tup z.vals)/\bu H z.x.d z.vt/\H z.lp=some (.lst (aD z.x.p))/\z.x.p≠[]
theorem FI.at.up{H H':Hp}{z:FI}(h:z.at H)(s:ay H H'):z.at H':=⟨s _ _ h.1,h.2.1.up (cu.of s) _,s _ _ h.2.2.1,h.2.2.2⟩
theorem bD.full{H:Hp}:∀{as:List Addr} {xs:List SI},bD H as xs->∃fs:List FI,as=fs.map FI.a/\xs=fs.map FI.x/\∀z∈fs,z.at H
 | [],[],_=>⟨[],rfl,rfl,fun _ h=>nomatch h⟩
 | [],x::xs,h=>absurd h.1 (by simp)
 |a::as,[],h=>absurd h.1 (by simp)
 |a::as,x::xs,h=>by
  obtain⟨fs,e1,e2,hf⟩:=bD.full (as:=as) (xs:=xs) ⟨by simpa using h.1,fun i a x e1 e2=>h.2 (i+1) a x (by simpa using e1) (by simpa using e2)⟩;obtain⟨vt,lp,h1,h2,h3,h4⟩:=h.2 0 a x rfl rfl;refine⟨⟨a,vt,lp,x⟩::fs,by rw[e1];rfl,by rw[e2];rfl,fun z hz=>?_⟩;rcases HF.mp hz with rfl | hz
  ·exact⟨h1,h2,h3,h4⟩
  ·exact hf z hz
theorem fV{H:Hp}{lb:Addr}{fs:List FI}{j:Int}{f:FI->V}{σ:St}{Q:List V->Hp->Prop}(h0:∃z,σ=[z])(hl:H lb=some (.lst ((fs.map FI.a).map V.ref)))(hf:∀z∈fs,z.at H)(hn:fs.length<=1000)(hj:∀z:FI,gv z.vals j=some (f z))(q:∀H',ay H H'->Q (fs.map f) H') :
  gR (AH K lb) (jd 0) tZ (B1 (vG K) (DG 0) (tC (V.int j))) σ H Q:=by
 refine pI (as:=fs) (emb:=fun z=>V.ref z.a) (f:=fun z=>some (f z)) (fun σ=>∃z,σ=[z]) h0 (fun H' s=>?_) (by omega) ?_ ?_
 ·have:=s _ _ hl
  rw[HE]at this;exact aW.of this
 ·rintro i z hz σ H' N1 N0 ⟨z0,rfl⟩ s k1 _
  walk_at "wp";exact⟨_,bd.of (s _ _ (hf z (Hq hz)).1),_,hj z,k1 _ _ _ rfl s ⟨_,rfl⟩⟩
 ·intro H' s
  rw[v_ fs (fun z=>some (f z)) (g:=f) (fun _ _=>rfl)];exact q H' s
theorem FI.at.put{H:Hp}{l:Addr}{as:List Addr}{o:HO}{z:FI}(h:z.at H)(hl:H l=some (.lst (as.map V.ref))):z.at (aB H l o):=by
 obtain⟨h1,h2,h3,h4⟩:=h;refine⟨?_,h2.up (cu.put hl) _,?_,h4⟩
 ·rw[ai (fun e=>by rw[e,hl]at h1;cases h1)];exact h1
 ·rw[ai (qb hl h3 h4)];exact h3
theorem yi{r:Nat×RV}{ys:List SI}(h:vE r ys)(h6:∀y∈ys,∃r c,jg y.p r c):mm r.1 (ys.map SI.p)/\d8 r.1 r.2 (ys.map SI.p)≠none:=by
 obtain⟨k,v⟩:=r;rcases h with⟨e,rfl⟩ | ⟨e,x,rfl,_⟩ | ⟨e,x,y,rfl,_,_,hm⟩
 ·have e:k=0:=e
  subst e;exact⟨.cell,fun h=>nomatch h⟩
 ·have e:k=3:=e
  subst e;obtain⟨r,c,h⟩:=h6 x (by simp);exact⟨.turn h,fun h=>nomatch h⟩
 ·obtain⟨r,c,h⟩:=h6 x (by simp)
  obtain⟨r',c',h'⟩:=h6 y (by simp);have e:k=1\/k=2:=e;rcases e with rfl | rfl
  ·exact⟨.beside h h',hm⟩
  ·exact⟨.above h h',hm⟩
theorem AU{rs:List (Nat×RV)}{r r':Nat×RV}{n:Nat}{ys:List SI}{M:Int}{pc:bC}(hn:rs[n]?=some r')(ar:om r' r)(nx:vE r ys)(gr:∀y∈ys,Gr rs y.d y.nm y.p y.c y.k)(mp:d8 r.1 r.2 (ys.map SI.p)=some pc)
  (hM:(ys.map (fun y=>(y.k:Int))=[]/\M=0)\/(M∈ys.map (fun y=>(y.k:Int))/\∀a∈ys.map (fun y=>(y.k:Int)),a<=M)):Gr rs (.tup (.int (n:Int)::ys.map SI.d)) r'.2.n pc (r'.2.c+(ys.map SI.c).sum) (M.toNat+1)/\0<=M:=by
 obtain⟨k',v'⟩:=r';obtain⟨k,v⟩:=r;have ek:k'=k:=ar.k;subst ek;rcases nx with⟨e,rfl⟩ | ⟨e,x,rfl,ho⟩ | ⟨e,x,y,rfl,ho1,ho2,_⟩
 ·have e:k'=0:=e
  subst e;rcases hM with⟨_,rfl⟩ | ⟨h,_⟩
  ·refine⟨?_,by decide⟩
   have e2:v'.sg=v.sg:=ar.sg rfl;have e3:some [v.sg]=some pc:=mp;cases e3;rw[<- e2];show Gr rs (.tup [.int (n:Int)]) v'.n [v'.sg] (v'.c+0) 1;rw[Int.add_zero];exact .cell hn
  ·exact nomatch h
 ·have e:k'=3:=e
  subst e;rcases hM with⟨h,_⟩ | ⟨h,_⟩
  ·exact nomatch h
  ·have h:M=(x.k:Int):=Hn.mp h
   subst h;refine⟨?_,by omega⟩;have e2:v'.o1=v.o1:=ar.o1 (fun e:3=0=>by cases e);have e4:v'.t=v.t:=ar.t rfl;have e3:some (turned x.p v.t.toNat)=some pc:=mp;cases e3;rw[<- e4];show Gr rs (.tup [.int (n:Int),x.d]) v'.n (turned x.p v'.t.toNat) (v'.c+(x.c+0)) (((x.k:Int)).toNat+1);rw[Int.add_zero,Hv];have g:=gr x (by simp);rw[show x.nm=v'.o1 from(e2.trans ho).symm]at g;exact .turn hn g
 ·have e:k'=1\/k'=2:=e
  have g1:=gr x (by simp);have g2:=gr y (by simp);have e1:v'.o1=v.o1:=ar.o1 (fun e':k'=0=>by omega);have e2:v'.o2=v.o2:=ar.o2 e;rw[show x.nm=v'.o1 from(e1.trans ho1).symm]at g1;rw[show y.nm=v'.o2 from(e2.trans ho2).symm]at g2;have mp':d8 k' v' [x.p,y.p]=some pc:=by rcases e with rfl | rfl<;>exact mp
  rcases hM with⟨h,_⟩ | ⟨h,hm⟩
  ·exact nomatch h
  ·have h1:=hm (x.k:Int) (by simp)
   have h2:=hm (y.k:Int) (by simp);have h3:M=(x.k:Int)\/M=(y.k:Int):=by simpa using h
   have h4:M.toNat=max x.k y.k:=by omega
   refine⟨?_,by omega⟩;rw[h4];show Gr rs (.tup [.int (n:Int),x.d,y.d]) v'.n pc (v'.c+(x.c+(y.c+0))) (max x.k y.k+1);rw[Int.add_zero];exact .pair e hn g1 g2 mp'
theorem uQ{H:Hp}:∀{fs:List FI},(∀z∈fs,z.at H)->aS H ((fs.map FI.x).map SI.d) (fs.map FI.vt)
 | [],_=>aS.nil
 |z::fs,h=>aS.cons (h z (by simp)).2.1 (uQ fun y hy=>h y (by simp[hy]))
theorem qT{k:Nat}{v:RV}{ps:List bC}{pc:bC}(h:mm k ps)(m:d8 k v ps=some pc)(g:i' v.sg=true):∃r c,jg pc r c:=by
 cases h with
 |cell=>
  cases(show some [v.sg]=some pc from m);have:=ka g;exact⟨1,1,⟨rfl,fun x hx=>by rw[Hn.mp hx];exact this⟩,by decide,by decide,by decide,by decide⟩
 |beside h1 h2=>exact oQ (.inl rfl) h1 h2 m
 |above h1 h2=>exact oQ (.inr rfl) h1 h2 m
 | @turn p _ _ h=>cases(show some (turned p v.t.toNat)=some pc from m);exact rA h _
theorem br{c:Prop}[Decidable c]{A B:Prop}(hA:c->A)(hB:¬ c->B):if c then A else B:=by
 by_cases h:c
 ·rw[if_pos h];exact hA h
 ·rw[if_neg h];exact hB h
noncomputable def Kp(H:Hp)(lr:Addr)(H':Hp):Prop:=∃H0,ay H H0/\(H'=H0\/∃o,H'=aB H0 lr o)
theorem Kp.ne{H H':Hp}{lr a:Addr}{o:HO}(k:Kp H lr H')(h:H a=some o)(e:a≠lr):H' a=some o:=by
 obtain⟨H0,s,rfl | ⟨o',rfl⟩⟩:=k
 ·exact s _ _ h
 ·rw[ai e];exact s _ _ h
theorem Kp.fi{H H':Hp}{lr:Addr}{as:List Addr}{z:FI}(k:Kp H lr H')(hl:H lr=some (.lst (as.map V.ref)))(h:z.at H):z.at H':=by
 obtain⟨H0,s,rfl | ⟨o',rfl⟩⟩:=k
 ·exact h.up s
 ·exact(h.up s).put (s _ _ hl)
theorem Kp.st{H H':Hp}{lr:Addr}{as:List Addr}{bs:List Addr}{xs:List SI}(k:Kp H lr H')(hl:H lr=some (.lst (as.map V.ref)))(h:bD H bs xs):bD H' bs xs:=by
 obtain⟨H0,s,rfl | ⟨o',rfl⟩⟩:=k
 ·exact h.up s
 ·exact⟨h.1,fun i a x e1 e2=>((h.2 i a x e1 e2).up s).put (s _ _ hl)⟩
theorem Kp.same{G H H':Hp}{lr:Addr}(k:Kp H lr H')(s0:ay G H)(n:G lr=none):ay G H':=by
 obtain⟨H0,s,rfl | ⟨o',rfl⟩⟩:=k
 ·exact s0.trans s
 ·exact bK (s0.trans s) n
theorem vn{c:TT}{t u:TS}{D:jf}{σ:St}{H:Hp}(h:∀t' u',t'=t->u'=u->zr c t' u' D σ H):zr c t u D σ H:=h t u rfl rfl
structure Dx(p:bC)(sg:List Nat)(lr:Addr)(r r':Nat×RV)(n:Nat)(rs:List (Nat×RV))(ts':List Addr)(rs':List (Nat×RV))(H8 H9:Hp):Prop where
 rows:bV H9 lr ts' rs'
 at':rs'[n]?=some r'
 as':om r' r
 ro:∀r∈rs',ja p sg r
 len:rs'.length<=24
 le1:rs'.length<=rs.length+1
 up:∀{d nm p c k},Gr rs d nm p c k->Gr rs' d nm p c k
 kp:Kp H8 lr H9
theorem x4{p:bC}{sg:List Nat}{H8:Hp}{lr t:Addr}{b:Bool}{ts:List Addr}{rs:List (Nat×RV)}{r:Nat×RV}{Q:VK}{E:XK}(R:bV H8 lr ts rs)(hro:∀r∈rs,ja p sg r)(ht:H8 t=some (.tup (e7 r)))(hr:ja p sg r)(h24:rs.length<=24)
  (q1:∀(n:Nat) r' ts' rs' H9,Dx p sg lr r r' n rs ts' rs' H8 H9->Q (.int (n:Int)) H9) (q2:rs.length=24->∀H9,ay H8 H9->Q .non H9):jj [.ref lr,.ref t,.bl b] H8 Q E:=by
 refine⟨lr,t,b,ts,rs,r,rfl,R,fun x hx=>(hro x hx).good.k4,ht,hr.good.k4,h24,fun k r' H' hk har s=>q1 k r' ts rs H' ⟨R.up s,hk,har,hro,h24,by omega,fun h=>h,H',s,.inl rfl⟩,q2,fun hlt H0 s=>q1 rs.length r (ts++[t]) (rs++[r]) _ ⟨(R.up s).app (s _ _ ht),by simp,om.rfl' r,fun x hx=>?_,by simp;omega,by simp,fun h=>h.more r,H0,s,.inr ⟨_,rfl⟩⟩⟩;rcases Hz.mp hx with h | h
 ·exact hro x h
 ·rw[Hn.mp h];exact hr
theorem Ct(r:Nat×RV):gv (e7 r) 2=some (.int r.2.c):=by
 obtain⟨k,v⟩:=r
 match k with
 |0=>rfl
 |1=>rfl
 |2=>rfl
 |k+3=>rfl
theorem yR(r:Nat×RV):gv (e7 r) 1=some (.str (tx r.2.n)):=by
 obtain⟨k,v⟩:=r
 match k with
 |0=>rfl
 |1=>rfl
 |2=>rfl
 |k+3=>rfl
theorem bV.keep{H:Hp}{l m:Addr}{ts:List Addr}{rs:List (Nat×RV)}{us:List V}{o:HO}(h:bV H l ts rs)(hm:H m=some (.lst us))(e:l≠m):bV (aB H m o) l ts rs:=by
 obtain⟨h1,h2,h3⟩:=h;refine⟨by rw[ai e];exact h1,h2,fun i t r e1 e2=>?_⟩;have h4:=h3 i t r e1 e2;rw[ai (fun e=>by rw[e,hm]at h4;cases h4)];exact h4
theorem bD.add{H:Hp}{l np:Addr}{as:List Addr}{xs:List SI}{x:SI}{o:HO}{bs:List Addr}(h:bD H as xs)(hx:gN H np x)(hl:H l=some (.lst (bs.map V.ref))):bD (aB H l o) (as++[np]) (xs++[x]):=by
 refine⟨by simp[h.1],fun i a y e1 e2=>?_⟩
 by_cases hi:i<as.length
 ·rw[HM hi]at e1
  rw[HM (by rw[<- h.1];exact hi)]at e2;exact(h.2 i a y e1 e2).put hl
 ·rw[HL (by omega)]at e1
  rw[HL (by rw[<- h.1];omega),<- h.1]at e2;cases hj:i-as.length with
  |zero=>rw[hj]at e1 e2;cases e1;cases e2;exact hx.put hl
  |succ j=>rw[hj]at e1;simp at e1
noncomputable def DF(H:Hp)(p:bC)(sg:List Nat)(lr ls:Addr)(n i:Nat)(H':Hp):Prop:=ay H H'/\(∃ts rs,bV H' lr ts rs/\(∀r∈rs,ja p sg r)/\rs.length<=24/\∃as xs,H' ls=some (.lst (as.map V.ref))/\bD H' as xs/\(∀x∈xs,lj rs p x)/\(1<=i->xs≠[])/\(i=0->rs=[])/\xs.length<=i/\rs.length<=i)/\i<=n
noncomputable abbrev m8:Stmt:=gu 52
noncomputable def pQ:Sp:=fun vs H Q _=>∃(lc b:Addr) (cells:List Int) (p:bC) (sg:List Nat) (most:Int),vs=[.ref lc,.ref b,.str (tx sg),.int most]/\H lc=some (.lst (cells.map V.int))/\1<=cells.length/\cells.length<=100/\1<=most/\H b=some (.lst (aD p))/\p.length=4/\(∀r∈p,cB r=true)/\cU sg=true /\
 ∀tp lr ls ts rs as xs H',H' tp=some (.tup [.ref lr,.ref ls])->bV H' lr ts rs->(∀r∈rs,ja p sg r)->rs.length<=24->rs.length<=cells.length->H' ls=some (.lst (as.map V.ref))->bD H' as xs->(∀x∈xs,lj rs p x)->xs≠[]->xs.length<=100->lr≠ls->H lr=none->H ls=none->ay H H'->Q (.ref tp) H'
theorem vS:aF ["_law_cells","_law_names_here","_law_signs_here","_law_most","_law_rules","_law_stock","_law_cell_here","_law_told","_law_below","_law_picture","_law_many","_law_deep","_law_number_here","_law_tree","_law_cost"] ["_law_cells","_law_names_here","_law_signs_here","_law_most"] (ak m8):=by walk_at "c"
theorem vA{f:Addr}{fd:FuncData}(F:c_ K "_law_grown" "_law_grown" m8 f fd)(nb:NB mg)(nbsum:mg "sum"=none)(ztd:eX P w K mg base bH 4 "_law_next" ["_law_stock","_law_cell_here","_law_names_here","_law_signs_here"] qQ)(zEa:eX P w K mg base bH 3 "_law_put" ["_law_told","_law_pictures"] k9)(zWb:eX P w K mg base bH 1 "_law_number" ["_law_rules","_law_told","_law_again"] jj):bc P w K mg base bH 5 f fd ["_law_cells","_law_names_here","_law_signs_here","_law_most"] pQ:=by
 have sc:=vS;walk_at "f"
 ·obtain⟨lc,b,cells,p,sg,most,rfl,_⟩:=h;rfl
 ·obtain⟨lc,b,cells,p,sg,most,rfl,hlc,hc1,hc2,hm,hb,hp,hpn,hsg,q⟩:=h
  have hu:=hr.units;refine⟨_,(ag (aK (i:=4) sc.nd rfl (Or.inl rfl) (bv ad))
   (ag (aK (i:=5) sc.nd rfl (Or.inl rfl) (bv ad))
   (ag (bP PassesOwn.never rfl (dU (am 0)) (aH (i:=6) sc.nd rfl (Or.inl rfl))
   (ag (jy (aP ztd (hr.mono (by decide)) rfl bh (aa (am 5) (aa (am 6) (aa (am 1) (aa (am 2) ad))))) (fj (n:=2) rfl (aY (aH (i:=7) sc.nd rfl (Or.inl rfl)) (aY (aH (i:=8) sc.nd rfl (Or.inl rfl)) cM))))
   (ag (aK (i:=9) sc.nd rfl (Or.inl rfl) (aP zEa (hr.mono (by decide)) rfl bh (aa (am 7) (aa (bS ["_law_one"] [] rfl (bw.of (by kernel_rfl)) (by kernel_rfl) (dU (am 8))
    (fun _ _ _ _=>(aH (i:=0) (by show(["_law_one"]:List Str).Nodup;decide +kernel) rfl (Or.inl rfl))) (fun _ _ _ _=>bI) (fun _ _ _ _=>(az (ly (K:=K) rfl) (am 0) af (fun _ _=>rfl)))) ad))))
   (ag (aK (i:=10) sc.nd rfl (Or.inl rfl) (aq (a_.m0 bA) af (av (qU rfl) rfl nbsum zB (aa (bS ["_law_one"] [] rfl (bw.of (by kernel_rfl)) (by kernel_rfl) (dU (am 8))
    (fun _ _ _ _=>(aH (i:=0) (by show(["_law_one"]:List Str).Nodup;decide +kernel) rfl (Or.inl rfl))) (fun _ _ _ _=>bI) (fun _ _ _ _=>(az (ly (K:=K) rfl) (am 0) af (fun _ _=>rfl)))) ad))))
   (ag (aK (i:=11) sc.nd rfl (Or.inl rfl) (aq (a_.m0 bA) af (Bl rfl rfl nb.max (aa (bS ["_law_one"] [] rfl (bw.of (by kernel_rfl)) (by kernel_rfl) (dU (am 8))
    (fun _ _ _ _=>(aH (i:=0) (by show(["_law_one"]:List Str).Nodup;decide +kernel) rfl (Or.inl rfl))) (fun _ _ _ _=>bI) (fun _ _ _ _=>(az (ly (K:=K) rfl) (am 0) af (fun _ _=>rfl)))) ad) (AT af C4))))
   (ah (bg (PW.pt (kP (aA (a_.m0 oO) (aq (a_.m1 f_) (av aO rfl nb.len aQ (aa (am 9) ad)) (av ba rfl nb.len aQ (aa (az aV (am 9) af (fun _ _=>rfl)) ad))) (am 3) (aJ _)) (kP (aA (a_.m0 oO) (am 10) af (aJ _)) (lU (aA (a_.m0 oO) (am 11) af (aJ _))))))
   (ag (aK (i:=12) sc.nd rfl (Or.inl rfl) (aP zWb (hr.mono (by decide)) rfl bh (aa (am 4) (aa (am 7) (aa (lM dA (aq (a_.m1 aX) (aq (a_.m1 bi) (am 6) af) af) af (aJ _)) ad)))))
   (ah (bg (aA jV (am 12) cn (aJ _))
   (ag (aK (i:=13) sc.nd rfl (Or.inl rfl) (aq bX (aR (aa (am 12) ad)) (gQ km rfl nb.tuple lO (aa (bS ["_law_one"] [] rfl (bw.of (by kernel_rfl)) (by kernel_rfl) (dU (am 8))
    (fun _ _ _ _=>(aH (i:=0) (by show(["_law_one"]:List Str).Nodup;decide +kernel) rfl (Or.inl rfl))) (fun _ _ _ _=>bI) (fun _ _ _ _=>(az (ly (K:=K) rfl) (am 0) af (fun _ _=>rfl)))) ad))))
   (ag (aK (i:=14) sc.nd rfl (Or.inl rfl) (aq (a_.m0 bA) (az aC (az aV (am 4) (am 12) (fun _ _=>rfl)) af (fun _ _=>rfl)) (av (qU rfl) rfl nbsum zB (aa (bS ["_law_one"] [] rfl (bw.of (by kernel_rfl)) (by kernel_rfl) (dU (am 8))
    (fun _ _ _ _=>(aH (i:=0) (by show(["_law_one"]:List Str).Nodup;decide +kernel) rfl (Or.inl rfl))) (fun _ _ _ _=>bI) (fun _ _ _ _=>(az (ly (K:=K) rfl) (am 0) af (fun _ _=>rfl)))) ad))))
   (ah (bN (gb PySem.F.plainAttrs_list PySem.F.slot_list_append PySem.F.type_list_append b6 (am 5) (aa (aR (aa (am 13) (aa (az aC (az aV (am 4) (am 12) (fun _ _=>rfl)) af (fun _ _=>rfl)) (aa (am 9) (aa (am 14) (aa (am 10) (aa (am 11) ad))))))) ad))))))
   aN)))
   aN)))))))
   (ah (aI (aR (aa (am 4) (aa (am 5) ad)))))))),?_⟩
  walk_at "n";refine⟨HQ _,fun lr hlr=>h1 _ _ ?_⟩;walk_at "nc";refine⟨HQ _,fun ls hls=>h1 _ _ ?_⟩;walk_at "nc";have sA:=(ae (o:=.lst []) hlr).trans (ae (o:=.lst []) hls);refine⟨⟨_,aW.of (sA _ _ hlc)⟩,?_⟩;have flr:aB (aB H lr (.lst [])) ls (.lst []) lr=some (.lst []):=ae hls _ _ ac;have fls:aB (aB H lr (.lst [])) ls (.lst []) ls=some (.lst []):=ac;have hls0:H ls=none:=by
   by_cases e:ls=lr
   ·rw[e];exact hlr
   ·rwa [ai e]at hls
  have hne:lr≠ls:=fun e=>by rw[<- e,ac]at hls;cases hls
  generalize aB (aB H lr (.lst [])) ls (.lst [])=H1 at sA flr fls ⊢;refine mI (xs:=cells.map V.int) (fun i σ H'=>DF H p sg lr ls cells.length i H'/\∃z1 z2 z3 z4 z5 z6 z7 z8 z9,σ=[some (V.ref lc),some (V.ref b),some (V.str (tx sg)),some (V.int most),some (V.ref lr),some (V.ref ls),z1,z2,z3,z4,z5,z6,z7,z8,z9]) ⟨⟨sA,⟨[],[],⟨flr,rfl,fun i t r e=>by simp at e⟩,fun r hr=>(nomatch hr),by simp,[],[],fls,⟨rfl,fun i a x e=>by simp at e⟩,fun x hx=>(nomatch hx),fun h=>absurd h (by decide),fun _=>rfl,by simp,by simp⟩,HQ _⟩,_,_,_,_,_,_,_,_,_,rfl⟩ ?_ ?_ ?_
  ·rintro i σ H' _ ⟨⟨sm,_⟩,_⟩
   exact aW.of (sm _ _ hlc)
  ·rintro i x σ H' hx ⟨⟨sm,⟨ts,rs,R,hro,h24,as,xs,hst,hin,hgood,hn1,hn0,hxl,hrl⟩,hi⟩,z1,z2,z3,z4,z5,z6,z7,z8,z9,rfl⟩
   rw[Ho]at hx;obtain⟨c,hc,rfl⟩:=HU.mp hx;have hi1:i<cells.length:=(Hk.mp hc).1;have hsr:∀x∈xs,x.nm∈p/\∃r c,jg x.p r c:=fun x hx=>⟨(hgood x hx).nm,(hgood x hx).gr.pic6 (fun r hr=>(hro r hr).good)⟩;walk_at "o";refine⟨ls,b,c,as,xs,p,sg,rfl,hst,hin,sm _ _ hb,hp,hpn,hsg,hsr,by omega,fun tp t lb r bs ys H2 htp ht hr0 hlb hin2 hys hnx hlb0 s2=>?_⟩;refine⟨tp,rfl,_,bd.of htp,rfl,_,_,rfl,_,_,rfl,rfl,h2 _ _ ?_⟩;clear h2;obtain⟨fs,rfl,rfl,hfs⟩:=hin2.full;have hfl:fs.length<=2:=by rw[<- Hm (f:=FI.x)];rcases hnx with⟨_,e⟩ | ⟨_,x,e,_⟩ | ⟨_,x,y,e,_⟩<;>(rw[e];simp)
   walk_at "o";refine⟨⟨_,aW.of hlb⟩,?_⟩;refine fV ⟨_,rfl⟩ hlb hfs (by omega) (f:=fun z=>V.ref z.lp) (fun _=>rfl) fun H3 s3=>?_;have h6:∀y∈fs.map FI.x,∃r c,jg y.p r c:=fun y hy=>(hsr y (hys y hy)).2;obtain⟨hfit,hmade⟩:=yi hnx h6;obtain⟨pc,hpc⟩:=Option.ne_none_iff_exists'.mp hmade;refine fun pl hpl=>⟨t,pl,r,fs.map FI.lp,(fs.map FI.x).map SI.p,rfl,ae hpl _ _ (s3 _ _ ht),hr0.good.k4,hr0.good.good.t0,hr0.good.good.t7,⟨by rw[ac,HE];rfl,by simp,fun i h1 h2=>?_⟩,hfit,fun pc' hpc' lq H4 hlq s4=>h2 _ _ ?_,fun e=>absurd e hmade⟩
   ·simp only[List.getElem_map]
    exact ae hpl _ _ (s3 _ _ (hfs _ (Hu _)).2.2.1)
   clear h2;rw[hpc]at hpc';cases hpc';have s5:ay H2 H4:=(s3.trans (ae hpl)).trans s4;have hlb4:=s5 _ _ hlb;have hfs4:∀z∈fs,z.at H4:=fun z hz=>(hfs z hz).up s5;walk_at "o";refine⟨⟨_,aW.of hlb4⟩,?_⟩;refine fV ⟨_,rfl⟩ hlb4 hfs4 (by omega) (f:=fun z=>V.int z.x.m) (fun _=>rfl) fun H5 s6=>?_;refine fun l1 hl1=>⟨fs.map (fun z=>z.x.m),by rw[HE];exact aW.of ac,h2 _ _ ?_⟩;clear h2;have s7:=s5.trans (s6.trans (ae (o:=.lst (fs.map (fun z=>V.int z.x.m))) hl1));have hlq7:=(s6.trans (ae (o:=.lst (fs.map (fun z=>V.int z.x.m))) hl1)) _ _ hlq;generalize aB H5 l1 (.lst (fs.map (fun z=>V.int z.x.m)))=H6 at s7 hlq7 ⊢;obtain⟨many,hmany⟩:∃m,1+(fs.map (fun z=>z.x.m)).sum=m:=⟨_,rfl⟩;rw[hmany];clear s6 hl1 hlb4 hfs4 s5 hlq;have hlb6:=s7 _ _ hlb;have hfs6:∀z∈fs,z.at H6:=fun z hz=>(hfs z hz).up s7;walk_at "o";refine⟨⟨_,aW.of hlb6⟩,?_⟩;refine fV ⟨_,rfl⟩ hlb6 hfs6 (by omega) (f:=fun z=>V.int (z.x.k:Int)) (fun _=>rfl) fun H7 s8=>?_;refine fun l2 hl2=>⟨fs.map (fun z=>(z.x.k:Int)),by rw[HE];exact aW.of ac,fun M hM=>h2 _ _ ?_⟩;clear h2;have s9:=s7.trans (s8.trans (ae (o:=.lst (fs.map (fun z=>V.int (z.x.k:Int)))) hl2));have hlq9:=(s8.trans (ae (o:=.lst (fs.map (fun z=>V.int (z.x.k:Int)))) hl2)) _ _ hlq7;generalize aB H7 l2 (.lst (fs.map (fun z=>V.int (z.x.k:Int))))=H8 at s9 hlq9 ⊢;clear s8 hl2 hlb6 hfs6 s7 hlq7;have hx0:xs=[]->fs=[]/\r.1=0:=fun e=>by
    have hf0:fs=[]:=by
     cases fs with
     |nil=>rfl
     |cons z fs=>have:=hys z.x (by simp);rw[e]at this;exact nomatch this
    refine⟨hf0,?_⟩;rw[hf0]at hnx;rcases hnx with⟨e,_⟩ | ⟨_,x,e,_⟩ | ⟨_,x,y,e,_⟩
    ·exact e
    ·cases e
    ·cases e
   obtain⟨pr,pcc,pc6⟩:=qT hfit hpc hr0.good.good.sg;have s10:=s2.trans s9;have sH8:=sm.trans s10;have keep:xs≠[]->DF H p sg lr ls cells.length (i+1) H8:=fun hx=>⟨sH8,⟨ts,rs,R.up s10,hro,h24,as,xs,s10 _ _ hst,hin.up s10,hgood,fun _=>hx,fun h=>absurd h (by omega),by omega,by omega⟩,hi1⟩;have hpl:0<pc.length:=by rw[pc6.rc.1];exact pc6.r0
   have hrow:gv (aD pc) 0=some (V.str (tx pc[0])):=aU (j:=0) (bb hpl);have hr0l:(pc[0]).length=pcc:=pc6.rc.2 _ (Hu hpl);have hprl:(aD pc).length=pr:=by rw[au,pc6.rc.1]
   have hrl0:(tx pc[0]).length=pcc:=by rw[aE,hr0l]
   have b1:=pc6.r6;have b2:=pc6.c6;refine vn fun tb1 tb2 e1 e2=>?_;walk_at "wp";refine⟨_,aW.of hlq9,_,aW.of hlq9,_,hrow,_,rfl,by rw[hrl0];exact aj (by omega),.inl (by rw[hprl];omega),?_⟩;rw[hprl,hrl0];have hfirst:xs=[]->(pr:Int)*(pcc:Int)<=most/\many<=60/\1+M<=18:=fun e=>by
    obtain⟨e1,e2⟩:=hx0 e;subst e1;have e3:d8 0 r.2 []=some pc:=by rw[<- e2];exact hpc
    cases(show some [r.2.sg]=some pc from e3);have e4:pr=1:=pc6.rc.1.symm;have e5:pcc=1:=hr0l.symm.trans (ka hr0.good.good.sg);subst e4 e5;refine⟨by omega,by rw[<- hmany];decide,?_⟩;rcases hM with⟨_,rfl⟩ | ⟨h,_⟩
    ·decide
    ·exact nomatch h
   refine br (fun t1=>?_) (fun t1=>by rw[e2];walk_at "wp";exact keep fun e=>t1 (hfirst e).1);refine br (fun t2=>?_) (fun t2=>by rw[e2];walk_at "wp";exact keep fun e=>t2 (hfirst e).2.1);refine br (fun t3=>?_) (fun t3=>by rw[e2];walk_at "wp";exact keep fun e=>t3 (hfirst e).2.2);rw[e1];clear e1 e2;have hlb8:=s9 _ _ hlb;have hfs8:∀z∈fs,z.at H8:=fun z hz=>(hfs z hz).up s9;have hM':((fs.map FI.x).map (fun y=>(y.k:Int))=[]/\M=0)\/(M∈(fs.map FI.x).map (fun y=>(y.k:Int))/\∀a∈(fs.map FI.x).map (fun y=>(y.k:Int)),a<=M):=by
    rw[HE];exact hM
   have R8:=R.up s10;have st8:=s10 _ _ hst;have in8:=hin.up s10;refine ao fun N3 h3=>?_;walk_at "wp";refine x4 R8 hro (s9 _ _ ht) hr0 h24 (fun n r' ts' rs' H9 N=>h3 _ _ ?_) fun he H9 s11=>h3 _ _ ?_
   ·clear h3
    refine vn fun tb1 tb2 e1 e2=>?_;walk_at "wp";refine br (fun _=>?_) (fun e=>absurd (fun e=>by cases e) e);rw[e1];clear e1 e2;have hlbr:lb≠lr:=fun e=>by rw[e,R.1]at hlb0;cases hlb0
    have hlb9:=N.kp.ne hlb8 hlbr;have hfs9:∀z∈fs,z.at H9:=fun z hz=>N.kp.fi R8.1 (hfs8 z hz);refine ao fun N4 h4=>?_;walk_at "wp";refine⟨aj (by decide),fun p1 hp1=>⟨⟨_,aW.of (ae hp1 _ _ hlb9)⟩,?_⟩⟩;have e9:aB H9 p1 (.tup [V.int (n:Int)]) p1=some (.tup [V.int (n:Int)]):=ac;have s9':=ae (o:=.tup [V.int (n:Int)]) hp1;generalize aB H9 p1 (.tup [V.int (n:Int)])=H10 at e9 s9' ⊢;refine fV ⟨_,rfl⟩ (s9' _ _ hlb9) (fun z hz=>(hfs9 z hz).up s9') (by omega) (f:=fun z=>z.vt) (fun _=>rfl) fun H11 s11=>?_;intro l3 hl3;refine⟨_,.inl ⟨aW.of ac,fun l4 hl4=>?_⟩⟩;have sB:=(ae (o:=.lst (fs.map FI.vt)) hl3).trans (ae (o:=.tup (fs.map FI.vt)) hl4);refine dH (ae hl4 _ _ (ae hl3 _ _ (s11 _ _ e9))) ac (by simp) (by simp;omega) fun tr H12 htr s12=>h4 _ _ ?_;clear h4;refine ao fun N5 h5=>?_;walk_at "wp";have sC:=s9'.trans (s11.trans (sB.trans s12));have R12:=N.rows.up sC;obtain⟨tn,htn⟩:∃tn,ts'[n]?=some tn:=⟨_,Hj (by have:=(Hk.mp N.at').1;have:=N.rows.2.1;omega)⟩;have eat:gv (ts'.map V.ref) (n:Int)=some (V.ref tn):=aU (by rw[Ho,htn];rfl);have hrow':=R12.2.2 n tn r' htn N.at';refine⟨_,aW.of R12.1,_,eat,_,rfl,_,bd.of hrow',_,Ct r',⟨_,aW.of (sC _ _ hlb9)⟩,?_⟩;refine fV ⟨_,rfl⟩ (sC _ _ hlb9) (fun z hz=>(hfs9 z hz).up sC) (by omega) (f:=fun z=>V.int z.x.c) (fun _=>rfl) fun H13 s13=>?_;intro l5 hl5;have s14:=s13.trans (ae (o:=.lst (fs.map (fun z=>V.int z.x.c))) hl5);have e14:aB H13 l5 (.lst (fs.map (fun z=>V.int z.x.c))) l5=some (.lst ((fs.map (fun z=>z.x.c)).map V.int)):=by rw[ac,HE];rfl
    generalize aB H13 l5 (.lst (fs.map (fun z=>V.int z.x.c)))=H14 at s14 e14 ⊢;have st9:=N.kp.ne st8 hne.symm;have st14:=s14 _ _ (sC _ _ st9);have R14:=R12.up s14;have sD:=sC.trans s14;have sH9:=N.kp.same sH8 hlr;have hsum:(fs.map (fun z=>z.x.c)).sum=((fs.map FI.x).map SI.c).sum:=by rw[HE];rfl
    refine⟨_,aW.of e14,_,rfl,h5 _ _ ?_⟩;clear h5;walk_at "wp";refine⟨.inl ⟨rfl,_,aW.of st14⟩,_,aW.of R14.1,_,eat,_,rfl,_,bd.of (s14 _ _ hrow'),_,yR r',aj (by decide),fun np hnp=>⟨_,ae hnp _ _ st14,?_,?_⟩⟩
    ·rw[Hm,hin.1];exact bp (by omega)
    rw[hsum];obtain⟨gr,hM0⟩:=AU N.at' N.as' hnx (fun y hy=>N.up (hgood y (hys y hy)).gr) hpc hM';have hk:(1+M:Int)=((M.toNat+1:Nat):Int):=by omega
    rw[hk];have sE:=ae (o:=.tup [V.ref tr,V.str (tx r'.2.n),V.ref lq,V.int (r'.2.c+((fs.map FI.x).map SI.c).sum),V.int many,V.int ((M.toNat+1:Nat):Int)]) hnp;have eN:aB H14 np (.tup [V.ref tr,V.str (tx r'.2.n),V.ref lq,V.int (r'.2.c+((fs.map FI.x).map SI.c).sum),V.int many,V.int ((M.toNat+1:Nat):Int)]) np=some (.tup [V.ref tr,V.str (tx r'.2.n),V.ref lq,V.int (r'.2.c+((fs.map FI.x).map SI.c).sum),V.int many,V.int ((M.toNat+1:Nat):Int)]):=ac;generalize aB H14 np (.tup [V.ref tr,V.str (tx r'.2.n),V.ref lq,V.int (r'.2.c+((fs.map FI.x).map SI.c).sum),V.int many,V.int ((M.toNat+1:Nat):Int)])=H15 at sE eN ⊢;have sF:=sD.trans sE;have st15:=sE _ _ st14;have in15:bD H15 as xs:=(N.kp.st R8.1 in8).up sF;have hpcn:pc≠[]:=fun e=>by rw[e]at hpl;cases hpl
    have item:gN H15 np ⟨.tup (.int (n:Int)::(fs.map FI.x).map SI.d),r'.2.n,pc,r'.2.c+((fs.map FI.x).map SI.c).sum,many,M.toNat+1⟩:=
     ⟨V.ref tr,lq,eN,bu.node (sE _ _ (s14 _ _ htr)) (uQ fun z hz=>(hfs9 z hz).up sF),sF _ _ (N.kp.ne hlq9 (qb R8.1 hlq9 hpcn)),hpcn⟩
    have stk:=in15.add (o:=.lst (as.map V.ref++[V.ref np])) item st15;refine⟨bK (sH9.trans sF) hls0,⟨ts',rs',(R14.up sE).keep st15 hne,N.ro,N.len,as++[np],_,by rw[ac,Hy];rfl,stk,fun x hx=>?_,fun _=>by simp,fun h=>absurd h (by omega),by simp;omega,by have:=N.le1;omega⟩,hi1⟩;rcases Hz.mp hx with h | h
    ·exact⟨N.up (hgood x h).gr,(hgood x h).nm,(hgood x h).k1,(hgood x h).m1,(hgood x h).m2⟩
    ·rw[Hn.mp h]
     refine⟨gr,(N.ro _ (Hq N.at')).n,by show M.toNat+1<=18;omega,?_,t2⟩;have e:=xR (fs.map FI.x) fun y hy=>(hgood y (hys y hy)).m1;rw[HE]at e;have e1:m9 (.int (n:Int))=1:=by unfold m9;rfl
     have e2:m9 (.tup (.int (n:Int)::(fs.map FI.x).map SI.d))=m9 (.int (n:Int))+kt ((fs.map FI.x).map SI.d):=by rw[m9,kt]
     show many=(m9 (.tup (.int (n:Int)::(fs.map FI.x).map SI.d)):Int);rw[e2,e1,Int.natCast_add,HE,e,<- hmany];have e3:fs.map (fun z=>z.x.m)=(fs.map FI.x).map SI.m:=by rw[HE];rfl
     rw[e3]
     rfl
   ·clear h3
    refine vn fun tb1 tb2 e1 e2=>?_;walk_at "wp";rw[e2];walk_at "wp";have sx:=s10.trans s11;exact⟨sm.trans sx,⟨ts,rs,R.up sx,hro,h24,as,xs,sx _ _ hst,hin.up sx,hgood,fun _ e=>by(by_cases h0:i=0;rw[hn0 h0]at he;cases he;exact hn1 (by omega) e),fun h=>absurd h (by omega),by omega,by omega⟩,hi1⟩
  ·rintro σ H' ⟨⟨sm,⟨ts,rs,R,hro,h24,as,xs,hst,hin,hgood,hn1,hn0,hxl,hrl⟩,hi⟩,z1,z2,z3,z4,z5,z6,z7,z8,z9,rfl⟩
   refine h1 _ _ ?_;walk_at "wp";rw[Hm]at hn1 hxl hrl;exact⟨aj (by decide),fun tp htp=>q tp lr ls ts rs as xs _ ac (R.up (ae htp)) hro h24 hrl (ae htp _ _ hst) (hin.up (ae htp)) hgood (hn1 hc1) (by omega) hne hlr hls0 (sm.trans (ae htp))⟩
noncomputable abbrev jB:Stmt:=gu 53
noncomputable def lR(R:RC)(CG:Addr):Sp:=fun vs H Q _=>∃(l b:Addr) (p:bC) (sg st:List Nat) (ts:List Addr) (rs:List (Nat×RV)),vs=[.ref l,.ref b,.str (tx sg)]/\bV H l ts rs/\(∀r∈rs,jk r)/\rs.length<=24/\H b=some (.lst (aD p))/\p[0]?=some st/\sg.length<=100/\st.length<=100/\jm sg st rs=none/\∀b db as H',jM R H' CG db b sg st as rs->ay H H'->Q (.ref b) H'
theorem sK:aF ["_law_rules","_law_names_here","_law_signs_here"] ["_law_rules","_law_names_here","_law_signs_here"] (ak jB):=by walk_at "c"
theorem sd{R:RC}{f CG zba:Addr}{fd:FuncData}(F:c_ K "_law_grammar" "_law_grammar" jB f fd)(nb:NB mg)(gk:FN K CG)(zZa:eX P w K mg base bH 6 "_law_rule_made" ["_law_told"] (mG R))(zXb:ot P w K mg base (dM P w) 4 "Grammar" CG ["self","signs","start","rules"] (ic K R zba)):bc P w K mg base bH 7 f fd ["_law_rules","_law_names_here","_law_signs_here"] (lR R CG):=by
 have sc:=sK;walk_at "f"
 ·obtain⟨l,b,p,sg,st,ts,rs,rfl,_⟩:=h;rfl
 ·obtain⟨l,b,p,sg,st,ts,rs,rfl,o,hg,hn,hb,hp0,hsg,hst,g0,q⟩:=h
  refine⟨_,(ah (aI (lv (CX:=dM P w) zXb (hr.mono (by decide)) rfl b8 (aa (pv 2) (aa (az lW (pv 1) af (fun _ _=>rfl)) (aa (bS ["_law_told"] [] rfl (bw.of (by kernel_rfl)) (by kernel_rfl) (dU (pv 0))
    (fun _ _ _ _=>(aH (i:=0) (by show(["_law_told"]:List Str).Nodup;decide +kernel) rfl (Or.inl rfl))) (fun _ _ _ _=>bI) (fun _ _ _ _=>(aP zZa (hr.mono (by decide)) rfl bh (aa (pv 0) ad)))) ad)))))),?_⟩
  walk_at "wp";have h0:gv (aD p) 0=some (V.str (tx st)):=(show gv _ ((0:Nat):Int)=_ from aU (by unfold aD;rw[Ho,hp0];rfl));refine⟨_,aW.of hb,_,h0,⟨_,aW.of o.1⟩,vK o hg (by omega) fun as H2 s2 hA lr hlr x dx hx hdx hne=>?_⟩;have s3:ay H2 (aB H2 lr (.lst (as.map V.ref))):=ae hlr;have e3:aB H2 lr (.lst (as.map V.ref)) lr=some (.lst (as.map V.ref)):=ac;generalize aB H2 lr (.lst (as.map V.ref))=H3 at s3 e3 hx hdx ⊢;have sm4:ay H3 (aB (aB H3 dx (.own x)) x (.ins CG dx [])):=(ae hdx).trans (ae (by rw[ai (Ne.symm hne)];exact hx));refine⟨x,CG,dx,lr,sg,st,as,rs,rfl,ac,gk.cl.cl,gk.na,by omega,by omega,sm4 _ _ e3,(hA.up s3).up sm4,fun r hr=>(hg r hr).k4,by omega,(fun _ H4 lk pn t sx gA _ _ _=>⟨rfl,?_⟩),fun y hy=>nomatch hy.symm.trans g0⟩;exact q x dx _ H4 gA.f ((s2.trans s3).trans fun b u e=>sx b u (aG e hx) (sm4 b u e))
noncomputable abbrev mR:Stmt:=gu 54
noncomputable def pK(K:W.Frag)(R:RC)(CG:Addr):Sp:=fun vs H Q _=>∃(a:Addr) (ns:List Int) (most steps:Int),vs=[.ref a,.int most,.int steps]/\aW K H a (ns.map V.int)/\1<=most/\0<=steps/\steps<=19 /\
 ∀tp lr ls gr gd ga ts rs p sg st as xs H',H' tp=some (.tup [.ref lr,.ref ls,.ref gr])->bV H' lr ts rs->(∀r∈rs,ja p sg r)->rs.length<=24->p.length=4->(∀r∈p,cB r=true)->cU sg=true->p[0]?=some st->H' ls=some (.lst (as.map V.ref))->bD H' as xs->(∀x∈xs,lj rs p x)->xs≠[]->xs.length<=100->jM R H' CG gd gr sg st ga rs->ay H H'->Q (.ref tp) H'
theorem wm:aF ["_law_script","_law_most","_law_steps","_law_names_here","_law_signs_here","_law_many","_law_cells","_law_rules","_law_stock","_law_k"] ["_law_script","_law_most","_law_steps"] (ak mR):=by walk_at "c"
theorem ve{R:RC}{f CG:Addr}{fd:FuncData}(F:c_ K "_law_drawn" "_law_drawn" mR f fd)(nb:NB mg)(zma:eX P w K mg base bH 1 "_law_cell" ["_law_script","_law_k"] (mh K))(zFc:eX P w K mg base bH 1 "_law_names" ["_law_cell_here"] pw)(zGc:eX P w K mg base bH 1 "_law_signs" ["_law_cell_here","_law_most"] pJ)(zva:eX P w K mg base bH 1 "_law_drawn_rule" ["_law_cell_here","_law_names_here","_law_signs_here"] fJ)(zHc:eX P w K mg base bH 5 "_law_grown" ["_law_cells","_law_names_here","_law_signs_here","_law_most"] pQ)(zzb:eX P w K mg base bH 7 "_law_grammar" ["_law_rules","_law_names_here","_law_signs_here"] (lR R CG)):bc P w K mg base bH 8 f fd ["_law_script","_law_most","_law_steps"] (pK K R CG):=by
 have sc:=wm;walk_at "f"
 ·obtain⟨a,ns,most,steps,rfl,_⟩:=h;rfl
 ·obtain⟨a,ns,most,steps,rfl,ha,hm,hs0,hs19,q⟩:=h
  refine⟨_,(ag (aK (i:=3) sc.nd rfl (Or.inl rfl) (aP zFc (hr.mono (by decide)) rfl bh (aa (aP zma (hr.mono (by decide)) rfl bh (aa (am 0) (bE ad))) ad)))
   (ag (aK (i:=4) sc.nd rfl (Or.inl rfl) (aP zGc (hr.mono (by decide)) rfl bh (aa (aP zma (hr.mono (by decide)) rfl bh (aa (am 0) (bE ad))) (bE ad))))
   (ag (aK (i:=5) sc.nd rfl (Or.inl rfl) (aq (a_.m1 aX) (aP zma (hr.mono (by decide)) rfl bh (aa (am 0) (bE ad))) (aq (a_.m0 bA) (am 2) af)))
   (ag (aK (i:=6) sc.nd rfl (Or.inl rfl) (aq rR (bv (aa (aq (a_.m1 f_) (aq (a_.m1 bi) (aP zma (hr.mono (by decide)) rfl bh (aa (am 0) (bE ad))) af) af) ad)) (bS ["_law_k"] [0] rfl (bw.of (by kernel_rfl)) (by kernel_rfl) (bQ rfl nb.range (aa (am 5) ad))
    (fun _ _ _ _=>(aH (i:=0) (by show(["_law_k","_law_script"]:List Str).Nodup;decide +kernel) rfl (Or.inl rfl))) (fun _ _ _ _=>bI) (fun _ _ _ _=>(aP zma (hr.mono (by decide)) rfl bh (aa (am 1) (aa (aq (a_.m0 bA) af (am 0)) ad)))))))
   (ag (jy (aP zHc (hr.mono (by decide)) rfl bh (aa (am 6) (aa (am 3) (aa (am 4) (aa (am 1) ad))))) (fj (n:=2) rfl (aY (aH (i:=7) sc.nd rfl (Or.inl rfl)) (aY (aH (i:=8) sc.nd rfl (Or.inl rfl)) cM))))
   (ag (bP PassesOwn.never rfl (bQ rfl nb.range (aa (aq (a_.m1 aX) (aq (a_.m1 bi) (aP zma (hr.mono (by decide)) rfl bh (aa (am 0) (bE ad))) af) af) ad)) (aH (i:=9) sc.nd rfl (Or.inl rfl))
   (ah (bN (gb PySem.F.plainAttrs_list PySem.F.slot_list_append PySem.F.type_list_append b6 (am 7) (aa (aP zva (hr.mono (by decide)) rfl bh (aa (aP zma (hr.mono (by decide)) rfl bh (aa (am 0) (aa (aq (a_.m0 bA) af (am 9)) ad))) (aa (am 3) (aa (am 4) ad)))) ad)))))
   (ah (aI (aR (aa (am 7) (aa (am 8) (aa (aP zzb (hr.mono (by decide)) rfl bh (aa (am 7) (aa (am 3) (aa (am 4) ad)))) ad)))))))))))),?_⟩
  walk_at "n";refine⟨a,ns,0,rfl,ha,by omega,fun c0=>⟨c0,rfl,fun b p H1 hb0 hb hp hpn s1=>h1 _ _ ?_⟩⟩;walk_at "nc";refine⟨a,ns,1,rfl,s1.seq ha,by omega,fun c1=>⟨c1,rfl,fun sg H2 hsg s2=>h1 _ _ ?_⟩⟩;clear h1;have s02:=s1.trans s2;walk_at "n";refine⟨a,ns,7,rfl,s02.seq ha,by omega,fun c7=>⟨c7,rfl,by omega,h1 _ _ ?_⟩⟩;clear h1;obtain⟨mn,hmn⟩:∃mn:Nat,c7%(steps+1)=(mn:Int):=⟨_,(Iv (Ir _ (by omega))).symm⟩;have hmn2:mn<=19:=by have:=Iu c7 (b:=steps+1) (by omega);omega
  rw[hmn];walk_at "n";refine⟨a,ns,2,rfl,s02.seq ha,by omega,fun c2=>?_⟩;walk_at "wp";refine⟨aj (by decide),fun p0 hp0=>⟨by omega,by omega,?_⟩⟩;have s3:=ae (o:=.lst [V.int (c2/8*8)]) hp0;have e3:aB H2 p0 (.lst [V.int (c2/8*8)]) p0=some (.lst [V.int (c2/8*8)]):=ac;generalize aB H2 p0 (.lst [V.int (c2/8*8)])=H3 at s3 e3 ⊢;have s03:=s02.trans s3;rw[Hv];refine ij (fun i acc σ H'=>ay H3 H'/\i<=mn/\(∃cs:List Int,acc=cs.map V.int/\cs.length=i)/\∃z,σ=[z,some (V.ref a)]) ⟨fun _ _ e=>e,HQ _,⟨[],rfl,rfl⟩,_,rfl⟩ ?_ (fun i acc σ H' h=>h.2.1) ?_ ?_
  ·rintro i acc σ H' ⟨_,hi,⟨cs,rfl,hc⟩,_⟩
   rw[Hm,hc];exact bp (by omega)
  ·rintro i acc σ H' hi ⟨sm,_,⟨cs,rfl,hc⟩,z,rfl⟩
   walk_at "wp";exact⟨a,ns,8+i,by simp,(s03.trans sm).seq ha,by omega,fun c=>⟨sm,hi,⟨cs++[c],by simp,by simp[hc]⟩⟩⟩
  rintro acc σ H4 ⟨s4,_,⟨cs,rfl,hc⟩,_⟩;intro l1 hl1;refine⟨_,ae hl1 _ _ (s4 _ _ e3),_,ac,?_,fun lc hlc=>h1 _ _ ?_⟩
  ·rw[Hm,hc];exact aj (by simp;omega)
  clear h1;have s5:=s4.trans ((ae (o:=.lst (cs.map V.int)) hl1).trans (ae (o:=.lst ([V.int (c2/8*8)]++cs.map V.int)) hlc));have e5:aB (aB H4 l1 (.lst (cs.map V.int))) lc (.lst ([V.int (c2/8*8)]++cs.map V.int)) lc=some (.lst ((c2/8*8::cs).map V.int)):=ac;generalize aB (aB H4 l1 (.lst (cs.map V.int))) lc (.lst ([V.int (c2/8*8)]++cs.map V.int))=H5 at s5 e5 ⊢;have s05:=s03.trans s5;have hb5:=s5 _ _ (s3 _ _ (s2 _ _ hb));walk_at "n";refine⟨lc,b,_,p,sg,most,rfl,e5,by simp,by simp;omega,hm,hb5,hp,hpn,hsg,fun tp lr ls ts rs as xs H6 htp hR hro h24 hcl hst hin hgood hx0 hxl hne hlr hls s6=>⟨tp,rfl,_,bd.of htp,rfl,_,_,rfl,_,_,rfl,rfl,h1 _ _ ?_⟩⟩;clear h1;have s06:=s05.trans s6;have hlr0:=fR s05 hlr;have hls0:=fR s05 hls;have hcl':rs.length<=20:=by simp at hcl;omega
  walk_at "n";refine⟨a,ns,7,rfl,s06.seq ha,by omega,fun c7'=>⟨c7',rfl,?_⟩⟩;obtain⟨ex,hex⟩:∃ex:Nat,c7'/17%5=(ex:Int):=⟨_,(Iv (Ir _ (by omega))).symm⟩;have hex2:ex<=4:=by have:=Iu (c7'/17) (b:=5) (by omega);omega
  rw[hex,Hv];refine⟨by omega,by omega,?_⟩;have hb6:=s6 _ _ hb5;refine eQ (fun i σ H'=>ay H H'/\H' b=some (.lst (aD p))/\(∃ts rs,bV H' lr ts rs/\(∀r∈rs,ja p sg r)/\rs.length<=20+i/\H' ls=some (.lst (as.map V.ref))/\bD H' as xs/\(∀x∈xs,lj rs p x))/\∃z,σ=[some (V.ref a),some (V.int most),some (V.int steps),some (V.ref b),some (V.str (tx sg)),some (V.int (mn:Int)),some (V.ref lc),some (V.ref lr),some (V.ref ls),z]) ⟨s06,hb6,⟨ts,rs,hR,hro,hcl',hst,hin,hgood⟩,_,rfl⟩ ?_ ?_
  ·rintro i σ H' hi ⟨sm,hb',⟨ts,rs,hR,hro,hrl,hst,hin,hgood⟩,z,rfl⟩
   walk_at "wp";refine⟨.inl ⟨rfl,_,aW.of hR.1⟩,a,ns,24+i,by simp,sm.seq ha,by omega,fun c=>⟨c,b,p,sg,rfl,hb',hp,hpn,hsg,fun t r H7 hr0 ht _ s7=>?_⟩⟩;have hR7:=hR.up s7;have hlb:b≠lr:=fun e=>by rw[e,hlr]at hb5;cases hb5
   refine⟨_,hR7.1,by rw[Hm,hR.2.1];exact bp (by omega),?_⟩;refine⟨bK (sm.trans s7) hlr0,by rw[ai hlb];exact s7 _ _ hb',ts++[t],rs++[r],hR7.app ht,fun x hx=>?_,by simp;omega,by rw[ai hne.symm];exact s7 _ _ hst,⟨hin.1,fun i a x e1 e2=>((hin.2 i a x e1 e2).up s7).put hR7.1⟩,fun x hx=>(hgood x hx).more r⟩;rcases Hz.mp hx with h | h
   ·exact hro x h
   ·rw[Hn.mp h];exact hr0
  rintro σ H7 ⟨sm,hb',⟨ts,rs,hR,hro,hrl,hst,hin,hgood⟩,z,rfl⟩;refine h1 _ _ ?_;walk_at "wp";have hp0:p[0]?=some (p[0]'(by omega)):=Hj (by omega);have hstl:=jZ (hpn _ (Hu (show 0<p.length by omega)));have hsl:=kQ hsg;refine⟨lr,b,p,sg,_,ts,rs,rfl,hR,fun r hr=>(hro r hr).good,by omega,hb',hp0,by omega,by omega,xr hsg (Hu _) hpn (by omega) (by omega) hro,fun gr gd ga H8 g8 s8=>⟨aj (by decide),fun tq htq=>?_⟩⟩;have s9:=s8.trans (ae (o:=.tup [V.ref lr,V.ref ls,V.ref gr]) htq);exact q tq lr ls gr gd ga ts rs p sg _ as xs _ ac (hR.up s9) hro (by omega) hp hpn hsg hp0 (s9 _ _ hst) (hin.up s9) hgood hx0 hxl (g8.up (ae htq)) (sm.trans s9)
inductive aM where
 |n0:Int->aM
 |n1:Int->aM->aM
 |n2:Int->aM->aM->aM
noncomputable def aM.i:aM->Int
 | .n0 i=>i
 | .n1 i _=>i
 | .n2 i _ _=>i
noncomputable def aM.ps:aM->List aM
 | .n0 _=>[]
 | .n1 _ a=>[a]
 | .n2 _ a b=>[a,b]
noncomputable def aM.d:aM->Dt
 | .n0 i=>.tup [.int i]
 | .n1 i a=>.tup [.int i,a.d]
 | .n2 i a b=>.tup [.int i,a.d,b.d]
noncomputable def aM.cnt:aM->Nat
 | .n0 _=>1
 | .n1 _ a=>a.cnt+1
 | .n2 _ a b=>a.cnt+b.cnt+1
noncomputable def aM.dep:aM->Nat
 | .n0 _=>1
 | .n1 _ a=>a.dep+1
 | .n2 _ a b=>max a.dep b.dep+1
theorem aM.d_eq(t:aM):t.d=.tup (.int t.i::t.ps.map aM.d):=by cases t<;>rfl
theorem aM.val{H:Hp}{v:V}{t:aM}(h:bu H t.d v):∃a vs,v=.ref a/\H a=some (.tup (.int t.i::vs))/\aS H (t.ps.map aM.d) vs:=by
 rw[t.d_eq]at h;unfold bu at h;obtain⟨a,xs,rfl,hta,hts⟩:=h;obtain⟨x0,ys,rfl,hx0,htr⟩:=hts.uncons;unfold bu at hx0;subst hx0;exact⟨a,ys,rfl,hta,htr⟩
theorem aM.of{H:Hp}{a:Addr}{vs:List V}{t:aM}(h:H a=some (.tup (.int t.i::vs)))(k:aS H (t.ps.map aM.d) vs):bu H t.d (.ref a):=by
 rw[t.d_eq];exact bu.node h k
theorem aM.lt{s t:aM}(h:s∈t.ps):s.dep<t.dep/\s.cnt<t.cnt:=by
 cases t with
 |n0 i=>exact nomatch h
 |n1 i a=>rw[Hn.mp h];simp only[aM.dep,aM.cnt];omega
 |n2 i a b=>
  rcases HF.mp h with rfl | h
  ·simp only[aM.dep,aM.cnt];omega
  ·rw[Hn.mp h];simp only[aM.dep,aM.cnt];omega
theorem aM.plen(t:aM):t.ps.length<=2:=by cases t<;>simp[aM.ps]
theorem aM.cnt1(t:aM):1<=t.cnt:=by cases t<;>simp[aM.cnt]
theorem aM.dep1(t:aM):1<=t.dep:=by cases t<;>simp[aM.dep]
theorem aM.cnt_eq(t:aM):t.cnt=1+(t.ps.map aM.cnt).sum:=by cases t<;>simp[aM.cnt,aM.ps]<;>omega
noncomputable def kH(i:Int):List aM->aM
 | []=>.n0 i
 | [a]=>.n1 i a
 |a::b::_=>.n2 i a b
theorem zg(i:Int)(ds:List aM):(kH i ds).i=i:=by
 match ds with
 | []=>rfl
 | [a]=>rfl
 |a::b::_=>rfl
theorem vP(i:Int){ds:List aM}(h:ds.length<=2):(kH i ds).ps=ds:=by
 match ds,h with
 | [],_=>rfl
 | [a],_=>rfl
 | [a,b],_=>rfl
 |a::b::c::_,h=>simp at h
noncomputable def Sub:List Nat->aM->Option aM
 | [],t=>some t
 |k::pl,t=>match t.ps[k]? with
  |some s=>Sub pl s
  |none=>none
theorem Sub.app{s t:aM}{k:Nat}{r:aM}:∀{pl:List Nat} {t:aM},Sub pl t=some s->s.ps[k]?=some r->Sub (pl++[k]) t=some r
 | [],t,h,e=>by cases h;simp[Sub,e]
 |j::pl,t,h,e=>by
  rw[List.cons_append];unfold Sub at h ⊢;cases hj:t.ps[j]? with
  |none=>rw[hj]at h;cases h
  |some u=>rw[hj]at h;exact Sub.app (t:=t) h e
theorem Sub.len{s:aM}:∀{pl:List Nat} {t:aM},Sub pl t=some s->pl.length+s.dep<=t.dep
 | [],t,h=>by cases h;simp
 |j::pl,t,h=>by
  unfold Sub at h;cases hj:t.ps[j]? with
  |none=>rw[hj]at h;cases h
  |some u=>
   rw[hj]at h;have:=Sub.len h;have:=(aM.lt (Hq hj)).1;simp;omega
noncomputable def iK(f:aM):List Nat->aM->aM
 | [],_=>f
 |k::pl,t=>match t.ps[k]? with
  |some s=>kH t.i (t.ps.set k (iK f pl s))
  |none=>t
theorem w8{t s u:aM}{k:Nat}(h:t.ps[k]?=some s):(kH t.i (t.ps.set k u)).cnt+s.cnt=t.cnt+u.cnt/\(kH t.i (t.ps.set k u)).dep<=max t.dep (u.dep+1):=by
 cases t with
 |n0 i=>simp[aM.ps]at h
 |n1 i a=>
  match k,h with
  |0,h=>cases h;simp only[aM.ps,aM.i,List.set_cons_zero,kH,aM.cnt,aM.dep];omega
  |k+1,h=>simp[aM.ps]at h
 |n2 i a b=>
  match k,h with
  |0,h=>cases h;simp only[aM.ps,aM.i,List.set_cons_zero,kH,aM.cnt,aM.dep];omega
  |1,h=>cases h;simp only[aM.ps,aM.i,List.set_cons_zero,List.set_cons_succ,kH,aM.cnt,aM.dep];omega
  |k+2,h=>simp[aM.ps]at h
theorem qN{f s:aM}:∀{pl:List Nat} {t:aM},Sub pl t=some s->(iK f pl t).cnt<=t.cnt+f.cnt/\(iK f pl t).dep<=t.dep+f.dep
 | [],t,h=>by simp[iK]
 |k::pl,t,h=>by
  unfold Sub at h;unfold iK;cases hj:t.ps[k]? with
  |none=>rw[hj]at h;cases h
  |some u=>
   rw[hj]at h;obtain⟨h1,h2⟩:=qN (f:=f) h;obtain⟨h3,h4⟩:=w8 (u:=iK f pl u) hj;have:=(aM.lt (Hq hj)).1;show(kH t.i (t.ps.set k (iK f pl u))).cnt<=_/\(kH t.i (t.ps.set k (iK f pl u))).dep<=_;omega
theorem wI:∀(t:aM),m9 t.d=t.cnt
 | .n0 i=>by simp only[aM.d,m9,kt,aM.cnt]
 | .n1 i a=>by simp only[aM.d,m9,kt,aM.cnt,wI a];omega
 | .n2 i a b=>by simp only[aM.d,m9,kt,aM.cnt,wI a,wI b];omega
theorem Gr.tre{rs:List (Nat×RV)}{k:Nat}{d:Dt}{nm:List Nat}{p:bC}{c:Int}(g:Gr rs d nm p c k):∃t:aM,d=t.d/\t.dep<=k:=by
 induction g with
 | @cell n v e=>exact⟨.n0 n,rfl,HP _⟩
 | @turn n v d p c k e g ih=>
  obtain⟨t,rfl,h⟩:=ih;exact⟨.n1 n t,rfl,by simp only[aM.dep];omega⟩
 | @pair n kd v d1 d2 p1 p2 p c1 c2 k1 k2 hk e g1 g2 m ih1 ih2=>
  obtain⟨t,rfl,h⟩:=ih1;obtain⟨u,rfl,h'⟩:=ih2;exact⟨.n2 n t u,rfl,by simp only[aM.dep];omega⟩
theorem aM.d_inj:∀{s t:aM},s.d=t.d->s=t
 | .n0 i,.n0 j,h=>by simp only[aM.d,Dt.tup.injEq,List.cons.injEq,Dt.int.injEq,and_true]at h;rw[h]
 | .n1 i a,.n1 j b,h=>by simp only[aM.d,Dt.tup.injEq,List.cons.injEq,Dt.int.injEq,and_true]at h;rw[h.1,aM.d_inj h.2]
 | .n2 i a b,.n2 j a' b',h=>by simp only[aM.d,Dt.tup.injEq,List.cons.injEq,Dt.int.injEq,and_true]at h;rw[h.1,aM.d_inj h.2.1,aM.d_inj h.2.2]
 | .n0 i,.n1 j b,h=>by simp[aM.d]at h
 | .n0 i,.n2 j a b,h=>by simp[aM.d]at h
 | .n1 i b,.n0 j,h=>by simp[aM.d]at h
 | .n1 i c,.n2 j a b,h=>by simp[aM.d]at h
 | .n2 j a b,.n0 i,h=>by simp[aM.d]at h
 | .n2 j a b,.n1 i c,h=>by simp[aM.d]at h
noncomputable def jS(pl:List Nat):List V:=pl.map fun(k:Nat)=>V.int (k:Int)
theorem nA{α:Type}(x:α)(xs:List α):gv (x::xs) 0=some x:=show gv (x::xs) ((0:Nat):Int)=some x from aU rfl
theorem q9{H:Hp}:∀{ds:List Dt} {xs:List V},aS H ds xs->∀{j:Nat} {x:V},xs[j]?=some x->∃d,ds[j]?=some d/\bu H d x
 | [],_,h,j,x,e=>by unfold aS at h;subst h;simp at e
 |d::ds,xs,h,j,x,e=>by
  obtain⟨y,r,rfl,h1,h2⟩:=h.uncons
  match j,e with
  |0,e=>cases e;exact⟨d,rfl,h1⟩
  |j+1,e=>exact q9 h2 e
theorem gP{H:Hp}{t:aM}{vs:List V}{j:Nat}{x:V}(h:aS H (t.ps.map aM.d) vs)(e:vs[j]?=some x):∃s,t.ps[j]?=some s/\bu H s.d x:=by
 obtain⟨d,h1,h2⟩:=q9 h e;rw[Ho]at h1;obtain⟨s,hs,rfl⟩:=HU.mp h1;exact⟨s,hs,h2⟩
theorem bL{H:Hp}{t:aM}{vs:List V}(h:aS H (t.ps.map aM.d) vs):vs.length=t.ps.length:=by rw[h.length,Hm]
theorem Be(x:V)(ys:List V):dZ (x::ys) (some 1) none=ys:=by
 unfold dZ;rw[show(some 1:Option Int)=some ((1:Nat):Int) from rfl,HT.sIx_nat,HT.sIx_none,Iw (by simp)];exact List.take_of_length_le (by simp)
theorem BJ(x:V)(ys:List V):¬ (HT.sIx (x::ys).length 0 (some 1)=0/\HT.sIx (x::ys).length (x::ys).length none=(x::ys).length):=by
 rw[show(some 1:Option Int)=some ((1:Nat):Int) from rfl,HT.sIx_nat,Iw (by simp)];exact fun h=>absurd h.1 (by decide)
noncomputable def NL(H H':Hp):Prop:=∀b o,H b=some o->(∀xs,o≠.lst xs)->H' b=some o
theorem NL.of{H H':Hp}(s:ay H H'):NL H H':=fun b o h _=>s b o h
theorem NL.trans{H H1 H2:Hp}(a:NL H H1)(b:NL H1 H2):NL H H2:=fun c o h n=>b c o (a c o h n) n
theorem NL.put{H:Hp}{l:Addr}{xs:List V}{o:HO}(h:H l=some (.lst xs)):NL H (aB H l o):=fun b u hb n=>by
 rw[ai (fun e=>by rw[e,h]at hb;cases hb;exact n _ rfl)];exact hb
theorem NL.tup{H H':Hp}(a:NL H H'):cu H H':=fun b xs h=>a b _ h (fun _ e=>by cases e)
theorem NL.sqT{H H':Hp}{a:Addr}{xs:List V}(e:NL H H')(h:bd K H a xs):bd K H' a xs:=by
 rcases h with(h | ⟨o,h⟩) | h
 ·exact .inl (.inl (e _ _ h (fun _ e=>by cases e)))
 ·exact .inl (.inr ⟨o,e _ _ h (fun _ e=>by cases e)⟩)
 ·exact .inr h
structure PI where
 a:Addr
 v:V
 p:Addr
 s:aM
 pl:List Nat
noncomputable def PI.at(K:W.Frag)(H:Hp)(t:aM)(x:PI):Prop:=H x.a=some (.tup [x.v,.ref x.p])/\bu H x.s.d x.v/\bd K H x.p (jS x.pl)/\Sub x.pl t=some x.s
theorem PI.at.up{H H':Hp}{t:aM}{x:PI}(h:x.at K H t)(n:NL H H'):x.at K H' t:=⟨n.tup _ _ h.1,h.2.1.up n.tup _,n.sqT h.2.2.1,h.2.2.2⟩
noncomputable def uS(K:W.Frag)(H:Hp)(t:aM)(ps:List Addr):Prop:=∀p∈ps,∃pl s,bd K H p (jS pl)/\Sub pl t=some s
theorem uS.up{H H':Hp}{t:aM}{ps:List Addr}(h:uS K H t ps)(n:NL H H'):uS K H' t ps:=fun p hp=>by
 obtain⟨pl,s,h1,h2⟩:=h p hp;exact⟨pl,s,n.sqT h1,h2⟩
noncomputable def iW(xs:List PI):Nat:=(xs.map fun x=>x.s.cnt).sum
theorem oG(xs ys:List PI):iW (xs++ys)=iW xs+iW ys:=by unfold iW;rw[Hy,List.sum_append]
theorem tT(x:PI):iW [x]=x.s.cnt:=by unfold iW;simp
theorem pX:∀(xs:List PI),xs.length<=iW xs
 | []=>by simp[iW]
 |x::xs=>by have:=pX xs;have:=x.s.cnt1;unfold iW at *;simp;omega
theorem fP(pl:List Nat):(jS pl).length=pl.length:=by unfold jS;simp
theorem lw(pl:List Nat)(k:Nat):jS pl++[V.int (k:Int)]=jS (pl++[k]):=by unfold jS;simp
noncomputable def DQ(K:W.Frag)(H:Hp)(v:V)(t:aM)(lf ll:Addr)(m:Nat)(σ:St)(H':Hp):Prop:=ay H H'/\(∃(xs:List PI) (ps:List Addr),H' ll=some (.lst (xs.map fun x=>V.ref x.a))/\(∀x∈xs,x.at K H' t)/\H' lf=some (.lst (ps.map V.ref))/\uS K H' t ps/\ps.length+iW xs<=t.cnt/\(ps=[]->xs≠[])/\m=iW xs)/\∃z1 z2 z3,σ=[some v,some (V.ref lf),some (V.ref ll),z1,z2,z3]
noncomputable abbrev kz:Stmt:=gu 56
noncomputable def nB(K:W.Frag):Sp:=fun vs H Q _=>∃(v:V) (t:aM),vs=[v]/\bu H t.d v/\t.cnt<=1000/\t.dep<=100/\∀l ps H',H' l=some (.lst (ps.map V.ref))->uS K H' t ps->ps≠[]->ps.length<=1000->ay H H'->Q (.ref l) H'
theorem uH:aF ["_law_tree","_law_found","_law_left","_law_here","_law_place","_law_k"] ["_law_tree"] (ak kz):=by walk_at "c"
theorem uA{f:Addr}{fd:FuncData}(F:c_ K "_law_places" "_law_places" kz f fd)(nb:NB mg):bc P w K mg base bH 1 f fd ["_law_tree"] (nB K):=by
 have sc:=uH;walk_at "f"
 ·obtain⟨v,t,rfl,_⟩:=h;rfl
 ·obtain⟨v,t,rfl,ht,hc,hd,q⟩:=h
  refine⟨_,(ag (aK (i:=1) sc.nd rfl (Or.inl rfl) (bv ad))
   (ag (aK (i:=2) sc.nd rfl (Or.inl rfl) (bv (aa (aR (aa (am 0) (aa (aR ad) ad))) ad)))
   (ag (uJ PassesOwn.never (aA (a_.m0 jb) (av aO rfl nb.len aQ (aa (am 2) ad)) af (aJ _)) (ag (jy (yZ PySem.F.plainAttrs_list PySem.F.slot_list_pop PySem.F.type_list_pop AA (am 2)) (fj (n:=2) rfl (aY (aH (i:=3) sc.nd rfl (Or.inl rfl)) (aY (aH (i:=4) sc.nd rfl (Or.inl rfl)) cM))))
   (ag (bN (gb PySem.F.plainAttrs_list PySem.F.slot_list_append PySem.F.type_list_append b6 (am 1) (aa (am 4) ad)))
   (ah (bP PassesOwn.never rfl (Br rfl nb.reversed rfl nb.range (bE (aa (av eM rfl nb.len aQ (aa (am 3) ad)) ad))) (aH (i:=5) sc.nd rfl (Or.inl rfl))
   (ah (bN (gb PySem.F.plainAttrs_list PySem.F.slot_list_append PySem.F.type_list_append b6 (am 2) (aa (aR (aa (az aC (am 3) (am 5) (fun _ _=>rfl)) (aa (aq lu (am 4) (aR (aa (aq (a_.m0 i6) (am 5) af) ad))) ad))) ad)))))))))
   (ah (aI (am 1)))))),?_⟩
  walk_at "n";refine⟨HQ _,fun lf hlf=>h1 _ _ ?_⟩;clear h1;have s1:=ae (o:=.lst []) hlf;have e1:aB H lf (.lst []) lf=some (.lst []):=ac;generalize aB H lf (.lst [])=H1 at s1 e1 ⊢;walk_at "n";refine⟨HQ _,fun p1 hp1=>⟨aj (by decide),fun p2 hp2=>⟨aj (by decide),fun ll hll=>h1 _ _ ?_⟩⟩⟩;clear h1;have sA:=ae (o:=.tup []) hp1;have eA:aB H1 p1 (.tup []) p1=some (.tup []):=ac;generalize aB H1 p1 (.tup [])=H2 at sA eA hp2 hll ⊢;have sB:=ae (o:=.tup [v,V.ref p1]) hp2;have eB:aB H2 p2 (.tup [v,V.ref p1]) p2=some (.tup [v,V.ref p1]):=ac;generalize aB H2 p2 (.tup [v,V.ref p1])=H3 at sB eB hll ⊢;have sC:=ae (o:=.lst [V.ref p2]) hll;have eC:aB H3 ll (.lst [V.ref p2]) ll=some (.lst [V.ref p2]):=ac;have hne:lf≠ll:=fun e=>by rw[<- e,sB _ _ (sA _ _ e1)]at hll;cases hll
  have s13:=sA.trans sB;have hll0:H ll=none:=fR (s1.trans s13) hll;generalize aB H3 ll (.lst [V.ref p2])=H4 at sC eC ⊢;have s14:=s13.trans sC;have s04:=s1.trans s14;walk_at "n";have hcp:iW [⟨p2,v,p1,t,[]⟩]=t.cnt:=tT _;refine⟨DQ K H v t lf ll,⟨_,s04,⟨[⟨p2,v,p1,t,[]⟩],[],eC,fun x hx=>?_,s14 _ _ e1,(fun p hp=>nomatch hp),?_,fun _=>by simp,rfl⟩,_,_,_,rfl⟩,?_⟩
  ·rw[Hn.mp hx]
   exact⟨sC _ _ eB,ht.up (cu.of s04) _,bd.of (sC _ _ (sB _ _ eA)),rfl⟩
  ·rw[hcp];simp
  rintro m σ H' ⟨sm,⟨xs,ps,hl',hxs,hf',hps,hcnt,hne0,rfl⟩,z1,z2,z3,rfl⟩;have hxl:=pX xs;walk_at "wp";refine⟨_,aW.of hl',?_⟩;rw[Hm];rcases List.eq_nil_or_concat xs with rfl | ⟨ys,x,hyx⟩
  ·rw[if_neg (by simp)]
   refine h1 _ _ ?_;walk_at "wp";have hpn:ps≠[]:=fun e=>hne0 e rfl;exact q lf ps H' hf' hps hpn (by omega) sm
  rw[Iz]at hyx;subst hyx;rw[if_pos (by simp)];refine⟨fun σ2 H2=>∃m',m'<iW (ys++[x])/\DQ K H v t lf ll m' σ2 H2,fun σ' H' h=>h,?_⟩;obtain⟨hxa,hxt,hxp,hxs'⟩:=hxs x (by simp);have lst1:((ys++[x]).map fun x=>V.ref x.a)[((ys++[x]).map fun x=>V.ref x.a).length-1]?=some (V.ref x.a):=by simp
  have lst2:((ys++[x]).map fun x=>V.ref x.a).dropLast=ys.map fun x=>V.ref x.a:=by rw[Hy];simp
  have n2:NL H' (aB H' ll (.lst (ys.map fun x=>V.ref x.a))):=NL.put hl';have l2:aB H' ll (.lst (ys.map fun x=>V.ref x.a)) ll=some (.lst (ys.map fun x=>V.ref x.a)):=ac;have f2:aB H' ll (.lst (ys.map fun x=>V.ref x.a)) lf=some (.lst (ps.map V.ref)):=by rw[ai hne];exact hf'
  have s2:ay H (aB H' ll (.lst (ys.map fun x=>V.ref x.a))):=bK sm hll0;refine⟨.inl ⟨rfl,_,aW.of hl'⟩,_,hl',_,lst1,_,rfl,?_⟩;rw[lst2];generalize aB H' ll (.lst (ys.map fun x=>V.ref x.a))=H2 at n2 l2 f2 s2 ⊢;refine⟨_,bd.of (n2.tup _ _ hxa),rfl,_,_,rfl,_,_,rfl,rfl,.inl ⟨rfl,_,aW.of f2⟩,_,f2,by rw[Hm];exact bp (by omega),?_⟩;have n3:NL H2 (aB H2 lf (.lst (ps.map V.ref++[V.ref x.p]))):=NL.put f2;have l3:aB H2 lf (.lst (ps.map V.ref++[V.ref x.p])) ll=some (.lst (ys.map fun x=>V.ref x.a)):=by rw[ai hne.symm];exact l2
  have f3:aB H2 lf (.lst (ps.map V.ref++[V.ref x.p])) lf=some (.lst ((ps++[x.p]).map V.ref)):=by rw[ac];simp
  have s3:ay H (aB H2 lf (.lst (ps.map V.ref++[V.ref x.p]))):=bK s2 hlf;generalize aB H2 lf (.lst (ps.map V.ref++[V.ref x.p]))=H3 at n3 l3 f3 s3 ⊢;have n13:=n2.trans n3;obtain⟨a,vs,hva,hta,htr⟩:=aM.val (hxt.up n13.tup _);have hvl:=bL htr;have hpl2:=x.s.plen;have hsl:=Sub.len hxs';refine⟨a,hva,_,bd.of hta,by decide,by rw[Hx];omega,by rw[Hx];omega,?_⟩;have hcx:iW (ys++[x])=iW ys+x.s.cnt:=by rw[oG,tT]
  have hcs:=x.s.cnt_eq;rw[show(((V.int x.s.i::vs).length:Int)-1).toNat=vs.length by rw[Hx];omega,show(1+(vs.length:Int)-1)=(vs.length:Int) by omega];refine uy (hi:=(vs.length:Int)) (n:=vs.length) (fun j σ H'=>ay H H'/\NL H3 H'/\(∃zs:List PI,H' ll=some (.lst ((ys++zs).map fun x=>V.ref x.a))/\(∀z∈zs,z.at K H' t)/\zs.map PI.s=(x.s.ps.drop (vs.length-j)).reverse/\zs.length<=j)/\H' lf=some (.lst ((ps++[x.p]).map V.ref))/\∃z3,σ=[some v,some (V.ref lf),some (V.ref ll),some x.v,some (V.ref x.p),z3]) ⟨s3,fun b o h _=>h,⟨[],by rw[Ia];exact l3,(fun z hz=>nomatch hz),by rw[hvl];simp,by simp⟩,f3,_,rfl⟩ ?_ ?_
  ·rintro j σ H4 hj ⟨sm4,n4,⟨zs,l4,hzs,hmap,hzl⟩,f4,z3,rfl⟩
   rw[hva];walk_at "wp";obtain⟨k,hk⟩:∃k,vs.length=k+j+1:=⟨vs.length-j-1,by omega⟩;have hkv:vs[k]?=some vs[k]:=Hj (by omega);obtain⟨s',hs',ht'⟩:=gP (htr.up n4.tup _) hkv;have hk1:((vs.length:Int)-(j:Int)-1)=(k:Int):=by omega
   have hat:gv (V.int x.s.i::vs) ((vs.length:Int)-(j:Int))=some vs[k]:=by
    rw[show(vs.length:Int)-(j:Int)=((k+1:Nat):Int) by omega];exact aU (by rw[HV];exact hkv)
   rw[hk1];refine⟨.inl ⟨rfl,_,aW.of l4⟩,_,bd.of (n4.tup _ _ hta),_,hat,aj (by decide),fun p1 hp1=>?_⟩;have sA:=ae (o:=.tup [V.int (k:Int)]) hp1;have eA:aB H4 p1 (.tup [V.int (k:Int)]) p1=some (.tup [V.int (k:Int)]):=ac;generalize aB H4 p1 (.tup [V.int (k:Int)])=H5 at sA eA ⊢;refine⟨_,sA.sqT (n4.sqT (n13.sqT hxp)),_,bd.of eA,by rw[fP];exact aj (by simp;omega),fun pp H6 hpp sB=>⟨aj (by decide),fun p2 hp2=>?_⟩⟩;rw[lw]at hpp;have sC:=ae (o:=.tup [vs[k],V.ref pp]) hp2;have eC:aB H6 p2 (.tup [vs[k],V.ref pp]) p2=some (.tup [vs[k],V.ref pp]):=ac;generalize aB H6 p2 (.tup [vs[k],V.ref pp])=H7 at sC eC ⊢;have s47:=(sA.trans sB).trans sC;have l7:=s47 _ _ l4;have n8:NL H7 (aB H7 ll (.lst (((ys++zs).map fun x=>V.ref x.a)++[V.ref p2]))):=NL.put l7;have n48:=(NL.of s47).trans n8;have hys:(ys++zs).length<=1000+j:=by
    rw[hcx]at hcnt hxl;have:=pX ys;simp;omega
   refine⟨_,l7,by rw[Hm];exact bp (by omega),bK (sm4.trans s47) hll0,n4.trans n48,⟨zs++[⟨p2,vs[k],pp,s',x.pl++[k]⟩],by rw[ac];simp,fun z hz=>?_,?_,by simp;omega⟩,by rw[ai hne];exact s47 _ _ f4⟩
   ·rcases Hz.mp hz with h | h
    ·exact(hzs z h).up n48
    ·rw[Hn.mp h]
     exact⟨n8.tup _ _ eC,ht'.up n48.tup _,n8.sqT (sC.sqT hpp),Sub.app (t:=t) hxs' hs'⟩
   ·have e1:vs.length-(j+1)=k:=by omega
    have e2:vs.length-j=k+1:=by omega
    rw[e1,lh hs',HX,Hy,hmap,e2]
    rfl
  ·rintro σ H4 ⟨sm4,n4,⟨zs,l4,hzs,hmap,hzl⟩,f4,z3,rfl⟩
   have hcz:iW zs+1=x.s.cnt:=by
    have:iW zs=((zs.map PI.s).map aM.cnt).sum:=by unfold iW;rw[HE];rfl
    rw[this,hmap,Nat.sub_self,Iy,List.map_reverse,List.sum_reverse];omega
   refine⟨iW (ys++zs),by rw[oG,hcx];omega,sm4,⟨ys++zs,ps++[x.p],l4,fun z hz=>?_,f4,fun p hp=>?_,?_,fun e=>absurd e (by simp),rfl⟩,_,_,_,rfl⟩
   ·rcases Hz.mp hz with h | h
    ·exact(hxs z (by simp[h])).up (n13.trans n4)
    ·exact hzs z h
   ·rcases Hz.mp hp with h | h
    ·exact(hps.up (n13.trans n4)) p h
    ·rw[Hn.mp h]
     exact⟨x.pl,x.s,(n13.trans n4).sqT hxp,hxs'⟩
   ·rw[oG,HN]
    rw[hcx]at hcnt;simp only[List.length_singleton];omega
noncomputable abbrev vo:Stmt:=gu 57
noncomputable def wN(K:W.Frag):Sp:=fun vs H Q _=>∃(v:V) (p:Addr) (t s:aM) (pl:List Nat),vs=[v,.ref p]/\bu H t.d v/\bd K H p (jS pl)/\Sub pl t=some s/\∀u,bu H s.d u->Q u H
theorem BO:aF ["_law_tree","_law_place","_law_k"] ["_law_tree","_law_place"] (ak vo):=by walk_at "c"
theorem ul{H:Hp}:∀{ds:List Dt} {xs:List V},aS H ds xs->∀{j:Nat} {d:Dt},ds[j]?=some d->∃x,xs[j]?=some x/\bu H d x
 | [],_,h,j,x,e=>by simp at e
 |d::ds,xs,h,j,x,e=>by
  obtain⟨y,r,rfl,h1,h2⟩:=h.uncons
  match j,e with
  |0,e=>cases e;exact⟨y,rfl,h1⟩
  |j+1,e=>exact ul h2 e
theorem uF{H:Hp}{t s:aM}{vs:List V}{j:Nat}(h:aS H (t.ps.map aM.d) vs)(e:t.ps[j]?=some s):∃x,vs[j]?=some x/\bu H s.d x:=ul h (by rw[Ho,e];rfl)
theorem wG{pl:List Nat}{j:Nat}{x:V}(h:(jS pl)[j]?=some x):∃k,pl[j]?=some k/\x=V.int (k:Int):=by
 unfold jS at h;rw[Ho]at h;obtain⟨k,hk,rfl⟩:=HU.mp h;exact⟨k,hk,rfl⟩
theorem Bj{f:Addr}{fd:FuncData}(F:c_ K "_law_at" "_law_at" vo f fd)(nb:NB mg):bc P w K mg base bH 1 f fd ["_law_tree","_law_place"] (wN K):=by
 have sc:=BO;walk_at "f"
 ·obtain⟨v,p,t,s,pl,rfl,_⟩:=h;rfl
 ·obtain⟨v,p,t,s0,pl,rfl,ht,hp,hs,q⟩:=h
  refine⟨_,(ag (bP PassesOwn.never rfl (vi (am 1)) (aH (i:=2) sc.nd rfl (Or.inl rfl))
   (ah (aK (i:=0) sc.nd rfl (Or.inl rfl) (az aC (am 0) (aq (a_.m0 bA) af (am 2)) (fun _ _=>rfl)))))
   (ah (aI (am 0)))),?_⟩
  walk_at "n";refine⟨⟨_,hp⟩,?_⟩;refine ug (xs:=jS pl) (fun j σ H'=>H'=H/\∃u s1 z,bu H s1.d u/\Sub (pl.take j) t=some s1/\Sub (pl.drop j) s1=some s0/\σ=[some u,some (V.ref p),z]) ⟨rfl,v,t,_,ht,by simp[Sub],hs,rfl⟩ ?_ ?_ ?_
  ·rintro j σ H' _ ⟨rfl,_⟩
   exact hp
  ·rintro j x σ H' hx ⟨rfl,u,s1,z,hu,e1,e2,rfl⟩
   obtain⟨k,hk,rfl⟩:=wG hx;rw[lh hk]at e2;unfold Sub at e2;cases hj:s1.ps[k]? with
   |none=>rw[hj]at e2;cases e2
   |some r=>
    rw[hj]at e2;obtain⟨a,vs,rfl,hta,htr⟩:=aM.val hu;obtain⟨y,hy,hty⟩:=uF htr hj;walk_at "wp";refine⟨_,bd.of hta,y,?_,y,r,hty,?_,e2,rfl⟩
    ·rw[show(1+(k:Int))=((k+1:Nat):Int) by omega]
     exact aU (by rw[HV];exact hy)
    ·rw[Ig,hk]
     exact Sub.app (t:=t) e1 hj
  ·rintro σ H' ⟨rfl,u,s1,z,hu,e1,e2,rfl⟩
   refine h1 _ _ ?_;walk_at "wp";rw[fP,List.drop_length]at e2;cases e2;exact q u hu
noncomputable abbrev oS:Stmt:=gu 58
noncomputable def me(K:W.Frag)(n:Nat):Sp:=fun vs H Q _=>∃(v fv:V) (p:Addr) (t s fr:aM) (pl:List Nat),vs=[v,.ref p,fv]/\bu H t.d v/\bu H fr.d fv/\bd K H p (jS pl)/\Sub pl t=some s/\pl.length<n/\∀u H',bu H' (iK fr pl t).d u->ay H H'->Q u H'
theorem qL:aF ["_law_tree","_law_place","_law_fresh","_law_k"] ["_law_tree","_law_place","_law_fresh"] (ak oS):=by walk_at "c"
theorem Cn{k:Nat}(xs:List V)(h:k<=xs.length):dZ xs none (some ((k:Nat):Int))=xs.take k:=by
 unfold dZ;rw[HT.sIx_nat,HT.sIx_none,Iw h];simp
theorem Aj{k:Nat}(xs:List V)(h:k<=xs.length):dZ xs (some ((k:Nat):Int)) none=xs.drop k:=by
 unfold dZ;rw[HT.sIx_nat,HT.sIx_none,Iw h];exact List.take_of_length_le (by simp)
theorem rJ{a:Int}{k:Nat}(xs:List V)(e:a=(k:Int))(h:k<=xs.length):dZ xs (some a) none=xs.drop k:=by rw[e];exact Aj xs h
theorem sO{a:Int}{k:Nat}(xs:List V)(e:a=(k:Int))(h:k<=xs.length):dZ xs none (some a)=xs.take k:=by rw[e];exact Cn xs h
theorem rh{H:Hp}{d:Dt}{x:V}(hx:bu H d x):∀{ds:List Dt} {xs:List V} {j:Nat},aS H ds xs->j<ds.length->aS H (ds.set j d) (xs.take j++x::xs.drop (j+1))
 | [],_,j,h,hj=>absurd hj (by simp)
 |e::ds,xs,0,h,hj=>by
  obtain⟨y,r,rfl,h1,h2⟩:=h.uncons;exact aS.cons hx h2
 |e::ds,xs,j+1,h,hj=>by
  obtain⟨y,r,rfl,h1,h2⟩:=h.uncons;exact aS.cons h1 (rh hx h2 (by simpa using hj))
theorem qH{f:Addr}{fd:FuncData}(F:c_ K "_law_with" "_law_with" oS f fd)(nb:NB mg)(hm:mg "_law_with"=some (.ref f))(hk:W.keepIn K (.ref f)=true)(hb:dc K fd ["_law_tree","_law_place","_law_fresh"] []):∀n,n<=61->bc P w K mg base bH (n+1) f fd ["_law_tree","_law_place","_law_fresh"] (me K n)
 |0,_=>by
  refine F.ok qL (fun vs H Q E h=>?_) (fun cdv A outer s H vs Q E hr h=>?_)
  ·obtain⟨v,fv,p,t,s,fr,pl,rfl,_⟩:=h;rfl
  ·obtain⟨v,fv,p,t,s,fr,pl,rfl,_,_,_,_,h,_⟩:=h
   exact absurd h (by omega)
 |n+1,hn=>by
  have sc:=qL;have zgb:eX P w K mg base bH (n+1) "_law_with" ["_law_tree","_law_place","_law_fresh"] (me K n):=⟨f,fd,qH F nb hm hk hb n (by omega),hm,hk,hb⟩;walk_at "f"
  ·obtain⟨v,fv,p,t,s,fr,pl,rfl,_⟩:=h;rfl
  ·obtain⟨v,fv,p,t,s0,fr,pl,rfl,ht,hf,hp,hs,hl,q⟩:=h
   have hu:=hr.units;refine⟨_,(ag (bg (aA (yM hu) (am 1) (aR ad) (aJ _))
   (ah (aI (am 2)))
   aN)
   (ag (aK (i:=3) sc.nd rfl (Or.inl rfl) (aq (a_.m0 bA) af (az aC (am 1) af (fun _ _=>rfl))))
   (ah (aI (aq bX (aq bX (b0 gD (am 0) dj (dk (am 3))) (aR (aa (aP zgb (hr.mono (by omega)) rfl bh (aa (az aC (am 0) (am 3) (fun _ _=>rfl)) (aa (b0 sr (am 1) (dk af) dj) (aa (am 2) ad)))) ad))) (b0 gD (am 0) (dk (aq (a_.m0 bA) (am 3) af)) dj)))))),?_⟩
   walk_at "n";refine⟨HQ _,fun p0 hp0=>?_⟩;have s1:=ae (o:=.tup []) hp0;have e1:aB H p0 (.tup []) p0=some (.tup []):=ac;generalize aB H p0 (.tup [])=H1 at s1 e1 ⊢;have hfl:(jS pl).all qI=true:=by unfold jS;rw[List.all_map,Ik];intro x _;rfl
   refine⟨_,s1.sqT hp,_,bd.of e1,hfl,rfl,?_⟩
   match pl,hs,hl,hp,q with
   | [],hs,hl,hp,q=>
    rw[if_pos (by rfl)];exact q _ _ (hf.up (cu.of s1) _) s1
   |k::pl,hs,hl,hp,q=>
    rw[if_neg (by intro h;cases h)];refine h1 _ _ ?_;clear h1;unfold Sub at hs;cases hj:t.ps[k]? with
    |none=>rw[hj]at hs;cases hs
    |some r=>
    rw[hj]at hs;have hkl:k<t.ps.length:=(Hk.mp hj).1;obtain⟨a,vs,rfl,hta,htr⟩:=aM.val ht;have hvl:=bL htr;have hps:=t.plen;have hk1:(1+(k:Int))=((k+1:Nat):Int):=by omega
    walk_at "n";refine⟨_,s1.sqT hp,V.int (k:Int),nA _ _,_,rfl,h1 _ _ ?_⟩;clear h1;rw[hk1];walk_at "wp";refine⟨_,s1 _ _ hta,fun pa H2 hpa s2=>?_⟩;rw[sO _ rfl (by simp;omega)]at hpa;obtain⟨y,hy,hty⟩:=uF htr hj;have s02:=s1.trans s2;refine⟨_,bd.of (s02 _ _ hta),y,aU (by rw[HV];exact hy),_,s02.sqT hp,?_⟩;have hsub:dZ (jS (k::pl)) (some 1) none=jS pl:=by rw[rJ _ (show(1:Int)=((1:Nat):Int) from rfl) (by simp[fP])];rfl
    rw[hsub];refine⟨fun h=>?_,fun p1 hp1=>?_⟩
    ·rw[show(some 1:Option Int)=some ((1:Nat):Int) from rfl,HT.sIx_nat,Iw (by rw[fP];simp)]at h
     exact absurd h.1 (by decide)
    have s3:=ae (o:=.tup (jS pl)) hp1;have e3:aB H2 p1 (.tup (jS pl)) p1=some (.tup (jS pl)):=ac;generalize aB H2 p1 (.tup (jS pl))=H3 at s3 e3 ⊢;have s03:=s02.trans s3;refine⟨y,fv,p1,r,s0,fr,pl,rfl,hty.up (cu.of s03) _,hf.up (cu.of s03) _,bd.of e3,hs,by simp at hl;omega,fun u H4 hu4 s4=>⟨aj (by decide),fun p2 hp2=>?_⟩⟩;have s5:=ae (o:=.tup [u]) hp2;have e5:aB H4 p2 (.tup [u]) p2=some (.tup [u]):=ac;generalize aB H4 p2 (.tup [u])=H5 at s5 e5 ⊢;have s45:=s4.trans s5;have s05:=s03.trans s45;have htk:(V.int t.i::vs).take (k+1)=V.int t.i::vs.take k:=rfl;refine dH ((s3.trans s45) _ _ hpa) e5 (by rw[htk];simp) (by rw[htk];simp;omega) fun p3 H6 hp3 s6=>?_;have s06:=s05.trans s6;refine⟨_,s06 _ _ hta,fun p4 H7 hp4 s7=>?_⟩;rw[rJ (k:=k+2) _ (by omega) (by simp;omega)]at hp4;refine dH (s7 _ _ hp3) hp4 (by rw[htk];simp) (by rw[htk];simp;omega) fun p5 H8 hp5 s8=>?_;have s48:=(s5.trans s6).trans (s7.trans s8);have s08:=s06.trans (s7.trans s8);have hpe:iK fr (k::pl) t=kH t.i (t.ps.set k (iK fr pl r)):=by rw[iK,hj]
    refine q (.ref p5) H8 ?_ s08;rw[hpe];have hlen:(t.ps.set k (iK fr pl r)).length<=2:=by rw[Iq];exact hps
    refine aM.of (vs:=vs.take k++u::vs.drop (k+1)) ?_ ?_
    ·rw[zg,hp5,htk]
     simp
    ·rw[vP _ hlen,List.map_set]
     exact rh (hu4.up (cu.of s48) _) (htr.up (cu.of s08) _) (by rw[Hm];exact hkl)
theorem mO(c:Int){n:Nat}(h:0<n):∃j,j<n/\c%(n:Int)=(j:Int):=by
 have h1:=Ir c (b:=(n:Int)) (by omega);have h2:=Iu c (b:=(n:Int)) (by omega);exact⟨(c%(n:Int)).toNat,by omega,by omega⟩
theorem Sub.cnt{s:aM}:∀{pl:List Nat} {t:aM},Sub pl t=some s->s.cnt<=t.cnt
 | [],t,h=>by cases h;exact HP _
 |j::pl,t,h=>by
  unfold Sub at h;cases hj:t.ps[j]? with
  |none=>rw[hj]at h;cases h
  |some u=>
   rw[hj]at h;have:=Sub.cnt h;have:=(aM.lt (Hq hj)).2;omega
noncomputable def Eh(ts:List aM)(q:Int)(s f:aM):Prop:=(f∈ts/\q=5)\/(f.i=s.i/\f.ps=s.ps.reverse/\q=4)\/(q<4/\f.cnt<=s.cnt+1/\f.dep<=s.dep+1)
structure qh(ts:List aM)(q:Int)(s:aM)(k:Int)(H:Hp)(f:aM)(u:V)(H':Hp):Prop where
 sm:ay H H'
 tr:bu H' f.d u
 rl:(q<k/\Eh ts q s f)\/(k<=q/\f=s)
theorem qh.skip{ts:List aM}{q:Int}{s:aM}{k:Int}{H:Hp}{f:aM}{u:V}{H':Hp}(h:qh ts q s k H f u H')(hq:¬ q=k):qh ts q s (k+1) H f u H':=⟨h.sm,h.tr,by
 rcases h.rl with⟨h1,h2⟩ | ⟨h1,h2⟩
 ·exact .inl ⟨by omega,h2⟩
 ·exact .inr ⟨by omega,h2⟩⟩
theorem qh.here{ts:List aM}{q:Int}{s:aM}{k:Int}{H:Hp}{f:aM}{u:V}{H':Hp}(h:qh ts q s k H f u H')(hq:q=k):ay H H'/\bu H' s.d u/\f=s:=by
 rcases h.rl with⟨h1,h2⟩ | ⟨h1,h2⟩
 ·omega
 ·rw[h2]at h;exact⟨h.sm,h.tr,h2⟩
theorem qh.did{ts:List aM}{q:Int}{s:aM}{k:Int}{H:Hp}{f:aM}{u:V}{H':Hp}(sm:ay H H')(tr:bu H' f.d u)(hq:q=k)(h:Eh ts q s f):qh ts q s (k+1) H f u H':=⟨sm,tr,.inl ⟨by omega,h⟩⟩
theorem zk:DP 10 58:=⟨by decide,by decide,by decide⟩
theorem yN(xs:List V)(h:xs≠[]):dZ xs none (some (-1))=xs.take (xs.length-1):=by
 have hl:0<xs.length:=by cases xs with | nil=>exact absurd rfl h | cons=>simp
 unfold dZ;have:HT.sIx xs.length xs.length (some (-1))=xs.length-1:=by
  show(if(-1:Int)<0 then((-1:Int)+(xs.length:Int)).toNat else min (-1:Int).toNat xs.length)=_;rw[if_pos (by decide)];omega
 rw[this,HT.sIx_none];simp
theorem kK{H:Hp}{p:Addr}{i:Int}{ds:List aM}{ws:List V}(hl:ds.length<=2)(h:H p=some (.tup (V.int i::ws)))(k:aS H (ds.map aM.d) ws):bu H (kH i ds).d (.ref p):=aM.of (by rw[zg];exact h) (by rw[vP _ hl];exact k)
theorem lC(i:Int)(t:aM):(kH i t.ps).cnt=t.cnt/\(kH i t.ps).dep=t.dep:=by cases t<;>exact⟨rfl,rfl⟩
theorem k7(t:aM)(n:Nat):(kH t.i (t.ps.take n)).cnt<=t.cnt/\(kH t.i (t.ps.take n)).dep<=t.dep:=by
 cases t with
 |n0 i=>simp[aM.ps,aM.i,kH]
 |n1 i a=>match n with
  |0=>simp only[aM.ps,aM.i,Ix,kH,aM.cnt,aM.dep];omega
  |n+1=>simp[aM.ps,aM.i,kH]
 |n2 i a b=>match n with
  |0=>simp only[aM.ps,aM.i,Ix,kH,aM.cnt,aM.dep];omega
  |1=>simp only[aM.ps,aM.i,List.take_succ_cons,Ix,kH,aM.cnt,aM.dep];omega
  |n+2=>simp[aM.ps,aM.i,kH]
theorem nZ(t:aM)(i:Int)(h:t.ps.length<=1):(kH t.i (t.ps++[.n0 i])).cnt=t.cnt+1/\(kH t.i (t.ps++[.n0 i])).dep<=t.dep+1:=by
 cases t with
 |n0 j=>simp[aM.ps,aM.i,kH,aM.cnt,aM.dep]
 |n1 j a=>have:=a.dep1;show a.cnt+1+1=a.cnt+1+1/\max a.dep 1+1<=a.dep+1+1;omega
 |n2 j a b=>simp[aM.ps]at h
theorem qd{H:Hp}{n:Nat}:∀{ds:List aM} {xs:List V},aS H (ds.map aM.d) xs->aS H ((ds.take n).map aM.d) (xs.take n):=by
 intro ds xs h
 induction ds generalizing xs n with
 |nil=>rw[List.map_nil]at h;unfold aS at h;subst h;simpa using aS.nil
 |cons d ds ih=>
  obtain⟨x,r,rfl,h1,h2⟩:=h.uncons
  match n with
  |0=>exact aS.nil
  |n+1=>exact aS.cons h1 (ih h2)
theorem qS{H:Hp}:∀{ds:List Dt} {xs:List V},aS H ds xs->aS H ds.reverse xs.reverse
 | [],_,h=>by unfold aS at h;subst h;exact aS.nil
 |d::ds,xs,h=>by
  obtain⟨x,r,rfl,h1,h2⟩:=h.uncons;rw[HX,HX];exact aS.app (qS h2) (aS.cons h1 aS.nil)
noncomputable abbrev kU:Stmt:=gu 59
noncomputable def ui(H:Hp)(ls:Addr)(as:List Addr)(xs:List SI)(ts:List aM):Prop:=H ls=some (.lst (as.map V.ref))/\bD H as xs/\xs≠[]/\xs.length<=100/\∀x∈xs,∃t∈ts,x.d=t.d
theorem ui.up{H H':Hp}{ls:Addr}{as:List Addr}{xs:List SI}{ts:List aM}(h:ui H ls as xs ts)(s:ay H H'):ui H' ls as xs ts:=⟨s _ _ h.1,h.2.1.up s,h.2.2⟩
noncomputable def El(ts:List aM)(t t':aM)(q:Int):Prop:=∃pl s f,Sub pl t=some s/\t'=iK f pl t/\(Eh ts q s f\/(f=s/\q=6))
noncomputable def nF(K:W.Frag):Sp:=fun vs H Q _=>∃(v:V) (c:Int) (lr ls:Addr) (t:aM) (ws:List V) (as:List Addr) (xs:List SI) (ts:List aM),vs=[v,.int c,.ref lr,.ref ls]/\bu H t.d v/\t.cnt<=1000/\t.dep<=60/\H lr=some (.lst ws)/\ws≠[]/\ws.length<=100/\ui H ls as xs ts/\∀t' u H',El ts t t' (c/64%7)->bu H' t'.d u->ay H H'->Q u H'
theorem t8:aF ["_law_tree","_law_cell_here","_law_rules","_law_stock","_law_places_here","_law_place","_law_here","_law_rest","_law_more","_law_leaf"] ["_law_tree","_law_cell_here","_law_rules","_law_stock"] (ak kU):=by walk_at "c"
theorem uh{f:Addr}{fd:FuncData}(F:c_ K "_law_spoilt" "_law_spoilt" kU f fd)(nb:NB mg)(zYb:eX P w K mg base bH 1 "_law_places" ["_law_tree"] (nB K))(c_l_at:eX P w K mg base bH 1 "_law_at" ["_law_tree","_law_place"] (wN K))(zgb:eX P w K mg base bH 62 "_law_with" ["_law_tree","_law_place","_law_fresh"] (me K 61)):bc P w K mg base bH 63 f fd ["_law_tree","_law_cell_here","_law_rules","_law_stock"] (nF K):=by
 have sc:=t8;walk_at "f"
 ·obtain⟨v,c,lr,ls,t,ws,as,xs,ts,rfl,_⟩:=h;rfl
 ·obtain⟨v,c,lr,ls,t,ws,as,xs,ts,rfl,ht,hc,hd,hlr,hw0,hwl,hst,q⟩:=h
  refine⟨_,(ag (aK (i:=4) sc.nd rfl (Or.inl rfl) (aP zYb (hr.mono (by decide)) rfl bh (aa (am 0) ad)))
   (ag (aK (i:=5) sc.nd rfl (Or.inl rfl) (az aV (am 4) (aq (a_.m1 aX) (am 1) (av aO rfl nb.len aQ (aa (am 4) ad))) (fun _ _=>rfl)))
   (ag (aK (i:=6) sc.nd rfl (Or.inl rfl) (aP c_l_at (hr.mono (by decide)) rfl bh (aa (am 0) (aa (am 5) ad))))
   (ag (aK (i:=7) sc.nd rfl (Or.inl rfl) (aq (a_.m1 bi) (am 1) af))
   (ag (aK (i:=8) sc.nd rfl (Or.inl rfl) (aq (a_.m1 bi) (am 7) af))
   (ag (aK (i:=9) sc.nd rfl (Or.inl rfl) (aR (aa (aq (a_.m1 aX) (am 8) (av aO rfl nb.len aQ (aa (am 2) ad))) ad)))
   (ag (bg (aA dA (aq (a_.m1 aX) (am 7) af) af (aJ _))
   (ah (aK (i:=6) sc.nd rfl (Or.inl rfl) (aq bX (aR (aa (az aC (aR (aa (tY on af) (aa (av aO rfl nb.len aQ (aa (am 2) ad)) (aa (aq (a_.m0 bA) (av aO rfl nb.len aQ (aa (am 2) ad)) (aq (a_.m1 aX) (am 8) (aq (a_.m1 zD) af af))) (aa (aq (a_.m0 i6) (tY on af) (aq (a_.m1 aX) (am 8) (aq (a_.m1 zD) af af))) ad))))) (aq (a_.m1 aX) (am 8) af) (fun _ _=>rfl)) ad)) (b0 gD (am 6) (dk af) dj))))
   aN)
   (ag (bg (aA dA (aq (a_.m1 aX) (am 7) af) af (aJ _))
   (ah (aK (i:=6) sc.nd rfl (Or.inl rfl) (aq bX (am 9) (b0 gD (am 6) (dk af) dj))))
   aN)
   (ag (bg (aA dA (aq (a_.m1 aX) (am 7) af) af (aJ _))
   (ah (aK (i:=6) sc.nd rfl (Or.inl rfl) (tW (aA (a_.m0 jb) (av eM rfl nb.len aQ (aa (am 6) ad)) af (aJ _)) (b0 gD (am 6) dj (dk (tY on af))) (aq bX (am 6) (aR (aa (am 9) ad))))))
   aN)
   (ag (bg (aA dA (aq (a_.m1 aX) (am 7) af) af (aJ _))
   (ah (aK (i:=6) sc.nd rfl (Or.inl rfl) (tW (aA (a_.m0 nE) (av eM rfl nb.len aQ (aa (am 6) ad)) af (aJ _)) (aq bX (am 6) (aR (aa (am 9) ad))) (b0 gD (am 6) dj (dk af)))))
   aN)
   (ag (bg (aA dA (aq (a_.m1 aX) (am 7) af) af (aJ _))
   (ah (aK (i:=6) sc.nd rfl (Or.inl rfl) (aq bX (b0 gD (am 6) dj (dk af)) (gQ km rfl nb.tuple lO (aa (vH rfl (b0 gD (am 6) (dk af) dj) rfl nb.list rfl nb.reversed) ad)))))
   aN)
   (ag (bg (aA dA (aq (a_.m1 aX) (am 7) af) af (aJ _))
   (ah (aK (i:=6) sc.nd rfl (Or.inl rfl) (az aC (az aV (am 3) (aq (a_.m1 aX) (am 8) (av aO rfl nb.len aQ (aa (am 3) ad))) (fun _ _=>rfl)) af (fun _ _=>rfl))))
   aN)
   (ah (aI (aP zgb (hr.mono (by decide)) rfl bh (aa (am 0) (aa (am 5) (aa (am 6) ad)))))))))))))))))),?_⟩
  walk_at "n";refine⟨v,t,rfl,ht,hc,by omega,fun l ps H1 hl hps hp0 hpl s1=>h1 _ _ ?_⟩;walk_at "nc";obtain⟨jp,hjp,ejp⟩:=mO c (n:=ps.length) (by cases ps with | nil=>exact absurd rfl hp0 | cons=>simp);have hgp:ps[jp]?=some ps[jp]:=Hj hjp;refine⟨_,aW.of hl,by rw[Hm];omega,_,aW.of hl,V.ref ps[jp],?_,h1 _ _ ?_⟩
  ·rw[Hm,ejp]
   exact aU (by rw[Ho,hgp];rfl)
  clear h1;obtain⟨pl,s0,hpp,hsub⟩:=hps _ (Hu hjp);walk_at "n";refine⟨v,ps[jp],t,s0,pl,rfl,ht.up (cu.of s1) _,hpp,hsub,fun u hu=>h1 _ _ ?_⟩;walk_at "nc";refine h1 _ _ ?_;walk_at "nc";refine h1 _ _ ?_;clear h1;have hws:0<ws.length:=by cases ws with | nil=>exact absurd rfl hw0 | cons=>simp
  obtain⟨jw,hjw,ejw⟩:=mO (c/64/7) hws;walk_at "n";refine⟨_,aW.of (s1 _ _ hlr),by omega,aj (by decide),fun lf hlf=>h1 _ _ ?_⟩;clear h1;rw[ejw];have s2:=ae (o:=.tup [V.int (jw:Int)]) hlf;have e2:aB H1 lf (.tup [V.int (jw:Int)]) lf=some (.tup [V.int (jw:Int)]):=ac;generalize aB H1 lf (.tup [V.int (jw:Int)])=H2 at s2 e2 ⊢;have s02:=s1.trans s2;obtain⟨q7,hq7⟩:∃q7,c/64%7=q7:=⟨_,rfl⟩;rw[hq7]at q;have hq0:0<=q7/\q7<7:=by omega
  have hleaf:∀H',ay H2 H'->bu H' (aM.n0 (jw:Int)).d (.ref lf):=fun H' s=>aM.of (vs:=[]) (s _ _ e2) aS.nil;have hsd:=Sub.len hsub;have hs0c:s0.cnt<=t.cnt:=Sub.cnt hsub;have hs0p:=s0.plen;have pp0:qh ts q7 s0 0 H2 s0 u H2:=⟨ay.refl _,hu.up (cu.of s2) _,.inr ⟨hq0.1,rfl⟩⟩;walk_at "n";rw[hq7]
  suffices nx:∀f1 u1 G1,qh ts q7 s0 1 H2 f1 u1 G1->N1 [some v,some (V.int c),some (V.ref lr),some (V.ref ls),some (V.ref l),some (V.ref ps[jp]),some u1,some (V.int (c/64)),some (V.int (c/64/7)),some (V.ref lf)] G1 by
   refine br (fun hq=>?_) fun hq=>nx _ _ _ (pp0.skip hq);obtain⟨sm,hu',_⟩:=pp0.here hq;obtain⟨a,vs,rfl,hta,htr⟩:=aM.val hu';have hvl:=bL htr;have s0m:=s02.trans sm;obtain⟨j4,hj4,ej4⟩:=mO (c/64/7) (n:=4) (by decide);refine⟨_,aW.of (s0m _ _ hlr),_,aW.of (s0m _ _ hlr),zk,by decide,zk,by decide,aj (by decide),fun p1 hp1=>?_⟩;obtain⟨xs4,hx4⟩:∃xs4:List Int,[V.int (-1),V.int (ws.length:Int),V.int ((ws.length:Int)+c/64/7%10 ^ Int.toNat 58),V.int (-2-c/64/7%10 ^ Int.toNat 58)]=xs4.map V.int/\xs4.length=4:=⟨[-1,(ws.length:Int),(ws.length:Int)+c/64/7%10 ^ Int.toNat 58,-2-c/64/7%10 ^ Int.toNat 58],rfl,rfl⟩;rw[hx4.1];have sA:=ae (o:=.tup (xs4.map V.int)) hp1;have eA:aB H2 p1 (.tup (xs4.map V.int)) p1=some (.tup (xs4.map V.int)):=ac;generalize aB H2 p1 (.tup (xs4.map V.int))=HA at sA eA ⊢;have hj4':j4<xs4.length:=by rw[hx4.2];exact hj4
   refine⟨_,bd.of eA,V.int xs4[j4],?_,aj (by decide),fun p2 hp2=>?_⟩
   ·have ej4':c/64/7%4=(j4:Int):=ej4
    rw[ej4'];exact aU (by rw[Ho,Hj hj4'];rfl)
   have sB:=ae (o:=.tup [V.int xs4[j4]]) hp2;have eB:aB HA p2 (.tup [V.int xs4[j4]]) p2=some (.tup [V.int xs4[j4]]):=ac;generalize aB HA p2 (.tup [V.int xs4[j4]])=HB at sB eB ⊢;have sAB:=sA.trans sB;refine⟨a,rfl,_,sAB _ _ hta,fun p3 HC hp3 sC=>?_⟩;rw[Be]at hp3;refine dH (sC _ _ eB) hp3 (by simp) (by simp;omega) fun p4 HD hp4 sD=>?_;have sAD:=sAB.trans (sC.trans sD);exact nx (kH xs4[j4] s0.ps) _ _ (qh.did (sm.trans sAD) (kK s0.plen hp4 (htr.up (cu.of sAD) _)) hq (.inr (.inr ⟨by omega,by rw[(lC _ s0).1];omega,by rw[(lC _ s0).2];omega⟩)))
  intro f1 u1 G1 pp1;refine h1 _ _ ?_;walk_at "nc";rw[hq7]
  suffices nx:∀f2 u2 G2,qh ts q7 s0 2 H2 f2 u2 G2->N1 [some v,some (V.int c),some (V.ref lr),some (V.ref ls),some (V.ref l),some (V.ref ps[jp]),some u2,some (V.int (c/64)),some (V.int (c/64/7)),some (V.ref lf)] G2 by
   refine br (fun hq=>?_) fun hq=>nx _ _ _ (pp1.skip hq);obtain⟨sm,hu',_⟩:=pp1.here hq;obtain⟨a,vs,rfl,hta,htr⟩:=aM.val hu';have hvl:=bL htr;have s0m:=s02.trans sm;refine⟨a,rfl,_,hta,fun p3 HC hp3 sC=>?_⟩;rw[Be]at hp3;refine dH (sC _ _ (sm _ _ e2)) hp3 (by simp) (by simp;omega) fun p4 HD hp4 sD=>?_;have sAD:=sC.trans sD;exact nx (kH (jw:Int) s0.ps) _ _ (qh.did (sm.trans sAD) (kK s0.plen hp4 (htr.up (cu.of sAD) _)) hq (.inr (.inr ⟨by omega,by rw[(lC _ s0).1];omega,by rw[(lC _ s0).2];omega⟩)))
  intro f2 u2 G2 pp2;refine h1 _ _ ?_;walk_at "nc";rw[hq7]
  suffices nx:∀f3 u3 G3,qh ts q7 s0 3 H2 f3 u3 G3->N1 [some v,some (V.int c),some (V.ref lr),some (V.ref ls),some (V.ref l),some (V.ref ps[jp]),some u3,some (V.int (c/64)),some (V.int (c/64/7)),some (V.ref lf)] G3 by
   refine br (fun hq=>?_) fun hq=>nx _ _ _ (pp2.skip hq);obtain⟨sm,hu',_⟩:=pp2.here hq;obtain⟨a,vs,rfl,hta,htr⟩:=aM.val hu';have hvl:=bL htr;have s0m:=s02.trans sm;refine⟨a,rfl,_,bd.of hta,br (fun hgt=>⟨a,rfl,_,hta,fun p3 HC hp3 sC=>?_⟩) fun hgt=>⟨aj (by decide),fun p3 hp3=>?_⟩⟩
   ·rw[Hx,hvl]at hgt
    rw[yN _ (by simp)]at hp3;have hp3':HC p3=some (.tup (V.int s0.i::vs.take (s0.ps.length-1))):=by rw[hp3,Hx,hvl];obtain⟨m,hm⟩:∃m,s0.ps.length=m+1:=⟨s0.ps.length-1,by omega⟩;rw[hm];simp
    exact nx (kH s0.i (s0.ps.take (s0.ps.length-1))) _ _ (qh.did (sm.trans sC) (kK (by rw[Ie];omega) hp3' (qd (htr.up (cu.of sC) _))) hq (.inr (.inr ⟨by omega,by have:=(k7 s0 (s0.ps.length-1)).1;omega,by have:=(k7 s0 (s0.ps.length-1)).2;omega⟩)))
   ·rw[Hx,hvl]at hgt
    have hps0:s0.ps=[]:=Ii.mp (by omega);have sA:=ae (o:=.tup [V.ref lf]) hp3;refine dH (sA _ _ hta) ac (by simp) (by simp;omega) fun p4 HD hp4 sD=>?_;have sAD:=sA.trans sD;have hz:=kK (ds:=s0.ps++[.n0 (jw:Int)]) (by rw[hps0];simp) hp4 (by rw[Hy];exact aS.app (htr.up (cu.of sAD) _) (aS.cons (hleaf _ (sm.trans sAD)) aS.nil));exact nx _ _ _ (qh.did (sm.trans sAD) hz hq (.inr (.inr ⟨by omega,by rw[(nZ s0 (jw:Int) (by omega)).1];omega,by have:=(nZ s0 (jw:Int) (by omega)).2;omega⟩)))
  intro f3 u3 G3 pp3;refine h1 _ _ ?_;walk_at "nc";rw[hq7]
  suffices nx:∀f4 u4 G4,qh ts q7 s0 4 H2 f4 u4 G4->N1 [some v,some (V.int c),some (V.ref lr),some (V.ref ls),some (V.ref l),some (V.ref ps[jp]),some u4,some (V.int (c/64)),some (V.int (c/64/7)),some (V.ref lf)] G4 by
   refine br (fun hq=>?_) fun hq=>nx _ _ _ (pp3.skip hq);obtain⟨sm,hu',_⟩:=pp3.here hq;obtain⟨a,vs,rfl,hta,htr⟩:=aM.val hu';have hvl:=bL htr;have s0m:=s02.trans sm;refine⟨a,rfl,_,bd.of hta,br (fun hgt=>⟨aj (by decide),fun p3 hp3=>?_⟩) fun hgt=>⟨a,rfl,_,hta,fun p3 HC hp3 sC=>?_⟩⟩
   ·rw[Hx,hvl]at hgt
    have sA:=ae (o:=.tup [V.ref lf]) hp3;refine dH (sA _ _ hta) ac (by simp) (by simp;omega) fun p4 HD hp4 sD=>?_;have sAD:=sA.trans sD;have hz:=kK (ds:=s0.ps++[.n0 (jw:Int)]) (by simp;omega) hp4 (by rw[Hy];exact aS.app (htr.up (cu.of sAD) _) (aS.cons (hleaf _ (sm.trans sAD)) aS.nil));exact nx _ _ _ (qh.did (sm.trans sAD) hz hq (.inr (.inr ⟨by omega,by rw[(nZ s0 (jw:Int) (by omega)).1];omega,by have:=(nZ s0 (jw:Int) (by omega)).2;omega⟩)))
   ·rw[Hx,hvl]at hgt
    rw[sO (a:=2) (k:=2) _ rfl (by simp;omega)]at hp3;exact nx (kH s0.i (s0.ps.take 1)) _ _ (qh.did (sm.trans sC) (kK (by rw[Ie];omega) (show HC p3=some (.tup (V.int s0.i::vs.take 1)) from hp3) (qd (htr.up (cu.of sC) _))) hq (.inr (.inr ⟨by omega,by have:=(k7 s0 1).1;omega,by have:=(k7 s0 1).2;omega⟩)))
  intro f4 u4 G4 pp4;refine h1 _ _ ?_;walk_at "nc";rw[hq7]
  suffices nx:∀f5 u5 G5,qh ts q7 s0 5 H2 f5 u5 G5->N1 [some v,some (V.int c),some (V.ref lr),some (V.ref ls),some (V.ref l),some (V.ref ps[jp]),some u5,some (V.int (c/64)),some (V.int (c/64/7)),some (V.ref lf)] G5 by
   refine br (fun hq=>?_) fun hq=>nx _ _ _ (pp4.skip hq);obtain⟨sm,hu',_⟩:=pp4.here hq;obtain⟨a,vs,rfl,hta,htr⟩:=aM.val hu';have hvl:=bL htr;have s0m:=s02.trans sm;refine⟨a,rfl,_,hta,fun p3 HC hp3 sC=>⟨a,rfl,_,sC _ _ hta,fun p4 HD hp4 sD=>?_⟩⟩;rw[sO (a:=1) (k:=1) _ rfl (by simp)]at hp3;rw[Be]at hp4;refine⟨_,bd.of hp4,fun p5 hp5=>⟨_,.inl ⟨aW.of ac,fun p6 hp6=>?_⟩⟩⟩;have sE:=(ae (o:=.lst vs.reverse) hp5).trans (ae (o:=.tup vs.reverse) hp6);have sx:=sD.trans sE;refine dH (sx _ _ hp3) ac (by simp) (by simp;omega) fun p7 HG hp7 sG=>?_;have sAD:=(sC.trans sx).trans sG;exact nx (kH s0.i s0.ps.reverse) _ _ (qh.did (sm.trans sAD) (kK (by rw[HI];exact s0.plen) (show HG p7=some (.tup (V.int s0.i::vs.reverse)) from hp7) (by rw[List.map_reverse];exact qS (htr.up (cu.of sAD) _))) hq (.inr (.inl ⟨zg _ _,vP _ (by rw[HI];exact s0.plen),by omega⟩)))
  intro f5 u5 G5 pp5;refine h1 _ _ ?_;walk_at "nc";rw[hq7]
  suffices nx:∀f6 u6 G6,qh ts q7 s0 6 H2 f6 u6 G6->N1 [some v,some (V.int c),some (V.ref lr),some (V.ref ls),some (V.ref l),some (V.ref ps[jp]),some u6,some (V.int (c/64)),some (V.int (c/64/7)),some (V.ref lf)] G6 by
   refine br (fun hq=>?_) fun hq=>nx _ _ _ (pp5.skip hq);obtain⟨sm,hu',_⟩:=pp5.here hq;obtain⟨a,vs,rfl,hta,htr⟩:=aM.val hu';have hvl:=bL htr;have s0m:=s02.trans sm;obtain⟨hS1,hS2,hS3,hS4,hS5⟩:=hst.up s0m;obtain⟨jx,hjx,ejx⟩:=mO (c/64/7) (n:=xs.length) (by cases xs with | nil=>exact absurd rfl hS3 | cons=>simp);obtain⟨ax,x,hax,hxx,vt,lp,hA,htx,_⟩:=hS2.got hjx;obtain⟨tx',htx',hxd⟩:=hS5 x (Hq hxx);refine⟨_,aW.of hS1,by rw[Hm,hS2.1];omega,_,aW.of hS1,V.ref ax,?_,ax,rfl,_,bd.of hA,vt,rfl,?_⟩
   ·rw[Hm,hS2.1,ejx]
    exact aU (by rw[Ho,hax];rfl)
   ·rw[hxd]at htx
    exact nx tx' _ _ (qh.did sm htx hq (.inl ⟨htx',by omega⟩))
  intro f6 u6 G6 pp6;refine h1 _ _ ?_;clear h1;walk_at "wp";refine⟨v,u6,ps[jp],t,s0,f6,pl,rfl,ht.up (cu.of (s02.trans pp6.sm)) _,pp6.tr,(s2.trans pp6.sm).sqT hpp,hsub,by have:=s0.dep1;omega,fun u' H' hu' s'=>q _ u' H' ⟨pl,s0,f6,hsub,rfl,?_⟩ hu' (s02.trans (pp6.sm.trans s'))⟩;rcases pp6.rl with⟨_,h⟩ | ⟨h,rfl⟩
  ·exact .inl h
  ·exact .inr ⟨rfl,by omega⟩
noncomputable abbrev yd:=Str×List Nat
noncomputable def jh(rs:List (Nat×RV))(i:Int)(n:Nat)(pl:List Nat)(w:Option (List Nat)):Option yd:=
 if i<0\/(rs.length:Int)<=i then some (Str.ofString "number",pl) else
 match rs[i.toNat]? with
 |none=>none
 |some r=>if n≠(aT r.1 r.2).length then some (Str.ofString "parts",pl) else if w≠none/\w≠some r.2.n then some (Str.ofString "name",pl) else none
noncomputable def d9(rs:List (Nat×RV))(i:Int)(k:Nat):Option (List Nat):=match rs[i.toNat]? with
 |some r=>(aT r.1 r.2)[k]?
 |none=>none
noncomputable def cf(rs:List (Nat×RV)):aM->List Nat->Option (List Nat)->Option yd
 | .n0 i,pl,w=>jh rs i 0 pl w
 | .n1 i a,pl,w=>match jh rs i 1 pl w with
  |some y=>some y
  |none=>cf rs a (pl++[0]) (d9 rs i 0)
 | .n2 i a b,pl,w=>match jh rs i 2 pl w with
  |some y=>some y
  |none=>match cf rs a (pl++[0]) (d9 rs i 0) with
   |some y=>some y
   |none=>cf rs b (pl++[1]) (d9 rs i 1)
noncomputable abbrev tS:=aM×List Nat×Option (List Nat)
noncomputable def nQ(rs:List (Nat×RV))(t:aM)(pl:List Nat):List tS:=match t with
 | .n0 _=>[]
 | .n1 i a=>[(a,pl++[0],d9 rs i 0)]
 | .n2 i a b=>[(a,pl++[0],d9 rs i 0),(b,pl++[1],d9 rs i 1)]
noncomputable def re(rs:List (Nat×RV)):List tS->Option yd
 | []=>none
 |x::r=>match cf rs x.1 x.2.1 x.2.2 with
  |some y=>some y
  |none=>re rs r
theorem dg(rs:List (Nat×RV))(x:tS)(r:List tS):re rs (x::r)=match cf rs x.1 x.2.1 x.2.2 with
  |some y=>some y
  |none=>re rs r:=by rw[re]
theorem jX(rs:List (Nat×RV)):∀(xs ys:List tS),re rs (xs++ys)=match re rs xs with
  |some y=>some y
  |none=>re rs ys
 | [],ys=>rfl
 |x::xs,ys=>by
  rw[List.cons_append,dg,dg];cases cf rs x.1 x.2.1 x.2.2 with
  |some y=>rfl
  |none=>exact jX rs xs ys
theorem y7(rs:List (Nat×RV))(t:aM)(pl:List Nat)(w:Option (List Nat)):cf rs t pl w=match jh rs t.i t.ps.length pl w with
  |some y=>some y
  |none=>re rs (nQ rs t pl):=by
 cases t with
 |n0 i=>unfold cf;show _=match jh rs i 0 pl w with | some y=>some y | none=>none;cases jh rs i 0 pl w<;>rfl
 |n1 i a=>
  unfold cf;show _=match jh rs i 1 pl w with | some y=>some y | none=>re rs [(a,pl++[0],d9 rs i 0)]
  cases jh rs i 1 pl w with
  |some y=>rfl
  |none=>
   dsimp only;rw[dg];dsimp only;cases cf rs a (pl++[0]) (d9 rs i 0)<;>rfl
 |n2 i a b=>
  unfold cf;show _=match jh rs i 2 pl w with | some y=>some y | none=>re rs [(a,pl++[0],d9 rs i 0),(b,pl++[1],d9 rs i 1)]
  cases jh rs i 2 pl w with
  |some y=>rfl
  |none=>
   dsimp only;rw[dg,dg];dsimp only;cases cf rs a (pl++[0]) (d9 rs i 0) with
   |some y=>rfl
   |none=>cases cf rs b (pl++[1]) (d9 rs i 1)<;>rfl
theorem e8(rs:List (Nat×RV))(t:aM)(pl:List Nat):(nQ rs t pl).length=t.ps.length:=by cases t<;>rfl
theorem e_{rs:List (Nat×RV)}{t:aM}{pl:List Nat}{j:Nat}{s:aM}(h:t.ps[j]?=some s):(nQ rs t pl)[j]?=some (s,pl++[j],d9 rs t.i j):=by
 cases t with
 |n0 i=>simp[aM.ps]at h
 |n1 i a=>
  match j,h with
  |0,h=>cases h;rfl
  |j+1,h=>simp[aM.ps]at h
 |n2 i a b=>
  match j,h with
  |0,h=>cases h;rfl
  |1,h=>cases h;rfl
  |j+2,h=>simp[aM.ps]at h
theorem yE{rs:List (Nat×RV)}{ks:List tS}{j:Nat}{x:tS}(h0:re rs (ks.take j)=none)(hx:ks[j]?=some x):(cf rs x.1 x.2.1 x.2.2=none->re rs (ks.take (j+1))=none)/\∀y,cf rs x.1 x.2.1 x.2.2=some y->re rs ks=some y:=by
 have e:ks.take (j+1)=ks.take j++[x]:=by rw[Ig,hx];rfl
 refine⟨fun h=>?_,fun y h=>?_⟩
 ·rw[e,jX,h0]
  dsimp only;rw[dg,h]
  rfl
 ·have e2:ks=ks.take (j+1)++ks.drop (j+1):=(List.take_append_drop _ _).symm
  rw[e2,jX,e,jX,h0];dsimp only;rw[dg,h]
theorem An{rs:List (Nat×RV)}{i:Int}{n:Nat}{pl:List Nat}{w:Option (List Nat)}(h:jh rs i n pl w=none):∃(m:Nat) (r:Nat×RV),i=(m:Int)/\rs[m]?=some r/\n=(aT r.1 r.2).length/\(w=none\/w=some r.2.n):=by
 unfold jh at h
 by_cases h1:i<0\/(rs.length:Int)<=i
 ·rw[if_pos h1]at h;cases h
 rw[if_neg h1]at h;have hm:i=(i.toNat:Int):=by omega
 have hl:i.toNat<rs.length:=by omega
 rw[Hj hl]at h;dsimp only at h
 by_cases h2:n≠(aT rs[i.toNat].1 rs[i.toNat].2).length
 ·rw[if_pos h2]at h;cases h
 rw[if_neg h2]at h
 by_cases h3:w≠none/\w≠some rs[i.toNat].2.n
 ·rw[if_pos h3]at h;cases h
 refine⟨_,_,hm,Hj hl,by simpa using h2,?_⟩
 by_cases h4:w=none
 ·exact .inl h4
 ·right
  rcases Classical.em (w=some rs[i.toNat].2.n) with h5 | h5
  ·exact h5
  ·exact absurd ⟨h4,h5⟩ h3
noncomputable def BX:Option (List Nat)->V
 |none=>.non
 |some nm=>.str (tx nm)
noncomputable def kj(K:W.Frag)(CF:Addr)(H:Hp)(E:XK)(y:yd):Prop:=∀(tp p d:Addr) (H':Hp),ay H H'->H' d=some (.xd [("why",.ref tp)])->H' tp=some (.tup [.str y.1,.ref p])->bd K H' p (jS y.2)->E (.ref CF) (some d) H'
theorem kj.up{CF:Addr}{H H':Hp}{E:XK}{y:yd}(h:kj K CF H E y)(s:ay H H'):kj K CF H' E y:=fun tp p d H2 s2=>h tp p d H2 (s.trans s2)
theorem kj.made{CF:Addr}{H H':Hp}{E:XK}{w:Str}{pl:List Nat}{p:Addr}(h:kj K CF H E (w,pl))(s:ay H H')(hp:bd K H' p (jS pl)){tp d:Addr}(h1:H' tp=none)(h2:aB H' tp (.tup [.str w,.ref p]) d=none):E (.ref CF) (some d) (aB (aB H' tp (.tup [.str w,.ref p])) d (.xd [("why",.ref tp)])):=by
 have s1:=ae (o:=.tup [.str w,.ref p]) h1;have s2:=ae (o:=.xd [("why",.ref tp)]) h2;exact h tp p d _ (s.trans (s1.trans s2)) ac (s2 _ _ ac) ((s1.trans s2).sqT hp)
noncomputable def BD(rs:List (Nat×RV))(i:Int)(ps:List bC):Option bC:=match rs[i.toNat]? with
 |some r=>d8 r.1 r.2 ps
 |none=>none
noncomputable def gH(rs:List (Nat×RV))(i:Int)(ps:List bC)(pl:List Nat):List Nat ⊕ bC:=match BD rs i ps with
 |some p=>.inr p
 |none=>.inl pl
noncomputable def cq(rs:List (Nat×RV)):aM->List Nat->List Nat ⊕ bC
 | .n0 i,pl=>gH rs i [] pl
 | .n1 i a,pl=>match cq rs a (pl++[0]) with
  | .inl q=>.inl q
  | .inr p=>gH rs i [p] pl
 | .n2 i a b,pl=>match cq rs a (pl++[0]) with
  | .inl q=>.inl q
  | .inr p=>match cq rs b (pl++[1]) with
   | .inl q=>.inl q
   | .inr p'=>gH rs i [p,p'] pl
noncomputable def fk(rs:List (Nat×RV)):List tS->List Nat ⊕ List bC
 | []=>.inr []
 |x::r=>match cq rs x.1 x.2.1 with
  | .inl q=>.inl q
  | .inr p=>match fk rs r with
   | .inl q=>.inl q
   | .inr ps=>.inr (p::ps)
theorem cN(rs:List (Nat×RV))(x:tS)(r:List tS):fk rs (x::r)=match cq rs x.1 x.2.1 with
  | .inl q=>.inl q
  | .inr p=>match fk rs r with
   | .inl q=>.inl q
   | .inr ps=>.inr (p::ps):=by rw[fk]
theorem lE(rs:List (Nat×RV)):fk rs []=.inr []:=by rw[fk]
theorem rV(rs:List (Nat×RV))(t:aM)(pl:List Nat):cq rs t pl=match fk rs (nQ rs t pl) with
  | .inl q=>.inl q
  | .inr ps=>gH rs t.i ps pl:=by
 cases t with
 |n0 i=>rfl
 |n1 i a=>
  unfold cq;show _=match fk rs [(a,pl++[0],d9 rs i 0)]with | .inl q=>Sum.inl q | .inr ps=>gH rs i ps pl
  rw[cN,lE];dsimp only;cases cq rs a (pl++[0])<;>rfl
 |n2 i a b=>
  unfold cq;show _=match fk rs [(a,pl++[0],d9 rs i 0),(b,pl++[1],d9 rs i 1)]with | .inl q=>Sum.inl q | .inr ps=>gH rs i ps pl
  rw[cN,cN,lE];dsimp only;cases cq rs a (pl++[0]) with
  |inl q=>rfl
  |inr p=>cases cq rs b (pl++[1])<;>rfl
theorem l0(rs:List (Nat×RV))(ys:List tS):∀(xs:List tS),fk rs (xs++ys)=match fk rs xs with
  | .inl q=>.inl q
  | .inr ps=>match fk rs ys with
   | .inl q=>.inl q
   | .inr ps'=>.inr (ps++ps')
 | []=>by rw[Io,lE];cases fk rs ys<;>rfl
 |x::xs=>by
  rw[List.cons_append,cN,cN];cases cq rs x.1 x.2.1 with
  |inl q=>rfl
  |inr p=>
   dsimp only;rw[l0 rs ys xs];cases fk rs xs with
   |inl q=>rfl
   |inr ps=>cases fk rs ys<;>rfl
theorem q_{rs:List (Nat×RV)}{ks:List tS}{j:Nat}{x:tS}{ps:List bC}(h0:fk rs (ks.take j)=.inr ps)(hx:ks[j]?=some x):(∀p,cq rs x.1 x.2.1=.inr p->fk rs (ks.take (j+1))=.inr (ps++[p]))/\∀q,cq rs x.1 x.2.1=.inl q->fk rs ks=.inl q:=by
 have e:ks.take (j+1)=ks.take j++[x]:=by rw[Ig,hx];rfl
 refine⟨fun p h=>?_,fun q h=>?_⟩
 ·rw[e,l0,h0,cN,lE,h]
 ·have e2:ks=ks.take (j+1)++ks.drop (j+1):=(List.take_append_drop _ _).symm
  rw[e2,l0,e,l0,h0,cN,h]
noncomputable def Fm(rs:List (Nat×RV))(t:aM):Prop:=∃pl w,cf rs t pl w=none
theorem uB{rs:List (Nat×RV)}:∀{ks:List tS},re rs ks=none->∀x∈ks,cf rs x.1 x.2.1 x.2.2=none
 | [],_,x,hx=>nomatch hx
 |k::ks,h,x,hx=>by
  rw[dg]at h;cases hk:cf rs k.1 k.2.1 k.2.2 with
  |some y=>rw[hk]at h;cases h
  |none=>
   rw[hk]at h;rcases HF.mp hx with rfl | hx
   ·exact hk
   ·exact uB h x hx
theorem Fm.node{rs:List (Nat×RV)}{t:aM}(h:Fm rs t):∃(m:Nat) (r:Nat×RV),t.i=(m:Int)/\rs[m]?=some r/\t.ps.length=(aT r.1 r.2).length/\∀s∈t.ps,Fm rs s:=by
 obtain⟨pl,w,h⟩:=h;rw[y7]at h;cases hh:jh rs t.i t.ps.length pl w with
 |some y=>rw[hh]at h;cases h
 |none=>
  rw[hh]at h;obtain⟨m,r,h1,h2,h3,h4⟩:=An hh;refine⟨m,r,h1,h2,h3,fun s hs=>?_⟩;obtain⟨j,hj⟩:=List.getElem?_of_mem hs;exact⟨_,_,uB h _ (Hq (e_ (rs:=rs) (pl:=pl) hj))⟩
theorem pE{r:Nat×RV}{ps:List bC}(hk:r.1<4)(hl:ps.length=(aT r.1 r.2).length)(h6:∀p∈ps,∃a c,jg p a c):mm r.1 ps:=by
 obtain⟨k,v⟩:=r;rcases j' hk with rfl | rfl | rfl | rfl
 ·match ps,hl with
  | [],_=>exact .cell
 ·match ps,hl,h6 with
  | [p,q],_,h6=>obtain⟨a,c,h⟩:=h6 p (by simp);obtain⟨a',c',h'⟩:=h6 q (by simp);exact .beside h h'
 ·match ps,hl,h6 with
  | [p,q],_,h6=>obtain⟨a,c,h⟩:=h6 p (by simp);obtain⟨a',c',h'⟩:=h6 q (by simp);exact .above h h'
 ·match ps,hl,h6 with
  | [p],_,h6=>obtain⟨a,c,h⟩:=h6 p (by simp);exact .turn h
theorem ud{rs:List (Nat×RV)}:∀{ks:List tS} {ps:List bC},fk rs ks=.inr ps->ps.length=ks.length
 | [],ps,h=>by cases h;rfl
 |x::ks,ps,h=>by
  rw[cN]at h;cases h1:cq rs x.1 x.2.1 with
  |inl q=>rw[h1]at h;cases h
  |inr p=>
   rw[h1]at h;dsimp only at h;cases h2:fk rs ks with
   |inl q=>rw[h2]at h;cases h
   |inr ps'=>rw[h2]at h;cases h;simp[ud h2]
theorem jR{rs:List (Nat×RV)}{C:bC->Prop}:∀{ks:List tS} {ps:List bC},fk rs ks=.inr ps->(∀x∈ks,∀p,cq rs x.1 x.2.1=.inr p->C p)->∀p∈ps,C p
 | [],ps,h,_,p,hp=>by cases h;exact nomatch hp
 |x::ks,ps,h,hc,p,hp=>by
  rw[cN]at h;cases h1:cq rs x.1 x.2.1 with
  |inl q=>rw[h1]at h;cases h
  |inr p0=>
   rw[h1]at h;dsimp only at h;cases h2:fk rs ks with
   |inl q=>rw[h2]at h;cases h
   |inr ps'=>
    rw[h2]at h;cases h;rcases HF.mp hp with rfl | hp
    ·exact hc x (by simp) _ h1
    ·exact jR h2 (fun y hy=>hc y (by simp[hy])) p hp
theorem jr{rs:List (Nat×RV)}(hg:∀r∈rs,jk r):∀(n:Nat) {t:aM} {pl:List Nat} {p:bC},t.dep<=n->Fm rs t->cq rs t pl=.inr p->∃r c,jg p r c
 |0,t,_,_,hn,_,_=>absurd t.dep1 (by omega)
 |n+1,t,pl,p,hn,hf,h=>by
  obtain⟨m,r,h1,h2,h3,h4⟩:=hf.node;rw[rV]at h;cases hL:fk rs (nQ rs t pl) with
  |inl q=>rw[hL]at h;cases h
  |inr ps=>
   rw[hL]at h;have gr:=hg r (Hq h2);have h:gH rs t.i ps pl=.inr p:=h;unfold gH BD at h;rw[h1,Hv,h2]at h;dsimp only at h;cases hm:d8 r.1 r.2 ps with
   |none=>rw[hm]at h;cases h
   |some p'=>
    rw[hm]at h;cases h;refine qT (pE gr.k4 (by rw[ud hL,e8,h3]) (jR hL fun x hx p' hp'=>?_)) hm gr.good.sg;obtain⟨j,hj⟩:=List.getElem?_of_mem hx;have hjl:j<t.ps.length:=by rw[<- e8 rs t pl];exact(Hk.mp hj).1
    have hs:=Hj hjl;rw[e_ hs]at hj;cases hj;have hlt:=(aM.lt (Hu hjl)).1;exact jr hg n (by omega) (h4 _ (Hu hjl)) hp'
noncomputable def dP(rs:List (Nat×RV))(t:aM):Option yd:=match cf rs t [] none with
 |some y=>some y
 |none=>match cq rs t []with
  | .inl q=>some (Str.ofString "fit",q)
  | .inr _=>none
theorem Gr.noF{rs:List (Nat×RV)}{k:Nat}{d:Dt}{nm:List Nat}{p:bC}{c:Int}(g:Gr rs d nm p c k):∀(t:aM),d=t.d->∀pl,(∀w,(w=none\/w=some nm)->cf rs t pl w=none)/\cq rs t pl=.inr p:=by
 induction g with
 | @cell n v e=>
  intro t ht pl;have:t=.n0 n:=aM.d_inj (s:=t) (t:=.n0 n) ht.symm;subst this;have hn:=(Hk.mp e).1;refine⟨fun w hw=>?_,?_⟩
  ·unfold cf jh
   rw[if_neg (by omega),Hv,e];dsimp only;rw[if_neg (fun h=>h rfl),if_neg (by rcases hw with rfl | rfl<;>simp)]
  ·unfold cq gH BD
   rw[Hv,e]
   rfl
 | @turn n v d p c k e g ih=>
  intro t ht pl;obtain⟨u,rfl,_⟩:=g.tre;have:t=.n1 n u:=aM.d_inj (s:=t) (t:=.n1 n u) ht.symm;subst this;have hn:=(Hk.mp e).1;obtain⟨i1,i2⟩:=ih u rfl (pl++[0]);refine⟨fun w hw=>?_,?_⟩
  ·have h0:jh rs (n:Int) 1 pl w=none:=by
    unfold jh;rw[if_neg (by omega),Hv,e];dsimp only;rw[if_neg (fun h=>h rfl),if_neg (by rcases hw with rfl | rfl<;>simp)]
   unfold cf;rw[h0];refine i1 _ (.inr ?_);unfold d9;rw[Hv,e]
   rfl
  ·unfold cq
   rw[i2];unfold gH BD;dsimp only;rw[Hv,e]
   rfl
 | @pair n kd v d1 d2 p1 p2 p c1 c2 k1 k2 hk e g1 g2 m ih1 ih2=>
  intro t ht pl;obtain⟨u,rfl,_⟩:=g1.tre;obtain⟨u',rfl,_⟩:=g2.tre;have:t=.n2 n u u':=aM.d_inj (s:=t) (t:=.n2 n u u') ht.symm;subst this;have hn:=(Hk.mp e).1;obtain⟨i1,i2⟩:=ih1 u rfl (pl++[0]);obtain⟨i3,i4⟩:=ih2 u' rfl (pl++[1]);have hpk:aT kd v=[v.o1,v.o2]:=by rcases hk with rfl | rfl<;>rfl
  refine⟨fun w hw=>?_,?_⟩
  ·have h0:jh rs (n:Int) 2 pl w=none:=by
    unfold jh;rw[if_neg (by omega),Hv,e];dsimp only;rw[hpk,if_neg (fun h=>h rfl),if_neg (by rcases hw with rfl | rfl<;>simp)]
   have n0:d9 rs (n:Int) 0=some v.o1:=by unfold d9;rw[Hv,e];dsimp only;rw[hpk];rfl
   have n1:d9 rs (n:Int) 1=some v.o2:=by unfold d9;rw[Hv,e];dsimp only;rw[hpk];rfl
   unfold cf;rw[h0];dsimp only;rw[i1 _ (.inr n0)];exact i3 _ (.inr n1)
  ·unfold cq
   rw[i2];dsimp only;rw[i4];unfold gH BD;dsimp only;rw[Hv,e];dsimp only;rw[m]
theorem Gr.noF'{rs:List (Nat×RV)}{k:Nat}{t:aM}{nm:List Nat}{p:bC}{c:Int}(g:Gr rs t.d nm p c k):dP rs t=none:=by
 obtain⟨h1,h2⟩:=g.noF t rfl [];unfold dP;rw[h1 none (.inl rfl),h2]
noncomputable abbrev iq:Stmt:=gu 10
noncomputable def gO(K:W.Frag)(R:RC)(CG CF:Addr)(n:Nat):Sp:=fun vs H Q E=>∃(g:Addr) (v:V) (pl:Addr) (dx:Addr) (sg st:List Nat) (as:List Addr) (rs:List (Nat×RV)) (t:aM) (ps:List Nat) (wn:Option (List Nat)),vs=[.ref g,v,.ref pl,BX wn]/\jM R H CG dx g sg st as rs/\rs.length<=24/\bu H t.d v/\t.dep<=n/\bd K H pl (jS ps)/\ps.length+n<=100/\(cf rs t ps wn=none->∀H',ay H H'->Q .non H')/\∀y,cf rs t ps wn=some y->kj K CF H E y
theorem kg:aF ["grammar","tree","place","name","number","rule","parts","k","part"] ["grammar","tree","place","name"] (ak iq):=by walk_at "c"
theorem kr{R:RC}{f CG C_NoTree:Addr}{fd:FuncData}(F:c_ K "check_form" "check_form" iq f fd)(nb:NB mg)(rk:qj K R)(m_NoTree:mg "NoTree"=some (.ref C_NoTree))(xi_NoTree:XI P w K mg base 1 C_NoTree "why")(cp_parts:tP P w K mg base bH 1 "parts" (mU K R))(cm_rule:nM P w K mg base bH 1 CG "rule" ["self","k"] (fT R CG))(cm_many:nM P w K mg base bH 1 CG "many" ["self"] (iL R CG))(hm:mg "check_form"=some (.ref f))(hk:W.keepIn K (.ref f)=true)(hb:dc K fd ["grammar","tree","place","name"] []):∀n,n<=60->bc P w K mg base (dM P w) (n+4) f fd ["grammar","tree","place","name"] (gO K R CG C_NoTree n)
 |0,_=>by
  refine F.okX kg (fun vs H Q E h=>?_) (fun cdv A outer s H vs Q E hr h=>?_)
  ·obtain⟨g,v,pl,dx,sg,st,as,rs,t,ps,wn,rfl,_⟩:=h;rfl
  ·obtain⟨g,v,pl,dx,sg,st,as,rs,t,ps,wn,rfl,_,_,_,hd,_⟩:=h
   have:=t.dep1;omega
 |n+1,hn=>by
  have sc:=kg;have c_check_form:eX P w K mg base (dM P w) (n+4) "check_form" ["grammar","tree","place","name"] (gO K R CG C_NoTree n):=⟨f,fd,kr F nb rk m_NoTree xi_NoTree cp_parts cm_rule cm_many hm hk hb n (by omega),hm,hk,hb⟩;walk_at "x"
  ·obtain⟨g,v,pl,dx,sg,st,as,rs,t,ps,wn,rfl,_⟩:=h;rfl
  ·obtain⟨g,v,pl,dx,sg,st,as,rs,t,ps,wn,rfl,hG,h24,ht,hd,hpl,hz,q,bad⟩:=h
   refine⟨_,(ag (aK (i:=4) sc.nd rfl (Or.inl rfl) (az aC (am 1) af (fun _ _=>rfl)))
   (ag (bg (PW.pt (hJ (aA (a_.m0 nE) (am 4) af (aJ _)) (fq (aA (a_.m0 yO) (am 4) (yL cm_many (hr.mono (by omega)) bh (am 0)) (aJ _)))))
   (ah (dJ xi_NoTree (hr.mono (by omega)) rfl rfl m_NoTree (dB fun _ _ _ h=>h) (aa (aR (bf (aa (am 2) ad))) ad)))
   aN)
   (ag (aK (i:=5) sc.nd rfl (Or.inl rfl) (wH cm_rule (hr.mono (by omega)) bh (am 0) (aa (am 4) ad)))
   (ag (aK (i:=6) sc.nd rfl (Or.inl rfl) (t_ cp_parts (hr.mono (by omega)) bh (am 5)))
   (ag (bg (aA kn (aq (a_.m0 i6) (av eM rfl nb.len aQ (aa (am 1) ad)) af) (av aO rfl nb.len aQ (aa (am 6) ad)) (aJ _))
   (ah (dJ xi_NoTree (hr.mono (by omega)) rfl rfl m_NoTree (dB fun _ _ _ h=>h) (aa (aR (bf (aa (am 2) ad))) ad)))
   aN)
   (ag (bg (PW.pt (kP (aA jV (am 3) cn (aJ _)) (lU (aA kn (gM (am 5) rfl) (am 3) (aJ _)))))
   (ah (dJ xi_NoTree (hr.mono (by omega)) rfl rfl m_NoTree (dB fun _ _ _ h=>h) (aa (aR (bf (aa (am 2) ad))) ad)))
   aN)
   (ah (bP PassesOwn.leaving rfl (ol rfl nb.enumerate (aa (am 6) ad)) (fj (n:=2) rfl (aY (aH (i:=7) sc.nd rfl (Or.inl rfl)) (aY (aH (i:=8) sc.nd rfl (Or.inl rfl)) cM)))
   (ah (bN (aP (E:=E) c_check_form (hr.mono (by omega)) rfl (dG fun _ _ _ h=>h) (aa (am 0) (aa (az aC (am 1) (aq (a_.m0 bA) (am 7) af) (fun _ _=>rfl)) (aa (aq lu (am 2) (aR (aa (am 7) ad))) (aa (am 8) ad))))))))))))))),?_⟩
   obtain⟨a,vs,rfl,hta,htr⟩:=aM.val ht;have hvl:=bL htr;rw[y7]at q bad;have hps:=t.plen;walk_at "n";refine⟨_,bd.of hta,_,nA _ _,h1 _ _ ?_⟩;clear h1;have badE:∀(w:Str) (H':Hp),jh rs t.i t.ps.length ps wn=some (w,ps)->ay H H'->2<=sizeLine/\∀p,H' p=none->1<=sizeLine/\∀d,aB H' p (.tup [V.str w,V.ref pl]) d=none->E (.ref C_NoTree) (some d) (aB (aB H' p (.tup [V.str w,V.ref pl])) d (.xd [("why",.ref p)])):=fun w H' e s'=>
    ⟨aj (by decide),fun p hp=>⟨aj (by decide),fun d hd=>kj.made (bad (w,ps) (by rw[e])) s' (s'.sqT hpl) hp hd⟩⟩
   obtain⟨lk,pn,t0,ha,hkk,hrs,hN,hmm⟩:=id hG;walk_at "n";refine br (fun hlt=>?_) fun hlt=>?_
   ·refine badE (Str.ofString "number") H ?_ (ay.refl _)
    unfold jh;rw[if_pos (.inl hlt)]
   refine⟨_,_,ha,rfl,g,dx,sg,st,as,rs,rfl,hG,?_⟩;refine⟨_,rfl,?_⟩;refine br (fun hge=>?_) fun hge=>?_
   ·refine badE (Str.ofString "number") H ?_ (ay.refl _)
    unfold jh;rw[if_pos (.inr (by omega))]
   refine h1 _ _ ?_;clear h1;obtain⟨i,hi⟩:∃i:Nat,t.i=(i:Int):=⟨t.i.toNat,by omega⟩;have hil:i<rs.length:=by omega
   obtain⟨r,hri⟩:∃r,rs[i]?=some r:=⟨_,Hj hil⟩;have hlr:i<as.length:=by rw[hrs.1];exact hil
   obtain⟨b,hb'⟩:∃b,as[i]?=some b:=⟨_,Hj hlr⟩;have hrule:=hrs.2 i b r hb' hri;have hhd:jh rs t.i t.ps.length ps wn=if t.ps.length≠(aT r.1 r.2).length then some (Str.ofString "parts",ps) else if wn≠none/\wn≠some r.2.n then some (Str.ofString "name",ps) else none:=by
    unfold jh;rw[if_neg (by omega),hi,Hv,hri]
   have hnm:∀j,d9 rs t.i j=(aT r.1 r.2)[j]?:=fun j=>by
    unfold d9;rw[hi,Hv,hri]
   rw[hi]at hta ⊢;walk_at "n";refine⟨_,_,ha,rfl,g,dx,sg,st,as,rs,i,b,rfl,hG,hb',h1 _ _ ?_⟩;walk_at "nc";refine rH rk hrule fun lp H1 hlp0 hlp s1=>h1 _ _ ?_;walk_at "nc";refine⟨_,bd.of (s1 _ _ hta),_,aW.of hlp,?_⟩;rw[au,Hx,hvl];refine br (fun hne=>?_) fun hne=>?_
   ·refine badE (Str.ofString "parts") H1 ?_ s1
    rw[hhd,if_pos (by omega)]
   have hpl1:(aD (aT r.1 r.2)).length=t.ps.length:=by rw[au];omega
   refine h1 _ _ ?_;walk_at "nc";obtain⟨rdx,rl,hrb,hrl⟩:=id hrule;have hkl:=e8 rs t ps;have go:jh rs t.i t.ps.length ps wn=none->N1 [some (V.ref g),some (V.ref a),some (V.ref pl),some (BX wn),some (V.int (i:Int)),some (V.ref b),some (V.ref lp),none,none] H1:=fun hno=>by
    rw[hno]at q bad;refine h1 _ _ ?_;clear h1;walk_at "wp";refine⟨_,aW.of hlp,?_⟩;refine jY (xs:=aD (aT r.1 r.2)) (fun j σ H'=>ay H H'/\H' lp=some (.lst (aD (aT r.1 r.2)))/\re rs ((nQ rs t ps).take j)=none/\∃z1 z2,σ=[some (V.ref g),some (V.ref a),some (V.ref pl),some (BX wn),some (V.int (i:Int)),some (V.ref b),some (V.ref lp),z1,z2]) ⟨s1,hlp,by rw[Ix];rfl,_,_,rfl⟩ ?_ ?_ ?_
    ·rintro j σ H' _ ⟨_,h,_⟩
     exact aW.of h
    ·rintro j x σ H' T hx ⟨sm,hlp',hcfs,z1,z2,rfl⟩ hT
     have hj:j<t.ps.length:=by rw[<- hpl1];exact(Hk.mp hx).1
     have hj2:j<(aT r.1 r.2).length:=by rw[au]at hpl1;omega
     have hx':x=V.str (tx (aT r.1 r.2)[j]):=by
      rw[bb hj2]at hx;exact(Option.some.inj hx).symm
     subst hx';have sT:=ae (o:=.tup [V.int (j:Int),V.str (tx (aT r.1 r.2)[j])]) hT;have eT:aB H' T (.tup [V.int (j:Int),V.str (tx (aT r.1 r.2)[j])]) T=some (.tup [V.int (j:Int),V.str (tx (aT r.1 r.2)[j])]):=ac;generalize aB H' T (.tup [V.int (j:Int),V.str (tx (aT r.1 r.2)[j])])=H2 at sT eT ⊢;have sm2:=sm.trans sT;have hvj:vs[j]?=some vs[j]:=Hj (by omega);obtain⟨s',hs',ht'⟩:=gP htr hvj;have hlt:=(aM.lt (Hq hs')).1;obtain⟨st1,st2⟩:=yE hcfs (e_ (rs:=rs) (pl:=ps) hs');have hn':d9 rs t.i j=some (aT r.1 r.2)[j]:=by rw[hnm,Hj hj2]
     rw[hn']at st1 st2;walk_at "wp";refine⟨_,bd.of eT,rfl,_,_,rfl,_,_,rfl,rfl,?_⟩;refine⟨_,rfl,_,bd.of (sm2 _ _ hta),_,show gv (V.int (i:Int)::vs) (((j+1:Nat)):Int)=some vs[j] from aU (by rw[HV];exact hvj),aj (by decide),fun p1 hp1=>?_⟩;have s3:=sm2.trans (ae (o:=.tup [V.int (j:Int)]) hp1);have sL:=sT.trans (ae (o:=.tup [V.int (j:Int)]) hp1);have e3:aB H2 p1 (.tup [V.int (j:Int)]) p1=some (.tup [V.int (j:Int)]):=ac;generalize aB H2 p1 (.tup [V.int (j:Int)])=H3 at s3 e3 sL ⊢;refine⟨_,s3.sqT hpl,_,bd.of e3,by rw[fP];exact aj (by simp;omega),fun pp H4 hpp s4=>?_⟩;rw[lw]at hpp;have s5:=s3.trans s4;refine⟨g,vs[j],pp,dx,sg,st,as,rs,s',ps++[j],some (aT r.1 r.2)[j],rfl,hG.up s5,h24,ht'.up (cu.of s5) _,by omega,hpp,by simp;omega,fun hcf H5 s6=>⟨s5.trans s6,s6 _ _ (s4 _ _ (sL _ _ hlp')),st1 hcf⟩,fun y hy=>(bad y (st2 y hy)).up s5⟩
    ·rintro σ H' ⟨sm,_,hcfs,z1,z2,rfl⟩
     walk_at "wp";rw[hpl1,<- hkl,Ic]at hcfs;exact q hcfs H' sm
   rw[if_neg (by omega)]at hhd;cases wn with
   |none=>
    rw[if_neg (fun h=>h rfl)];refine go ?_;rw[hhd,if_neg (fun h=>h.1 rfl)]
   |some nm=>
    rw[if_pos (fun h=>by cases h)];refine⟨_,_,_,s1 _ _ hrb,(rk.icls r.1).cl,(rk.name r.1).1,_,(lX rl r.2 r.1).1,rfl,?_⟩;refine br (fun hne=>?_) fun hne=>?_
    ·refine badE (Str.ofString "name") H1 ?_ s1
     rw[hhd,if_pos ⟨(fun h=>by cases h),fun h=>hne (by cases h;rfl)⟩]
    ·refine go ?_
     have e:tx r.2.n=tx nm:=by
      have e:=Classical.not_not.mp hne;unfold BX at e;cases e
      rfl
     rw[hhd,if_neg (fun h=>h.2 (by rw[gE e]))]
noncomputable abbrev iM:Stmt:=kL 6 0
theorem uM:aF ["self","why"] ["self","why"] (ak iM):=by walk_at "c"
theorem zt{f C:Addr}{fd:FuncData}(F:c_ K "__init__" "NoTree.__init__" iM f fd)(xs:W.XSt K C "why"):bc P w K mg base bH 1 f fd ["self","why"] (iB C "why"):=by
 have sc:=uM;walk_at "f"
 ·obtain⟨a,v,rfl,_⟩:=h;rfl
 ·obtain⟨a,v,rfl,ha,q⟩:=h
  refine⟨_,(ah (sh (pv 0) (pv 1) rfl)),?_⟩;walk_at "wp";exact⟨C,ha,xs,fun d hd=>q d hd⟩
theorem yk{f C:Addr}{fd:FuncData}(F:c_ K "__init__" "NoTree.__init__" iM f fd)(xs:W.XSt K C "why"):wJ P w K mg base bH 1 f fd ["self","why"] (iB C "why"):=by
 have sc:=uM;refine F.okQ sc (fun vs H Q E h=>?_) (fun cdv A outer s H vs Q E h=>?_)
 ·obtain⟨a,v,rfl,_⟩:=h;rfl
 ·obtain⟨a,v,rfl,ha,q⟩:=h
  refine⟨_,(ah (sh (pv 0) (pv 1) rfl)),?_⟩;walk_at "wp";exact⟨C,ha,xs,fun d hd=>q d hd⟩
theorem ye{R:RC}{CF:Addr}{H:Hp}{k a b}{v:RV}{as:List Addr}{ps:List bC}{Q:VK}{E:XK}(r:jq R H k a v)(ok:Fr k v)(pa:qc H b as ps)(ft:mm k ps)
  (q:∀p,d8 k v ps=some p->bR H p Q) (x:d8 k v ps=none->E (.ref CF) none H) :
  ∃o,o∈nK K R CF/\∃a',V.ref a=V.ref a'/\∃dx fs,H a'=some (.ins o.1 dx fs)/\fs.lookup ("made":Str)=none/\o.2 [.ref a,.ref b] H Q E:=by
 obtain⟨o,ho,dx,fs,h1,h2,h3⟩:=zW r ok pa ft q x;exact⟨o,ho,a,rfl,dx,fs,h1,h2,h3⟩
noncomputable abbrev yx:Stmt:=gu 11
noncomputable def u9(K:W.Frag)(R:RC)(CG CF:Addr)(n:Nat):Sp:=fun vs H Q E=>∃(g:Addr) (v:V) (pl:Addr) (dx:Addr) (sg st:List Nat) (as:List Addr) (rs:List (Nat×RV)) (t:aM) (ps:List Nat),vs=[.ref g,v,.ref pl]/\jM R H CG dx g sg st as rs/\(∀r∈rs,jk r)/\bu H t.d v/\Fm rs t/\t.dep<=n/\bd K H pl (jS ps)/\ps.length+n<=100/\(∀p,cq rs t ps=.inr p->bR H p Q)/\∀q,cq rs t ps=.inl q->kj K CF H E (Str.ofString "fit",q)
theorem y4:aF ["grammar","tree","place","pictures","k","part"] ["grammar","tree","place"] (ak yx):=by walk_at "c"
theorem zy{R:RC}{f CG zga C_NoTree:Addr}{fd:FuncData}{bmD:List Value}{nD:String}(F:c_ K "lay" "lay" yx f fd)(nb:NB mg)(zDa:mg "NoFit"=some (.ref zga))(zhb:lN K zga bmD nD)(hbase:bmD.contains (.type "BaseException")=true)(und:oK K zga zga)(m_NoTree:mg "NoTree"=some (.ref C_NoTree))(xi_NoTree:Fq P w K mg base 1 C_NoTree "why")(cp_made:tP P w K mg base (dM P w) 4 "made" (nK K R zga))(cm_rule:nM P w K mg base bH 1 CG "rule" ["self","k"] (fT R CG))(hm:mg "lay"=some (.ref f))(hk:W.keepIn K (.ref f)=true)(hb:dc K fd ["grammar","tree","place"] []):∀n,n<=60->bc P w K mg base (AS P w) (n+5) f fd ["grammar","tree","place"] (u9 K R CG C_NoTree n)
 |0,_=>by
  refine F.okW y4 (fun vs H Q E h=>?_) (fun cdv A outer s H vs Q E hr h=>?_)
  ·obtain⟨g,v,pl,dx,sg,st,as,rs,t,ps,rfl,_⟩:=h;rfl
  ·obtain⟨g,v,pl,dx,sg,st,as,rs,t,ps,rfl,_,_,_,_,hd,_⟩:=h
   have:=t.dep1;omega
 |n+1,hn=>by
  have sc:=y4;have c_lay:eX P w K mg base (AS P w) (n+5) "lay" ["grammar","tree","place"] (u9 K R CG C_NoTree n):=⟨f,fd,zy F nb zDa zhb hbase und m_NoTree xi_NoTree cp_made cm_rule hm hk hb n (by omega),hm,hk,hb⟩;walk_at "y"
  ·obtain⟨g,v,pl,dx,sg,st,as,rs,t,ps,rfl,_⟩:=h;rfl
  ·obtain⟨g,v,pl,dx,sg,st,as,rs,t,ps,rfl,hG,hgd,ht,hfm,hd,hpl,hz,q,bad⟩:=h
   refine⟨_,(ag (aK (i:=3) sc.nd rfl (Or.inl rfl) (bv ad))
   (ag (bP PassesOwn.leaving rfl (Ac rfl nb.enumerate (aa (b0 sr (am 1) (dk af) dj) ad)) (fj (n:=2) rfl (aY (aH (i:=4) sc.nd rfl (Or.inl rfl)) (aY (aH (i:=5) sc.nd rfl (Or.inl rfl)) cM)))
   (ah (bN (gb PySem.F.plainAttrs_list PySem.F.slot_list_append PySem.F.type_list_append b6 (am 3) (aa (aP (E:=E) c_lay (hr.mono (by omega)) rfl (kO fun _ _ _ h=>h) (aa (am 0) (aa (am 5) (aa (aq lu (am 2) (aR (aa (am 4) ad))) ad)))) ad)))))
   (ah (sH xi_NoTree (hr.mono (by omega)) rfl rfl (Bd cp_made (hr.mono (by omega)) (wH cm_rule (hr.mono (by omega)) bh (am 0) (aa (az aC (am 1) af (fun _ _=>rfl)) ad)) (aa (am 3) ad)) rfl zDa zhb hbase rfl m_NoTree (vQ fun _ _ _ h=>h) (fun ea=>(aa (aR (bf (aa (am 2) ad))) ad)))))),?_⟩
   obtain⟨a,vs,rfl,hta,htr⟩:=aM.val ht;have hvl:=bL htr;have hps:=t.plen;obtain⟨i,r,hi,hri,hpar,hsub⟩:=hfm.node;have hil:i<rs.length:=(Hk.mp hri).1;rw[hi]at hta;rw[rV]at q bad;walk_at "n";refine⟨HQ _,fun l hl=>h1 _ _ ?_⟩;walk_at "nc";have s1:=ae (o:=.lst []) hl;have e1:aB H l (.lst []) l=some (.lst []):=ac;generalize aB H l (.lst [])=H1 at s1 e1 ⊢;refine⟨_,bd.of (s1 _ _ hta),BJ _ _,fun pt hpt=>?_⟩;rw[Be];have s2:=s1.trans (ae (o:=.tup vs) hpt);have e2:=ae (o:=.tup vs) hpt _ _ e1;have ep:aB H1 pt (.tup vs) pt=some (.tup vs):=ac;generalize aB H1 pt (.tup vs)=H2 at s2 e2 ep ⊢;refine⟨_,bd.of ep,?_⟩;refine vf (xs:=vs) (fun j σ H'=>ay H H'/\H' pt=some (.tup vs)/\(∃(bs:List Addr) (pcs:List bC),H' l=some (.lst (bs.map V.ref))/\bs.length=j/\pcs.length=j/\fk rs ((nQ rs t ps).take j)=.inr pcs/\∀(m:Nat) b p,bs[m]?=some b->pcs[m]?=some p->H' b=some (.lst (aD p))/\p≠[])/\∃z1 z2,σ=[some (V.ref g),some (V.ref a),some (V.ref pl),some (V.ref l),z1,z2]) ⟨s2,ep,⟨[],[],e2,rfl,rfl,by rw[Ix];rfl,fun m b y h=>by simp at h⟩,_,_,rfl⟩ ?_ ?_ ?_
   ·rintro j σ H' _ ⟨_,h,_⟩
    exact bd.of h
   ·rintro j x σ H' T hx ⟨sm,hpt',⟨bs,pcs,hbs,hbl,hpcl,hlay,hbat⟩,z1,z2,rfl⟩ hT
    have sT:=ae (o:=.tup [V.int (j:Int),x]) hT;have eT:aB H' T (.tup [V.int (j:Int),x]) T=some (.tup [V.int (j:Int),x]):=ac;generalize aB H' T (.tup [V.int (j:Int),x])=H3 at sT eT ⊢;obtain⟨s0,hs0,ht0⟩:=gP htr hx;have hjl:j<t.ps.length:=(Hk.mp hs0).1;obtain⟨st1,st2⟩:=q_ hlay (e_ (rs:=rs) (pl:=ps) hs0);have hlt:=(aM.lt (Hq hs0)).1;have sm3:=sm.trans sT;walk_at "wp";refine⟨_,bd.of eT,rfl,_,_,rfl,_,_,rfl,rfl,.inl ⟨rfl,_,aW.of (sT _ _ hbs)⟩,aj (by decide),fun p1 hp1=>?_⟩;have sU:=ae (o:=.tup [V.int (j:Int)]) hp1;have eU:aB H3 p1 (.tup [V.int (j:Int)]) p1=some (.tup [V.int (j:Int)]):=ac;generalize aB H3 p1 (.tup [V.int (j:Int)])=H4 at sU eU ⊢;have s4:=sm3.trans sU;refine⟨_,s4.sqT hpl,_,bd.of eU,by rw[fP];exact aj (by simp;omega),fun pp H5 hpp s5=>?_⟩;rw[lw]at hpp;have s6:=s4.trans s5;have sT5:=(sT.trans sU).trans s5;have hf0:=hsub s0 (Hq hs0);refine⟨g,x,pp,dx,sg,st,as,rs,s0,ps++[j],rfl,hG.up s6,hgd,ht0.up (cu.of s6) _,hf0,by omega,hpp,by simp;omega,fun pc hpc lq H6 hlq0 hlq s7=>?_,fun y hy=>(bad y (by rw[st2 y hy])).up s6⟩;have sT6:=sT5.trans s7;have hl6:=sT6 _ _ hbs;obtain⟨r6,c6,hp6⟩:=jr hgd n (by omega) hf0 hpc;have hpn:pc≠[]:=fun e=>by
     have:=hp6.rc.1;have:=hp6.r0;rw[e]at *;simp at *;omega
    refine⟨_,hl6,by rw[Hm];exact bp (by omega),bK (s6.trans s7) hl,?_,bs++[lq],by rw[ac];simp,by simp[hbl],pcs++[pc],by simp[hpcl],st1 pc hpc,fun m b y hb1 hy1=>?_⟩
    ·rw[ai (fun e=>by rw[e,hbs]at hpt';cases hpt')]
     exact sT6 _ _ hpt'
    ·have hb6:H6 b=some (.lst (aD y))/\y≠[]:=by
      by_cases hm':m<bs.length
      ·rw[HM hm']at hb1
       rw[HM (by omega)]at hy1;exact⟨sT6 _ _ (hbat m b y hb1 hy1).1,(hbat m b y hb1 hy1).2⟩
      ·rw[HL (by omega)]at hb1
       have hm2:m=bs.length:=by
        have:=(Hk.mp hb1).1;simp at this;omega
       subst hm2;rw[Nat.sub_self]at hb1;cases hb1;rw[HL (by omega),show bs.length-pcs.length=0 by omega]at hy1;cases hy1;exact⟨hlq,hpn⟩
     rw[ai (qb hl6 hb6.1 hb6.2)];exact hb6
   ·rintro σ H' ⟨sm,hpt',⟨bs,pcs,hbs,hbl,hpcl,hlay,hbat⟩,z1,z2,rfl⟩
    refine h1 _ _ ?_;walk_at "wp";obtain⟨lk,pn,t0,ha,hkk,hrs,hN,hmm⟩:=id (hG.up sm);have hlr:i<as.length:=by rw[hrs.1];exact hil
    obtain⟨b,hb'⟩:∃b,as[i]?=some b:=⟨_,Hj hlr⟩;have hrule:=hrs.2 i b r hb' hri;have hgr:=hgd r (Hq hri);rw[hvl]at hbl hpcl hlay;rw[<- e8 rs t ps,Ic]at hlay;rw[hlay]at q bad;have hpics:qc H' l bs pcs:=⟨hbs,by omega,fun m h1 h2=>(hbat m _ _ (Hj h1) (Hj h2)).1⟩;have hfit:mm r.1 pcs:=pE hgr.k4 (by omega) (jR hlay fun x hx p' hp'=>by
     obtain⟨j,hj⟩:=List.getElem?_of_mem hx;have hjl:j<t.ps.length:=by rw[<- e8 rs t ps];exact(Hk.mp hj).1
     rw[e_ (Hj hjl)]at hj;cases hj;have:=(aM.lt (Hu hjl)).1;exact jr hgd n (by omega) (hsub _ (Hu hjl)) hp')
    have hmk:BD rs t.i pcs=d8 r.1 r.2 pcs:=by unfold BD;rw[hi,Hv,hri]
    refine⟨_,_,ha,rfl,_,bd.of (sm _ _ hta),_,nA _ _,g,dx,sg,st,as,rs,i,b,rfl,hG.up sm,hb',?_⟩;dsimp only;refine ye hrule (hgr.good.ok r.1) hpics hfit (fun p hp l' H7 h0 h7 s7=>q p (by show gH rs t.i pcs ps=.inr p;unfold gH;rw[hmk,hp]) l' H7 (fR sm h0) h7 (sm.trans s7)) fun hno=>⟨zga,rfl,_,_,zhb,und,fun ea hea=>⟨aj (by decide),fun p hp=>⟨aj (by decide),ae hp _ _ ac,fun d hd=>?_⟩⟩⟩;have sx:=ae (o:=Dp ea (.ref zga) none) hea;refine kj.made (bad ps (by show gH rs t.i pcs ps=.inl ps;unfold gH;rw[hmk,hno])) (sm.trans sx) ((sm.trans sx).sqT hpl) hp hd
noncomputable abbrev wg:Stmt:=gu 9
noncomputable def tO(R:RC)(CG:Addr)(H:Hp)(g:Addr)(v:V)(rs:List (Nat×RV))(t:aM):Prop:=∃(dx:Addr) (sg st:List Nat) (as:List Addr),jM R H CG dx g sg st as rs/\(∀r∈rs,jk r)/\rs.length<=24/\bu H t.d v/\t.dep<=60
noncomputable def wP(K:W.Frag)(R:RC)(CG CF:Addr):Sp:=fun vs H Q E=>∃(g:Addr) (v:V) (rs:List (Nat×RV)) (t:aM),vs=[.ref g,v]/\tO R CG H g v rs t/\(dP rs t=none->∀p,cq rs t []=.inr p->bR H p Q)/\∀y,dP rs t=some y->kj K CF H E y
theorem Bt:aF ["grammar","tree"] ["grammar","tree"] (ak wg):=by walk_at "c"
theorem A3{R:RC}{f CG C_NoTree:Addr}{fd:FuncData}(F:c_ K "laid" "laid" wg f fd)(nb:NB mg)(c_check_form:eX P w K mg base (dM P w) 64 "check_form" ["grammar","tree","place","name"] (gO K R CG C_NoTree 60))(c_lay:eX P w K mg base (AS P w) 65 "lay" ["grammar","tree","place"] (u9 K R CG C_NoTree 60)):bc P w K mg base (AS P w) 66 f fd ["grammar","tree"] (wP K R CG C_NoTree):=by
 have sc:=Bt;walk_at "y"
 ·obtain⟨g,v,rs,t,rfl,_⟩:=h;rfl
 ·obtain⟨g,v,rs,t,rfl,⟨dx,sg,st,as,hG,hgd,h24,ht,hd⟩,q,bad⟩:=h
  refine⟨_,(ag (bN (aP (E:=E) c_check_form (hr.mono (by decide)) rfl (kO fun _ _ _ h=>h) (aa (am 0) (aa (am 1) (aa (aR ad) (aa cn ad))))))
   (ah (aI (aP (E:=E) c_lay (hr.mono (by decide)) rfl (kO fun _ _ _ h=>h) (aa (am 0) (aa (am 1) (aa (aR ad) ad))))))),?_⟩
  walk_at "wp";refine⟨HQ _,fun p1 hp1=>?_⟩;have s1:=ae (o:=.tup []) hp1;refine⟨g,v,p1,dx,sg,st,as,rs,t,[],none,rfl,hG.up s1,h24,ht.up (cu.of s1) _,hd,bd.of ac,by simp,fun hcf H2 s2=>⟨HQ _,fun p2 hp2=>?_⟩,fun y hy=>(bad y (by unfold dP;rw[hy])).up s1⟩;have s3:=(s1.trans s2).trans (ae (o:=.tup []) hp2);refine⟨g,v,p2,dx,sg,st,as,rs,t,[],rfl,hG.up s3,hgd,ht.up (cu.of s3) _,⟨_,_,hcf⟩,hd,bd.of ac,by simp,fun p hp l H4 h0 h4 s4=>q (by unfold dP;rw[hcf,hp]) p hp l H4 (fR s3 h0) h4 (s3.trans s4),fun y hy=>(bad _ (by unfold dP;rw[hcf,hy])).up s3⟩
noncomputable abbrev ip:Stmt:=gu 8
noncomputable def jt(K:W.Frag)(H:Hp)(v:V)(y:yd):Prop:=∃tp p,v=.ref tp/\H tp=some (.tup [.str y.1,.ref p])/\bd K H p (jS y.2)
noncomputable def gK(K:W.Frag)(R:RC)(CG:Addr):Sp:=fun vs H Q _=>∃(g:Addr) (v:V) (rs:List (Nat×RV)) (t:aM),vs=[.ref g,v]/\tO R CG H g v rs t/\(dP rs t=none->∀H',ay H H'->Q .non H')/\∀y,dP rs t=some y->∀v H',jt K H' v y->ay H H'->Q v H'
theorem qA:aF ["grammar","tree","e"] ["grammar","tree"] (ak ip):=by walk_at "c"
theorem qz{R:RC}{f CG C_NoTree:Addr}{fd:FuncData}{bmD:List Value}{nD:String}(F:c_ K "tree_fault" "tree_fault" ip f fd)(nb:NB mg)(m_NoTree:mg "NoTree"=some (.ref C_NoTree))(xo_NoTree:lN K C_NoTree bmD nD)(hbase:bmD.contains (.type "BaseException")=true)(und:oK K C_NoTree C_NoTree)(xt:W.XTy K C_NoTree)(xh:W.hasDictIn K C_NoTree=true)(xw:aL K C_NoTree "why")(c_laid:eX P w K mg base (AS P w) 66 "laid" ["grammar","tree"] (wP K R CG C_NoTree)):bc P w K mg base bH 68 f fd ["grammar","tree"] (gK K R CG):=by
 have sc:=qA;walk_at "f"
 ·obtain⟨g,v,rs,t,rfl,_⟩:=h;rfl
 ·obtain⟨g,v,rs,t,rfl,hL,q,bad⟩:=h
  refine⟨_,(ag (v9 (i:=2) sc.nd rfl rfl (CJ c_laid (hr.mono (by decide)) rfl (aa (am 0) (aa (am 1) ad))) rfl rfl rfl m_NoTree xo_NoTree hbase (fun ea=>(ah (aI (Bx (am 2) rfl)))))
   (ah (aI cn))),?_⟩
  walk_at "wp";refine⟨g,v,rs,t,rfl,hL,fun hno p hp l H1 _ _ s1=>q hno H1 s1,fun y hy tp p d H1 s1 hd htp hpp=>⟨C_NoTree,rfl,_,_,xo_NoTree,und,fun ea hea=>?_⟩⟩;have sx:=ae (o:=xo ea (.ref C_NoTree) (some d)) hea;exact⟨_,_,ac,_,sx _ _ hd,_,rfl,xt,xh,xw,bad y hy _ _ ⟨tp,p,rfl,sx _ _ htp,sx.sqT hpp⟩ (s1.trans sx)⟩
noncomputable abbrev tF:Stmt:=gu 60
noncomputable def pf(K:W.Frag)(n:Nat):Sp:=fun vs H Q _=>∃(lr:Addr) (v:V) (pl:Addr) (tl:List Addr) (rs:List (Nat×RV)) (t:aM) (ps:List Nat),vs=[.ref lr,v,.ref pl]/\bV H lr tl rs/\(∀r∈rs,jk r)/\bu H t.d v/\Fm rs t/\t.dep<=n/\bd K H pl (jS ps)/\ps.length+n<=100/\(∀p,cq rs t ps=.inr p->∀tp l H',H' tp=some (.tup [.ref l,.non])->H' l=some (.lst (aD p))->ay H H'->Q (.ref tp) H')/\∀q,cq rs t ps=.inl q->∀tp u H',H' tp=some (.tup [.non,u])->jt K H' u (Str.ofString "fit",q)->ay H H'->Q (.ref tp) H'
theorem uo:aF ["_law_rules","_law_tree","_law_place","_law_pictures","_law_k","_law_picture","_law_fault_here"] ["_law_rules","_law_tree","_law_place"] (ak tF):=by walk_at "c"
theorem jt.up{H H':Hp}{v:V}{y:yd}(h:jt K H v y)(s:ay H H'):jt K H' v y:=by
 obtain⟨tp,p,rfl,h1,h2⟩:=h;exact⟨tp,p,rfl,s _ _ h1,s.sqT h2⟩
theorem ux{f:Addr}{fd:FuncData}(F:c_ K "_law_lay" "_law_lay" tF f fd)(nb:NB mg)(zEa:eX P w K mg base bH 3 "_law_put" ["_law_told","_law_pictures"] k9)(hm:mg "_law_lay"=some (.ref f))(hk:W.keepIn K (.ref f)=true)(hb:dc K fd ["_law_rules","_law_tree","_law_place"] []):∀n,n<=60->bc P w K mg base bH (n+4) f fd ["_law_rules","_law_tree","_law_place"] (pf K n)
 |0,_=>by
  refine F.ok uo (fun vs H Q E h=>?_) (fun cdv A outer s H vs Q E hr h=>?_)
  ·obtain⟨lr,v,pl,tl,rs,t,ps,rfl,_⟩:=h;rfl
  ·obtain⟨lr,v,pl,tl,rs,t,ps,rfl,_,_,_,_,hd,_⟩:=h
   have:=t.dep1;omega
 |n+1,hn=>by
  have sc:=uo;have zBb:eX P w K mg base bH (n+4) "_law_lay" ["_law_rules","_law_tree","_law_place"] (pf K n):=⟨f,fd,ux F nb zEa hm hk hb n (by omega),hm,hk,hb⟩;walk_at "f"
  ·obtain⟨lr,v,pl,tl,rs,t,ps,rfl,_⟩:=h;rfl
  ·obtain⟨lr,v,pl,tl,rs,t,ps,rfl,hR,hgd,ht,hfm,hd,hpl,hz,q,bad⟩:=h
   refine⟨_,(ag (aK (i:=3) sc.nd rfl (Or.inl rfl) (bv ad))
   (ag (bP PassesOwn.never rfl (xY rfl nb.range (bE (aa (av eM rfl nb.len aQ (aa (am 1) ad)) ad))) (aH (i:=4) sc.nd rfl (Or.inl rfl))
   (ag (jy (aP zBb (hr.mono (by omega)) rfl bh (aa (am 0) (aa (az aC (am 1) (am 4) (fun _ _=>rfl)) (aa (aq lu (am 2) (aR (aa (aq (a_.m0 i6) (am 4) af) ad))) ad)))) (fj (n:=2) rfl (aY (aH (i:=5) sc.nd rfl (Or.inl rfl)) (aY (aH (i:=6) sc.nd rfl (Or.inl rfl)) cM))))
   (ag (bg (aA jV (am 6) cn (aJ _))
   (ah (aI (aR (aa cn (aa (am 6) ad)))))
   aN)
   (ah (bN (gb PySem.F.plainAttrs_list PySem.F.slot_list_append PySem.F.type_list_append b6 (am 3) (aa (am 5) ad)))))))
   (ag (aK (i:=5) sc.nd rfl (Or.inl rfl) (aP zEa (hr.mono (by omega)) rfl bh (aa (az aV (am 0) (az aC (am 1) af (fun _ _=>rfl)) (fun _ _=>rfl)) (aa (am 3) ad))))
   (ag (bg (aA wo (am 5) cn (aJ _))
   (ah (aI (aR (aa cn (aa (aR (bf (aa (am 2) ad))) ad)))))
   aN)
   (ah (aI (aR (aa (am 5) (aa cn ad))))))))),?_⟩
   obtain⟨a,vs,rfl,hta,htr⟩:=aM.val ht;have hvl:=bL htr;have hps:=t.plen;obtain⟨i,r,hi,hri,hpar,hsub⟩:=hfm.node;have hil:i<rs.length:=(Hk.mp hri).1;rw[hi]at hta;rw[rV]at q bad;walk_at "n";refine⟨HQ _,fun l hl=>h1 _ _ ?_⟩;walk_at "nc";have s1:=ae (o:=.lst []) hl;have e1:aB H l (.lst []) l=some (.lst []):=ac;generalize aB H l (.lst [])=H1 at s1 e1 ⊢;refine⟨_,bd.of (s1 _ _ hta),by decide,by rw[Hx];omega,by rw[Hx];omega,?_⟩;rw[show(((V.int (i:Int)::vs).length:Int)-1).toNat=vs.length by rw[Hx];omega];refine eQ (lo:=1) (n:=vs.length) (fun j σ H'=>ay H H'/\(∃(bs:List Addr) (pcs:List bC),H' l=some (.lst (bs.map V.ref))/\bs.length=j/\pcs.length=j/\fk rs ((nQ rs t ps).take j)=.inr pcs/\∀(m:Nat) b p,bs[m]?=some b->pcs[m]?=some p->H' b=some (.lst (aD p))/\p≠[])/\∃z1 z2 z3,σ=[some (V.ref lr),some (V.ref a),some (V.ref pl),some (V.ref l),z1,z2,z3]) ⟨s1,⟨[],[],e1,rfl,rfl,by rw[Ix];rfl,fun m b y h=>by simp at h⟩,_,_,_,rfl⟩ ?_ ?_
   ·rintro j σ H' hj ⟨sm,⟨bs,pcs,hbs,hbl,hpcl,hlay,hbat⟩,z1,z2,z3,rfl⟩
    have hvj:vs[j]?=some vs[j]:=Hj hj;obtain⟨s0,hs0,ht0⟩:=gP htr hvj;have hjl:j<t.ps.length:=(Hk.mp hs0).1;obtain⟨st1,st2⟩:=q_ hlay (e_ (rs:=rs) (pl:=ps) hs0);have hlt:=(aM.lt (Hq hs0)).1;have hat:gv (V.int (i:Int)::vs) (1+(j:Int))=some vs[j]:=by
     rw[show(1+(j:Int))=((j+1:Nat):Int) by omega];exact aU (by rw[HV];exact hvj)
    walk_at "o";refine⟨_,bd.of (sm _ _ hta),_,hat,aj (by decide),fun p1 hp1=>?_⟩;rw[show(1+(j:Int)-1)=(j:Int) by omega];have sU:=ae (o:=.tup [V.int (j:Int)]) hp1;have eU:aB H' p1 (.tup [V.int (j:Int)]) p1=some (.tup [V.int (j:Int)]):=ac;generalize aB H' p1 (.tup [V.int (j:Int)])=H4 at sU eU ⊢;have s4:=sm.trans sU;refine⟨_,s4.sqT hpl,_,bd.of eU,by rw[fP];exact aj (by simp;omega),fun pp H5 hpp s5=>?_⟩;rw[lw]at hpp;have s6:=s4.trans s5;have hf0:=hsub s0 (Hq hs0);refine⟨lr,vs[j],pp,tl,rs,s0,ps++[j],rfl,hR.up s6,hgd,ht0.up (cu.of s6) _,hf0,by omega,hpp,by simp;omega,fun pc hpc tp l1 H6 htp hl1 s7=>?_,fun y hy tp u H6 htp hu s7=>?_⟩
    ·refine⟨tp,rfl,_,bd.of htp,rfl,_,_,rfl,_,_,rfl,rfl,h2 _ _ ?_⟩
     clear h2;have sT6:=(sU.trans s5).trans s7;have hl6:=sT6 _ _ hbs;obtain⟨r6,c6,hp6⟩:=jr hgd n (by omega) hf0 hpc;have hpn:pc≠[]:=fun e=>by
      have:=hp6.rc.1;have:=hp6.r0;rw[e]at *;simp at *;omega
     walk_at "wp";refine br (fun e=>absurd trivial e) fun _=>?_;refine⟨.inl ⟨rfl,_,aW.of hl6⟩,_,hl6,by rw[Hm];exact bp (by omega),bK (s6.trans s7) hl,bs++[l1],by rw[ac];simp,by simp[hbl],pcs++[pc],by simp[hpcl],st1 pc hpc,fun m b y hb1 hy1=>?_⟩;have hb6:H6 b=some (.lst (aD y))/\y≠[]:=by
      by_cases hm':m<bs.length
      ·rw[HM hm']at hb1
       rw[HM (by omega)]at hy1;exact⟨sT6 _ _ (hbat m b y hb1 hy1).1,(hbat m b y hb1 hy1).2⟩
      ·rw[HL (by omega)]at hb1
       have hm2:m=bs.length:=by
        have:=(Hk.mp hb1).1;simp at this;omega
       subst hm2;rw[Nat.sub_self]at hb1;cases hb1;rw[HL (by omega),show bs.length-pcs.length=0 by omega]at hy1;cases hy1;exact⟨hl1,hpn⟩
     rw[ai (qb hl6 hb6.1 hb6.2)];exact hb6
    ·refine⟨tp,rfl,_,bd.of htp,rfl,_,_,rfl,_,_,rfl,rfl,h2 _ _ ?_⟩
     clear h2;walk_at "wp";obtain⟨tq,pq,rfl,hu1,hu2⟩:=hu;refine br (fun _=>?_) fun e=>absurd (fun e=>by cases e) e;refine⟨aj (by decide),fun p9 hp9=>bad y (by rw[st2 y hy]) p9 _ _ ac ?_ ((s6.trans s7).trans (ae hp9))⟩;exact jt.up ⟨tq,pq,rfl,hu1,hu2⟩ (ae hp9)
   ·rintro σ H' ⟨sm,⟨bs,pcs,hbs,hbl,hpcl,hlay,hbat⟩,z1,z2,z3,rfl⟩
    refine h1 _ _ ?_;clear h1;have hgr:=hgd r (Hq hri);rw[hvl]at hbl hpcl hlay;rw[<- e8 rs t ps,Ic]at hlay;rw[hlay]at q bad;have hpics:qc H' l bs pcs:=⟨hbs,by omega,fun m h1 h2=>(hbat m _ _ (Hj h1) (Hj h2)).1⟩;have hfit:mm r.1 pcs:=pE hgr.k4 (by omega) (jR hlay fun x hx p' hp'=>by
     obtain⟨j,hj⟩:=List.getElem?_of_mem hx;have hjl:j<t.ps.length:=by rw[<- e8 rs t ps];exact(Hk.mp hj).1
     rw[e_ (Hj hjl)]at hj;cases hj;have:=(aM.lt (Hu hjl)).1;exact jr hgd n (by omega) (hsub _ (Hu hjl)) hp')
    have hmk:BD rs t.i pcs=d8 r.1 r.2 pcs:=by unfold BD;rw[hi,Hv,hri]
    have hR':=hR.up sm;obtain⟨ti,hti⟩:∃ti,tl[i]?=some ti:=⟨_,Hj (by rw[hR.2.1];exact hil)⟩;walk_at "o";refine⟨_,bd.of (sm _ _ hta),_,nA _ _,_,_,rfl,aW.of hR'.1,V.ref ti,aU (by rw[Ho,hti];rfl),?_⟩;have hrow:=hR'.2.2 i ti r hti hri;refine⟨ti,l,r,bs,pcs,rfl,hrow,hgr.k4,hgr.good.t0,hgr.good.t7,hpics,hfit,fun p hp l2 H7 hl2 s7=>h2 _ _ ?_,fun hno H7 s7=>h2 _ _ ?_⟩
    ·clear h2
     walk_at "wp";exact⟨aj (by decide),fun p9 hp9=>q p (by show gH rs t.i pcs ps=.inr p;unfold gH;rw[hmk,hp]) p9 l2 _ ac (ae hp9 _ _ hl2) ((sm.trans s7).trans (ae hp9))⟩
    ·clear h2
     walk_at "wp";refine⟨aj (by decide),fun p8 hp8=>⟨aj (by decide),fun p9 hp9=>?_⟩⟩;have s8:=ae (o:=.tup [V.str (Str.ofString "fit"),V.ref pl]) hp8;have s9:=ae (o:=.tup [V.non,V.ref p8]) hp9;exact bad ps (by show gH rs t.i pcs ps=.inl ps;unfold gH;rw[hmk,hno]) p9 _ _ ac ⟨p8,pl,rfl,s9 _ _ ac,(((sm.trans s7).trans s8).trans s9).sqT hpl⟩ (((sm.trans s7).trans s8).trans s9)
structure FE where
 a:Addr
 v:V
 p:Addr
 t:aM
 pl:List Nat
 w:Option (List Nat)
noncomputable def FE.at(K:W.Frag)(H:Hp)(n:Nat)(x:FE):Prop:=H x.a=some (.tup [x.v,.ref x.p,BX x.w])/\bu H x.t.d x.v/\bd K H x.p (jS x.pl)/\x.pl.length+x.t.dep<=n
theorem FE.at.up{H H':Hp}{n:Nat}{x:FE}(h:x.at K H n)(s:NL H H'):x.at K H' n:=⟨s.tup _ _ h.1,h.2.1.up s.tup _,s.sqT h.2.2.1,h.2.2.2⟩
noncomputable def FE.kid(x:FE):tS:=(x.t,x.pl,x.w)
noncomputable def iN(xs:List FE):Nat:=(xs.map fun x=>x.t.cnt).sum
theorem o_(xs ys:List FE):iN (xs++ys)=iN xs+iN ys:=by unfold iN;rw[Hy,List.sum_append]
theorem uf(x:FE):iN [x]=x.t.cnt:=by unfold iN;simp
theorem oZ:∀(xs:List FE),xs.length<=iN xs
 | []=>by simp[iN]
 |x::xs=>by have:=oZ xs;have:=x.t.cnt1;unfold iN at *;simp;omega
theorem xV{c:TT}{tb:TS}{D:jf}{σ:St}{H:Hp}(h:∀tb',tb'=tb->v1 c tb' D σ H):v1 c tb D σ H:=h tb rfl
theorem Af(rs:List (Nat×RV))(t:aM)(pl:List Nat):(nQ rs t pl).map Prod.fst=t.ps:=by cases t<;>rfl
noncomputable def FP(K:W.Frag)(H:Hp)(v:V)(rs:List (Nat×RV))(t:aM)(lr ll:Addr)(m:Nat)(σ:St)(H':Hp):Prop:=ay H H'/\(∃xs:List FE,H' ll=some (.lst (xs.map fun x=>V.ref x.a))/\(∀x∈xs,x.at K H' 100)/\re rs (xs.reverse.map FE.kid)=cf rs t [] none/\iN xs<=1000/\m=iN xs)/\∃z1 z2 z3 z4 z5,σ=[some (V.ref lr),some v,some (V.ref ll),z1,z2,z3,z4,z5]
noncomputable abbrev mj:Stmt:=gu 61
noncomputable def qa(K:W.Frag):Sp:=fun vs H Q _=>∃(lr:Addr) (v:V) (tl:List Addr) (rs:List (Nat×RV)) (t:aM),vs=[.ref lr,v]/\bV H lr tl rs/\(∀r∈rs,jk r)/\rs.length<=24/\bu H t.d v/\t.dep<=60/\t.cnt<=1000/\(dP rs t=none->∀H',ay H H'->Q .non H')/\∀y,dP rs t=some y->∀v H',jt K H' v y->ay H H'->Q v H'
theorem vF:aF ["_law_rules","_law_tree","_law_left","_law_here","_law_place","_law_wanted","_law_parts_here","_law_k"] ["_law_rules","_law_tree"] (ak mj):=by walk_at "c"
theorem uW{f:Addr}{fd:FuncData}(F:c_ K "_law_fault" "_law_fault" mj f fd)(nb:NB mg)(zIc:eX P w K mg base bH 1 "_law_parts" ["_law_told"] pP)(zBb:eX P w K mg base bH 64 "_law_lay" ["_law_rules","_law_tree","_law_place"] (pf K 60)):bc P w K mg base bH 65 f fd ["_law_rules","_law_tree"] (qa K):=by
 have sc:=vF;walk_at "f"
 ·obtain⟨lr,v,tl,rs,t,rfl,_⟩:=h;rfl
 ·obtain⟨lr,v,tl,rs,t,rfl,hR,hgd,h24,ht,hd,hc,q,bad⟩:=h
  refine⟨_,(ag (aK (i:=2) sc.nd rfl (Or.inl rfl) (bv (aa (aR (aa (am 1) (aa (aR ad) (aa cn ad)))) ad)))
   (ag (uJ PassesOwn.never (aA (a_.m0 jb) (av aO rfl nb.len aQ (aa (am 2) ad)) af (aJ _)) (ag (jy (yZ PySem.F.plainAttrs_list PySem.F.slot_list_pop PySem.F.type_list_pop AA (am 2)) (fj (n:=3) rfl (aY (aH (i:=3) sc.nd rfl (Or.inl rfl)) (aY (aH (i:=4) sc.nd rfl (Or.inl rfl)) (aY (aH (i:=5) sc.nd rfl (Or.inl rfl)) cM)))))
   (ag (bg (PW.pt (hJ (aA (a_.m0 nE) (az aC (am 3) af (fun _ _=>rfl)) af (aJ _)) (fq (aA (a_.m0 yO) (az aC (am 3) af (fun _ _=>rfl)) (av aO rfl nb.len aQ (aa (am 0) ad)) (aJ _)))))
   (ah (aI (aR (bf (aa (am 4) ad)))))
   aN)
   (ag (aK (i:=6) sc.nd rfl (Or.inl rfl) (aP zIc (hr.mono (by decide)) rfl bh (aa (az aV (am 0) (az aC (am 3) af (fun _ _=>rfl)) (fun _ _=>rfl)) ad)))
   (ag (bg (aA kn (aq (a_.m0 i6) (av eM rfl nb.len aQ (aa (am 3) ad)) af) (av aO rfl nb.len aQ (aa (am 6) ad)) (aJ _))
   (ah (aI (aR (bf (aa (am 4) ad)))))
   aN)
   (ag (bg (PW.pt (kP (aA jV (am 5) cn (aJ _)) (lU (aA kn (az aC (az aV (am 0) (az aC (am 3) af (fun _ _=>rfl)) (fun _ _=>rfl)) af (fun _ _=>rfl)) (am 5) (aJ _)))))
   (ah (aI (aR (bf (aa (am 4) ad)))))
   aN)
   (ah (bP PassesOwn.never rfl (A_ rfl nb.reversed rfl nb.range (aa (av aO rfl nb.len aQ (aa (am 6) ad)) ad)) (aH (i:=7) sc.nd rfl (Or.inl rfl))
   (ah (bN (gb PySem.F.plainAttrs_list PySem.F.slot_list_append PySem.F.type_list_append b6 (am 2) (aa (aR (aa (az aC (am 3) (aq (a_.m0 bA) af (am 7)) (fun _ _=>rfl)) (aa (aq lu (am 4) (aR (aa (am 7) ad))) (aa (az aV (am 6) (am 7) (fun _ _=>rfl)) ad)))) ad))))))))))))
   (ah (aI (az aC (aP zBb (hr.mono (by decide)) rfl bh (aa (am 0) (aa (am 1) (aa (aR ad) ad)))) af (fun _ _=>rfl)))))),?_⟩
  walk_at "n";refine⟨HQ _,fun p1 hp1=>⟨aj (by decide),fun p2 hp2=>⟨aj (by decide),fun ll hll=>h1 _ _ ?_⟩⟩⟩;clear h1;have sA:=ae (o:=.tup []) hp1;have eA:aB H p1 (.tup []) p1=some (.tup []):=ac;generalize aB H p1 (.tup [])=H2 at sA eA hp2 hll ⊢;have sB:=ae (o:=.tup [v,V.ref p1,V.non]) hp2;have eB:aB H2 p2 (.tup [v,V.ref p1,V.non]) p2=some (.tup [v,V.ref p1,V.non]):=ac;generalize aB H2 p2 (.tup [v,V.ref p1,V.non])=H3 at sB eB hll ⊢;have sC:=ae (o:=.lst [V.ref p2]) hll;have eC:aB H3 ll (.lst [V.ref p2]) ll=some (.lst [V.ref p2]):=ac;have s03:=sA.trans sB;have hll0:H ll=none:=fR s03 hll;generalize aB H3 ll (.lst [V.ref p2])=H4 at sC eC ⊢;have s04:=s03.trans sC;refine ao fun N1 h1=>?_;refine xV fun tb etb=>?_;have hcp:iN [⟨p2,v,p1,t,[],none⟩]=t.cnt:=uf _;refine⟨FP K H v rs t lr ll,⟨_,s04,⟨[⟨p2,v,p1,t,[],none⟩],eC,fun x hx=>?_,?_,by rw[hcp];exact hc,rfl⟩,_,_,_,_,_,rfl⟩,?_⟩
  ·rw[Hn.mp hx]
   exact⟨sC _ _ eB,ht.up (cu.of s04) _,bd.of (sC _ _ (sB _ _ eA)),by simp;omega⟩
  ·show re rs [(t,[],none)]=_
   rw[dg];cases cf rs t [] none<;>rfl
  rintro m σ H' ⟨sm,⟨xs,hl',hxs,hcf,hcnt,rfl⟩,z1,z2,z3,z4,z5,rfl⟩;have hxl:=oZ xs;walk_at "wp";refine⟨_,aW.of hl',?_⟩;rw[Hm];rcases List.eq_nil_or_concat xs with rfl | ⟨ys,x,hyx⟩
  ·rw[if_neg (by simp)]
   refine h1 _ _ ?_;walk_at "wp";have hcf0:cf rs t [] none=none:=hcf.symm;refine⟨HQ _,fun p5 hp5=>?_⟩;have s5:=sm.trans (ae (o:=.tup []) hp5);refine⟨lr,v,p5,tl,rs,t,[],rfl,hR.up s5,hgd,ht.up (cu.of s5) _,⟨_,_,hcf0⟩,hd,bd.of ac,by simp,fun p hp tp l H6 htp hl s6=>⟨tp,rfl,_,bd.of htp,V.non,rfl,?_⟩,fun y hy tp u H6 htp hu s6=>⟨tp,rfl,_,bd.of htp,u,rfl,?_⟩⟩
   ·exact q (by unfold dP;rw[hcf0,hp]) H6 (s5.trans s6)
   ·exact bad _ (by unfold dP;rw[hcf0,hy]) u H6 hu (s5.trans s6)
  rw[Iz]at hyx;subst hyx;rw[if_pos (by simp)];refine⟨fun σ2 H2=>∃m',m'<iN (ys++[x])/\FP K H v rs t lr ll m' σ2 H2,fun σ' H' h=>h,?_⟩;obtain⟨hxa,hxt,hxp,hxd⟩:=hxs x (by simp);have lst1:((ys++[x]).map fun x=>V.ref x.a)[((ys++[x]).map fun x=>V.ref x.a).length-1]?=some (V.ref x.a):=by simp
  have lst2:((ys++[x]).map fun x=>V.ref x.a).dropLast=ys.map fun x=>V.ref x.a:=by rw[Hy];simp
  have n2:NL H' (aB H' ll (.lst (ys.map fun x=>V.ref x.a))):=NL.put hl';have l2:aB H' ll (.lst (ys.map fun x=>V.ref x.a)) ll=some (.lst (ys.map fun x=>V.ref x.a)):=ac;have s2:ay H (aB H' ll (.lst (ys.map fun x=>V.ref x.a))):=bK sm hll0;rw[etb];walk_at "o";refine⟨.inl ⟨rfl,_,aW.of hl'⟩,_,hl',_,lst1,_,rfl,?_⟩;rw[lst2];generalize aB H' ll (.lst (ys.map fun x=>V.ref x.a))=H2 at n2 l2 s2 ⊢;refine⟨_,bd.of (n2.tup _ _ hxa),rfl,_,_,rfl,_,_,rfl,_,_,rfl,rfl,h2 _ _ ?_⟩;clear h2;obtain⟨a,vs,hva,hta,htr⟩:=aM.val (hxt.up n2.tup _);rw[hva];have hvl:=bL htr;have hpl2:=x.t.plen;have hcx:iN (ys++[x])=iN ys+x.t.cnt:=by rw[o_,uf]
  have hcs:=x.t.cnt_eq;have hcfx:cf rs t [] none=match jh rs x.t.i x.t.ps.length x.pl x.w with
    |some y=>some y
    |none=>re rs (nQ rs x.t x.pl++ys.reverse.map FE.kid):=by
   rw[<- hcf,List.reverse_append,Hy,jX];show(match re rs [(x.t,x.pl,x.w)]with | some y=>some y | none=>_)=_;rw[dg,y7,jX];dsimp only;cases jh rs x.t.i x.t.ps.length x.pl x.w with
   |some y=>rfl
   |none=>dsimp only;cases re rs (nQ rs x.t x.pl)<;>rfl
  have badE:∀(w:Str) (H':Hp),jh rs x.t.i x.t.ps.length x.pl x.w=some (w,x.pl)->ay H2 H'->2<=sizeLine/\∀p,H' p=none->Q (.ref p) (aB H' p (.tup [V.str w,V.ref x.p])):=fun w H' e s'=>
   ⟨aj (by decide),fun p hp=>bad (w,x.pl) (by unfold dP;rw[hcfx,e]) _ _ ⟨p,x.p,rfl,ac,(s'.trans (ae hp)).sqT (n2.sqT hxp)⟩ (s2.trans (s'.trans (ae hp)))⟩
  have hR2:=hR.up s2;walk_at "o";have hrl:(tl.map V.ref).length=rs.length:=by rw[Hm,hR.2.1]
  refine⟨_,bd.of hta,_,nA _ _,_,rfl,br (fun hlt=>?_) fun hlt=>⟨_,bd.of hta,_,nA _ _,_,aW.of hR2.1,_,rfl,br (fun hge=>?_) fun hge=>h2 _ _ ?_⟩⟩
  ·refine badE (Str.ofString "number") H2 ?_ (ay.refl _)
   unfold jh;rw[if_pos (.inl hlt)]
  ·refine badE (Str.ofString "number") H2 ?_ (ay.refl _)
   unfold jh;rw[if_pos (.inr (by omega))]
  clear h2;rw[hrl]at hge;obtain⟨i,hi⟩:∃i:Nat,x.t.i=(i:Int):=⟨x.t.i.toNat,by omega⟩;have hil:i<rs.length:=by omega
  obtain⟨r,hri⟩:∃r,rs[i]?=some r:=⟨_,Hj hil⟩;obtain⟨ti,hti⟩:∃ti,tl[i]?=some ti:=⟨_,Hj (by rw[hR.2.1];exact hil)⟩;have hgr:=hgd r (Hq hri);have hati:gv (tl.map V.ref) (i:Int)=some (V.ref ti):=aU (by rw[Ho,hti];rfl);have hhd:jh rs x.t.i x.t.ps.length x.pl x.w=if x.t.ps.length≠(aT r.1 r.2).length then some (Str.ofString "parts",x.pl) else if x.w≠none/\x.w≠some r.2.n then some (Str.ofString "name",x.pl) else none:=by
   unfold jh;rw[if_neg (by omega),hi,Hv,hri]
  have hnm:∀j,d9 rs x.t.i j=(aT r.1 r.2)[j]?:=fun j=>by
   unfold d9;rw[hi,Hv,hri]
  rw[hi]at hta;walk_at "o";refine⟨_,bd.of hta,_,nA _ _,_,_,rfl,aW.of hR2.1,V.ref ti,hati,?_⟩;refine⟨ti,r,rfl,hR2.2.2 i ti r hti hri,hgr.k4,fun lp H5 hlp0 hlp s5=>h2 _ _ ?_⟩;clear h2;have s05:=s2.trans s5;have hR5:=hR.up s05;have hta5:=s5 _ _ hta;have hrow5:=hR5.2.2 i ti r hti hri;walk_at "o";refine⟨_,bd.of hta5,_,aW.of hlp,?_⟩;rw[au,Hx,hvl];refine br (fun hne=>?_) fun hne=>h2 _ _ ?_
  ·refine badE (Str.ofString "parts") H5 ?_ s5
   rw[hhd,if_pos (by omega)]
  clear h2;have hpl1:(aT r.1 r.2).length=x.t.ps.length:=by omega
  rw[if_neg (by omega)]at hhd;walk_at "o"
  suffices go:jh rs x.t.i x.t.ps.length x.pl x.w=none->N2 [some (V.ref lr),some v,some (V.ref ll),some (V.ref a),some (V.ref x.p),some (BX x.w),some (V.ref lp),z5] H5 by
   obtain⟨xa,xv,xp,xt,xpl,xw⟩:=x;cases xw with
   |none=>
    refine br (fun e=>absurd rfl e) fun _=>go ?_;rw[hhd,if_neg (fun h=>h.1 rfl)]
   |some nm=>
    refine br (fun _=>?_) fun e=>absurd (fun e=>by cases e) e;refine⟨_,bd.of hta5,_,nA _ _,_,_,rfl,aW.of hR5.1,V.ref ti,hati,?_⟩;refine⟨ti,rfl,_,bd.of hrow5,_,yR r,rfl,br (fun hne=>?_) fun hne=>go ?_⟩
    ·refine badE (Str.ofString "name") H5 ?_ s5
     rw[hhd,if_pos ⟨(fun h=>by cases h),fun h=>hne (by cases h;rfl)⟩]
    ·have e:tx r.2.n=tx nm:=by
      have e:=Classical.not_not.mp hne;unfold BX at e;cases e
      rfl
     rw[hhd,if_neg (fun h=>h.2 (by rw[gE e]))]
  intro hno;refine h2 _ _ ?_;clear h2;rw[hno]at hcfx;walk_at "wp";have hlne:lp≠ll:=fun e=>by rw[e,l2]at hlp0;cases hlp0
  have hN:(aD (aT r.1 r.2)).length=x.t.ps.length:=by rw[au,hpl1]
  refine⟨_,aW.of hlp,by omega,by omega,?_⟩;rw[hN,Hv];have hN0:((x.t.ps.length:Nat):Int)-1=(x.t.ps.length:Int)-1:=rfl;have hkl:=e8 rs x.t x.pl;refine uy (hi:=(x.t.ps.length:Int)-1) (n:=x.t.ps.length) (fun j σ H'=>ay H H'/\NL H5 H'/\(∃zs:List FE,H' ll=some (.lst ((ys++zs).map fun x=>V.ref x.a))/\(∀z∈zs,z.at K H' 100)/\zs.map FE.kid=((nQ rs x.t x.pl).drop (x.t.ps.length-j)).reverse/\zs.length<=j)/\H' lp=some (.lst (aD (aT r.1 r.2)))/\∃z,σ=[some (V.ref lr),some v,some (V.ref ll),some (V.ref a),some (V.ref x.p),some (BX x.w),some (V.ref lp),z]) ⟨s05,fun b o h _=>h,⟨[],by rw[Ia];exact s5 _ _ l2,(fun z hz=>nomatch hz),by rw[<- hkl];simp,by simp⟩,hlp,_,rfl⟩ ?_ ?_
  ·rintro j σ H6 hj ⟨sm6,n6,⟨zs,l6,hzs,hmap,hzl⟩,hlp6,z,rfl⟩
   obtain⟨k,hk⟩:∃k,x.t.ps.length=k+j+1:=⟨x.t.ps.length-j-1,by omega⟩;have hk1:((x.t.ps.length:Int)-1-(j:Int))=(k:Int):=by omega
   rw[hk1];have hkv:vs[k]?=some vs[k]:=Hj (by omega);have n56:=(NL.of s5).trans n6;obtain⟨s',hs',ht'⟩:=gP (htr.up n56.tup _) hkv;have hkp:k<(aT r.1 r.2).length:=by omega
   have hlt:=(aM.lt (Hq hs')).1;walk_at "wp";have hat:gv (V.int (i:Int)::vs) (1+(k:Int))=some vs[k]:=by
    rw[show(1+(k:Int))=((k+1:Nat):Int) by omega];exact aU (by rw[HV];exact hkv)
   refine⟨.inl ⟨rfl,_,aW.of l6⟩,_,bd.of (n56.tup _ _ hta),_,hat,aj (by decide),fun p1 hp1=>?_⟩;have sA:=ae (o:=.tup [V.int (k:Int)]) hp1;have eA:aB H6 p1 (.tup [V.int (k:Int)]) p1=some (.tup [V.int (k:Int)]):=ac;generalize aB H6 p1 (.tup [V.int (k:Int)])=H7 at sA eA ⊢;refine⟨_,sA.sqT (n56.sqT (n2.sqT hxp)),_,bd.of eA,by rw[fP];exact aj (by simp;omega),fun pp H8 hpp sB=>?_⟩;rw[lw]at hpp;have s68:=sA.trans sB;refine⟨_,aW.of (s68 _ _ hlp6),V.str (tx (aT r.1 r.2)[k]),aU (bb hkp),aj (by decide),fun p2 hp2=>?_⟩;have sC:=ae (o:=.tup [vs[k],V.ref pp,V.str (tx (aT r.1 r.2)[k])]) hp2;have eC:aB H8 p2 (.tup [vs[k],V.ref pp,V.str (tx (aT r.1 r.2)[k])]) p2=some (.tup [vs[k],V.ref pp,V.str (tx (aT r.1 r.2)[k])]):=ac;generalize aB H8 p2 (.tup [vs[k],V.ref pp,V.str (tx (aT r.1 r.2)[k])])=H9 at sC eC ⊢;have s69:=s68.trans sC;have l9:=s69 _ _ l6;have n9:NL H9 (aB H9 ll (.lst (((ys++zs).map fun x=>V.ref x.a)++[V.ref p2]))):=NL.put l9;have n69:=(NL.of s69).trans n9;have hys:(ys++zs).length<=1000+j:=by
    rw[hcx]at hcnt hxl;have:=oZ ys;simp;omega
   refine⟨_,l9,by rw[Hm];exact bp (by omega),bK (sm6.trans s69) hll0,n6.trans n69,⟨zs++[⟨p2,vs[k],pp,s',x.pl++[k],some (aT r.1 r.2)[k]⟩],by rw[ac];simp,fun z hz=>?_,?_,by simp;omega⟩,by rw[ai hlne];exact s69 _ _ hlp6⟩
   ·rcases Hz.mp hz with h | h
    ·exact(hzs z h).up n69
    ·rw[Hn.mp h]
     exact⟨n9.tup _ _ eC,ht'.up n69.tup _,n9.sqT (sC.sqT hpp),by simp;omega⟩
   ·have e1:x.t.ps.length-(j+1)=k:=by omega
    have e2:x.t.ps.length-j=k+1:=by omega
    rw[e1,lh (e_ (rs:=rs) (pl:=x.pl) hs'),HX,Hy,hmap,e2,hnm,Hj hkp]
    rfl
  ·rintro σ H6 ⟨sm6,n6,⟨zs,l6,hzs,hmap,hzl⟩,hlp6,z,rfl⟩
   rw[Nat.sub_self,Iy]at hmap;have hcz:iN zs+1=x.t.cnt:=by
    have h1:iN zs=(((zs.map FE.kid).map Prod.fst).map aM.cnt).sum:=by unfold iN;rw[HE,HE];rfl
    rw[h1,hmap,List.map_reverse,Af,List.map_reverse,List.sum_reverse];omega
   refine⟨iN (ys++zs),by rw[o_,hcx];omega,sm6,⟨ys++zs,l6,fun z hz=>?_,?_,?_,rfl⟩,_,_,_,_,_,rfl⟩
   ·rcases Hz.mp hz with h | h
    ·exact(hxs z (by simp[h])).up ((n2.trans (NL.of s5)).trans n6)
    ·exact hzs z h
   ·rw[hcfx,List.reverse_append,Hy,List.map_reverse,hmap,List.reverse_reverse]
   ·rw[o_]
    rw[hcx]at hcnt;omega
noncomputable abbrev iV:Stmt:=gu 62
noncomputable def gI(K:W.Frag):Sp:=fun vs H Q _=>∃(v u:V),vs=[v,u]/\((v=.non/\u=.non)\/∃y:yd,jt K H v y/\jt K H u y/\y.2.length<=1000)/\∀H',ay H H'->Q (.bl true) H'
theorem qq:aF ["_law_found","_law_due"] ["_law_found","_law_due"] (ak iV):=by walk_at "c"
theorem BS{H:Hp}:∀{is:List Nat},cK K H (is.map fun(i:Nat)=>Dt.int (i:Int)) (jS is)
 | []=>by unfold jS;rw[List.map_nil,List.map_nil];unfold cK;rfl
 |i::is=>by
  unfold jS;rw[HW,HW];unfold cK;exact⟨_,_,rfl,by unfold hV;rfl,BS⟩
theorem wY:∀(is:List Nat),Dt.deps (is.map fun(i:Nat)=>Dt.int (i:Int))=0
 | []=>by rw[List.map_nil];unfold Dt.deps;rfl
 |i::is=>by
  rw[HW];unfold Dt.deps;rw[wY is];unfold Dt.dep
  rfl
theorem Av{H:Hp}{v:V}{y:yd}(h:jt K H v y):hV K H (.tup [.str y.1,.tup (y.2.map fun(i:Nat)=>Dt.int (i:Int))]) v:=by
 obtain⟨tp,p,rfl,h1,h2⟩:=h;unfold hV;refine⟨tp,_,rfl,bd.of h1,?_⟩;unfold cK;refine⟨_,_,rfl,by unfold hV;rfl,?_⟩;unfold cK;refine⟨_,_,rfl,?_,by unfold cK;rfl⟩;unfold hV;exact⟨p,_,rfl,h2,BS⟩
theorem qw{f:Addr}{fd:FuncData}(F:c_ K "_law_fault_is" "_law_fault_is" iV f fd)(nb:NB mg)(zJc:eX P w K mg base bH 1 "_law_whole" ["_law_found"] pC):bc P w K mg base bH 2 f fd ["_law_found","_law_due"] (gI K):=by
 have sc:=qq;walk_at "f"
 ·obtain⟨v,u,rfl,_⟩:=h;rfl
 ·obtain⟨v,u,rfl,h,q⟩:=h
  have hu:=hr.units;refine⟨_,(ag (bg (aA wo (am 1) cn (aJ _))
   (ah (aI (lM wo (am 0) cn (aJ _))))
   aN)
   (ag (bg (PW.pt (hJ (ky (lx (av hU rfl nb.isinstance df (aa (am 0) (aa (nY (v:=.ty "tuple") rfl nb.tuple lO rfl) ad))) fun _=>rfl)) (hJ (aA kn (av eM rfl nb.len aQ (aa (am 0) ad)) af (aJ _)) (fq (ky (lx (av hU rfl nb.isinstance df (aa (az aC (am 0) af (fun _ _=>rfl)) (aa (nY (v:=.ty "tuple") rfl nb.tuple lO rfl) ad))) fun _=>rfl))))))
   (ah (aI B3))
   aN)
   (ah (aI (pZ (av (uG rfl) rfl nb.all zR (aa (bS ["_law_k"] [] rfl (bw.of (by kernel_rfl)) (by kernel_rfl) (vi (az aC (am 0) af (fun _ _=>rfl)))
    (fun _ _ _ _=>(aH (i:=0) (by show(["_law_k"]:List Str).Nodup;decide +kernel) rfl (Or.inl rfl))) (fun _ _ _ _=>bI) (fun _ _ _ _=>(aP zJc (hr.mono (by decide)) rfl bh (aa (am 0) ad)))) ad)) (sQ (lM (AO hu) (am 0) (am 1) (aJ _)))))))),?_⟩
  rcases h with⟨rfl,rfl⟩ | ⟨y,hv,hu',hyl⟩
  ·walk_at "wp"
   exact q H (ay.refl _)
  ·obtain⟨tq,pq,rfl,hq1,hq2⟩:=id hu'
   obtain⟨tp,p,rfl,hp1,hp2⟩:=id hv;walk_at "n";refine h1 _ _ ?_;walk_at "nc";refine⟨_,bd.of hp1,?_⟩
   try rw[if_neg (by decide)]
   refine⟨_,bd.of hp1,?_⟩;rw[if_neg (by simp)];refine⟨_,bd.of hp1,_,rfl,_,rfl,_,hp2,?_⟩
   try rw[if_neg (by decide)]
   refine h1 _ _ ?_;clear h1;walk_at "wp";refine⟨_,bd.of hp1,_,rfl,p,rfl,⟨_,hp2⟩,?_⟩;refine Ar (xs:=jS y.2) (fun i acc σ H'=>H'=H/\acc=(List.replicate i (V.bl true))/\i<=(jS y.2).length/\∃z,σ=[z]) ⟨rfl,rfl,HQ _,_,rfl⟩ ?_ (fun i acc σ H' h=>h.2.2.1) ?_ ?_ ?_
   ·rintro i acc σ H' ⟨_,rfl,hi,_⟩
    rw[fP]at hi;rw[List.length_replicate];exact bp (by omega)
   ·rintro i acc σ H' ⟨rfl,_⟩
    exact hp2
   ·rintro i x acc σ H' hx ⟨rfl,rfl,hi,z,rfl⟩
    obtain⟨k,_,rfl⟩:=wG hx;walk_at "wp";refine⟨_,rfl,rfl,?_,(Hk.mp hx).1⟩;exact List.replicate_succ'.symm.trans List.replicate_succ
   ·rintro acc σ H' ⟨rfl,rfl,_,_⟩
    intro l hl;refine⟨List.replicate (jS y.2).length true,by rw[List.map_replicate];exact aW.of ac,?_⟩;rw[if_pos (by simp)];have sl:=ae (o:=.lst (List.replicate (jS y.2).length (V.bl true))) hl;refine .inl ⟨_,?_,.inr ⟨Av (hv.up sl),Av (hu'.up sl)⟩,q _ sl⟩;unfold Dt.deps Dt.deps Dt.deps Dt.dep;rw[wY]
    decide
theorem Gr.pos{rs:List (Nat×RV)}{k:Nat}{d:Dt}{nm:List Nat}{p:bC}{c:Int}(g:Gr rs d nm p c k):0<rs.length:=by
 cases g with
 |cell e=>have:=(Hk.mp e).1;omega
 |turn e _=>have:=(Hk.mp e).1;omega
 |pair _ e _ _ _=>have:=(Hk.mp e).1;omega
theorem rf{rs:List (Nat×RV)}{p:bC}{x:SI}(h:lj rs p x):∃t:aM,x.d=t.d/\t.dep<=18/\t.cnt<=60/\dP rs t=none:=by
 obtain⟨t,ht,hd⟩:=h.gr.tre;have hg:=h.gr;rw[ht]at hg;have h1:=h.m1;have h2:=h.m2;rw[ht,wI]at h1;have h3:=h.k1;exact⟨t,ht,by omega,by omega,hg.noF'⟩
theorem oJ{rs:List (Nat×RV)}{p:bC}:∀{xs:List SI},(∀x∈xs,lj rs p x)->∃ts:List aM,(∀x∈xs,∃t∈ts,x.d=t.d)/\∀t∈ts,t.dep<=18/\t.cnt<=60
 | [],_=>⟨[],fun _ h=>(nomatch h),fun _ h=>(nomatch h)⟩
 |x::xs,h=>by
  obtain⟨ts,h1,h2⟩:=oJ (xs:=xs) fun y hy=>h y (by simp[hy]);obtain⟨t,e,h3,h4,_⟩:=rf (h x (by simp));refine⟨t::ts,fun y hy=>?_,fun u hu=>?_⟩
  ·rcases HF.mp hy with rfl | hy
   ·exact⟨t,by simp,e⟩
   ·obtain⟨u,hu,e⟩:=h1 y hy
    exact⟨u,by simp[hu],e⟩
  ·rcases HF.mp hu with rfl | hu
   ·exact⟨h3,h4⟩
   ·exact h2 u hu
theorem uT{f s:aM}:∀{pl:List Nat} {t:aM},Sub pl t=some s->(iK f pl t).dep<=max t.dep (pl.length+f.dep)
 | [],t,h=>by simp[iK];omega
 |k::pl,t,h=>by
  unfold Sub at h;unfold iK;cases hj:t.ps[k]? with
  |none=>rw[hj]at h;cases h
  |some u=>
   rw[hj]at h;have h2:=uT (f:=f) h;obtain⟨h3,h4⟩:=w8 (u:=iK f pl u) hj;have:=(aM.lt (Hq hj)).1;show(kH t.i (t.ps.set k (iK f pl u))).dep<=max t.dep (pl.length+1+f.dep);omega
theorem z_{s f:aM}(h:f.ps=s.ps.reverse):f.cnt=s.cnt/\f.dep=s.dep:=by
 have h1:f.cnt=s.cnt:=by rw[f.cnt_eq,s.cnt_eq,h,List.map_reverse,List.sum_reverse]
 refine⟨h1,?_⟩;cases s with
 |n0 i=>cases f with
  |n0 j=>rfl
  |n1 j a=>simp[aM.ps]at h
  |n2 j a b=>simp[aM.ps]at h
 |n1 i c=>cases f with
  |n0 j=>simp[aM.ps]at h
  |n1 j a=>simp[aM.ps]at h;rw[h];rfl
  |n2 j a b=>simp[aM.ps]at h
 |n2 i c d=>cases f with
  |n0 j=>simp[aM.ps]at h
  |n1 j a=>simp[aM.ps]at h
  |n2 j a b=>simp[aM.ps]at h;rw[h.1,h.2];simp only[aM.dep];omega
theorem El.size{ts:List aM}{t t':aM}{q:Int}(h:El ts t t' q)(hts:∀f∈ts,f.dep<=18/\f.cnt<=60){n m:Nat}(h1:t.cnt<=n)(h2:t.dep<=m):t'.cnt<=2*n+60/\t'.dep<=m+18:=by
 obtain⟨pl,s,f,hs,rfl,hr⟩:=h;obtain⟨a1,_⟩:=qN (f:=f) hs;have a2:=uT (f:=f) hs;have b1:=Sub.cnt hs;have b2:=Sub.len hs;have b3:=s.dep1;have b4:=s.cnt1;rcases hr with(⟨hf,_⟩ | ⟨_,hf,_⟩ | ⟨_,hf⟩) | ⟨rfl,_⟩
 ·have:=hts f hf;omega
 ·have:=z_ hf;omega
 ·omega
 ·omega
theorem vM{rs:List (Nat×RV)}{i:Int}{n:Nat}{pl:List Nat}{w:Option (List Nat)}{y:yd}(h:jh rs i n pl w=some y):y.2=pl:=by
 unfold jh at h
 split at h
 ·cases h;rfl
 ·split at h
  ·cases h
  ·split at h
   ·cases h;rfl
   ·split at h
    ·cases h;rfl
    ·cases h
theorem tN{rs:List (Nat×RV)}:∀(t:aM) (pl:List Nat) (w:Option (List Nat)) (y:yd),cf rs t pl w=some y->y.2.length<=pl.length+t.dep
 | .n0 i,pl,w,y,h=>by unfold cf at h;rw[vM h];omega
 | .n1 i a,pl,w,y,h=>by
  unfold cf at h;cases h0:jh rs i 1 pl w with
  |some z=>rw[h0]at h;cases h;rw[vM h0];omega
  |none=>
   rw[h0]at h;have:=tN a _ _ y h;simp[aM.dep]at this ⊢;omega
 | .n2 i a b,pl,w,y,h=>by
  unfold cf at h;cases h0:jh rs i 2 pl w with
  |some z=>rw[h0]at h;cases h;rw[vM h0];omega
  |none=>
   rw[h0]at h;dsimp only at h;cases h1:cf rs a (pl++[0]) (d9 rs i 0) with
   |some z=>
    rw[h1]at h;cases h;have:=tN a _ _ y h1;simp[aM.dep]at this ⊢;omega
   |none=>
    rw[h1]at h;have:=tN b _ _ y h;simp[aM.dep]at this ⊢;omega
theorem tH{rs:List (Nat×RV)}{i:Int}{ps:List bC}{pl q:List Nat}(h:gH rs i ps pl=.inl q):q=pl:=by
 unfold gH at h
 split at h
 ·cases h
 ·cases h;rfl
theorem nW{rs:List (Nat×RV)}:∀(t:aM) (pl:List Nat) (q:List Nat),cq rs t pl=.inl q->q.length<=pl.length+t.dep
 | .n0 i,pl,q,h=>by unfold cq at h;rw[tH h];omega
 | .n1 i a,pl,q,h=>by
  unfold cq at h;cases h0:cq rs a (pl++[0]) with
  |inl z=>
   rw[h0]at h;cases h;have:=nW a _ q h0;simp[aM.dep]at this ⊢;omega
  |inr p=>rw[h0]at h;rw[tH h];omega
 | .n2 i a b,pl,q,h=>by
  unfold cq at h;cases h0:cq rs a (pl++[0]) with
  |inl z=>
   rw[h0]at h;cases h;have:=nW a _ q h0;simp[aM.dep]at this ⊢;omega
  |inr p=>
   rw[h0]at h;dsimp only at h;cases h1:cq rs b (pl++[1]) with
   |inl z=>
    rw[h1]at h;cases h;have:=nW b _ q h1;simp[aM.dep]at this ⊢;omega
   |inr p'=>rw[h1]at h;rw[tH h];omega
theorem xN{rs:List (Nat×RV)}{t:aM}{y:yd}(h:dP rs t=some y):y.2.length<=t.dep:=by
 unfold dP at h;cases h0:cf rs t [] none with
 |some z=>rw[h0]at h;cases h;have:=tN t _ _ y h0;simpa using this
 |none=>
  rw[h0]at h;dsimp only at h;cases h1:cq rs t []with
  |inl q=>rw[h1]at h;cases h;have:=nW t _ q h1;simpa using this
  |inr p=>rw[h1]at h;cases h
noncomputable abbrev qD:Stmt:=gu 63
noncomputable def tQ(K:W.Frag):Sp:=fun vs H Q _=>∃(a:Addr) (ns:List Int),vs=[.ref a]/\aW K H a (ns.map V.int)/\∀H',Q (.bl true) H'
theorem Ci:aF ["_law_script","_law_rules","_law_stock","_law_grammar_here","_law_tree","_law_spoilt_here","_law_k","_law_due"] ["_law_script"] (ak qD):=by walk_at "c"
theorem Da{R:RC}{f CG:Addr}{fd:FuncData}(F:c_ K "law" "law" qD f fd)(nb:NB mg)(zma:eX P w K mg base bH 1 "_law_cell" ["_law_script","_law_k"] (mh K))(zKc:eX P w K mg base bH 8 "_law_drawn" ["_law_script","_law_most","_law_steps"] (pK K R CG))(zZb:eX P w K mg base bH 63 "_law_spoilt" ["_law_tree","_law_cell_here","_law_rules","_law_stock"] (nF K))(zLc:eX P w K mg base bH 65 "_law_fault" ["_law_rules","_law_tree"] (qa K))(zKa:eX P w K mg base bH 2 "_law_fault_is" ["_law_found","_law_due"] (gI K))(c_tree_fault:eX P w K mg base bH 68 "tree_fault" ["grammar","tree"] (gK K R CG)):bc P w K mg base bH 69 f fd ["_law_script"] (tQ K):=by
 have sc:=Ci;walk_at "f"
 ·obtain⟨a,ns,rfl,_⟩:=h;rfl
 ·obtain⟨a,ns,rfl,ha,q⟩:=h
  refine⟨_,(ag (jy (aP zKc (hr.mono (by decide)) rfl bh (aa (am 0) (bE (bE ad)))) (fj (n:=3) rfl (aY (aH (i:=1) sc.nd rfl (Or.inl rfl)) (aY (aH (i:=2) sc.nd rfl (Or.inl rfl)) (aY (aH (i:=3) sc.nd rfl (Or.inl rfl)) cM)))))
   (ag (aK (i:=4) sc.nd rfl (Or.inl rfl) (az aC (az aV (am 2) (aq (a_.m1 aX) (aP zma (hr.mono (by decide)) rfl bh (aa (am 0) (bE ad))) (av aO rfl nb.len aQ (aa (am 2) ad))) (fun _ _=>rfl)) af (fun _ _=>rfl)))
   (ag (aK (i:=5) sc.nd rfl (Or.inl rfl) (am 4))
   (ag (bP PassesOwn.never rfl (bQ rfl nb.range (aa (aq (a_.m1 aX) (aP zma (hr.mono (by decide)) rfl bh (aa (am 0) (bE ad))) af) ad)) (aH (i:=6) sc.nd rfl (Or.inl rfl))
   (ah (aK (i:=5) sc.nd rfl (Or.inl rfl) (aP zZb (hr.mono (by decide)) rfl bh (aa (am 5) (aa (aP zma (hr.mono (by decide)) rfl bh (aa (am 0) (aa (aq (a_.m0 bA) af (am 6)) ad))) (aa (am 1) (aa (am 2) ad))))))))
   (ag (aK (i:=7) sc.nd rfl (Or.inl rfl) (aP zLc (hr.mono (by decide)) rfl bh (aa (am 1) (aa (am 5) ad))))
   (ag (bg (PW.pt (hJ (ky (lx (aP zKa (hr.mono (by decide)) rfl bh (aa (aP c_tree_fault (hr.mono (by decide)) rfl bh (aa (am 3) (aa (am 5) ad))) (aa (am 7) ad))) fun _=>rfl)) (fq (aA jV (aP c_tree_fault (hr.mono (by decide)) rfl bh (aa (am 3) (aa (am 4) ad))) cn (aJ _)))))
   (ah (aI B3))
   aN)
   (ah (aI (aP zKa (hr.mono (by decide)) rfl bh (aa (aP c_tree_fault (hr.mono (by decide)) rfl bh (aa (am 3) (aa (am 5) ad))) (aa (am 7) ad))))))))))),?_⟩
  walk_at "n";refine⟨a,ns,36,16,rfl,ha,by decide,by decide,by decide,fun tp lr ls gr gd ga ts rs p sg st as xs H1 htp hR hro h24 hp hpn hsg hp0 hst hin hgood hx0 hxl hG s1=>⟨tp,rfl,_,bd.of htp,rfl,_,_,rfl,_,_,rfl,_,_,rfl,rfl,h1 _ _ ?_⟩⟩;clear h1;have hgd:∀r∈rs,jk r:=fun r hr=>(hro r hr).good;obtain⟨trs,htrs,htrs2⟩:=oJ hgood;have stk:ui H1 ls as xs trs:=⟨hst,hin,hx0,hxl,htrs⟩;have hxp:0<xs.length:=by cases xs with | nil=>exact absurd rfl hx0 | cons=>simp
  walk_at "n";refine⟨a,ns,3,rfl,s1.seq ha,by omega,fun c3=>?_⟩;obtain⟨jx,hjx,ejx⟩:=mO c3 hxp;obtain⟨ax,x,hax,hxx,vt,lp,hA,htx,_⟩:=hin.got hjx;obtain⟨t,hxd,htd,htc,htF⟩:=rf (hgood x (Hq hxx));rw[hxd]at htx;refine⟨_,aW.of hst,c3,rfl,by rw[Hm,hin.1];omega,_,aW.of hst,V.ref ax,?_,ax,rfl,_,bd.of hA,vt,rfl,h1 _ _ ?_⟩
  ·rw[Hm,hin.1,ejx]
   exact aU (by rw[Ho,hax];rfl)
  walk_at "nc";refine h1 _ _ ?_;walk_at "nc";refine⟨a,ns,4,rfl,s1.seq ha,by omega,fun c4=>⟨c4,rfl,?_⟩⟩;obtain⟨j4,hj4,ej4⟩:=mO c4 (n:=3) (by decide);have ej4':c4%3=(j4:Int):=ej4;rw[ej4',Hv];refine⟨by omega,by omega,?_⟩;refine eQ (lo:=0) (n:=j4) (fun i σ H'=>ay H1 H'/\(∃(u:V) (t':aM) (z:Option V),bu H' t'.d u/\t'.cnt<=1000/\t'.dep<=60/\(i=0->t'.cnt<=60/\t'.dep<=18)/\(i=1->t'.cnt<=180/\t'.dep<=36)/\σ=[some (V.ref a),some (V.ref lr),some (V.ref ls),some (V.ref gr),some vt,some u,z,none])) ⟨ay.refl _,vt,t,_,htx,by omega,by omega,fun _=>⟨htc,htd⟩,fun h=>absurd h (by decide),rfl⟩ ?_ ?_
  ·rintro i σ H' hi ⟨sm,u,t',z,hu,hc,hd,hi0,hi1,rfl⟩
   walk_at "wp";have s0m:=s1.trans sm;refine⟨a,ns,5+i,by simp,s0m.seq ha,by omega,fun c=>?_⟩;refine⟨u,c,lr,ls,t',ts.map V.ref,as,xs,trs,rfl,hu,hc,hd,(hR.up sm).1,?_,by rw[Hm,hR.2.1];omega,stk.up sm,fun t2 u2 H2 hsp hu2 s2=>⟨sm.trans s2,u2,t2,hu2,?_⟩⟩
   ·intro e
    have hg:=hgood x (Hq hxx);have:=hg.gr.pos;have h2:=hR.2.1;rw[List.map_eq_nil_iff]at e;rw[e]at h2;simp at h2;omega
   have i2:i=0\/i=1:=by omega
   rcases i2 with rfl | rfl
   ·obtain⟨b1,b2⟩:=hi0 rfl
    obtain⟨b3,b4⟩:=hsp.size htrs2 b1 b2;exact⟨by omega,by omega,fun h=>h.elim,fun _=>⟨by omega,by omega⟩,rfl⟩
   ·obtain⟨b1,b2⟩:=hi1 rfl
    obtain⟨b3,b4⟩:=hsp.size htrs2 b1 b2;exact⟨by omega,by omega,fun h=>h.elim,fun h=>absurd h (by decide),rfl⟩
  rintro σ H2 ⟨s2,u,t',z,hu,hc,hd,_,_,rfl⟩;refine h1 _ _ ?_;walk_at "nc";have s02:=s1.trans s2;have hR2:=hR.up s2;have hL:∀H',ay H2 H'->tO R CG H' gr u rs t':=fun H' s=>⟨gd,sg,st,ga,hG.up (s2.trans s),hgd,h24,hu.up (cu.of s) _,hd⟩;have hLt:∀H',ay H2 H'->tO R CG H' gr vt rs t:=fun H' s=>⟨gd,sg,st,ga,hG.up (s2.trans s),hgd,h24,htx.up (cu.of (s2.trans s)) _,by omega⟩
  suffices go:∀du H3,ay H2 H3->((dP rs t'=none/\du=.non)\/∃y,dP rs t'=some y/\jt K H3 du y)->N1 [some (V.ref a),some (V.ref lr),some (V.ref ls),some (V.ref gr),some vt,some u,z,some du] H3 by
   exact⟨lr,u,ts,rs,t',rfl,hR2,hgd,h24,hu,hd,hc,fun hno H3 s3=>go _ H3 s3 (.inl ⟨hno,rfl⟩),fun y hy v H3 hv s3=>go _ H3 s3 (.inr ⟨y,hy,hv⟩)⟩
  intro du H3 s3 hdu;refine h1 _ _ ?_;clear h1;have ask:∀H4 (Q:VK),ay H3 H4->(∀H',ay H4 H'->Q (.bl true) H')->gK K R CG [V.ref gr,u] H4 (fun x H1=>gI K [x,du] H1 Q E0) E0:=fun H4 Q s4 hq=>by
   refine⟨gr,u,rs,t',rfl,hL H4 (s3.trans s4),fun hno H5 s5=>?_,fun y hy v H5 hv s5=>?_⟩
   ·rcases hdu with⟨_,rfl⟩ | ⟨y,hy,_⟩
    ·exact⟨_,_,rfl,.inl ⟨rfl,rfl⟩,fun H6 s6=>hq H6 (s5.trans s6)⟩
    ·rw[hno]at hy;cases hy
   ·rcases hdu with⟨h,_⟩ | ⟨y',hy',hdu⟩
    ·rw[h]at hy;cases hy
    ·rw[hy]at hy'
     cases hy';have:=xN hy;exact⟨_,_,rfl,.inr ⟨y,hv,hdu.up (s4.trans s5),by omega⟩,fun H6 s6=>hq H6 (s5.trans s6)⟩
  walk_at "n";refine ask H3 _ (ay.refl _) fun H4 s4=>⟨true,rfl,?_⟩;rw[if_neg (by decide)];refine⟨gr,vt,rs,t,rfl,hLt H4 (s3.trans s4),fun _ H5 s5=>br (fun e=>absurd rfl e) fun _=>h1 _ _ ?_,fun y hy=>by rw[htF]at hy;cases hy⟩;clear h1;walk_at "wp";exact ask H5 _ (s4.trans s5) fun H6 s6=>q H6
end
noncomputable def FK(K:W.Frag)(x:Str)(st:Stmt)(f:Addr):Prop:=W.nsIn K mainGlobals x=some (some (.ref f))/\∃oc od osl kV doc pm an cdv ct,K.lookup f=some ⟨oc,od,.func (W.fnOf x x (bx st) (bj st) (ak st) .none kV doc pm an cdv ct),osl⟩/\W.codeIn K cdv x=true/\W.keepIn K (.ref f)=true
theorem fk_mk{K:W.Frag}{x:Str}{st:Stmt}{f:Addr}{oc:Value}{od an:Option Addr}{osl:Array (Option Value)}{kV doc pm cdv ct:Value}(a:W.nsIn K mainGlobals x=some (some (.ref f)))(l:K.lookup f=some ⟨oc,od,.func (W.fnOf x x (bx st) (bj st) (ak st) .none kV doc pm an cdv ct),osl⟩)(c:W.codeIn K cdv x=true)(k:W.keepIn K (.ref f)=true):FK K x st f:=⟨a,oc,od,osl,kV,doc,pm,an,cdv,ct,l,c,k⟩
theorem FK.cal{K:W.Frag}{x:Str}{st:Stmt}{f:Addr}{h base:Heap}{mg:Str->Option Value}{P:Program}{w:World}{CX:jL}{k:Nat}{ps:List Str}{sp:Sp}(q:FK K x st f)(X:K.In h)(G:h.Ns mainGlobals mg)
  (ok:∀fd,c_ K x x st f fd->mg x=some (.ref f)->W.keepIn K (.ref f)=true->dc K fd ps []->bc P w K mg base CX k f fd ps sp)
  (hb:∀(kV doc pm:Value) (an:Option Addr) (cdv ct:Value) (us:List Value),us.length=ps.length->bindArgs (W.fnOf x x (bx st) (bj st) (ak st) .none kV doc pm an cdv ct) ⟨us,[]⟩=pure (ps.zip us)):eX P w K mg base CX k x ps sp:=by
 obtain⟨a,oc,od,osl,kV,doc,pm,an,cdv,ct,l,c,kk⟩:=q;have F:=cF l c kk;have b:=F.binds hb;exact⟨_,_,ok _ F (W.mg_of X G a) kk b,W.mg_of X G a,kk,b⟩
local macro_rules | `(tactic| walk_at "b1")=>`(tactic| exact fun _ _ _ _ _ _ us hl=>match us,hl with | [_],_=>rfl)
local macro_rules | `(tactic| walk_at "b2")=>`(tactic| exact fun _ _ _ _ _ _ us hl=>match us,hl with | [_,_],_=>rfl)
local macro_rules | `(tactic| walk_at "b3")=>`(tactic| exact fun _ _ _ _ _ _ us hl=>match us,hl with | [_,_,_],_=>rfl)
local macro_rules | `(tactic| walk_at "b4")=>`(tactic| exact fun _ _ _ _ _ _ us hl=>match us,hl with | [_,_,_,_],_=>rfl)
theorem all_mk{l:W.OpenLaw}{w:World}{K:W.Frag}{h:Heap}{mg:Str->Option Value}{fa f1 f2 f3 f4 f5 f6 f7 f8 f9 f10 f11 f12 f13 f14 f15 f16 f17 f18 f19 f20 f21 f22 f23 f24 f25 f26 f27 f28 f29 f30 f31 f32 f33 f34 f35 f36 f37 f38:Addr}(X:K.In h)(G:h.Ns mainGlobals mg)(Gv:mg "law"=some (.ref fa))
  (a1:FK K "only_of" ma f1) (a2:FK K "is_name" mL f2) (a3:FK K "are_signs" jK f3) (a4:FK K "check_made_of" fm f4) (a5:FK K "numbers_by_name" dY f5) (a6:FK K "beside" ou f6) (a7:FK K "above" r_ f7) (a8:FK K "mirror" oB f8) (a9:FK K "column_from_below" cW f9) (DL:FK K "quarter" mE f10) (DE:FK K "turned" ph f11) (Fu:FK K "check_form" iq f12) (Ed:FK K "lay" yx f13) (Fo:FK K "laid" wg f14) (EW:FK K "tree_fault" ip f15) (E3:FK K "_law_cell" pY f16) (En:FK K "_law_signs" mP f17) (Es:FK K "_law_names" m3 f18) (EG:FK K "_law_quarter" jo f19) (EX:FK K "_law_turned" kC f20) (E_:FK K "_law_put" rY f21) (D6:FK K "_law_rule_made" oW f22) (Fi:FK K "_law_drawn_rule" gq f23) (E7:FK K "_law_next" o9 f24) (ER:FK K "_law_number" kA f25) (E2:FK K "_law_grown" m8 f26) (Fy:FK K "_law_grammar" jB f27) (E5:FK K "_law_drawn" mR f28) (Er:FK K "_law_whole" mJ f29) (EY:FK K "_law_places" kz f30) (Fd:FK K "_law_at" vo f31) (EA:FK K "_law_with" oS f32) (E9:FK K "_law_spoilt" kU f33) (Fg:FK K "_law_parts" mS f34) (Ew:FK K "_law_lay" tF f35) (Fp:FK K "_law_fault" mj f36) (Ev:FK K "_law_fault_is" iV f37) (Ea:FK K "law" qD f38)
  {zfa zga zba zHa C_NoTree fINoTree C_Rule zxa zea zoa zaa zka zca zna zda zpa zja zya zsa zwa zza zha zra zBa zCa:Addr} {tkCAPITALS tkSMALLS tkLONGEST_NAME tkMOST_SIGNS tkMOST_RULES tkMOST_NAMES tkMOST:Tok} {ddNoRule ddNoFit ddNoGrammar odINoGrammar anINoGrammar ddNoTree odINoTree anINoTree zId zJd zkc zlc zCb zDb zac zbc zmc znc zSe zTe zKd zLd zbd zcd zud zvd zMd zNd zMc zNc zve zwe zxe zye:Option Addr} {zTf zuf zua cdNoTree:ClassData} {zUf zWf zjf slINoGrammar slNoTree slINoTree zOd zoc zEb zcc zpc zUe zPd zdd zwd zQd zOc zze zAe:Array (Option Value)} {ocINoGrammar kVINoGrammar dcINoGrammar pmINoGrammar cdINoGrammar ctINoGrammar ocINoTree kVINoTree dcINoTree pmINoTree cdINoTree ctINoTree zRd zSd zTd zUd znb zVd zqc zrc zsc ztc zPa zuc zFb zGb zHb zIb zIa zJb zdc zec zfc zgc zLa zhc zvc zwc zxc zyc zQa zzc zVe zWe zXe zYe zPc zZe zWd zXd zYd zZd zob zae zed zfd zgd zhd zbb zid zxd zyd zzd zAd zib zBd zbe zce zde zee zpb zfe zQc zRc zSc zTc zWa zUc zBe zCe zDe zEe zKb zFe zGe zHe zIe zJe zLb zKe:Value}  (sV:W.nsIn K mainGlobals "NoRule"=some (some (.ref zfa))) (pN:K.lookup zfa=some ⟨.type "type",ddNoRule,.cls zTf,zUf⟩) (lF:W.excIn K zfa [.type "ValueError",.type "Exception",.type "BaseException",.type "object"] "ValueError.__new__"=true) (mX:W.findIn K (.ref zfa) "__getattribute__"=some (some (.builtin "BaseException.__getattribute__"))) (mH:W.findIn K (.ref zfa) "__getattr__"=some none) (mq:W.mroIn K zfa (.type "BaseException")=some true) (m_:W.mroIn K zfa (.type "object")=some true) (mi:W.findIn K (.ref zfa) "__class__"=some (some (.builtin "object.__class__"))) (yX:W.specialIn K (.builtin "object.__class__") "__get__"=some (some (.builtin "getset_descriptor.__get__"))) (yF:W.takesIn K (.builtin "object.__class__")=some true) (vJ:W.nsIn K mainGlobals "NoFit"=some (some (.ref zga))) (nV:K.lookup zga=some ⟨.type "type",ddNoFit,.cls zuf,zWf⟩) (oj:W.excIn K zga [.type "ValueError",.type "Exception",.type "BaseException",.type "object"] "ValueError.__new__"=true) (oH:W.findIn K (.ref zga) "__getattribute__"=some (some (.builtin "BaseException.__getattribute__"))) (oN:W.findIn K (.ref zga) "__getattr__"=some none) (oR:W.mroIn K zga (.type "BaseException")=some true) (pF:W.mroIn K zga (.type "object")=some true) (o4:W.findIn K (.ref zga) "__class__"=some (some (.builtin "object.__class__"))) (Gy:zuf.mro.contains (.ref zga)=true) (kT:W.nsIn K mainGlobals "NoGrammar"=some (some (.ref zba))) (fb:K.lookup zba=some ⟨.type "type",ddNoGrammar,.cls zua,zjf⟩) (iH:W.excOut K zba [.type "ValueError",.type "Exception",.type "BaseException",.type "object"] "ValueError.__new__"=true) (ia:W.findIn K (.ref zba) "__getattribute__"=some (some (.builtin "BaseException.__getattribute__"))) (iu:W.findIn K (.ref zba) "__getattr__"=some none) (iI:W.mroIn K zba (.type "BaseException")=some true) (iJ:W.mroIn K zba (.type "object")=some true) (iA:W.findIn K (.ref zba) "__class__"=some (some (.builtin "object.__class__"))) (iX:W.findIn K (.ref zba) "__init__"=some (some (.ref zHa))) (iU:W.typeIn K (.ref zHa)=some (.type "function")) (iQ:K.lookup zHa=some ⟨ocINoGrammar,odINoGrammar,.func (W.fnOf "__init__" "NoGrammar.__init__" (bx jQ) (bj jQ) (ak jQ) .none kVINoGrammar dcINoGrammar pmINoGrammar anINoGrammar cdINoGrammar ctINoGrammar),slINoGrammar⟩) (iT:W.codeIn K cdINoGrammar "NoGrammar.__init__"=true) (iz:W.keepIn K (.ref zHa)=true) (iF:W.findIn K (.ref zba) "__setattr__"=some (some (.builtin "object.__setattr__"))) (iR:W.strip zua.mro=[.type "ValueError",.type "Exception",.type "BaseException",.type "object"]) (fS:zua.hasDict=true) (iC:zua.mro.contains (.type "object")=true) (iD:zua.mro.isEmpty=false) (iG:W.findIn K (.ref zba) "why"=some none) (Go:zua.mro.contains (.ref zba)=true) (s_:W.nsIn K mainGlobals "NoTree"=some (some (.ref C_NoTree))) (jC:K.lookup C_NoTree=some ⟨.type "type",ddNoTree,.cls cdNoTree,slNoTree⟩) (ni:W.excOut K C_NoTree [.type "ValueError",.type "Exception",.type "BaseException",.type "object"] "ValueError.__new__"=true) (mx:W.findIn K (.ref C_NoTree) "__getattribute__"=some (some (.builtin "BaseException.__getattribute__"))) (l_:W.findIn K (.ref C_NoTree) "__getattr__"=some none) (mf:W.mroIn K C_NoTree (.type "BaseException")=some true) (my:W.mroIn K C_NoTree (.type "object")=some true) (nh:W.findIn K (.ref C_NoTree) "__class__"=some (some (.builtin "object.__class__"))) (jU:W.findIn K (.ref C_NoTree) "__init__"=some (some (.ref fINoTree))) (jP:W.typeIn K (.ref fINoTree)=some (.type "function")) (mY:K.lookup fINoTree=some ⟨ocINoTree,odINoTree,.func (W.fnOf "__init__" "NoTree.__init__" (bx iM) (bj iM) (ak iM) .none kVINoTree dcINoTree pmINoTree anINoTree cdINoTree ctINoTree),slINoTree⟩) (ng:W.codeIn K cdINoTree "NoTree.__init__"=true) (nk:W.keepIn K (.ref fINoTree)=true) (mM:W.findIn K (.ref C_NoTree) "__setattr__"=some (some (.builtin "object.__setattr__"))) (mz:W.strip cdNoTree.mro=[.type "ValueError",.type "Exception",.type "BaseException",.type "object"]) (j8:cdNoTree.hasDict=true) (mQ:cdNoTree.mro.contains (.type "object")=true) (nn:cdNoTree.mro.isEmpty=false) (jT:W.findIn K (.ref C_NoTree) "why"=some none) (fg:cdNoTree.mro.contains (.ref C_NoTree)=true) (mr:W.nsIn K mainGlobals "CAPITALS"=some (some (.str "ABCDEFGHIJKLMNOPQRSTUVWXYZ" tkCAPITALS))) (tE:W.nsIn K mainGlobals "SMALLS"=some (some (.str "abcdefghijklmnopqrstuvwxyz" tkSMALLS))) (gF:W.nsIn K mainGlobals "LONGEST_NAME"=some (some (.int 4 tkLONGEST_NAME))) (yv:W.nsIn K mainGlobals "Rule"=some (some (.ref C_Rule))) (vD:W.specialIn K (.ref C_Rule) "__getattribute__"=some (some (.builtin "type.__getattribute__"))) (wa:W.readsIn K C_Rule (.type "type")=true) (fu:W.findCls K (.ref C_Rule) (.type "type") "__init__"=some (.val (.ref zxa))) (fF:K.lookup zxa=some ⟨zRd,zId,.func (W.fnOf "__init__" "Rule.__init__" (bx dD) (bj dD) (ak dD) .none zSd zTd zUd zJd znb zVd),zOd⟩) (fo:W.codeIn K znb "Rule.__init__"=true) (FM:W.keepIn K (.ref zxa)=true) (jc:W.isFn K (.ref zxa)=true) (l8:W.nsIn K mainGlobals "CellRule"=some (some (.ref zea))) (Gw:W.plainGet K zea Str.empty=true) (GA:W.hasDictIn K zea=true) (F':W.plainOver K zea=true) (GF:W.findIn K (.ref zea) "__setattr__"=some (some (.builtin "object.__setattr__"))) (GI:W.findIn K (.ref zea) "__class__"=some (some (.builtin "object.__class__"))) (FX:W.mroIn K zea (.type "object")=some true) (GK:W.findIn K (.ref zea) "name"=some none) (He:W.findIn K (.ref zea) "cost"=some none) (Gu:W.findIn K (.ref zea) "part_names"=some none) (GX:W.findIn K (.ref zea) "sign"=some none) (kF:W.makesIn K zea=true) (kD:W.findIn K (.ref zea) "__init__"=some (some (.ref zoa))) (c8:K.lookup zoa=some ⟨zqc,zkc,.func (W.fnOf "__init__" "CellRule.__init__" (bx dz) (bj dz) (ak dz) .none zrc zsc ztc zlc zPa zuc),zoc⟩) (cY:W.codeIn K zPa "CellRule.__init__"=true) (Gx:W.keepIn K (.ref zoa)=true) (c5:W.isFn K (.ref zoa)=true) (ku:W.keepIn K (.ref zea)=true) (Hb:W.kitOne K (.ref zea) (.ref C_Rule)=some true) (FG:W.kitOne K (.ref zea) (.ref zea)=some true) (jF:W.nsIn K mainGlobals "BesideRule"=some (some (.ref zaa))) (F6:W.plainGet K zaa Str.empty=true) (FW:W.hasDictIn K zaa=true) (Gb:W.plainOver K zaa=true) (GB:W.findIn K (.ref zaa) "__setattr__"=some (some (.builtin "object.__setattr__"))) (Hf:W.findIn K (.ref zaa) "__class__"=some (some (.builtin "object.__class__"))) (GQ:W.mroIn K zaa (.type "object")=some true) (GS:W.findIn K (.ref zaa) "name"=some none) (GN:W.findIn K (.ref zaa) "cost"=some none) (Gg:W.findIn K (.ref zaa) "part_names"=some none) (G_:W.findIn K (.ref zaa) "one"=some none) (FZ:W.findIn K (.ref zaa) "other"=some none) (iy:W.makesIn K zaa=true) (hZ:W.findIn K (.ref zaa) "__init__"=some (some (.ref zka))) (b_:K.lookup zka=some ⟨zFb,zCb,.func (W.fnOf "__init__" "BesideRule.__init__" (bx b7) (bj b7) (ak b7) .none zGb zHb zIb zDb zIa zJb),zEb⟩) (cg:W.codeIn K zIa "BesideRule.__init__"=true) (GY:W.keepIn K (.ref zka)=true) (ce:W.isFn K (.ref zka)=true) (ib:W.keepIn K (.ref zaa)=true) (GD:W.kitOne K (.ref zaa) (.ref C_Rule)=some true) (FO:W.kitOne K (.ref zaa) (.ref zaa)=some true) (kN:W.nsIn K mainGlobals "AboveRule"=some (some (.ref zca))) (GZ:W.plainGet K zca Str.empty=true) (GL:W.hasDictIn K zca=true) (Hc:W.plainOver K zca=true) (G0:W.findIn K (.ref zca) "__setattr__"=some (some (.builtin "object.__setattr__"))) (FY:W.findIn K (.ref zca) "__class__"=some (some (.builtin "object.__class__"))) (F4:W.mroIn K zca (.type "object")=some true) (GW:W.findIn K (.ref zca) "name"=some none) (F2:W.findIn K (.ref zca) "cost"=some none) (GV:W.findIn K (.ref zca) "part_names"=some none) (Gp:W.findIn K (.ref zca) "one"=some none) (GO:W.findIn K (.ref zca) "other"=some none) (jN:W.makesIn K zca=true) (jD:W.findIn K (.ref zca) "__init__"=some (some (.ref zna))) (cw:K.lookup zna=some ⟨zdc,zac,.func (W.fnOf "__init__" "AboveRule.__init__" (bx cJ) (bj cJ) (ak cJ) .none zec zfc zgc zbc zLa zhc),zcc⟩) (cA:W.codeIn K zLa "AboveRule.__init__"=true) (F_:W.keepIn K (.ref zna)=true) (cv:W.isFn K (.ref zna)=true) (jE:W.keepIn K (.ref zca)=true) (GC:W.kitOne K (.ref zca) (.ref C_Rule)=some true) (FD:W.kitOne K (.ref zca) (.ref zca)=some true) (m4:W.nsIn K mainGlobals "TurnRule"=some (some (.ref zda))) (Gs:W.plainGet K zda Str.empty=true) (F3:W.hasDictIn K zda=true) (Gd:W.plainOver K zda=true) (GT:W.findIn K (.ref zda) "__setattr__"=some (some (.builtin "object.__setattr__"))) (Gq:W.findIn K (.ref zda) "__class__"=some (some (.builtin "object.__class__"))) (G9:W.mroIn K zda (.type "object")=some true) (GE:W.findIn K (.ref zda) "name"=some none) (Gz:W.findIn K (.ref zda) "cost"=some none) (Gf:W.findIn K (.ref zda) "part_names"=some none) (Hd:W.findIn K (.ref zda) "part"=some none) (G7:W.findIn K (.ref zda) "turning"=some none) (kx:W.makesIn K zda=true) (kE:W.findIn K (.ref zda) "__init__"=some (some (.ref zpa))) (cZ:K.lookup zpa=some ⟨zvc,zmc,.func (W.fnOf "__init__" "TurnRule.__init__" (bx dI) (bj dI) (ak dI) .none zwc zxc zyc znc zQa zzc),zpc⟩) (cT:W.codeIn K zQa "TurnRule.__init__"=true) (F7:W.keepIn K (.ref zpa)=true) (cX:W.isFn K (.ref zpa)=true) (kJ:W.keepIn K (.ref zda)=true) (G8:W.kitOne K (.ref zda) (.ref C_Rule)=some true) (FA:W.kitOne K (.ref zda) (.ref zda)=some true) (ji:W.nsIn K mainGlobals "MOST_SIGNS"=some (some (.int 4 tkMOST_SIGNS))) (jI:W.nsIn K mainGlobals "MOST_RULES"=some (some (.int 24 tkMOST_RULES))) (jH:W.nsIn K mainGlobals "MOST_NAMES"=some (some (.int 8 tkMOST_NAMES))) (Ao:W.nsIn K mainGlobals "MOST"=some (some (.int 6 tkMOST))) (EI:W.kitOne K (.ref zea) (.ref zaa)=some false) (Ff:W.kitOne K (.ref zea) (.ref zca)=some false) (ET:W.kitOne K (.ref zea) (.ref zda)=some false) (Fc:W.kitOne K (.ref zaa) (.ref zea)=some false) (D5:W.kitOne K (.ref zaa) (.ref zca)=some false) (Fx:W.kitOne K (.ref zaa) (.ref zda)=some false) (D_:W.kitOne K (.ref zca) (.ref zea)=some false) (D7:W.kitOne K (.ref zca) (.ref zaa)=some false) (D9:W.kitOne K (.ref zca) (.ref zda)=some false) (EQ:W.kitOne K (.ref zda) (.ref zea)=some false) (Ei:W.kitOne K (.ref zda) (.ref zaa)=some false) (EK:W.kitOne K (.ref zda) (.ref zca)=some false) (d_:W.findIn K (.ref zea) "parts"=some (some (.ref zja))) (im:K.lookup zja=some ⟨zVe,zSe,.func (W.fnOf "parts" "Rule.parts" (bx cS) (bj cS) (ak cS) .none zWe zXe zYe zTe zPc zZe),zUe⟩) (iY:W.codeIn K zPc "Rule.parts"=true) (Dw:W.keepIn K (.ref zja)=true) (cR:W.isFn K (.ref zja)=true) (fA:W.findIn K (.ref zea) "made"=some (some (.ref zya))) (fB:K.lookup zya=some ⟨zWd,zKd,.func (W.fnOf "made" "CellRule.made" (bx dC) (bj dC) (ak dC) .none zXd zYd zZd zLd zob zae),zPd⟩) (fE:W.codeIn K zob "CellRule.made"=true) (FT:W.keepIn K (.ref zya)=true) (fL:W.isFn K (.ref zya)=true) (dm:W.findIn K (.ref zaa) "parts"=some (some (.ref zja))) (dX:W.findIn K (.ref zaa) "made"=some (some (.ref zsa))) (dW:K.lookup zsa=some ⟨zed,zbd,.func (W.fnOf "made" "BesideRule.made" (bx b9) (bj b9) (ak b9) .none zfd zgd zhd zcd zbb zid),zdd⟩) (dR:W.codeIn K zbb "BesideRule.made"=true) (FH:W.keepIn K (.ref zsa)=true) (dN:W.isFn K (.ref zsa)=true) (dQ:W.findIn K (.ref zca) "parts"=some (some (.ref zja))) (eO:W.findIn K (.ref zca) "made"=some (some (.ref zwa))) (eH:K.lookup zwa=some ⟨zxd,zud,.func (W.fnOf "made" "AboveRule.made" (bx cI) (bj cI) (ak cI) .none zyd zzd zAd zvd zib zBd),zwd⟩) (eu:W.codeIn K zib "AboveRule.made"=true) (FU:W.keepIn K (.ref zwa)=true) (eD:W.isFn K (.ref zwa)=true) (eG:W.findIn K (.ref zda) "parts"=some (some (.ref zja))) (fh:W.findIn K (.ref zda) "made"=some (some (.ref zza))) (fC:K.lookup zza=some ⟨zbe,zMd,.func (W.fnOf "made" "TurnRule.made" (bx dw) (bj dw) (ak dw) .none zce zde zee zNd zpb zfe),zQd⟩) (fH:W.codeIn K zpb "TurnRule.made"=true) (FJ:W.keepIn K (.ref zza)=true) (fK:W.isFn K (.ref zza)=true) (pd:W.nsIn K mainGlobals "Grammar"=some (some (.ref zha))) (Gk:W.plainGet K zha Str.empty=true) (F5:W.hasDictIn K zha=true) (GJ:W.plainOver K zha=true) (Gm:W.findIn K (.ref zha) "__setattr__"=some (some (.builtin "object.__setattr__"))) (Ga:W.findIn K (.ref zha) "__class__"=some (some (.builtin "object.__class__"))) (Gn:W.mroIn K zha (.type "object")=some true) (Hg:W.findIn K (.ref zha) "signs"=some none) (Gc:W.findIn K (.ref zha) "start"=some none) (GG:W.findIn K (.ref zha) "kept"=some none) (F1:W.findIn K (.ref zha) "numbers"=some none) (mV:W.makesIn K zha=true) (mZ:W.findIn K (.ref zha) "__init__"=some (some (.ref zra))) (dq:K.lookup zra=some ⟨zQc,zMc,.func (W.fnOf "__init__" "Grammar.__init__" (bx dy) (bj dy) (ak dy) .none zRc zSc zTc zNc zWa zUc),zOc⟩) (dv:W.codeIn K zWa "Grammar.__init__"=true) (F9:W.keepIn K (.ref zra)=true) (dn:W.isFn K (.ref zra)=true) (nc:W.keepIn K (.ref zha)=true) (fY:W.findIn K (.ref zha) "rule"=some (some (.ref zBa))) (fW:K.lookup zBa=some ⟨zBe,zve,.func (W.fnOf "rule" "Grammar.rule" (bx dL) (bj dL) (ak dL) .none zCe zDe zEe zwe zKb zFe),zze⟩) (gn:W.codeIn K zKb "Grammar.rule"=true) (FS:W.keepIn K (.ref zBa)=true) (fX:W.isFn K (.ref zBa)=true) (fZ:W.findIn K (.ref zha) "many"=some (some (.ref zCa))) (gl:K.lookup zCa=some ⟨zGe,zxe,.func (W.fnOf "many" "Grammar.many" (bx dE) (bj dE) (ak dE) .none zHe zIe zJe zye zLb zKe),zAe⟩) (ge:W.codeIn K zLb "Grammar.many"=true) (FQ:W.keepIn K (.ref zCa)=true) (gj:W.isFn K (.ref zCa)=true)
  (z0:W.nsIn K mainGlobals "len"=some none) (z1:W.nsIn K mainGlobals "range"=some none) (z2:W.nsIn K mainGlobals "list"=some none) (z3:W.nsIn K mainGlobals "tuple"=some none) (z4:W.nsIn K mainGlobals "isinstance"=some none) (z5:W.nsIn K mainGlobals "int"=some none) (z6:W.nsIn K mainGlobals "bool"=some none) (z7:W.nsIn K mainGlobals "str"=some none) (z8:W.nsIn K mainGlobals "reversed"=some none) (z9:W.nsIn K mainGlobals "all"=some none) (Ek:W.nsIn K mainGlobals "enumerate"=some none) (EB:W.nsIn K mainGlobals "zip"=some none) (Eg:W.nsIn K mainGlobals "sorted"=some none) (Ee:W.nsIn K mainGlobals "set"=some none) (EF:W.nsIn K mainGlobals "dict"=some none) (Fa:W.nsIn K mainGlobals "min"=some none) (EJ:W.nsIn K mainGlobals "max"=some none) (Ej:W.nsIn K mainGlobals "sum"=some none) (Ey:W.nsIn K mainGlobals "ValueError"=some none) :
  ∃fd:FuncData,(∀(s:Shared) (v:Value),BindsTo s fd ⟨[v],[]⟩ [("_law_script",v)])/\∀base:Heap,K.In base->base.Ns mainGlobals mg->bc l.prog w K mg base bH 69 fa fd ["_law_script"] (tQ K):=by
 obtain⟨an,oc,od,osl,kV,doc,pm,ann,cdv,ct,hl,hc,hk⟩:=Ea;have e:=Gv.symm.trans (W.mg_of X G an);cases e;have FL:=cF hl hc hk;have nb:NB mg:=⟨W.mg_none_of X G z0,W.mg_none_of X G z1,W.mg_none_of X G z2,W.mg_none_of X G z3,W.mg_none_of X G z4,W.mg_none_of X G z5,W.mg_none_of X G z6,W.mg_none_of X G z7,W.mg_none_of X G z8,W.mg_none_of X G z9,W.mg_none_of X G Ek,W.mg_none_of X G EB,W.mg_none_of X G Eg,W.mg_none_of X G Ee,W.mg_none_of X G EF,W.mg_none_of X G Fa,W.mg_none_of X G EJ,W.mg_none_of X G Ej,W.mg_none_of X G Ey⟩;refine⟨W.fnOf "law" "law" (bx qD) (bj qD) (ak qD) .none kV doc pm ann cdv ct,fun s v=>.of_eq rfl,fun base _ _=>?_⟩;have zAa:=W.mg_of X G sV;have xc_NoRule:uw K zfa [.type "ValueError",.type "Exception",.type "BaseException",.type "object"] "ValueError.__new__":=⟨lF⟩;have zta:XR K zfa:=⟨_,_,_,_,_,_,_,_,⟨lF⟩,PySem.F.excBase_ValueError,rfl,PySem.F.excBase_ValueError⟩;have xt_NoRule:W.XTy K zfa:=⟨mX,mH,mq,m_,mi,yX,yF,_,_,_,pN⟩;have zDa:=W.mg_of X G vJ;have zVf:uw K zga [.type "ValueError",.type "Exception",.type "BaseException",.type "object"] "ValueError.__new__":=⟨oj⟩;have zTa:XR K zga:=⟨_,_,_,_,_,_,_,_,⟨oj⟩,PySem.F.excBase_ValueError,rfl,PySem.F.excBase_ValueError⟩;have xt_NoFit:W.XTy K zga:=⟨oH,oN,oR,pF,o4,yX,yF,_,_,_,nV⟩;have und_NoFit_NoFit:oK K zga zga:=⟨_,_,_,nV,Gy⟩;have zqa:=W.mg_of X G kT;have zgf:lN K zba [.type "ValueError",.type "Exception",.type "BaseException",.type "object"] "ValueError.__new__":=⟨iH⟩;have xt_NoGrammar:W.XTy K zba:=⟨ia,iu,iI,iJ,iA,yX,yF,_,_,_,fb⟩;have clNoGrammar:W.clsIn K zba=some zua:=by unfold W.clsIn;rw[fb]
 have xh_NoGrammar:W.hasDictIn K zba=true:=by unfold W.hasDictIn;rw[clNoGrammar];exact fS
 have FINoGrammar:=cF (st:=jQ) iQ iT iz;have xsINoGrammar:W.XSt K zba "why":=⟨iF,⟨zua,clNoGrammar,iR,fS,iC,iD⟩,iG⟩;have bINoGrammar:=FINoGrammar.binds (ps:=["self","why"]) fun _ _ _ _ _ _ us hl=>match us,hl with | [_,_],_=>rfl
 have zla:XI l.prog w K mg base 1 zba "why":=⟨_,_,_,_,_,_,_,_,zHa,_,_,zgf,PySem.F.excBase_ValueError,rfl,PySem.F.excBase_ValueError,iX,iU,zb FINoGrammar xsINoGrammar,bINoGrammar⟩;have und_NoGrammar_NoGrammar:oK K zba zba:=⟨_,_,_,fb,Go⟩;have m_NoTree:=W.mg_of X G s_;have xo_NoTree:lN K C_NoTree [.type "ValueError",.type "Exception",.type "BaseException",.type "object"] "ValueError.__new__":=⟨ni⟩;have xt_NoTree:W.XTy K C_NoTree:=⟨mx,l_,mf,my,nh,yX,yF,_,_,_,jC⟩;have clNoTree:W.clsIn K C_NoTree=some cdNoTree:=by unfold W.clsIn;rw[jC]
 have xh_NoTree:W.hasDictIn K C_NoTree=true:=by unfold W.hasDictIn;rw[clNoTree];exact j8
 have FINoTree:=cF (st:=iM) mY ng nk;have xsINoTree:W.XSt K C_NoTree "why":=⟨mM,⟨cdNoTree,clNoTree,mz,j8,mQ,nn⟩,jT⟩;have bINoTree:=FINoTree.binds (ps:=["self","why"]) fun _ _ _ _ _ _ us hl=>match us,hl with | [_,_],_=>rfl
 have xi_NoTree:XI l.prog w K mg base 1 C_NoTree "why":=⟨_,_,_,_,_,_,_,_,fINoTree,_,_,xo_NoTree,PySem.F.excBase_ValueError,rfl,PySem.F.excBase_ValueError,jU,jP,zt FINoTree xsINoTree,bINoTree⟩;have und_NoTree_NoTree:oK K C_NoTree C_NoTree:=⟨_,_,_,jC,fg⟩;have m_CAPITALS:=W.mg_of X G mr;have m_SMALLS:=W.mg_of X G tE;have m_LONGEST_NAME:=W.mg_of X G gF;have m_Rule:=W.mg_of X G yv;have ztb:=cF (st:=dD) fF fo FM;have zqe:=ztb.binds (ps:=["self","name","cost","part_names"]) fun _ _ _ _ _ _ us hl=>match us,hl with | [_,_,_,_],_=>rfl
 have cf_Rule___init__:Ak K C_Rule "__init__" zxa:=⟨vD,wa,fu,FM⟩;have zeb:=W.mg_of X G l8;have zUa:mD K zea:=⟨⟨Gw,GA,F',GF⟩,GI,yX,yF,FX⟩;have zRa:=cF (st:=dz) c8 cY Gx;have zCc:=zRa.binds (ps:=["self","name","cost","sign"]) fun _ _ _ _ _ _ us hl=>match us,hl with | [_,_,_,_],_=>rfl
 have zrf:Mk K zea zoa:=⟨kF,kD,c5,ku⟩;have zhf:=W.mg_of X G jF;have zab:mD K zaa:=⟨⟨F6,FW,Gb,GB⟩,Hf,yX,yF,GQ⟩;have zJa:=cF (st:=b7) b_ cg GY;have zSb:=zJa.binds (ps:=["self","name","cost","one","other"]) fun _ _ _ _ _ _ us hl=>match us,hl with | [_,_,_,_,_],_=>rfl
 have zRe:Mk K zaa zka:=⟨iy,hZ,ce,ib⟩;have zsf:=W.mg_of X G kN;have zkb:mD K zca:=⟨⟨GZ,GL,Hc,G0⟩,FY,yX,yF,F4⟩;have zMa:=cF (st:=cJ) cw cA F_;have zjc:=zMa.binds (ps:=["self","name","cost","one","other"]) fun _ _ _ _ _ _ us hl=>match us,hl with | [_,_,_,_,_],_=>rfl
 have zif:Mk K zca zna:=⟨jN,jD,cv,jE⟩;have zIf:=W.mg_of X G m4;have zVa:mD K zda:=⟨⟨Gs,F3,Gd,GT⟩,Gq,yX,yF,G9⟩;have zSa:=cF (st:=dI) cZ cT F7;have zDc:=zSa.binds (ps:=["self","name","cost","part","turning"]) fun _ _ _ _ _ _ us hl=>match us,hl with | [_,_,_,_,_],_=>rfl
 have ztf:Mk K zda zpa:=⟨kx,kE,cX,kJ⟩
 let R:RC:=⟨C_Rule,zea,zaa,zca,zda⟩
 have rk:qj K R:=⟨zUa,zab,zkb,zVa,⟨GK,He,Gu,GX⟩,⟨GS,GN,Gg,G_,FZ⟩,⟨GW,F2,GV,Gp,GO⟩,⟨GE,Gz,Gf,Hd,G7⟩,Hb,GD,GC,G8,FG,FO,FD,FA⟩;have m_MOST_SIGNS:=W.mg_of X G ji;have m_MOST_RULES:=W.mg_of X G jI;have m_MOST_NAMES:=W.mg_of X G jH;have m_MOST:=W.mg_of X G Ao;have rk4:BT K R:=⟨fun i j hi hj=>by rcases j' hi with rfl | rfl | rfl | rfl<;>rcases j' hj with rfl | rfl | rfl | rfl;exact FG;exact EI;exact Ff;exact ET;exact Fc;exact FO;exact D5;exact Fx;exact D_;exact D7;exact FD;exact D9;exact EQ;exact Ei;exact EK;exact FA⟩;have zGa:=cF (st:=cS) im iY Dw;have zNa:=zGa.binds (ps:=["self"]) fun _ _ _ _ _ _ us hl=>match us,hl with | [_],_=>rfl
 have znd:kX K zea "parts" zja:=⟨d_,cR,Dw⟩;have zub:=cF (st:=dC) fB fE FT;have zre:=zub.binds (ps:=["self","pictures"]) fun _ _ _ _ _ _ us hl=>match us,hl with | [_,_],_=>rfl
 have zFd:kX K zea "made" zya:=⟨fA,fL,FT⟩;have zEc:kX K zaa "parts" zja:=⟨dm,cR,Dw⟩;have zdb:=cF (st:=b9) dW dR FH;have zod:=zdb.binds (ps:=["self","pictures"]) fun _ _ _ _ _ _ us hl=>match us,hl with | [_,_],_=>rfl
 have zYc:kX K zaa "made" zsa:=⟨dX,dN,FH⟩;have zZc:kX K zca "parts" zja:=⟨dQ,cR,Dw⟩;have zlb:=cF (st:=cI) eH eu FU;have zGd:=zlb.binds (ps:=["self","pictures"]) fun _ _ _ _ _ _ us hl=>match us,hl with | [_,_],_=>rfl
 have zpd:kX K zca "made" zwa:=⟨eO,eD,FU⟩;have zqd:kX K zda "parts" zja:=⟨eG,cR,Dw⟩;have zvb:=cF (st:=dw) fC fH FJ;have zse:=zvb.binds (ps:=["self","pictures"]) fun _ _ _ _ _ _ us hl=>match us,hl with | [_,_],_=>rfl
 have zHd:kX K zda "made" zza:=⟨fh,fK,FJ⟩;have zSf:=W.mg_of X G pd;have zOa:mD K zha:=⟨⟨Gk,F5,GJ,Gm⟩,Ga,yX,yF,Gn⟩;have zXa:=cF (st:=dy) dq dv F9;have zad:=zXa.binds (ps:=["self","signs","start","rules"]) fun _ _ _ _ _ _ us hl=>match us,hl with | [_,_,_,_],_=>rfl
 have zJf:Mk K zha zra:=⟨mV,mZ,dn,nc⟩;have gk:FN K zha:=⟨zOa,Hg,Gc,GG,F1⟩;have zTb:=cF (st:=dL) fW gn FS;have zMe:=zTb.binds (ps:=["self","k"]) fun _ _ _ _ _ _ us hl=>match us,hl with | [_,_],_=>rfl
 have zte:kX K zha "rule" zBa:=⟨fY,fX,FS⟩;have zUb:=cF (st:=dE) gl ge FQ;have zNe:=zUb.binds (ps:=["self"]) fun _ _ _ _ _ _ us hl=>match us,hl with | [_],_=>rfl
 have zue:kX K zha "many" zCa:=⟨fZ,gj,FQ⟩;have zhb:lN K zga [.type "ValueError",.type "Exception",.type "BaseException",.type "object"] "ValueError.__new__":=zVf.out;have xq_NoTree:Fq l.prog w K mg base 1 C_NoTree "why":=⟨_,_,_,_,_,_,_,_,fINoTree,_,_,xo_NoTree,PySem.F.excBase_ValueError,rfl,PySem.F.excBase_ValueError,jU,jP,yk FINoTree xsINoTree,bINoTree⟩;have c_only_of:=a1.cal (P:=l.prog) (w:=w) (base:=base) X G (fun _ F m k b=>vw F nb) (by walk_at "b2");have c_is_name:=a2.cal (P:=l.prog) (w:=w) (base:=base) X G (fun _ F m k b=>wb F nb m_LONGEST_NAME m_CAPITALS c_only_of) (by walk_at "b1");have zia:xy l.prog w K mg base (dM l.prog w) 3 "Rule" "__init__" ["self","name","cost","part_names"] (cH K zfa):=⟨_,_,_,sS ztb nb zAa zta c_is_name,m_Rule,cf_Rule___init__,zqe⟩;have zwb:ot l.prog w K mg base (dM l.prog w) 4 "CellRule" zea ["self","name","cost","sign"] (iE K zfa):=⟨_,_,rL zRa nb m_SMALLS zAa zta c_only_of zia,zeb,zrf,zCc⟩;have zYa:ot l.prog w K mg base (dM l.prog w) 4 "BesideRule" zaa ["self","name","cost","one","other"] (cP K zfa):=⟨_,_,o5 zJa nb zia,zhf,zRe,zSb⟩;have zfb:ot l.prog w K mg base (dM l.prog w) 4 "AboveRule" zca ["self","name","cost","one","other"] (cP K zfa):=⟨_,_,ql zMa nb zia,zsf,zif,zjc⟩;have zxb:ot l.prog w K mg base (dM l.prog w) 4 "TurnRule" zda ["self","name","cost","part","turning"] (io K zfa):=⟨_,_,tj zSa nb zAa zta zia,zIf,ztf,zDc⟩;have cp_parts:tP l.prog w K mg base bH 1 "parts" (mU K R):=B8 ⟨_,_,_,eR zGa nb,zUa.cl,znd,zNa⟩ ⟨_,_,_,eR zGa nb,zab.cl,zEc,zNa⟩ ⟨_,_,_,eR zGa nb,zkb.cl,zZc,zNa⟩ ⟨_,_,_,eR zGa nb,zVa.cl,zqd,zNa⟩;have c_are_signs:=a3.cal (P:=l.prog) (w:=w) (base:=base) X G (fun _ F m k b=>r8 F nb m_MOST_SIGNS m_SMALLS c_only_of) (by walk_at "b1");have c_check_made_of:=a4.cal (P:=l.prog) (w:=w) (base:=base) X G (fun _ F m k b=>mF F nb rk rk4 m_MOST_RULES zeb zqa zla c_are_signs c_is_name) (by walk_at "b3");have c_numbers_by_name:=a5.cal (P:=l.prog) (w:=w) (base:=base) X G (fun _ F m k b=>kG F nb rk cp_parts) (by walk_at "b2");have zXb:ot l.prog w K mg base (dM l.prog w) 4 "Grammar" zha ["self","signs","start","rules"] (ic K R zba):=⟨_,_,rZ zXa nb m_MOST_NAMES zqa zla c_check_made_of c_numbers_by_name,zSf,zJf,zad⟩;have cm_rule:nM l.prog w K mg base bH 1 zha "rule" ["self","k"] (fT R zha):=⟨_,_,sw zTb nb zOa.cl gk.na,zOa.cl,zte,zMe⟩;have cm_many:nM l.prog w K mg base bH 1 zha "many" ["self"] (iL R zha):=⟨_,_,r9 zUb nb zOa.cl gk.na,zOa.cl,zue,zNe⟩;have c_beside:=a6.cal (P:=l.prog) (w:=w) (base:=base) X G (fun _ F m k b=>x5 F nb m_MOST zDa zTa) (by walk_at "b2");have c_above:=a7.cal (P:=l.prog) (w:=w) (base:=base) X G (fun _ F m k b=>yA F nb m_MOST zDa zTa) (by walk_at "b2");have c_mirror:=a8.cal (P:=l.prog) (w:=w) (base:=base) X G (fun _ F m k b=>ya F nb) (by walk_at "b1");have c_column_from_below:=a9.cal (P:=l.prog) (w:=w) (base:=base) X G (fun _ F m k b=>xq F nb) (by walk_at "b2");have c_quarter:=DL.cal (P:=l.prog) (w:=w) (base:=base) X G (fun _ F m k b=>vN F nb c_column_from_below) (by walk_at "b1");have zsd:=DE.cal (P:=l.prog) (w:=w) (base:=base) X G (fun _ F m k b=>yg F nb c_mirror c_quarter) (by walk_at "b2");have cp_made:tP l.prog w K mg base (dM l.prog w) 4 "made" (nK K R zga):=B8 ⟨_,_,_,(rP zub zUa.cl rk.a0.2.2.2).lift.mono (by decide),zUa.cl,zFd,zre⟩ ⟨_,_,_,(pM zdb c_beside).mono (by decide),zab.cl,zYc,zod⟩ ⟨_,_,_,(qp zlb c_above).mono (by decide),zkb.cl,zpd,zGd⟩ ⟨_,_,_,(su zvb zVa.cl rk.a3.2.2.2.2 zsd).lift,zVa.cl,zHd,zse⟩;have c_check_form:=Fu.cal (P:=l.prog) (w:=w) (base:=base) X G (fun _ F m k b=>kr F nb rk m_NoTree xi_NoTree cp_parts cm_rule cm_many m k b 60 (by decide)) (by walk_at "b4");have c_lay:=Ed.cal (P:=l.prog) (w:=w) (base:=base) X G (fun _ F m k b=>zy F nb zDa zhb rfl und_NoFit_NoFit m_NoTree xq_NoTree cp_made cm_rule m k b 60 (by decide)) (by walk_at "b3");have c_laid:=Fo.cal (P:=l.prog) (w:=w) (base:=base) X G (fun _ F m k b=>A3 F nb c_check_form c_lay) (by walk_at "b2");have c_tree_fault:=EW.cal (P:=l.prog) (w:=w) (base:=base) X G (fun _ F m k b=>qz F nb m_NoTree xo_NoTree rfl und_NoTree_NoTree xt_NoTree xh_NoTree jT c_laid) (by walk_at "b2");have zma:=E3.cal (P:=l.prog) (w:=w) (base:=base) X G (fun _ F m k b=>xD F nb) (by walk_at "b2");have zGc:=En.cal (P:=l.prog) (w:=w) (base:=base) X G (fun _ F m k b=>wj F nb) (by walk_at "b2");have zFc:=Es.cal (P:=l.prog) (w:=w) (base:=base) X G (fun _ F m k b=>vb F nb) (by walk_at "b1");have zyb:=EG.cal (P:=l.prog) (w:=w) (base:=base) X G (fun _ F m k b=>sX F nb) (by walk_at "b1");have zVb:=EX.cal (P:=l.prog) (w:=w) (base:=base) X G (fun _ F m k b=>uz F nb zyb) (by walk_at "b2");have zEa:=E_.cal (P:=l.prog) (w:=w) (base:=base) X G (fun _ F m k b=>zX F nb zVb) (by walk_at "b2");have zZa:=D6.cal (P:=l.prog) (w:=w) (base:=base) X G (fun _ F m k b=>xH F nb rk zwb zYa zfb zxb) (by walk_at "b1");have zva:=Fi.cal (P:=l.prog) (w:=w) (base:=base) X G (fun _ F m k b=>nP F nb) (by walk_at "b3");have ztd:=E7.cal (P:=l.prog) (w:=w) (base:=base) X G (fun _ F m k b=>yh F nb zva zEa) (by walk_at "b4");have zWb:=ER.cal (P:=l.prog) (w:=w) (base:=base) X G (fun _ F m k b=>uv F nb) (by walk_at "b3");have zHc:=E2.cal (P:=l.prog) (w:=w) (base:=base) X G (fun _ F m k b=>vA F nb nb.sum ztd zEa zWb) (by walk_at "b4");have zzb:=Fy.cal (P:=l.prog) (w:=w) (base:=base) X G (fun _ F m k b=>sd F nb gk zZa zXb) (by walk_at "b3");have zKc:=E5.cal (P:=l.prog) (w:=w) (base:=base) X G (fun _ F m k b=>ve F nb zma zFc zGc zva zHc zzb) (by walk_at "b3");have zJc:=Er.cal (P:=l.prog) (w:=w) (base:=base) X G (fun _ F m k b=>vq F nb) (by walk_at "b1");have zYb:=EY.cal (P:=l.prog) (w:=w) (base:=base) X G (fun _ F m k b=>uA F nb) (by walk_at "b1");have c_l_at:=Fd.cal (P:=l.prog) (w:=w) (base:=base) X G (fun _ F m k b=>Bj F nb) (by walk_at "b2");have zgb:=EA.cal (P:=l.prog) (w:=w) (base:=base) X G (fun _ F m k b=>qH F nb m k b 61 (by decide)) (by walk_at "b3");have zZb:=E9.cal (P:=l.prog) (w:=w) (base:=base) X G (fun _ F m k b=>uh F nb zYb c_l_at zgb) (by walk_at "b4");have zIc:=Fg.cal (P:=l.prog) (w:=w) (base:=base) X G (fun _ F m k b=>vh F nb) (by walk_at "b1")
 have zBb:=Ew.cal (P:=l.prog) (w:=w) (base:=base) X G (fun _ F m k b=>ux F nb zEa m k b 60 (by decide)) (by walk_at "b3");have zLc:=Fp.cal (P:=l.prog) (w:=w) (base:=base) X G (fun _ F m k b=>uW F nb zIc zBb) (by walk_at "b2");have zKa:=Ev.cal (P:=l.prog) (w:=w) (base:=base) X G (fun _ F m k b=>qw F nb zJc) (by walk_at "b2");exact Da FL nb zma zKc zZb zLc zKa c_tree_fault
theorem walk{l:W.OpenLaw}{q:Program}{loose:List Str}{XP:(Str->Option Value)->Heap->Prop}{YP:World->Heap->Prop}{d:DefRec}{K:Params->W.Frag}(hn:l.most=some 63)(hdf:d.params.defaults=[])
  (hY:∀(w:World) (h:Heap),YP w h->(K w.params).In h)
  (F:∀(w:World) (mg:Str->Option Value) (fa:Addr) (h:Heap),(K w.params).In h->h.Ns mainGlobals mg->mg d.name=some (.ref fa) ->
   ∃fd:FuncData,(∀(s:Shared) (u:Value),BindsTo s fd ⟨[u],[]⟩ [("_law_script",u)])/\∀base:Heap,(K w.params).In base->base.Ns mainGlobals mg->bc l.prog w (K w.params) mg base bH 69 fa fd ["_law_script"] (tQ (K w.params))) :
  W.WalkO q loose XP YP l.row.toRowW d [] (fun f vs=>PySem.call f vs):=
 L2.walk_of (n:=63) (k:=69) (x:="_law_script") (CX:=fun _=>bH) (sp:=fun w=>tQ (K w.params)) hn (by decide) hdf ⟨rfl,by decide,by decide⟩ hY F (fun _ _ a ns hl _ hS=>⟨a,ns,rfl,hS,fun _=>rfl⟩) fun _ _ _ _ _ z=>z
end Q14
open PySem PySem.W PyProof.Rows
local macro_rules | `(tactic| walk_at "kk")=>`(tactic| first | k_is | kernel_rfl | rfl | decide +kernel)
local macro_rules | `(tactic| walk_at "fk")=>`(tactic| (refine' Q14.fk_mk ?p ?q ?r ?s;(case p=>k_is);(case q=>k_is);(case r=>k_is);(case s=>k_is)))
set_option maxRecDepth 100000 in
set_option maxHeartbeats 0 in
theorem PySem.Challenge.cw_quiltlaw_k14_first_fault_holds : PySem.Challenge.rw_quiltlaw_k14_first_fault.Holds := by
 w_on;o_law;k_head;(case hw=>w_witness2)
 k_fill
 refine Q14.walk (l:=PySem.Challenge.rw_quiltlaw_k14_first_fault) rfl rfl (fun w h Y=>PySem.W.kIn_of Y) ?F
 case F=>
  intro w mg fa h KX G hmg
  refine' Q14.all_mk KX G hmg ?a1 ?a2 ?a3 ?a4 ?a5 ?a6 ?a7 ?a8 ?a9 ?DL ?DE ?Fu ?Ed ?Fo ?EW ?E3 ?En ?Es ?EG ?EX ?E_ ?D6 ?Fi ?E7 ?ER ?E2 ?Fy ?E5 ?Er ?EY ?Fd ?EA ?E9 ?Fg ?Ew ?Fp ?Ev ?Ea ?sV ?pN ?lF ?mX ?mH ?mq ?m_ ?mi ?yX ?yF ?vJ ?nV ?oj ?oH ?oN ?oR ?pF ?o4 ?xmNoFit_NoFit ?kT ?fb ?iH ?ia ?iu ?iI ?iJ ?iA ?iX ?iU ?iQ ?iT ?iz ?iF ?iR ?fS ?iC ?iD ?iG ?xmNoGrammar_NoGrammar ?s_ ?jC ?ni ?mx ?l_ ?mf ?my ?nh ?jU ?jP ?mY ?ng ?nk ?mM ?mz ?j8 ?mQ ?nn ?jT ?fg ?mr ?tE ?gF ?yv ?vD ?wa ?fu ?fF ?fo ?mkRule___init__ ?jc ?l8 ?pgCellRule ?hdCellRule ?poCellRule ?saCellRule ?haCellRule ?moCellRule ?naCellRule_name ?naCellRule_cost ?naCellRule_part_names ?naCellRule_sign ?kF ?kD ?c8 ?cY ?mkCellRule___init__ ?c5 ?ku ?rCellRule ?sCellRule ?jF ?pgBesideRule ?hdBesideRule ?poBesideRule ?saBesideRule ?haBesideRule ?moBesideRule ?naBesideRule_name ?naBesideRule_cost ?naBesideRule_part_names ?naBesideRule_one ?naBesideRule_other ?iy ?hZ ?b_ ?cg ?mkBesideRule___init__ ?ce ?ib ?rBesideRule ?sBesideRule ?kN ?pgAboveRule ?hdAboveRule ?poAboveRule ?saAboveRule ?haAboveRule ?moAboveRule ?naAboveRule_name ?naAboveRule_cost ?naAboveRule_part_names ?naAboveRule_one ?naAboveRule_other ?jN ?jD ?cw ?cA ?mkAboveRule___init__ ?cv ?jE ?rAboveRule ?sAboveRule ?m4 ?pgTurnRule ?hdTurnRule ?poTurnRule ?saTurnRule ?haTurnRule ?moTurnRule ?naTurnRule_name ?naTurnRule_cost ?naTurnRule_part_names ?naTurnRule_part ?naTurnRule_turning ?kx ?kE ?cZ ?cT ?mkTurnRule___init__ ?cX ?kJ ?rTurnRule ?sTurnRule ?ji ?jI ?jH ?Ao ?EI ?Ff ?ET ?Fc ?D5 ?Fx ?D_ ?D7 ?D9 ?EQ ?Ei ?EK ?d_ ?im ?iY ?mkRule_parts ?cR ?fA ?fB ?fE ?mkCellRule_made ?fL ?dm ?dX ?dW ?dR ?mkBesideRule_made ?dN ?dQ ?eO ?eH ?eu ?mkAboveRule_made ?eD ?eG ?fh ?fC ?fH ?mkTurnRule_made ?fK ?pd ?pgGrammar ?hdGrammar ?poGrammar ?saGrammar ?haGrammar ?moGrammar ?naGrammar_signs ?naGrammar_start ?naGrammar_kept ?naGrammar_numbers ?mV ?mZ ?dq ?dv ?mkGrammar___init__ ?dn ?nc ?fY ?fW ?gn ?mkGrammar_rule ?fX ?fZ ?gl ?ge ?mkGrammar_many ?gj ?z0 ?z1 ?z2 ?z3 ?z4 ?z5 ?z6 ?z7 ?z8 ?z9 ?Ek ?EB ?Eg ?Ee ?EF ?Fa ?EJ ?Ej ?Ey
  (case a1=>walk_at "fk");(case a2=>walk_at "fk");(case a3=>walk_at "fk");(case a4=>walk_at "fk");(case a5=>walk_at "fk");(case a6=>walk_at "fk");(case a7=>walk_at "fk");(case a8=>walk_at "fk")
  (case a9=>walk_at "fk");(case DL=>walk_at "fk");(case DE=>walk_at "fk");(case Fu=>walk_at "fk");(case Ed=>walk_at "fk");(case Fo=>walk_at "fk");(case EW=>walk_at "fk");(case E3=>walk_at "fk")
  (case En=>walk_at "fk");(case Es=>walk_at "fk");(case EG=>walk_at "fk");(case EX=>walk_at "fk");(case E_=>walk_at "fk");(case D6=>walk_at "fk");(case Fi=>walk_at "fk");(case E7=>walk_at "fk")
  (case ER=>walk_at "fk");(case E2=>walk_at "fk");(case Fy=>walk_at "fk");(case E5=>walk_at "fk");(case Er=>walk_at "fk");(case EY=>walk_at "fk");(case Fd=>walk_at "fk");(case EA=>walk_at "fk")
  (case E9=>walk_at "fk");(case Fg=>walk_at "fk");(case Ew=>walk_at "fk");(case Fp=>walk_at "fk");(case Ev=>walk_at "fk");(case Ea=>walk_at "fk");(case sV=>walk_at "kk");(case pN=>walk_at "kk")
  (case lF=>walk_at "kk");(case mX=>walk_at "kk");(case mH=>walk_at "kk");(case mq=>walk_at "kk");(case m_=>walk_at "kk");(case mi=>walk_at "kk");(case yX=>walk_at "kk");(case yF=>walk_at "kk")
  (case vJ=>walk_at "kk");(case nV=>walk_at "kk");(case oj=>walk_at "kk");(case oH=>walk_at "kk");(case oN=>walk_at "kk");(case oR=>walk_at "kk");(case pF=>walk_at "kk");(case o4=>walk_at "kk")
  (case xmNoFit_NoFit=>walk_at "kk");(case kT=>walk_at "kk");(case fb=>walk_at "kk");(case iH=>walk_at "kk");(case ia=>walk_at "kk");(case iu=>walk_at "kk");(case iI=>walk_at "kk");(case iJ=>walk_at "kk")
  (case iA=>walk_at "kk");(case iX=>walk_at "kk");(case iU=>walk_at "kk");(case iQ=>walk_at "kk");(case iT=>walk_at "kk");(case iz=>walk_at "kk");(case iF=>walk_at "kk");(case iR=>walk_at "kk")
  (case fS=>walk_at "kk");(case iC=>walk_at "kk");(case iD=>walk_at "kk");(case iG=>walk_at "kk");(case xmNoGrammar_NoGrammar=>walk_at "kk");(case s_=>walk_at "kk");(case jC=>walk_at "kk");(case ni=>walk_at "kk")
  (case mx=>walk_at "kk");(case l_=>walk_at "kk");(case mf=>walk_at "kk");(case my=>walk_at "kk");(case nh=>walk_at "kk");(case jU=>walk_at "kk");(case jP=>walk_at "kk");(case mY=>walk_at "kk")
  (case ng=>walk_at "kk");(case nk=>walk_at "kk");(case mM=>walk_at "kk");(case mz=>walk_at "kk");(case j8=>walk_at "kk");(case mQ=>walk_at "kk");(case nn=>walk_at "kk");(case jT=>walk_at "kk")
  (case fg=>walk_at "kk");(case mr=>walk_at "kk");(case tE=>walk_at "kk");(case gF=>walk_at "kk");(case yv=>walk_at "kk");(case vD=>walk_at "kk");(case wa=>walk_at "kk");(case fu=>walk_at "kk")
  (case fF=>walk_at "kk");(case fo=>walk_at "kk");(case mkRule___init__=>walk_at "kk");(case jc=>walk_at "kk");(case l8=>walk_at "kk");(case pgCellRule=>walk_at "kk");(case hdCellRule=>walk_at "kk");(case poCellRule=>walk_at "kk")
  (case saCellRule=>walk_at "kk");(case haCellRule=>walk_at "kk");(case moCellRule=>walk_at "kk");(case naCellRule_name=>walk_at "kk");(case naCellRule_cost=>walk_at "kk");(case naCellRule_part_names=>walk_at "kk");(case naCellRule_sign=>walk_at "kk");(case kF=>walk_at "kk")
  (case kD=>walk_at "kk");(case c8=>walk_at "kk");(case cY=>walk_at "kk");(case mkCellRule___init__=>walk_at "kk");(case c5=>walk_at "kk");(case ku=>walk_at "kk");(case rCellRule=>walk_at "kk");(case sCellRule=>walk_at "kk")
  (case jF=>walk_at "kk");(case pgBesideRule=>walk_at "kk");(case hdBesideRule=>walk_at "kk");(case poBesideRule=>walk_at "kk");(case saBesideRule=>walk_at "kk");(case haBesideRule=>walk_at "kk");(case moBesideRule=>walk_at "kk");(case naBesideRule_name=>walk_at "kk")
  (case naBesideRule_cost=>walk_at "kk");(case naBesideRule_part_names=>walk_at "kk");(case naBesideRule_one=>walk_at "kk");(case naBesideRule_other=>walk_at "kk");(case iy=>walk_at "kk");(case hZ=>walk_at "kk");(case b_=>walk_at "kk");(case cg=>walk_at "kk")
  (case mkBesideRule___init__=>walk_at "kk");(case ce=>walk_at "kk");(case ib=>walk_at "kk");(case rBesideRule=>walk_at "kk");(case sBesideRule=>walk_at "kk");(case kN=>walk_at "kk");(case pgAboveRule=>walk_at "kk");(case hdAboveRule=>walk_at "kk")
  (case poAboveRule=>walk_at "kk");(case saAboveRule=>walk_at "kk");(case haAboveRule=>walk_at "kk");(case moAboveRule=>walk_at "kk");(case naAboveRule_name=>walk_at "kk");(case naAboveRule_cost=>walk_at "kk");(case naAboveRule_part_names=>walk_at "kk");(case naAboveRule_one=>walk_at "kk")
  (case naAboveRule_other=>walk_at "kk");(case jN=>walk_at "kk");(case jD=>walk_at "kk");(case cw=>walk_at "kk");(case cA=>walk_at "kk");(case mkAboveRule___init__=>walk_at "kk");(case cv=>walk_at "kk");(case jE=>walk_at "kk")
  (case rAboveRule=>walk_at "kk");(case sAboveRule=>walk_at "kk");(case m4=>walk_at "kk");(case pgTurnRule=>walk_at "kk");(case hdTurnRule=>walk_at "kk");(case poTurnRule=>walk_at "kk");(case saTurnRule=>walk_at "kk");(case haTurnRule=>walk_at "kk")
  (case moTurnRule=>walk_at "kk");(case naTurnRule_name=>walk_at "kk");(case naTurnRule_cost=>walk_at "kk");(case naTurnRule_part_names=>walk_at "kk");(case naTurnRule_part=>walk_at "kk");(case naTurnRule_turning=>walk_at "kk");(case kx=>walk_at "kk");(case kE=>walk_at "kk")
  (case cZ=>walk_at "kk");(case cT=>walk_at "kk");(case mkTurnRule___init__=>walk_at "kk");(case cX=>walk_at "kk");(case kJ=>walk_at "kk");(case rTurnRule=>walk_at "kk");(case sTurnRule=>walk_at "kk");(case ji=>walk_at "kk")
  (case jI=>walk_at "kk");(case jH=>walk_at "kk");(case Ao=>walk_at "kk");(case EI=>walk_at "kk");(case Ff=>walk_at "kk");(case ET=>walk_at "kk");(case Fc=>walk_at "kk");(case D5=>walk_at "kk")
  (case Fx=>walk_at "kk");(case D_=>walk_at "kk");(case D7=>walk_at "kk");(case D9=>walk_at "kk");(case EQ=>walk_at "kk");(case Ei=>walk_at "kk");(case EK=>walk_at "kk");(case d_=>walk_at "kk")
  (case im=>walk_at "kk");(case iY=>walk_at "kk");(case mkRule_parts=>walk_at "kk");(case cR=>walk_at "kk");(case fA=>walk_at "kk");(case fB=>walk_at "kk");(case fE=>walk_at "kk");(case mkCellRule_made=>walk_at "kk")
  (case fL=>walk_at "kk");(case dm=>walk_at "kk");(case dX=>walk_at "kk");(case dW=>walk_at "kk");(case dR=>walk_at "kk");(case mkBesideRule_made=>walk_at "kk");(case dN=>walk_at "kk");(case dQ=>walk_at "kk")
  (case eO=>walk_at "kk");(case eH=>walk_at "kk");(case eu=>walk_at "kk");(case mkAboveRule_made=>walk_at "kk");(case eD=>walk_at "kk");(case eG=>walk_at "kk");(case fh=>walk_at "kk");(case fC=>walk_at "kk")
  (case fH=>walk_at "kk");(case mkTurnRule_made=>walk_at "kk");(case fK=>walk_at "kk");(case pd=>walk_at "kk");(case pgGrammar=>walk_at "kk");(case hdGrammar=>walk_at "kk");(case poGrammar=>walk_at "kk");(case saGrammar=>walk_at "kk")
  (case haGrammar=>walk_at "kk");(case moGrammar=>walk_at "kk");(case naGrammar_signs=>walk_at "kk");(case naGrammar_start=>walk_at "kk");(case naGrammar_kept=>walk_at "kk");(case naGrammar_numbers=>walk_at "kk");(case mV=>walk_at "kk");(case mZ=>walk_at "kk")
  (case dq=>walk_at "kk");(case dv=>walk_at "kk");(case mkGrammar___init__=>walk_at "kk");(case dn=>walk_at "kk");(case nc=>walk_at "kk");(case fY=>walk_at "kk");(case fW=>walk_at "kk");(case gn=>walk_at "kk")
  (case mkGrammar_rule=>walk_at "kk");(case fX=>walk_at "kk");(case fZ=>walk_at "kk");(case gl=>walk_at "kk");(case ge=>walk_at "kk");(case mkGrammar_many=>walk_at "kk");(case gj=>walk_at "kk");(case z0=>k_is)
  (case z1=>k_is);(case z2=>k_is);(case z3=>k_is);(case z4=>k_is);(case z5=>k_is);(case z6=>k_is);(case z7=>k_is);(case z8=>k_is)
  (case z9=>k_is);(case Ek=>k_is);(case EB=>k_is);(case Eg=>k_is);(case Ee=>k_is);(case EF=>k_is);(case Fa=>k_is);(case EJ=>k_is)
  (case Ej=>k_is);(case Ey=>k_is)
