import PyProof.Rows.All
import Wide.All
import OpenK.AllK
import Wide.FinOn
import Lean
import PyProof.EqAt
import PyProof.EqKinds
import PyProof.TupleCall
import PyProof.CollectIter
import PyProof.JoinWalk
import PyProof.StrOps
import PyProof.ListOps
import PyProof.StrLawsJoin
import KE.KRevIter
import PyProof.StrLawsFirst
import PyProof.Rows.StrNews2
import PyProof.StrLawsTight
import PyProof.StrLawsChain
import KE.KIntText
import KE.IntTextLaws
import PyProof.ListStr
import KE.KDictLaws
import KE.KDictList
import PyProof.Rows.SetFrom
import PyProof.FitsReplace
import KE.KEqDict
import PySem.Challenge.RW_quiltlaw_k43_grammar_turned
def PySem.W.Fast.tw2055757211686792192 : Nat := 0
def PySem.W.Fast.tw1524870864597345312 : Nat := 0
def PySem.W.Fast.tw2908683281784854624 : Nat := 0
def PySem.W.Fast.tw14515059792979158112 : Nat := 0
def PySem.W.Fast.tw15142565627555895456 : Nat := 0
def PySem.W.Fast.tw3988857382433091808 : Nat := 0
def PySem.W.Fast.tw5059409082209258752 : Nat := 0
def PySem.W.Fast.tw4860127590473430368 : Nat := 0
def PySem.W.Fast.tw8276119585304138080 : Nat := 0
def PySem.W.Fast.tw2766199634663006624 : Nat := 0
def PySem.W.Fast.tw2471557231772327456 : Nat := 0
def PySem.W.Fast.tw6489274757582351904 : Nat := 0
def PySem.W.Fast.tw15316078746351752800 : Nat := 0
def PySem.W.Fast.tw1875432892667069056 : Nat := 0
def PySem.W.Fast.tw907282918314230432 : Nat := 0
def PySem.W.Fast.tw13997598207820719776 : Nat := 0
def PySem.W.Fast.tw11989023698274418336 : Nat := 0
def PySem.W.Fast.tw17509926394641258208 : Nat := 0
def PySem.W.Fast.tw3050775758053533472 : Nat := 0
def PySem.W.Fast.tw16702760670714484576 : Nat := 0
def PySem.W.Fast.tw17107226601126130560 : Nat := 0
def PySem.W.Fast.tw13621140628520288224 : Nat := 0
def PySem.W.Fast.tw4924725394188897281 : Nat := 0
def PySem.W.Fast.tw11235390253825478689 : Nat := 0
def PySem.W.Fast.tw8185626115097331969 : Nat := 0
def PySem.W.Fast.tw14063401418442120449 : Nat := 0
def PySem.W.Fast.tw2021499294413441281 : Nat := 0
def PySem.W.Fast.tw3446797344696464737 : Nat := 0
def PySem.W.Fast.tw1164515181372537249 : Nat := 0
def PySem.W.Fast.tw7151471105462948321 : Nat := 0
def PySem.W.Fast.tw9128516669821758049 : Nat := 0
def PySem.W.Fast.tw8881801702264265313 : Nat := 0
def PySem.W.Fast.tw10256441877708070497 : Nat := 0
def PySem.W.Fast.tw8577757929038861953 : Nat := 0
def PySem.W.Fast.tw13547418018434487041 : Nat := 0
def PySem.W.Fast.tw1281817203126834945 : Nat := 0
def PySem.W.Fast.tw1704342772472317729 : Nat := 0
def PySem.W.Fast.tw14785207066260343617 : Nat := 0
def PySem.W.Fast.tw17121542611874779969 : Nat := 0
def PySem.W.Fast.tw6657370799579128673 : Nat := 0
def PySem.W.Fast.tw14759599189105993569 : Nat := 0
def PySem.W.Fast.tw5742870685539978209 : Nat := 0
def PySem.W.Fast.tw9293658717541859297 : Nat := 0
def PySem.W.Fast.tw4777807407482120194 : Nat := 0
def PySem.W.Fast.tw7424910828327259266 : Nat := 0
def PySem.W.Fast.tw7864809708255598786 : Nat := 0
def PySem.W.Fast.tw11934114665195783458 : Nat := 0
def PySem.W.Fast.tw17498718873503711618 : Nat := 0
def PySem.W.Fast.tw7008702147760463330 : Nat := 0
def PySem.W.Fast.tw5377639173282536002 : Nat := 0
def PySem.W.Fast.tw16881915572611998466 : Nat := 0
def PySem.W.Fast.tw17725247119009349378 : Nat := 0
def PySem.W.Fast.tw3785783276824365922 : Nat := 0
def PySem.W.Fast.tw15633642165610936162 : Nat := 0
def PySem.W.Fast.tw3916421106606700418 : Nat := 0
def PySem.W.Fast.tw5625641702417130402 : Nat := 0
def PySem.W.Fast.tw7710713133899266083 : Nat := 0
def PySem.W.Fast.tw14619192655346485315 : Nat := 0
def PySem.W.Fast.tw13686003679590345827 : Nat := 0
def PySem.W.Fast.tw16981501426779237539 : Nat := 0
def PySem.W.Fast.tw681156233913060515 : Nat := 0
def PySem.W.Fast.tw10659604686736579747 : Nat := 0
def PySem.W.Fast.tw12662387149361109251 : Nat := 0
def PySem.W.Fast.tw13965820913543212323 : Nat := 0
def PySem.W.Fast.tw5027042009923274115 : Nat := 0
def PySem.W.Fast.tw5613385565475111363 : Nat := 0
def PySem.W.Fast.tw16928514005055578563 : Nat := 0
def PySem.W.Fast.tw17235741041407264227 : Nat := 0
def PySem.W.Fast.tw14217287342843072995 : Nat := 0
def PySem.W.Fast.tw14617408861248590307 : Nat := 0
def PySem.W.Fast.tw2032593366882603523 : Nat := 0
def PySem.W.Fast.tw5144920437337611843 : Nat := 0
def PySem.W.Fast.tw1823616484741191267 : Nat := 0
def PySem.W.Fast.tw9493441786165460579 : Nat := 0
def PySem.W.Fast.tw9888273713532609155 : Nat := 0
def PySem.W.Fast.tw7468227293917604643 : Nat := 0
def PySem.W.Fast.tw6955373199810367299 : Nat := 0
def PySem.W.Fast.tw5471448286170850147 : Nat := 0
def PySem.W.Fast.tw11552925615336344515 : Nat := 0
def PySem.W.Fast.tw7981373258681180099 : Nat := 0
def PySem.W.Fast.tw13490771617354783715 : Nat := 0
def PySem.W.Fast.tw15943337968148382724 : Nat := 0
def PySem.W.Fast.tw7864940272794164260 : Nat := 0
def PySem.W.Fast.tw3632002624585512996 : Nat := 0
def PySem.W.Fast.tw4632722049614326884 : Nat := 0
def PySem.W.Fast.tw4296204806982199492 : Nat := 0
def PySem.W.Fast.tw14867958737225694468 : Nat := 0
def PySem.W.Fast.tw5343882974083136804 : Nat := 0
def PySem.W.Fast.tw11674537548145040772 : Nat := 0
def PySem.W.Fast.tw28403722858687972 : Nat := 0
def PySem.W.Fast.tw5555563926864667460 : Nat := 0
def PySem.W.Fast.tw15875710935167923140 : Nat := 0
def PySem.W.Fast.tw5693727089725928517 : Nat := 0
def PySem.W.Fast.tw8819367621337008389 : Nat := 0
def PySem.W.Fast.tw2764197664486349093 : Nat := 0
def PySem.W.Fast.tw509654684556963173 : Nat := 0
def PySem.W.Fast.tw11743555015310455237 : Nat := 0
def PySem.W.Fast.tw9726088280638231013 : Nat := 0
def PySem.W.Fast.tw13551421290979105253 : Nat := 0
def PySem.W.Fast.tw12759766219281282597 : Nat := 0
def PySem.W.Fast.tw5710953628336645701 : Nat := 0
def PySem.W.Fast.tw4950184227572987493 : Nat := 0
def PySem.W.Fast.tw17844558843730817669 : Nat := 0
def PySem.W.Fast.tw13956793199960910469 : Nat := 0
def PySem.W.Fast.tw17352552379409876709 : Nat := 0
def PySem.W.Fast.tw15514793702249400069 : Nat := 0
def PySem.W.Fast.tw7880800456806038373 : Nat := 0
def PySem.W.Fast.tw130254515875133478 : Nat := 0
def PySem.W.Fast.tw8343630450455892006 : Nat := 0
def PySem.W.Fast.tw11374908248983205926 : Nat := 0
def PySem.W.Fast.tw14705894909072460870 : Nat := 0
def PySem.W.Fast.tw5027699238144078918 : Nat := 0
def PySem.W.Fast.tw11357654211795716230 : Nat := 0
def PySem.W.Fast.tw4977818222682535078 : Nat := 0
def PySem.W.Fast.tw441785226662879462 : Nat := 0
def PySem.W.Fast.tw10868000306054566150 : Nat := 0
def PySem.W.Fast.tw11610328069536305414 : Nat := 0
def PySem.W.Fast.tw9737810355729234278 : Nat := 0
def PySem.W.Fast.tw15135359761262717318 : Nat := 0
def PySem.W.Fast.tw15733875196624230790 : Nat := 0
def PySem.W.Fast.tw13748053747705092614 : Nat := 0
def PySem.W.Fast.tw14958520539658628646 : Nat := 0
def PySem.W.Fast.tw11976376548886603430 : Nat := 0
def PySem.W.Fast.tw9476476977886595814 : Nat := 0
def PySem.W.Fast.tw14643766452027603718 : Nat := 0
def PySem.W.Fast.tw5790267330537148294 : Nat := 0
def PySem.W.Fast.tw18097194344066266054 : Nat := 0
def PySem.W.Fast.tw11695179242976020775 : Nat := 0
def PySem.W.Fast.tw14483773038708691239 : Nat := 0
def PySem.W.Fast.tw8209546710235587943 : Nat := 0
def PySem.W.Fast.tw14606334627817493927 : Nat := 0
def PySem.W.Fast.tw12708671144698397095 : Nat := 0
def PySem.W.Fast.tw11440281630329985447 : Nat := 0
def PySem.W.Fast.tw16973235454607804935 : Nat := 0
def PySem.W.Fast.tw1158343081342417447 : Nat := 0
def PySem.W.Fast.tw17896624978282579527 : Nat := 0
def PySem.W.Fast.tw15889068255666641479 : Nat := 0
def PySem.W.Fast.tw11864516234412598919 : Nat := 0
def PySem.W.Fast.tw17328202227253117575 : Nat := 0
def PySem.W.Fast.tw8582577719703738023 : Nat := 0
def PySem.W.Fast.tw13347590780664515367 : Nat := 0
def PySem.W.Fast.tw8860595291555106631 : Nat := 0
def PySem.W.Fast.tw17998953812480417607 : Nat := 0
def PySem.W.Fast.tw13155109562280302503 : Nat := 0
def PySem.W.Fast.tw14915346300652281767 : Nat := 0
def PySem.W.Fast.tw7442069250938214408 : Nat := 0
def PySem.W.Fast.tw12228921726691878088 : Nat := 0
def PySem.W.Fast.tw17632934705818075368 : Nat := 0
def PySem.W.Fast.tw3671892469172276616 : Nat := 0
def PySem.W.Fast.tw14405373084292343176 : Nat := 0
def PySem.W.Fast.tw11150838910932261288 : Nat := 0
def PySem.W.Fast.tw2314164018614347272 : Nat := 0
def PySem.W.Fast.tw825233113100350984 : Nat := 0
def PySem.W.Fast.tw11453857083561672232 : Nat := 0
def PySem.W.Fast.tw13492013272626596456 : Nat := 0
def PySem.W.Fast.tw6107547834532491976 : Nat := 0
def PySem.W.Fast.tw2282343843573423848 : Nat := 0
def PySem.W.Fast.tw5142982918227770184 : Nat := 0
def PySem.W.Fast.tw5784179229521532808 : Nat := 0
def PySem.W.Fast.tw391886420818907016 : Nat := 0
def PySem.W.Fast.tw10819873214267482088 : Nat := 0
def PySem.W.Fast.tw3222122054645251241 : Nat := 0
def PySem.W.Fast.tw2293347917674604809 : Nat := 0
def PySem.W.Fast.tw6130026977502032137 : Nat := 0
def PySem.W.Fast.tw640448598346532137 : Nat := 0
def PySem.W.Fast.tw17596736736469521705 : Nat := 0
def PySem.W.Fast.tw3247978673719812393 : Nat := 0
def PySem.W.Fast.tw3278640953742825929 : Nat := 0
def PySem.W.Fast.tw15308805323741472201 : Nat := 0
def PySem.W.Fast.tw17447986428405239241 : Nat := 0
def PySem.W.Fast.tw15775782029585500649 : Nat := 0
def PySem.W.Fast.tw3510086494616195593 : Nat := 0
def PySem.W.Fast.tw102943976452345353 : Nat := 0
def PySem.W.Fast.tw4361018601861665289 : Nat := 0
def PySem.W.Fast.tw2120584948284462697 : Nat := 0
def PySem.W.Fast.tw3456569158856188649 : Nat := 0
def PySem.W.Fast.tw7990494609387047657 : Nat := 0
def PySem.W.Fast.tw17712684851350505257 : Nat := 0
def PySem.W.Fast.tw7661141947037424457 : Nat := 0
def PySem.W.Fast.tw12459599790499616649 : Nat := 0
def PySem.W.Fast.tw4771216793513206794 : Nat := 0
def PySem.W.Fast.tw1408138503824751690 : Nat := 0
def PySem.W.Fast.tw3858288240695820394 : Nat := 0
def PySem.W.Fast.tw3030712670072375434 : Nat := 0
def PySem.W.Fast.tw4685436225450224778 : Nat := 0
def PySem.W.Fast.tw5689992592729739466 : Nat := 0
def PySem.W.Fast.tw3119806586268941546 : Nat := 0
def PySem.W.Fast.tw9253431673919804810 : Nat := 0
def PySem.W.Fast.tw2558797312281826826 : Nat := 0
def PySem.W.Fast.tw3830362441575961130 : Nat := 0
def PySem.W.Fast.tw7794862912869958282 : Nat := 0
def PySem.W.Fast.tw10140314773139696266 : Nat := 0
def PySem.W.Fast.tw14609769994033852362 : Nat := 0
def PySem.W.Fast.tw16842868002877616106 : Nat := 0
def PySem.W.Fast.tw3317288113054129195 : Nat := 0
def PySem.W.Fast.tw3252782459892518987 : Nat := 0
def PySem.W.Fast.tw5335977772532978859 : Nat := 0
def PySem.W.Fast.tw682046352520247499 : Nat := 0
def PySem.W.Fast.tw15975054372738893131 : Nat := 0
def PySem.W.Fast.tw8014099753321008523 : Nat := 0
def PySem.W.Fast.tw3783605969006498219 : Nat := 0
def PySem.W.Fast.tw4734320655634830763 : Nat := 0
def PySem.W.Fast.tw13036025661660504523 : Nat := 0
def PySem.W.Fast.tw4515220747131583019 : Nat := 0
def PySem.W.Fast.tw3849459557042996811 : Nat := 0
def PySem.W.Fast.tw1176678978692464395 : Nat := 0
def PySem.W.Fast.tw7489677976820617067 : Nat := 0
def PySem.W.Fast.tw18034352720212405131 : Nat := 0
def PySem.W.Fast.tw990279577166024651 : Nat := 0
def PySem.W.Fast.tw12996984071140161483 : Nat := 0
def PySem.W.Fast.tw12614982928864420876 : Nat := 0
def PySem.W.Fast.tw14588788837918089388 : Nat := 0
def PySem.W.Fast.tw17202996921011220652 : Nat := 0
def PySem.W.Fast.tw106589374576971980 : Nat := 0
def PySem.W.Fast.tw8546534906115946796 : Nat := 0
def PySem.W.Fast.tw15577443283165478220 : Nat := 0
def PySem.W.Fast.tw2066514873545696652 : Nat := 0
def PySem.W.Fast.tw14193096770300365228 : Nat := 0
def PySem.W.Fast.tw8942534967597191724 : Nat := 0
def PySem.W.Fast.tw10939472143316470380 : Nat := 0
def PySem.W.Fast.tw8158351590367900364 : Nat := 0
def PySem.W.Fast.tw13968802804405710636 : Nat := 0
def PySem.W.Fast.tw10787116710471671724 : Nat := 0
def PySem.W.Fast.tw2691704634576537837 : Nat := 0
def PySem.W.Fast.tw12240744653254444269 : Nat := 0
def PySem.W.Fast.tw6888067069025076621 : Nat := 0
def PySem.W.Fast.tw14984388273508922797 : Nat := 0
def PySem.W.Fast.tw6213087969595677165 : Nat := 0
def PySem.W.Fast.tw10845119910568708621 : Nat := 0
def PySem.W.Fast.tw13351755940211995181 : Nat := 0
def PySem.W.Fast.tw4595295908062367341 : Nat := 0
def PySem.W.Fast.tw15153072980798669485 : Nat := 0
def PySem.W.Fast.tw2678355890032718509 : Nat := 0
def PySem.W.Fast.tw7240670778769897197 : Nat := 0
def PySem.W.Fast.tw9868454370541578061 : Nat := 0
def PySem.W.Fast.tw18195147405821380557 : Nat := 0
def PySem.W.Fast.tw3680778538395726829 : Nat := 0
def PySem.W.Fast.tw171504959049250894 : Nat := 0
def PySem.W.Fast.tw15575889490330487022 : Nat := 0
def PySem.W.Fast.tw15631143666765133070 : Nat := 0
def PySem.W.Fast.tw17408243451147142446 : Nat := 0
def PySem.W.Fast.tw14933474908338521518 : Nat := 0
def PySem.W.Fast.tw7761314890609848750 : Nat := 0
def PySem.W.Fast.tw9518780768329001422 : Nat := 0
def PySem.W.Fast.tw8248067823534003758 : Nat := 0
def PySem.W.Fast.tw6194461988082410030 : Nat := 0
def PySem.W.Fast.tw15580986927967296046 : Nat := 0
def PySem.W.Fast.tw17080678163038032462 : Nat := 0
def PySem.W.Fast.tw10293196209055754830 : Nat := 0
def PySem.W.Fast.tw15274960603766849102 : Nat := 0
def PySem.W.Fast.tw17659659790085672590 : Nat := 0
def PySem.W.Fast.tw11338354781282875022 : Nat := 0
def PySem.W.Fast.tw2552436109862950574 : Nat := 0
def PySem.W.Fast.tw4225792302455254830 : Nat := 0
def PySem.W.Fast.tw17529346668297922350 : Nat := 0
def PySem.W.Fast.tw8234577520019585870 : Nat := 0
def PySem.W.Fast.tw16236849191292863342 : Nat := 0
def PySem.W.Fast.tw11223728778926362478 : Nat := 0
def PySem.W.Fast.tw2623335575932019566 : Nat := 0
def PySem.W.Fast.tw3075220607756663694 : Nat := 0
def PySem.W.Fast.tw16858868120769944462 : Nat := 0
def PySem.W.Fast.tw15483926728493786094 : Nat := 0
def PySem.W.Fast.tw10099470585744552975 : Nat := 0
def PySem.W.Fast.tw4264829923496780815 : Nat := 0
def PySem.W.Fast.tw30514456642288719 : Nat := 0
def PySem.W.Fast.tw1815522590159904911 : Nat := 0
def PySem.W.Fast.tw16643859676176394479 : Nat := 0
def PySem.W.Fast.tw16809866370321108207 : Nat := 0
def PySem.W.Fast.tw12780135906948659471 : Nat := 0
def PySem.W.Fast.tw6088800155281725711 : Nat := 0
def PySem.W.Fast.tw3589954453285222671 : Nat := 0
def PySem.W.Fast.tw6395448264550745455 : Nat := 0
def PySem.W.Fast.tw16062153349426284911 : Nat := 0
def PySem.W.Fast.tw1726887723117876655 : Nat := 0
def PySem.W.Fast.tw1067753712426137071 : Nat := 0
def PySem.W.Fast.tw5014528587683128847 : Nat := 0
def PySem.W.Fast.tw4872772714108069455 : Nat := 0
def PySem.W.Fast.tw9417412958578609935 : Nat := 0
def PySem.W.Fast.tw14716449597692765967 : Nat := 0
def PySem.W.Fast.tw9916997068003764015 : Nat := 0
def PySem.W.Fast.tw5886773371426270031 : Nat := 0
def PySem.W.Fast.tw981233311676200815 : Nat := 0
def PySem.W.Fast.tw15821318815270337455 : Nat := 0
def PySem.W.Fast.tw14951379704253594543 : Nat := 0
def PySem.W.Fast.tw9294473795352401871 : Nat := 0
def PySem.W.Fast.tw6330681911282051055 : Nat := 0
def PySem.W.Fast.tw3393676232366352432 : Nat := 0
def PySem.W.Fast.tw15689329683295922224 : Nat := 0
def PySem.W.Fast.tw16321549162561090640 : Nat := 0
def PySem.W.Fast.tw6056271869120415856 : Nat := 0
def PySem.W.Fast.tw2876198940767631472 : Nat := 0
def PySem.W.Fast.tw4071798494217804944 : Nat := 0
def PySem.W.Fast.tw12477199790569797840 : Nat := 0
def PySem.W.Fast.tw12647202517140903152 : Nat := 0
def PySem.W.Fast.tw10856980625705412848 : Nat := 0
def PySem.W.Fast.tw5888208539685781776 : Nat := 0
def PySem.W.Fast.tw12269887318877740304 : Nat := 0
def PySem.W.Fast.tw16198537135004837136 : Nat := 0
def PySem.W.Fast.tw3810372374860078384 : Nat := 0
def PySem.W.Fast.tw739068976640784688 : Nat := 0
def PySem.W.Fast.tw12905678530584151440 : Nat := 0
def PySem.W.Fast.tw2292305849940566448 : Nat := 0
def PySem.W.Fast.tw16432547326912407056 : Nat := 0
def PySem.W.Fast.tw14518109601911383664 : Nat := 0
def PySem.W.Fast.tw17429384097728756400 : Nat := 0
def PySem.W.Fast.tw13950220761287197392 : Nat := 0
def PySem.W.Fast.tw523380164318757680 : Nat := 0
def PySem.W.Fast.tw15387183106926257968 : Nat := 0
def PySem.W.Fast.tw8228525941453245392 : Nat := 0
def PySem.W.Fast.tw1775320295648456753 : Nat := 0
def PySem.W.Fast.tw12578867157777865809 : Nat := 0
def PySem.W.Fast.tw1601185394062264401 : Nat := 0
def PySem.W.Fast.tw11153451550188060785 : Nat := 0
def PySem.W.Fast.tw8338981872765297873 : Nat := 0
def PySem.W.Fast.tw2564029763611524401 : Nat := 0
def PySem.W.Fast.tw2107497001197173073 : Nat := 0
def PySem.W.Fast.tw3636607028089342289 : Nat := 0
def PySem.W.Fast.tw6054375300206631313 : Nat := 0
def PySem.W.Fast.tw5465070468856389073 : Nat := 0
def PySem.W.Fast.tw15984633609333366353 : Nat := 0
def PySem.W.Fast.tw1477324266083615377 : Nat := 0
def PySem.W.Fast.tw12006675930242367153 : Nat := 0
def PySem.W.Fast.tw10978544889578922897 : Nat := 0
def PySem.W.Fast.tw11528359843672508337 : Nat := 0
def PySem.W.Fast.tw4265913900213578962 : Nat := 0
def PySem.W.Fast.tw13960336852553187570 : Nat := 0
def PySem.W.Fast.tw12779489216580237586 : Nat := 0
def PySem.W.Fast.tw7585549854886463794 : Nat := 0
def PySem.W.Fast.tw16539622320701856050 : Nat := 0
def PySem.W.Fast.tw14689429056871365970 : Nat := 0
def PySem.W.Fast.tw15897196864610138482 : Nat := 0
def PySem.W.Fast.tw11262411863026717042 : Nat := 0
def PySem.W.Fast.tw16158663335901957522 : Nat := 0
def PySem.W.Fast.tw13006190922355913202 : Nat := 0
def PySem.W.Fast.tw2670169531955821042 : Nat := 0
def PySem.W.Fast.tw4876420861171113522 : Nat := 0
def PySem.W.Fast.tw16422345899607689810 : Nat := 0
def PySem.W.Fast.tw361717701220052658 : Nat := 0
def PySem.W.Fast.tw14647060998799806130 : Nat := 0
def PySem.W.Fast.tw11748278168969902834 : Nat := 0
def PySem.W.Fast.tw15753077378250920722 : Nat := 0
def PySem.W.Fast.tw15270467442453451795 : Nat := 0
def PySem.W.Fast.tw16503428491104088275 : Nat := 0
def PySem.W.Fast.tw13618338325343700211 : Nat := 0
def PySem.W.Fast.tw10932760375592663283 : Nat := 0
def PySem.W.Fast.tw11463864816488535283 : Nat := 0
def PySem.W.Fast.tw12629010182425866483 : Nat := 0
def PySem.W.Fast.tw15830698156341693715 : Nat := 0
def PySem.W.Fast.tw17750690482999947571 : Nat := 0
def PySem.W.Fast.tw10943234443599571283 : Nat := 0
def PySem.W.Fast.tw16647992851472777587 : Nat := 0
def PySem.W.Fast.tw10820095275324369395 : Nat := 0
def PySem.W.Fast.tw4694257601030344243 : Nat := 0
def PySem.W.Fast.tw4014931888009649747 : Nat := 0
def PySem.W.Fast.tw8405534441869685363 : Nat := 0
def PySem.W.Fast.tw14185031356217762643 : Nat := 0
def PySem.W.Fast.tw4024901261875652435 : Nat := 0
def PySem.W.Fast.tw7499760731299818323 : Nat := 0
def PySem.W.Fast.tw4092066201748567891 : Nat := 0
def PySem.W.Fast.tw12770661316944446355 : Nat := 0
def PySem.W.Fast.tw8758095548474672019 : Nat := 0
def PySem.W.Fast.tw10948436509832017811 : Nat := 0
def PySem.W.Fast.tw5393250941537903571 : Nat := 0
def PySem.W.Fast.tw16057752458201696436 : Nat := 0
def PySem.W.Fast.tw11045727019842663668 : Nat := 0
def PySem.W.Fast.tw6198791551998606676 : Nat := 0
def PySem.W.Fast.tw4413223202288819764 : Nat := 0
def PySem.W.Fast.tw8291031368494017108 : Nat := 0
def PySem.W.Fast.tw13105348262281033364 : Nat := 0
def PySem.W.Fast.tw7510569187261990548 : Nat := 0
def PySem.W.Fast.tw11802402716608360116 : Nat := 0
def PySem.W.Fast.tw4041744742483956436 : Nat := 0
def PySem.W.Fast.tw5888712283471496980 : Nat := 0
def PySem.W.Fast.tw8302974976767936468 : Nat := 0
def PySem.W.Fast.tw17020568079667767349 : Nat := 0
def PySem.W.Fast.tw15476073433544926581 : Nat := 0
def PySem.W.Fast.tw16791914540606930325 : Nat := 0
def PySem.W.Fast.tw4760580624863568277 : Nat := 0
def PySem.W.Fast.tw3567601770700156309 : Nat := 0
def PySem.W.Fast.tw12943854772488434101 : Nat := 0
def PySem.W.Fast.tw1533048701165385205 : Nat := 0
def PySem.W.Fast.tw14346113531946865205 : Nat := 0
def PySem.W.Fast.tw9208011060496221781 : Nat := 0
def PySem.W.Fast.tw1219882565692531317 : Nat := 0
def PySem.W.Fast.tw12910577937833464469 : Nat := 0
def PySem.W.Fast.tw8605546376445096629 : Nat := 0
def PySem.W.Fast.tw11877933156799767221 : Nat := 0
def PySem.W.Fast.tw12422366928265209557 : Nat := 0
def PySem.W.Fast.tw16808761389318534933 : Nat := 0
def PySem.W.Fast.tw9269805133674195829 : Nat := 0
def PySem.W.Fast.tw14316150898352358293 : Nat := 0
def PySem.W.Fast.tw11012681618566308789 : Nat := 0
def PySem.W.Fast.tw15691400788264895510 : Nat := 0
def PySem.W.Fast.tw5176250617158336630 : Nat := 0
def PySem.W.Fast.tw2268546619054618774 : Nat := 0
def PySem.W.Fast.tw14692882809332741302 : Nat := 0
def PySem.W.Fast.tw14050400711566655734 : Nat := 0
def PySem.W.Fast.tw13456589481343291702 : Nat := 0
def PySem.W.Fast.tw16986200963060357462 : Nat := 0
def PySem.W.Fast.tw17130691442453378390 : Nat := 0
def PySem.W.Fast.tw2519243661924128118 : Nat := 0
def PySem.W.Fast.tw9111140059213560310 : Nat := 0
def PySem.W.Fast.tw12705392647706458646 : Nat := 0
def PySem.W.Fast.tw1664249692327012886 : Nat := 0
def PySem.W.Fast.tw12836492843273041462 : Nat := 0
def PySem.W.Fast.tw1157701456167397942 : Nat := 0
def PySem.W.Fast.tw5179261655888056918 : Nat := 0
def PySem.W.Fast.tw6888208947567627894 : Nat := 0
def PySem.W.Fast.tw7610492720829468310 : Nat := 0
def PySem.W.Fast.tw2393813442735797942 : Nat := 0
def PySem.W.Fast.tw2616346307462284150 : Nat := 0
def PySem.W.Fast.tw15226988038127867862 : Nat := 0
def PySem.W.Fast.tw9379445078785625078 : Nat := 0
def PySem.W.Fast.tw17424733812806125558 : Nat := 0
def PySem.W.Fast.tw1771567900177024087 : Nat := 0
def PySem.W.Fast.tw9529217761843885239 : Nat := 0
def PySem.W.Fast.tw275033680965585175 : Nat := 0
def PySem.W.Fast.tw7976908618853841239 : Nat := 0
def PySem.W.Fast.tw1206310878442988983 : Nat := 0
def PySem.W.Fast.tw4327765629194106455 : Nat := 0
def PySem.W.Fast.tw16255143712081635959 : Nat := 0
def PySem.W.Fast.tw815028880506243735 : Nat := 0
def PySem.W.Fast.tw748160393737809687 : Nat := 0
def PySem.W.Fast.tw12701340314708737847 : Nat := 0
def PySem.W.Fast.tw13222564045823219543 : Nat := 0
def PySem.W.Fast.tw13608021187843489655 : Nat := 0
def PySem.W.Fast.tw7820372246680829847 : Nat := 0
def PySem.W.Fast.tw13413214968474083223 : Nat := 0
def PySem.W.Fast.tw2330777577253422071 : Nat := 0
def PySem.W.Fast.tw5807302265319270424 : Nat := 0
def PySem.W.Fast.tw15569290220149619736 : Nat := 0
def PySem.W.Fast.tw13144211867553681624 : Nat := 0
def PySem.W.Fast.tw6208140785853022456 : Nat := 0
def PySem.W.Fast.tw17674508433604032856 : Nat := 0
def PySem.W.Fast.tw17410163552545966584 : Nat := 0
def PySem.W.Fast.tw15771731114244027000 : Nat := 0
def PySem.W.Fast.tw8465301271820647160 : Nat := 0
def PySem.W.Fast.tw10246115864856447832 : Nat := 0
def PySem.W.Fast.tw7591441771648568152 : Nat := 0
def PySem.W.Fast.tw8599375630459783064 : Nat := 0
def PySem.W.Fast.tw9803561659665647673 : Nat := 0
def PySem.W.Fast.tw2799968138612684857 : Nat := 0
def PySem.W.Fast.tw14034628815500684377 : Nat := 0
def PySem.W.Fast.tw14230910309529240697 : Nat := 0
def PySem.W.Fast.tw13012304466956511449 : Nat := 0
def PySem.W.Fast.tw14093006735576761721 : Nat := 0
def PySem.W.Fast.tw5662326359912255865 : Nat := 0
def PySem.W.Fast.tw17657907084432861849 : Nat := 0
def PySem.W.Fast.tw2344209468788867929 : Nat := 0
def PySem.W.Fast.tw2401948550249727865 : Nat := 0
def PySem.W.Fast.tw3776491990714624889 : Nat := 0
def PySem.W.Fast.tw8885025444947589146 : Nat := 0
def PySem.W.Fast.tw7114249525453803578 : Nat := 0
def PySem.W.Fast.tw7845793744285762618 : Nat := 0
def PySem.W.Fast.tw13615185595492035706 : Nat := 0
def PySem.W.Fast.tw13023781993845992602 : Nat := 0
def PySem.W.Fast.tw18014107077708092762 : Nat := 0
def PySem.W.Fast.tw8688899674299710842 : Nat := 0
def PySem.W.Fast.tw4649844648284066202 : Nat := 0
def PySem.W.Fast.tw5791144602505783706 : Nat := 0
def PySem.W.Fast.tw14075334665171318170 : Nat := 0
def PySem.W.Fast.tw15005539240643412378 : Nat := 0
def PySem.W.Fast.tw6160947220412192250 : Nat := 0
def PySem.W.Fast.tw2496485081488257658 : Nat := 0
def PySem.W.Fast.tw8001526530235667226 : Nat := 0
def PySem.W.Fast.tw13180987981820401434 : Nat := 0
def PySem.W.Fast.tw2041278058969842458 : Nat := 0
def PySem.W.Fast.tw10123459177678573402 : Nat := 0
def PySem.W.Fast.tw8679493088375343002 : Nat := 0
def PySem.W.Fast.tw1038309482072991642 : Nat := 0
def PySem.W.Fast.tw7951000496025336794 : Nat := 0
def PySem.W.Fast.tw14212178882360245242 : Nat := 0
def PySem.W.Fast.tw5063013868556446779 : Nat := 0
def PySem.W.Fast.tw5039144040294572123 : Nat := 0
def PySem.W.Fast.tw6279753260112362651 : Nat := 0
def PySem.W.Fast.tw15557384522300932411 : Nat := 0
def PySem.W.Fast.tw15096415329292103003 : Nat := 0
def PySem.W.Fast.tw17060149551884530011 : Nat := 0
def PySem.W.Fast.tw6574745476371042683 : Nat := 0
def PySem.W.Fast.tw14344708778971407771 : Nat := 0
def PySem.W.Fast.tw16840042823409220059 : Nat := 0
def PySem.W.Fast.tw13022772737717542395 : Nat := 0
def PySem.W.Fast.tw12256937720075399771 : Nat := 0
def PySem.W.Fast.tw6652063558575815323 : Nat := 0
def PySem.W.Fast.tw1704414706192196347 : Nat := 0
def PySem.W.Fast.tw6828140830101859067 : Nat := 0
def PySem.W.Fast.tw2763689664445115195 : Nat := 0
def PySem.W.Fast.tw12002717892629726043 : Nat := 0
def PySem.W.Fast.tw5061297070849665915 : Nat := 0
def PySem.W.Fast.tw9957699289816749979 : Nat := 0
def PySem.W.Fast.tw3533130866003610684 : Nat := 0
def PySem.W.Fast.tw7659911115078379612 : Nat := 0
def PySem.W.Fast.tw3578067479214276732 : Nat := 0
def PySem.W.Fast.tw5432289893083292828 : Nat := 0
def PySem.W.Fast.tw3265303217909263612 : Nat := 0
def PySem.W.Fast.tw10190858281271220476 : Nat := 0
def PySem.W.Fast.tw4043836814754148636 : Nat := 0
def PySem.W.Fast.tw12717536618281092444 : Nat := 0
def PySem.W.Fast.tw10770106638758603164 : Nat := 0
def PySem.W.Fast.tw12264216953403436444 : Nat := 0
def PySem.W.Fast.tw15850587657356002812 : Nat := 0
def PySem.W.Fast.tw17551031900558207516 : Nat := 0
def PySem.W.Fast.tw14747606936421792284 : Nat := 0
def PySem.W.Fast.tw12113473415771950716 : Nat := 0
def PySem.W.Fast.tw877712049066496668 : Nat := 0
def PySem.W.Fast.tw2614937489133605564 : Nat := 0
def PySem.W.Fast.tw6445589271772154620 : Nat := 0
def PySem.W.Fast.tw6840129040994832188 : Nat := 0
def PySem.W.Fast.tw2106435998866062140 : Nat := 0
def PySem.W.Fast.tw1583847284843427676 : Nat := 0
def PySem.W.Fast.tw11050062112924818364 : Nat := 0
def PySem.W.Fast.tw6424634571834298332 : Nat := 0
def PySem.W.Fast.tw7037386375357015069 : Nat := 0
def PySem.W.Fast.tw2123638586036861053 : Nat := 0
def PySem.W.Fast.tw6835537521780107453 : Nat := 0
def PySem.W.Fast.tw1792923677271342429 : Nat := 0
def PySem.W.Fast.tw12302763611948438877 : Nat := 0
def PySem.W.Fast.tw7708336471124495709 : Nat := 0
def PySem.W.Fast.tw6163660788662855037 : Nat := 0
def PySem.W.Fast.tw10498502725529062877 : Nat := 0
def PySem.W.Fast.tw9093035713110040093 : Nat := 0
def PySem.W.Fast.tw11734874599136934461 : Nat := 0
def PySem.W.Fast.tw14759741825310148157 : Nat := 0
def PySem.W.Fast.tw14199566614605976317 : Nat := 0
def PySem.W.Fast.tw12067316031256829693 : Nat := 0
def PySem.W.Fast.tw17475558192998179613 : Nat := 0
def PySem.W.Fast.tw14088828048747140925 : Nat := 0
def PySem.W.Fast.tw8754245484210620253 : Nat := 0
def PySem.W.Fast.tw1327431472457298845 : Nat := 0
def PySem.W.Fast.tw6655492163893836797 : Nat := 0
def PySem.W.Fast.tw10950303444536930334 : Nat := 0
def PySem.W.Fast.tw16772972651595022366 : Nat := 0
def PySem.W.Fast.tw4602213348692726910 : Nat := 0
def PySem.W.Fast.tw4160903806062548254 : Nat := 0
def PySem.W.Fast.tw9048816740557020478 : Nat := 0
def PySem.W.Fast.tw14795629324695362878 : Nat := 0
def PySem.W.Fast.tw1145806629459485214 : Nat := 0
def PySem.W.Fast.tw13030981962902095422 : Nat := 0
def PySem.W.Fast.tw9431518512975115838 : Nat := 0
def PySem.W.Fast.tw16100587915460652766 : Nat := 0
def PySem.W.Fast.tw12620250071037212382 : Nat := 0
def PySem.W.Fast.tw15977909891267709726 : Nat := 0
def PySem.W.Fast.tw4711768952808651550 : Nat := 0
def PySem.W.Fast.tw11733462975249546046 : Nat := 0
def PySem.W.Fast.tw17546448794725919614 : Nat := 0
def PySem.W.Fast.tw2138941470869576670 : Nat := 0
def PySem.W.Fast.tw6730378210817359903 : Nat := 0
def PySem.W.Fast.tw5481026490581644383 : Nat := 0
def PySem.W.Fast.tw8478545898099114143 : Nat := 0
def PySem.W.Fast.tw6903010555620430047 : Nat := 0
def PySem.W.Fast.tw9294599348358731007 : Nat := 0
def PySem.W.Fast.tw17715777300408772991 : Nat := 0
def PySem.W.Fast.tw5043350618917554591 : Nat := 0
def PySem.W.Fast.tw3483419260114525631 : Nat := 0
def PySem.W.Fast.tw14159386120885885407 : Nat := 0
def PySem.W.Fast.tw17910060374646858303 : Nat := 0
def PySem.W.Fast.tw9125561914319342175 : Nat := 0
def PySem.W.Fast.tw6469420181701131935 : Nat := 0
def PySem.W.Fast.tw1954565708614630143 : Nat := 0
def PySem.W.Fast.tw1591148138194476831 : Nat := 0
def PySem.W.Fast.tw5403879010915364671 : Nat := 0
def PySem.W.Fast.tw6081241655237007295 : Nat := 0
def PySem.W.Fast.tw3648510531142585311 : Nat := 0
set_option Elab.async false
set_option linter.all false
set_option maxRecDepth 100000
namespace L2
open PySem PySem.Spec PyProof.Rows
abbrev Key := Sum Int Str
def keyIs : Key → Value → Bool
  | .inl k, v => Value.isInt k v
  | .inr x, v => Value.isStrOf x v
def keyH (w : World) : Key → Int
  | .inl k => hashInt k
  | .inr x => hashStr w x
theorem keyIs_shape : ∀ {k : Key} {v : Value}, keyIs k v = true → (∃ i t, k = Sum.inl i ∧ v = Value.int i t) ∨ (∃ x t, k = Sum.inr x ∧ v = Value.str x t)
  | .inl i, v, h => by
    obtain ⟨t, e⟩ := Value.isInt_shape (k := i) (v := v) h
    exact .inl ⟨i, t, rfl, e⟩
  | .inr x, v, h => by
    obtain ⟨t, e⟩ := Value.isStrOf_shape (x := x) (v := v) h
    exact .inr ⟨x, t, rfl, e⟩
theorem keyIs_int (i : Int) (t : Tok) : keyIs (.inl i) (.int i t) = true := by simp [keyIs, Value.isInt]
theorem keyIs_str (x : Str) (t : Tok) : keyIs (.inr x) (.str x t) = true := by simp [keyIs, Value.isStrOf]
theorem key_ll (a b : Int) : decide ((Sum.inl a : Key) = Sum.inl b) = (a == b) := by
  by_cases e : a = b
  · subst e; simp
  · have h : ¬ (Sum.inl a : Key) = Sum.inl b := fun q => e (Sum.inl.inj q)
    rw [decide_eq_false h]
    exact (beq_eq_false_iff_ne.mpr e).symm
theorem key_rr (a b : Str) : decide ((Sum.inr a : Key) = Sum.inr b) = decide (a = b) := by
  by_cases e : a = b
  · subst e; simp
  · have h : ¬ (Sum.inr a : Key) = Sum.inr b := fun q => e (Sum.inr.inj q)
    rw [decide_eq_false h, decide_eq_false e]
theorem key_lr (a : Int) (b : Str) : decide ((Sum.inl a : Key) = Sum.inr b) = false := decide_eq_false (fun q => nomatch q)
theorem key_rl (a : Str) (b : Int) : decide ((Sum.inr a : Key) = Sum.inl b) = false := decide_eq_false (fun q => nomatch q)
def mixKind (prog : Program) (w : World) : PySem.KeyKind prog w Key where
  is := keyIs
  hash := keyH w
  inj := fun v a b ha hb => by
    rcases keyIs_shape ha with ⟨i, t, rfl, rfl⟩ | ⟨x, t, rfl, rfl⟩
    · rcases keyIs_shape hb with ⟨j, u, rfl, e⟩ | ⟨y, u, rfl, e⟩
      · injection e with e1 _; rw [e1]
      · exact nomatch e
    · rcases keyIs_shape hb with ⟨j, u, rfl, e⟩ | ⟨y, u, rfl, e⟩
      · exact nomatch e
      · injection e with e1 _; rw [e1]
  byValue := fun k v h => by
    rcases keyIs_shape h with ⟨i, t, rfl, rfl⟩ | ⟨x, t, rfl, rfl⟩ <;> rfl
  pyHash := fun hv h => by
    rcases keyIs_shape hv with ⟨i, t, rfl, rfl⟩ | ⟨x, t, rfl, rfl⟩
    · exact wpAny_pyHash_int h
    · exact wpAny_pyHash_str h
  eqBool := fun hu hv h => by
    rcases keyIs_shape hu with ⟨i, t, rfl, rfl⟩ | ⟨x, t, rfl, rfl⟩
    · rcases keyIs_shape hv with ⟨j, u, rfl, rfl⟩ | ⟨y, u, rfl, rfl⟩
      · rw [key_ll] at h; exact wpAny_eqBool_int h
      · rw [key_lr] at h; exact SeqAt.EqAt.int_str i t y u _ _ _ _ h
    · rcases keyIs_shape hv with ⟨j, u, rfl, rfl⟩ | ⟨y, u, rfl, rfl⟩
      · rw [key_rl] at h; exact SeqAt.EqAt.str_int x t j u _ _ _ _ h
      · rw [key_rr] at h; exact wpAny_eqBool_str h
  «strs» := fun k x t v h => by
    rcases keyIs_shape h with ⟨i, u, rfl, e⟩ | ⟨y, u, rfl, e⟩
    · exact nomatch e
    · injection e with e1 _
      subst e1
      cases v <;> rfl
theorem mixKind_int (prog : Program) (w : World) (i : Int) (t : Tok) : (mixKind prog w).is (.inl i) (.int i t) = true := keyIs_int i t
theorem mixKind_str (prog : Program) (w : World) (x : Str) (t : Tok) : (mixKind prog w).is (.inr x) (.str x t) = true := keyIs_str x t
end L2
namespace L2
open PySem PySem.Spec PyProof.Rows
inductive V where
  | non | bl (b : Bool) | int (i : Int) | str (x : Str) | byt (b : Array UInt8) | flt (b : UInt64) | ref (a : Addr) | ty (n : String)
  deriving DecidableEq
def RelV : V → Value → Prop
  | .non, u => u = Value.none
  | .bl b, u => u = Value.bool b
  | .int i, u => ∃ t, u = Value.int i t
  | .str x, u => ∃ t, u = Value.str x t
  | .byt b, u => ∃ t, u = Value.bytes b t
  | .flt b, u => ∃ t, u = Value.float b t
  | .ref a, u => u = Value.ref a
  | .ty n, u => u = Value.type n
abbrev Vals : List V → List Value → Prop := Paired RelV
theorem Vals.length {xs : List V} {us : List Value} (r : Vals xs us) : xs.length = us.length := Paired.length r
theorem Vals.get : ∀ {xs : List V} {us : List Value} {i : Nat} {x : V}, Vals xs us → xs[i]? = some x → ∃ u, us[i]? = some u ∧ RelV x u
  | _, _, _, _, .nil, e => by simp at e
  | _, _, 0, _, .cons r _, e => by simp at e; subst e; exact ⟨_, rfl, r⟩
  | _, _, i + 1, x, .cons _ t, e => by
    obtain ⟨u, h1, h2⟩ := Vals.get (i := i) (x := x) t (by simpa using e)
    exact ⟨u, by simpa using h1, h2⟩
theorem Vals.set {x : V} {u : Value} (r : RelV x u) : ∀ {xs : List V} {us : List Value} (i : Nat), Vals xs us → Vals (xs.set i x) (us.set i u)
  | _, _, _, .nil => .nil
  | _, _, 0, .cons _ t => .cons r t
  | _, _, i + 1, .cons q t => .cons q (Vals.set r i t)
theorem Vals.append : ∀ {xs ys : List V} {us ws : List Value}, Vals xs us → Vals ys ws → Vals (xs ++ ys) (us ++ ws)
  | _, _, _, _, .nil, s => s
  | _, _, _, _, .cons r t, s => .cons r (Vals.append t s)
theorem Vals.take : ∀ {xs : List V} {us : List Value} (n : Nat), Vals xs us → Vals (xs.take n) (us.take n)
  | _, _, 0, _ => .nil
  | _, _, _ + 1, .nil => .nil
  | _, _, n + 1, .cons r t => .cons r (Vals.take n t)
theorem Vals.drop : ∀ {xs : List V} {us : List Value} (n : Nat), Vals xs us → Vals (xs.drop n) (us.drop n)
  | _, _, 0, r => r
  | _, _, _ + 1, .nil => .nil
  | _, _, n + 1, .cons _ t => Vals.drop n t
theorem Vals.none_of : ∀ {xs : List V} {us : List Value} {i : Nat}, Vals xs us → xs[i]? = none → us[i]? = none := fun {xs us i} r e => by
  have h1 := r.length
  have h2 : xs.length ≤ i := List.getElem?_eq_none_iff.mp e
  exact List.getElem?_eq_none_iff.mpr (by omega)
def RelO : Option V → Option Value → Prop
  | some v, some u => RelV v u
  | none, none => True
  | _, _ => False
def KV {κ : Type} : List (κ × V) → List (κ × Value) → Prop := Paired fun (p : κ × V) (q : κ × Value) => p.1 = q.1 ∧ RelV p.2 q.2
def kV : Key → V
  | .inl i => .int i
  | .inr x => .str x
inductive HO where
    | lst (xs : List V)
    | tup (xs : List V)
    | dK (kvs : List (Key × V)) | dT (kvs : List (List Key × V))
    | set (S : Int → Bool) (n : Nat)
    | ins (C dx : Addr) (fs : List (Str × V))
    | own (x : Addr)
    | xd (fs : List (Str × V))
    | met (f x : Addr)
    | rng (lo hi : Int)
    | frz (o : Obj) (u : HO)
    | tbl (ps : Array Value)
    | ext (φ : Heap → Prop)
abbrev Hp := Addr → Option HO
def upd (H : Hp) (a : Addr) (o : HO) : Hp := fun b => if b = a then some o else H b
theorem upd_same {H : Hp} {a : Addr} {o : HO} : upd H a o a = some o := by unfold upd; rw [if_pos rfl]
theorem upd_ne {H : Hp} {a b : Addr} {o : HO} (h : b ≠ a) : upd H a o b = H b := by unfold upd; rw [if_neg h]
theorem upd_upd {H : Hp} {a : Addr} {o u : HO} : upd (upd H a o) a u = upd H a u := by
  funext b; unfold upd; split <;> rfl
theorem ne_of {H : Hp} {a b : Addr} {o u : HO} (h : H a = some o) (h' : H b = some u) (d : o ≠ u) : a ≠ b := by
  intro e; subst e; rw [h] at h'; exact d (Option.some.inj h')
theorem ne_of_none {H : Hp} {a b : Addr} {o : HO} (h : H a = some o) (h' : H b = none) : a ≠ b := by
  intro e; subst e; rw [h] at h'; cases h'
section
variable (P : Program) (w : World)
def ObjOk (H : Hp) (h : Heap) (a : Addr) : HO → Prop
  | .lst xs => xs.length ≤ sizeLine ∧ ∃ (its : List Value) (n : Nat), Vals xs its ∧ h.get? a = some { cls := .type "list", data := .seq its.toArray n }
  | .tup xs => xs.length ≤ sizeLine ∧ ∃ its : List Value, Vals xs its ∧ IsTup h a its.toArray
  | .dK kvs => kvs.length ≤ sizeLine ∧ (a == sysModules) = false ∧ ∃ vs, KV kvs vs ∧ h.DictOf (mixKind P w) a vs
  | .dT kvs => kvs.length ≤ sizeLine ∧ (a == sysModules) = false ∧ ∃ xs : List (List Key × Addr × Value),
      Paired (fun (p : List Key × V) (q : List Key × Addr × Value) => p.1 = q.1 ∧ H q.2.1 = some (.tup (p.1.map kV)) ∧ RelV p.2 q.2.2) kvs xs ∧
      ∃ o es ep, h.get? a = some o ∧ o.ExactDict ∧ o.data = .dict es ep ∧ es.toList = xs.map (entryOfKey (tupleKind (mixKind P w))) ∧ (xs.map (·.1)).Nodup
  | .set S n => h.SetOf (intKind P w) a S n
  | .ins C dx fs => H dx = some (.own a) ∧ fs.length ≤ 1000 ∧ dx ≠ a ∧ h.get? a = some (PySem.W.instObj C dx) ∧
      ∃ mA, h.Ns1 dx mA ∧ (∀ f, RelO (fs.lookup f) (mA f)) ∧ PySem.Within mA (fs.map (·.1))
  | .own _ => ∃ o, h.get? a = some o
  | .xd fs => ∃ mA, h.Ns1 a mA ∧ ∀ f, RelO (fs.lookup f) (mA f)
  | .rng lo hi => ∃ t u v, h.get? a = some { cls := .type "range", data := .fields #[.int lo t, .int hi u, .int 1 v] }
  | .frz o u => h.get? a = some o ∧ ObjOk H h a u
  | .tbl ps => h.get? a = some { cls := .none, data := .fields ps }
  | .met f x => h.get? a = some (PySem.W.methodObj (.ref f) (.ref x))
  | .ext φ => φ h ∧ (∃ o, h.get? a = some o) ∧ ∀ h1 h2 : Heap, φ h1 → (∀ o, h1.get? a = some o → h2.get? a = some o) → φ h2
def HOk (H : Hp) (h : Heap) : Prop := ∀ a o, H a = some o → ObjOk P w H h a o
end
section
variable {P : Program} {w : World} {H H' : Hp} {h h' : Heap} {a : Addr} {o : HO}
theorem ObjOk.lt (x : ObjOk P w H h a o) : a < h.objs.size := by
  cases o with
  | lst xs => obtain ⟨_, _, _, _, e⟩ := x; exact Heap.lt_size e
  | tup xs => obtain ⟨_, _, _, p⟩ := x; exact p.lt
  | dK kvs => obtain ⟨_, _, _, _, o, _, _, e, _⟩ := x; exact Heap.lt_size e
  | dT kvs => obtain ⟨_, _, _, _, o, _, _, e, _⟩ := x; exact Heap.lt_size e
  | set S n => obtain ⟨o, _, _, _, e, _⟩ := x; exact Heap.lt_size e
  | ins C dx fs => obtain ⟨_, _, _, e, _⟩ := x; exact Heap.lt_size e
  | own y => obtain ⟨_, e⟩ := x; exact Heap.lt_size e
  | xd fs => obtain ⟨_, ⟨_, _, _, e, _⟩, _⟩ := x; exact Heap.lt_size e
  | rng lo hi => obtain ⟨_, _, _, e⟩ := x; exact Heap.lt_size e
  | frz ob u => obtain ⟨e, _⟩ := x; exact Heap.lt_size e
  | tbl ps => exact Heap.lt_size (show h.get? a = some _ from x)
  | met f y => exact Heap.lt_size (show h.get? a = some _ from x)
  | ext φ => obtain ⟨_, ⟨_, e⟩, _⟩ := x; exact Heap.lt_size e
theorem Paired.mapP {α β : Type} {F G : α → β → Prop} : ∀ {l₁ : List α} {l₂ : List β}, Paired F l₁ l₂ → (∀ a b, F a b → G a b) → Paired G l₁ l₂
  | _, _, .nil, _ => .nil
  | _, _, .cons r t, f => .cons (f _ _ r) (Paired.mapP t f)
theorem ObjOk.stay (x : ObjOk P w H h a o) (k : ∀ b u, (b = a ∨ H b = some (.own a)) → h.get? b = some u → h'.get? b = some u)
    (ho : ∀ b, H b = some (.own a) → H' b = some (.own a)) (ht : ∀ b xs, H b = some (.tup xs) → H' b = some (.tup xs)) : ObjOk P w H' h' a o := by
  induction o with
  | lst xs => obtain ⟨z, its, n, r, e⟩ := x; exact ⟨z, its, n, r, k _ _ (.inl rfl) e⟩
  | tup xs => obtain ⟨z, its, r, ob, e, c⟩ := x; exact ⟨z, its, r, ob, k _ _ (.inl rfl) e, c⟩
  | dK kvs => obtain ⟨z, y, vs, r, ob, es, ep, e, c⟩ := x; exact ⟨z, y, vs, r, ob, es, ep, k _ _ (.inl rfl) e, c⟩
  | dT kvs =>
    obtain ⟨z, y, xs, r, ob, es, ep, e, c⟩ := x
    exact ⟨z, y, xs, Paired.mapP r fun p q z => ⟨z.1, ht _ _ z.2.1, z.2.2⟩, ob, es, ep, k _ _ (.inl rfl) e, c⟩
  | set S n => obtain ⟨ob, es, ep, t, e, c⟩ := x; exact ⟨ob, es, ep, t, k _ _ (.inl rfl) e, c⟩
  | ins C dx fs =>
    obtain ⟨d, z, ne, e, mA, ⟨od, es, ep, e2, c⟩, r⟩ := x
    exact ⟨ho _ d, z, ne, k _ _ (.inl rfl) e, mA, ⟨od, es, ep, k _ _ (.inr d) e2, c⟩, r⟩
  | own y => obtain ⟨ob, e⟩ := x; exact ⟨ob, k _ _ (.inl rfl) e⟩
  | xd fs => obtain ⟨mA, ⟨od, es, ep, e, c⟩, r⟩ := x; exact ⟨mA, ⟨od, es, ep, k _ _ (.inl rfl) e, c⟩, r⟩
  | rng lo hi => obtain ⟨t, u, v, e⟩ := x; exact ⟨t, u, v, k _ _ (.inl rfl) e⟩
  | frz ob u ih => obtain ⟨e, q⟩ := x; exact ⟨k _ _ (.inl rfl) e, ih q⟩
  | tbl ps =>
    have e : h.get? a = some { cls := .none, data := .fields ps } := x
    show h'.get? a = some { cls := .none, data := .fields ps }
    exact k a _ (.inl rfl) e
  | met f y =>
    have e : h.get? a = some (PySem.W.methodObj (.ref f) (.ref y)) := x
    show h'.get? a = some (PySem.W.methodObj (.ref f) (.ref y))
    exact k a _ (.inl rfl) e
  | ext φ => obtain ⟨p, ⟨o, e⟩, st⟩ := x; exact ⟨st _ _ p fun o q => k _ _ (.inl rfl) q, ⟨o, k _ _ (.inl rfl) e⟩, st⟩
theorem HOk.lt (x : HOk P w H h) (e : H a = some o) : a < h.objs.size := (x a o e).lt
theorem HOk.fresh (x : HOk P w H h) (e : h.objs.size ≤ a) : H a = none := by
  cases q : H a with
  | none => rfl
  | some u => exact absurd (Nat.lt_of_lt_of_le (x.lt q) e) (Nat.lt_irrefl _)
theorem HOk.kept (x : HOk P w H h) (k : ∀ b u, h.get? b = some u → h'.get? b = some u) : HOk P w H h' := fun a o e =>
  (x a o e).stay (fun b u _ q => k b u q) (fun _ q => q) fun _ _ q => q
theorem HOk.laid (x : HOk P w H h) (k : ∀ b u, h.get? b = some u → h'.get? b = some u) (hp : h.objs.size ≤ a) (new : ObjOk P w (upd H a o) h' a o) : HOk P w (upd H a o) h' := fun b u e => by
  have hn := x.fresh hp
  by_cases hb : b = a
  · subst hb; rw [upd_same] at e; cases e; exact new
  · rw [upd_ne hb] at e
    exact (x b u e).stay (fun c v _ q => k c v q) (fun c q => by rw [upd_ne (ne_of_none q hn)]; exact q) fun c xs q => by rw [upd_ne (ne_of_none q hn)]; exact q
end
def Rd (H : Hp) (a : Addr) (u : HO) : Prop := H a = some u ∨ ∃ o, H a = some (.frz o u)
theorem Rd.of {H : Hp} {a : Addr} {u : HO} (h : H a = some u) : Rd H a u := .inl h
theorem Rd.ok {P : Program} {w : World} {H : Hp} {h : Heap} {a : Addr} {u : HO} (r : Rd H a u) (x : HOk P w H h) : ObjOk P w H h a u := by
  rcases r with r | ⟨o, r⟩
  · exact x a u r
  · obtain ⟨_, q⟩ := x a _ r
    exact q
def Mut : Option HO → Prop
  | some (.lst _) => True
  | some (.dK _) => True
  | some (.dT _) => True
  | some (.set _ _) => True
  | some (.ins _ _ _) => True
  | some (.ext _) => True
  | _ => False
section
variable {P : Program} {w : World} {H : Hp} {h h' : Heap} {x e : Addr} {o' : HO}
theorem HOk.write (ok : HOk P w H h) (mu : Mut (H x)) (he : e = x ∨ H e = some (.own x)) (k : ∀ b u, b ≠ e → h.get? b = some u → h'.get? b = some u) (heo : ∃ u, h'.get? e = some u)
    (new : ObjOk P w (upd H x o') h' x o') : HOk P w (upd H x o') h' := fun b u q => by
  have nown : ∀ c y, H c = some (.own y) → c ≠ x := fun c y r z => by subst z; rw [r] at mu; exact mu
  have ntup : ∀ c xs, H c = some (.tup xs) → c ≠ x := fun c xs r z => by subst z; rw [r] at mu; exact mu
  by_cases hb : b = x
  · subst hb; rw [upd_same] at q; cases q; exact new
  · rw [upd_ne hb] at q
    by_cases hbe : b = e
    · have q' : H b = some (.own x) := by
        rcases he with z | z
        · exact absurd (hbe.trans z) hb
        · rw [hbe]; exact z
      rw [q] at q'; cases q'
      obtain ⟨v, hv⟩ := heo
      exact ⟨v, by rw [hbe]; exact hv⟩
    · refine (ok b u q).stay (fun c v hc r => k c v ?_ r) (fun c r => by rw [upd_ne (nown c b r)]; exact r) fun c xs r => by rw [upd_ne (ntup c xs r)]; exact r
      rcases hc with rfl | hc
      · exact hbe
      · rintro rfl
        rcases he with z | z
        · exact nown c b hc z
        · rw [hc] at z; cases z; exact hb rfl
end
structure Un (fs ex : List Addr) (H H' : Hp) (h h' : Heap) : Prop where
  keep : ∀ b o, h.get? b = some o → H b = none → b ∉ fs → b ∉ ex → h'.get? b = some o
  slot : ∀ b o, h.get? b = some o → H b = none → b ∈ fs → b ∉ ex → ∃ sl, h'.get? b = some { o with slots := sl }
  free : ∀ b o, h.get? b = some o → H b = none → b ∉ ex → H' b = none
  there : ∀ b o, h.get? b = some o → b ∉ ex → ∃ o', h'.get? b = some o'
  tups : ∀ b xs, H b = some (.tup xs) → H' b = some (.tup xs)
  frzs : ∀ b o u, H b = some (.frz o u) → H' b = some (.frz o u)
  tbls : ∀ b ps, H b = some (.tbl ps) → ∃ more, H' b = some (.tbl (ps ++ more))
section
variable {fs fs' ex ex' : List Addr} {H H1 H2 : Hp} {h h1 h2 h' : Heap} {a x e : Addr} {o : HO}
theorem Un.any (u : Un fs ex H H1 h h1) {b : Addr} {ob : Obj} (q : h.get? b = some ob) (n : H b = none) (hx : b ∉ ex) : ∃ sl, h1.get? b = some { ob with slots := sl } := by
  by_cases hb : b ∈ fs
  · exact u.slot b ob q n hb hx
  · exact ⟨ob.slots, u.keep b ob q n hb hx⟩
theorem Un.trans (a : Un fs ex H H1 h h1) (b : Un fs ex H1 H2 h1 h2) : Un fs ex H H2 h h2 where
  keep := fun c ob q n hc hx => b.keep c ob (a.keep c ob q n hc hx) (a.free c ob q n hx) hc hx
  slot := fun c ob q n hc hx => by
    obtain ⟨sl, e1⟩ := a.slot c ob q n hc hx
    obtain ⟨sl', e2⟩ := b.slot c _ e1 (a.free c ob q n hx) hc hx
    exact ⟨sl', e2⟩
  free := fun c ob q n hx => by
    obtain ⟨o', e1⟩ := a.there c ob q hx
    exact b.free c o' e1 (a.free c ob q n hx) hx
  there := fun c ob q hx => by
    obtain ⟨o', e1⟩ := a.there c ob q hx
    exact b.there c o' e1 hx
  tups := fun c xs q => b.tups c xs (a.tups c xs q)
  frzs := fun c ob xs q => b.frzs c ob xs (a.frzs c ob xs q)
  tbls := fun c ps q => by
    obtain ⟨m1, e1⟩ := a.tbls c ps q
    obtain ⟨m2, e2⟩ := b.tbls c _ e1
    exact ⟨m1 ++ m2, by rw [e2, Array.append_assoc]⟩
theorem Un.kept (k : ∀ b u, h.get? b = some u → h'.get? b = some u) : Un fs ex H H h h' :=
  ⟨fun b ob q _ _ _ => k b ob q, fun b ob q _ _ _ => ⟨ob.slots, k b ob q⟩, fun _ _ _ n _ => n, fun b ob q _ => ⟨ob, k b ob q⟩, fun _ _ q => q, fun _ _ _ q => q, fun _ ps q => ⟨#[], by rw [q]; simp⟩⟩
theorem Un.refl : Un fs ex H H h h := Un.kept fun _ _ q => q
theorem Un.laid (k : ∀ b u, h.get? b = some u → h'.get? b = some u) (hp : h.objs.size ≤ a) (hn : H a = none) : Un fs ex H (upd H a o) h h' where
  keep := fun b u q _ _ _ => k b u q
  slot := fun b u q _ _ _ => ⟨u.slots, k b u q⟩
  free := fun b u q n _ => by rw [upd_ne (Nat.ne_of_lt (Nat.lt_of_lt_of_le (Heap.lt_size q) hp))]; exact n
  there := fun b u q _ => ⟨u, k b u q⟩
  tups := fun b xs q => by rw [upd_ne (ne_of_none q hn)]; exact q
  frzs := fun b u xs q => by rw [upd_ne (ne_of_none q hn)]; exact q
  tbls := fun b ps q => ⟨#[], by rw [upd_ne (ne_of_none q hn), q]; simp⟩
theorem Un.write (mu : Mut (H x)) (he : e = x ∨ H e = some (.own x)) (k : ∀ b u, b ≠ e → h.get? b = some u → h'.get? b = some u) (heo : ∃ u, h'.get? e = some u) : Un fs ex H (upd H x o) h h' := by
  have hx : ∀ b, H b = none → b ≠ x := fun b n z => by subst z; rw [n] at mu; exact mu
  have hb : ∀ b, H b = none → b ≠ e := fun b n z => by
    subst z
    rcases he with r | r
    · exact hx b n r
    · rw [n] at r; cases r
  have hm : ∀ b u, H b = some u → ¬ Mut (some u) → b ≠ x := fun b u q nm z => by subst z; rw [q] at mu; exact nm mu
  refine ⟨fun b u q n _ _ => k b u (hb b n) q, fun b u q n _ _ => ⟨u.slots, k b u (hb b n) q⟩, fun b u q n _ => by rw [upd_ne (hx b n)]; exact n, fun b u q _ => ?_,
    fun b xs q => by rw [upd_ne (hm b _ q fun z => z)]; exact q, fun b u xs q => by rw [upd_ne (hm b _ q fun z => z)]; exact q, fun b ps q => ⟨#[], by rw [upd_ne (hm b _ q fun z => z), q]; simp⟩⟩
  by_cases hbe : b = e
  · subst hbe; exact heo
  · exact ⟨u, k b u hbe q⟩
theorem Un.mono (u : Un fs ex H H1 h h1) (hs : ∀ b ∈ fs, b ∈ fs') (hx : ∀ b ∈ ex, b ∈ ex') : Un fs' ex' H H1 h h1 :=
  ⟨fun b ob q n hb he => u.keep b ob q n (fun z => hb (hs b z)) fun z => he (hx b z), fun _ _ q n _ he => u.any q n fun z => he (hx _ z), fun b ob q n he => u.free b ob q n fun z => he (hx b z), fun b ob q he => u.there b ob q fun z => he (hx b z), u.tups, u.frzs, u.tbls⟩
end
def trk (h : Heap) (H : Hp) : List Addr := (List.range h.objs.size).filter fun a => (H a).isSome
def hidT (h : Heap) (H : Hp) : Heap := PySem.W.hideAll h (trk h H)
theorem hidT_size (h : Heap) (H : Hp) : (hidT h H).objs.size = h.objs.size := PySem.W.hideAll_size _ _
theorem hidT_get {h : Heap} {H : Hp} {b : Addr} {o : Obj} (e : h.get? b = some o) (n : H b = none) : (hidT h H).get? b = some o :=
  PySem.W.hideAll_get _ e fun hm => by
    have q : (H b).isSome = true := (List.mem_filter.mp hm).2
    rw [n] at q; simp at q
theorem of_hidT {h : Heap} {H : Hp} {b : Addr} {o : Obj} (e : (hidT h H).get? b = some o) : h.get? b = some o ∧ H b = none := by
  have e' : h.get? b = some o := PySem.W.of_hideAll (trk h H) e
  refine ⟨e', ?_⟩
  cases q : H b with
  | none => rfl
  | some x =>
    have hm : b ∈ trk h H := List.mem_filter.mpr ⟨List.mem_range.mpr (Heap.lt_size e'), by simp [q]⟩
    have z : (hidT h H).get? b = none := PySem.W.hideAll_none (trk h H) hm
    rw [z] at e; cases e
def allNews (g h : Heap) (L : Addr) : List (Addr × Obj) := (List.range h.objs.size).filterMap fun a => if a = L ∨ (g.get? a).isSome = true then none else (h.get? a).map fun o => (a, o)
def rest (g h : Heap) (L d : Addr) : List (Addr × Obj) := (allNews g h L).filter fun p => decide (p.1 ≠ d)
end L2
namespace L2
open PySem PySem.Spec PyProof.Rows
structure Mod (K : PySem.W.Frag) (mg : Str → Option Value) (base : Heap) : Prop where
  kin : K.In base
  glob : base.Ns mainGlobals mg
  blt : ∃ mb, base.Ns builtinsNs mb ∧ ∀ x : Str, x ≠ "__name__" → mb x = bootBuiltins x
  nolimit : base.NoLimit
structure Cx where
  prog : Program
  w : World
  K : PySem.W.Frag
  mg : Str → Option Value
  base : Heap
  A : Around
  N : List Str
  s₀ : Shared
  H₀ : Hp
  env : Env
  outer : List Env
  stack : List Env
  ex : List Addr
  fn : Str → Bool
  calm : Bool
  pn : List (Addr × Obj)
  xe : Value → Shared → Prop
def frs (l : List Env) : List Addr := l.filterMap (·.frame)
abbrev Cx.fs (X : Cx) : List Addr := frs X.outer
def Vis (sc : Scope) (x : Str) : Prop := sc.names.lookup x = some .local ∨ sc.names.lookup x = some .cell ∨ sc.names.lookup x = some .free
def Loc (sc : Scope) (x : Str) : Prop := sc.names.lookup x = some .local ∨ sc.names.lookup x = some .cell
def Look (env : Env) (h : Heap) (m : Str → Option Value) (x : Str) (u : Value) : Prop :=
  (env.kindOf x = some .local ∧ m x = some u) ∨ ((env.kindOf x = some .cell ∨ env.kindOf x = some .free) ∧ ∃ c, env.cells.lookup x = some c ∧ h.IsCell c (some u))
structure Cx.Ok (X : Cx) : Prop where
  mod : Mod X.K X.mg X.base
  kind : X.env.scope.kind = .function
  glob : X.env.globals = mainGlobals
  blt : X.env.builtins = builtinsNs
  above : X.s₀.heap.objs.size ≤ X.env.locals
  inj : ∀ x y c, X.env.cells.lookup x = some c → X.env.cells.lookup y = some c → x = y
  has : ∀ x, (X.env.kindOf x = some .cell ∨ X.env.kindOf x = some .free) → ∃ c, X.env.cells.lookup x = some c
  cab : ∀ x c, X.fn x = true → X.env.cells.lookup x = some c → X.s₀.heap.objs.size ≤ c
  hd : X.calm = true → X.A.handled = none
  frames : X.A.frames = some X.stack
  stk : X.stack = X.outer ∨ (X.stack = X.env :: X.outer ∧ X.env.frame = some X.env.locals)
  exf : ∀ b ∈ X.ex, b ≠ X.env.locals ∧ ∀ x c, X.env.cells.lookup x = some c → c ≠ b
  bs : ∀ b o, X.base.get? b = some o → X.s₀.heap.get? b = some o ∧ X.H₀ b = none
  bsz : X.base.objs.size ≤ X.s₀.heap.objs.size
  noex : ∀ b o, X.base.get? b = some o → b ∉ X.ex
  exfs : ∀ b ∈ X.ex, b ∉ X.fs
  funs : X.s₀.heap.FunFrames X.base X.outer
  frf : ∀ b ∈ X.fs, X.H₀ b = none
structure Inv (X : Cx) (pins : List (Addr × Obj)) (σ : List (Option V)) (H : Hp) (s : Shared) : Prop where
  ok : X.Ok
  os : s.os = X.s₀.os
  bare : AllBare s.gens
  base : Un X.fs X.ex X.H₀ H X.s₀.heap s.heap
  loc : ∃ m, s.heap.Ns X.env.locals m ∧ ∀ (i : Nat) (x : Str) (v : V), X.N[i]? = some x → σ[i]? = some (some v) → Vis X.env.scope x → ∃ u, RelV v u ∧ Look X.env s.heap m x u
  cell : ∀ x c, X.env.cells.lookup x = some c → ∃ v, s.heap.IsCell c v
  free : H X.env.locals = none
  freeC : ∀ x c, X.env.cells.lookup x = some c → H c = none
  pin : ∀ p ∈ X.pn ++ pins, s.heap.get? p.1 = some p.2 ∧ H p.1 = none ∧ p.1 ≠ X.env.locals ∧ p.1 ∉ X.fs ∧ ∀ v, p.2.data ≠ .cell v
  hok : HOk X.prog X.w H s.heap
  len : σ.length = X.N.length
section
variable {X : Cx} {pins : List (Addr × Obj)} {σ : List (Option V)} {H H' : Hp} {s : Shared} {h' : Heap}
theorem Cx.Ok.nofr (ok : X.Ok) {b : Addr} {o : Obj} (e : X.base.get? b = some o) : b ∉ X.fs := fun hb => by
  have := (ok.funs.mem hb).1
  rw [e] at this; cases this
theorem Inv.bs (I : Inv X pins σ H s) : ∀ b o, X.base.get? b = some o → s.heap.get? b = some o ∧ H b = none := fun b o e =>
  ⟨I.base.keep b o (I.ok.bs b o e).1 (I.ok.bs b o e).2 (I.ok.nofr e) (I.ok.noex b o e), I.base.free b o (I.ok.bs b o e).1 (I.ok.bs b o e).2 (I.ok.noex b o e)⟩
theorem Inv.bk (I : Inv X pins σ H s) : ∀ b o, X.base.get? b = some o → s.heap.get? b = some o := fun b o e => (I.bs b o e).1
theorem Inv.mod (I : Inv X pins σ H s) : Mod X.K X.mg X.base := I.ok.mod
theorem Inv.kIn (I : Inv X pins σ H s) : X.K.In s.heap := I.ok.mod.kin.keeps I.bk
theorem Inv.nolimit (I : Inv X pins σ H s) : s.heap.NoLimit := I.ok.mod.nolimit.keeps I.bk
theorem Inv.fr (I : Inv X pins σ H s) : ∃ m, Fr X.base X.env.locals s.heap m :=
  let ⟨m, hn, _⟩ := I.loc
  ⟨m, hn, I.bk, Nat.le_trans I.ok.bsz I.ok.above⟩
theorem Inv.lt (I : Inv X pins σ H s) : X.env.locals < s.heap.objs.size := let ⟨_, hn, _⟩ := I.loc; hn.lt
theorem Inv.sz (I : Inv X pins σ H s) : X.s₀.heap.objs.size ≤ s.heap.objs.size := Nat.le_trans I.ok.above (Nat.le_of_lt I.lt)
theorem Inv.nofs (I : Inv X pins σ H s) {a : Addr} (h : s.heap.objs.size ≤ a) : a ∉ X.fs := fun hb => by
  obtain ⟨_, o, ho, _⟩ := I.ok.funs.mem hb
  exact absurd (Nat.lt_of_lt_of_le (Heap.lt_size ho) (Nat.le_trans I.sz h)) (Nat.lt_irrefl _)
theorem Inv.cne (I : Inv X pins σ H s) : ∀ x c, X.env.cells.lookup x = some c → c ≠ X.env.locals := fun x c e z => by
  obtain ⟨v, o, ho, hd⟩ := I.cell x c e
  obtain ⟨m, ⟨o', es, ep, ho', hd', _⟩, _⟩ := I.loc
  rw [z, ho'] at ho; cases ho; rw [hd'] at hd; cases hd
theorem Inv.funs (I : Inv X pins σ H s) : s.heap.FunFrames X.base X.outer := by
  have all : ∀ (l : List Env), (∀ b ∈ frs l, b ∈ X.fs) → X.s₀.heap.FunFrames X.base l → s.heap.FunFrames X.base l := by
    intro l
    induction l with
    | nil => intro _ _; trivial
    | cons env r ih =>
      intro hs hl
      obtain ⟨hk, ⟨L, o, hf, hn, ho, hd⟩, hr⟩ := hl
      have hL : L ∈ X.fs := hs L (by unfold frs; rw [List.filterMap_cons, hf]; exact List.mem_cons_self)
      obtain ⟨sl, e⟩ := I.base.slot L o ho (I.ok.frf L hL) hL fun z => I.ok.exfs L z hL
      exact ⟨hk, ⟨L, _, hf, hn, e, hd⟩, ih (fun b hb => hs b (by unfold frs; rw [List.filterMap_cons, hf]; exact List.mem_cons_of_mem _ hb)) hr⟩
  exact all X.outer (fun _ hb => hb) I.ok.funs
theorem Inv.stack (I : Inv X pins σ H s) : s.heap.FunFrames X.base X.stack := by
  rcases I.ok.stk with e | ⟨e, hf⟩
  · rw [e]; exact I.funs
  · rw [e]
    obtain ⟨m, hn, _⟩ := I.loc
    refine .cons (by rw [I.ok.kind]; decide) hf hn ?_ I.funs
    exact Heap.get?_none_of_le (Nat.le_trans I.ok.bsz I.ok.above)
theorem Inv.stkSub (I : Inv X pins σ H s) : ∀ b ∈ frs X.stack, b ∈ X.env.locals :: X.fs := fun b hb => by
  rcases I.ok.stk with e | ⟨e, hf⟩
  · rw [e] at hb; exact List.mem_cons_of_mem _ hb
  · rw [e] at hb
    unfold frs at hb
    rw [List.filterMap_cons, hf] at hb
    exact hb
theorem Inv.stkFree (I : Inv X pins σ H s) : ∀ b ∈ frs X.stack, H b = none := fun b hb => by
  rcases List.mem_cons.mp (I.stkSub b hb) with e | hb
  · rw [e]; exact I.free
  · obtain ⟨_, o, ho, _⟩ := I.ok.funs.mem hb
    exact I.base.free b o ho (I.ok.frf b hb) fun z => I.ok.exfs b z hb
theorem Inv.step {g' : Array GenState} {t' : Nat} {d' : Drawn} {ch : List Addr} (I : Inv X pins σ H s)
    (hch : ∀ b ∈ ch, (b ∈ X.ex ∨ X.s₀.heap.objs.size ≤ b) ∧ b ≠ X.env.locals ∧ (∀ x c, X.env.cells.lookup x = some c → c ≠ b) ∧ ∀ p ∈ X.pn ++ pins, p.1 ≠ b)
    (keep : ∀ b o, b ≠ X.env.locals → b ∉ X.fs → b ∉ ch → s.heap.get? b = some o → H b = none → h'.get? b = some o)
    (slot : ∀ b o, b ≠ X.env.locals → b ∈ X.fs → b ∉ ch → s.heap.get? b = some o → H b = none → ∃ sl, h'.get? b = some { o with slots := sl }) (free : ∀ b o, b ∉ ch → s.heap.get? b = some o → H b = none → H' b = none)
    (there : ∀ b o, b ∉ ch → s.heap.get? b = some o → ∃ o', h'.get? b = some o')
    (tups : ∀ b xs, H b = some (.tup xs) → H' b = some (.tup xs)) (frzs : ∀ b o u, H b = some (.frz o u) → H' b = some (.frz o u)) (tbls : ∀ b ps, H b = some (.tbl ps) → ∃ more, H' b = some (.tbl (ps ++ more)))
    (ns : ∀ m, s.heap.Ns X.env.locals m → h'.Ns X.env.locals m) (hok : HOk X.prog X.w H' h') (hg : AllBare g') :
    Inv X pins σ H' { s with heap := h', gens := g', drawn := d', toks := t' } := by
  have neL : ∀ b o, X.s₀.heap.get? b = some o → b ≠ X.env.locals := fun b o e => Nat.ne_of_lt (Nat.lt_of_lt_of_le (Heap.lt_size e) I.ok.above)
  have neC : ∀ b o, X.s₀.heap.get? b = some o → b ∉ X.ex → b ∉ ch := fun b o e hx hb => by
    rcases (hch b hb).1 with z | z
    · exact hx z
    · exact absurd (Nat.lt_of_lt_of_le (Heap.lt_size e) z) (Nat.lt_irrefl _)
  have cellK : ∀ x c, X.env.cells.lookup x = some c → ∀ v, s.heap.IsCell c v → h'.IsCell c v := fun x c e v ⟨o, ho, hd⟩ => by
    have nch : c ∉ ch := fun z => (hch c z).2.2.1 x c e rfl
    by_cases hc : c ∈ X.fs
    · obtain ⟨sl, q⟩ := slot c o (I.cne x c e) hc nch ho (I.freeC x c e)
      exact ⟨_, q, hd⟩
    · exact ⟨o, keep c o (I.cne x c e) hc nch ho (I.freeC x c e), hd⟩
  refine ⟨I.ok, I.os, hg, ⟨fun b o e n hb hx => ?_, fun b o e n hb hx => ?_, fun b o e n hx => ?_, fun b o e hx => ?_, fun b xs e => tups b xs (I.base.tups b xs e), fun b o xs e => frzs b o xs (I.base.frzs b o xs e), fun b ps e => ?_⟩, ?_, fun x c e => ?_, ?_, fun x c e => ?_, fun p hp => ?_, hok, I.len⟩
  · exact keep b o (neL b o e) hb (neC b o e hx) (I.base.keep b o e n hb hx) (I.base.free b o e n hx)
  · obtain ⟨sl, e1⟩ := I.base.slot b o e n hb hx
    obtain ⟨sl', e2⟩ := slot b _ (neL b o e) hb (neC b o e hx) e1 (I.base.free b o e n hx)
    exact ⟨sl', e2⟩
  · obtain ⟨o', e1⟩ := I.base.there b o e hx
    exact free b o' (neC b o e hx) e1 (I.base.free b o e n hx)
  · obtain ⟨o', e1⟩ := I.base.there b o e hx
    exact there b o' (neC b o e hx) e1
  · obtain ⟨m1, e1⟩ := I.base.tbls b ps e
    obtain ⟨m2, e2⟩ := tbls b _ e1
    exact ⟨m1 ++ m2, by rw [e2, Array.append_assoc]⟩
  · obtain ⟨m, hn, hl⟩ := I.loc
    refine ⟨m, ns m hn, fun i x v e1 e2 e3 => ?_⟩
    obtain ⟨u, r, l⟩ := hl i x v e1 e2 e3
    refine ⟨u, r, ?_⟩
    rcases l with l | ⟨k, c, e, z⟩
    · exact .inl l
    · exact .inr ⟨k, c, e, cellK x c e _ z⟩
  · obtain ⟨v, z⟩ := I.cell x c e
    exact ⟨v, cellK x c e v z⟩
  · obtain ⟨m, ⟨o, _, _, ho, _⟩, _⟩ := I.loc
    exact free _ o (fun z => (hch _ z).2.1 rfl) ho I.free
  · obtain ⟨v, o, ho, hd⟩ := I.cell x c e
    exact free c o (fun z => (hch c z).2.2.1 x c e rfl) ho (I.freeC x c e)
  · obtain ⟨e, n, ne, nf, d⟩ := I.pin p hp
    have nch : p.1 ∉ ch := fun z => (hch p.1 z).2.2.2 p hp rfl
    exact ⟨keep p.1 p.2 ne nf nch e n, free p.1 p.2 nch e n, ne, nf, d⟩
theorem Inv.un {t' : Nat} (I : Inv X pins σ H s) (u : Un X.fs [] H H' s.heap h') (hok : HOk X.prog X.w H' h') : Inv X pins σ H' { s with heap := h', toks := t' } := by
  obtain ⟨m, ⟨o, es, ep, ho, r⟩, _⟩ := id I.loc
  obtain ⟨sl, hL⟩ := u.any ho I.free (by simp)
  exact I.step (g' := s.gens) (d' := s.drawn) (ch := []) (fun _ z => nomatch z) (fun b o _ hb _ e n => u.keep b o e n hb (by simp)) (fun b o _ hb _ e n => u.slot b o e n hb (by simp)) (fun b o _ e n => u.free b o e n (by simp)) (fun b o _ e => u.there b o e (by simp)) u.tups u.frzs u.tbls (fun m' hm => by
    obtain ⟨o', es', ep', ho', r'⟩ := hm
    rw [ho] at ho'; cases ho'
    exact ⟨_, es', ep', hL, r'⟩) hok I.bare
theorem Inv.call {g' : Array GenState} {t' : Nat} {d' : Drawn} {ch : List Addr} (I : Inv X pins σ H s) (u : Un (frs X.stack) ch H H' s.heap h') (hok : HOk X.prog X.w H' h') (hg : AllBare g')
    (hch : ∀ b ∈ ch, (b ∈ X.ex ∨ X.s₀.heap.objs.size ≤ b) ∧ b ≠ X.env.locals ∧ (∀ x c, X.env.cells.lookup x = some c → c ≠ b) ∧ ∀ p ∈ X.pn ++ pins, p.1 ≠ b) :
    Inv X pins σ H' { s with heap := h', gens := g', drawn := d', toks := t' } := by
  obtain ⟨m, ⟨o, es, ep, ho, r⟩, _⟩ := id I.loc
  obtain ⟨sl, hL⟩ := u.any ho I.free fun z => (hch _ z).2.1 rfl
  exact I.step (ch := ch) hch (fun b o hL hb hc e n => u.keep b o e n (fun z => (List.mem_cons.mp (I.stkSub b z)).elim hL hb) hc) (fun b o _ _ hc e n => u.any e n hc) (fun b o hc e n => u.free b o e n hc) (fun b o hc e => u.there b o e hc) u.tups u.frzs u.tbls (fun m' hm => by
    obtain ⟨o', es', ep', ho', r'⟩ := hm
    rw [ho] at ho'; cases ho'
    exact ⟨_, es', ep', hL, r'⟩) hok hg
theorem Inv.turned {t' : Nat} {it : Addr} (I : Inv X pins σ H s) (k : ∀ b o, b ≠ it → s.heap.get? b = some o → h'.get? b = some o) (hn : H it = none) (hL : it ≠ X.env.locals)
    (h1 : it ∈ X.ex ∨ X.s₀.heap.objs.size ≤ it) (h2 : ∀ x c, X.env.cells.lookup x = some c → c ≠ it) (h3 : ∀ p ∈ X.pn ++ pins, p.1 ≠ it) : Inv X pins σ H { s with heap := h', toks := t' } := by
  have nit : ∀ b u, H b = some u → b ≠ it := fun b u e z => by rw [z, hn] at e; cases e
  refine I.step (g' := s.gens) (d' := s.drawn) (ch := [it]) (fun b hb => ?_) (fun b o _ _ hc e _ => k b o (fun z => hc (by simp [z])) e) (fun b o _ _ hc e _ => ⟨o.slots, k b o (fun z => hc (by simp [z])) e⟩) (fun _ _ _ _ n => n)
    (fun b o hc e => ⟨o, k b o (fun z => hc (by simp [z])) e⟩) (fun _ _ e => e) (fun _ _ _ e => e) (fun b ps e => ⟨#[], by rw [e]; simp⟩) (fun m hm => ?_) (fun b u e => ?_) I.bare
  · have e : b = it := by simpa using hb
    subst e
    exact ⟨h1, hL, h2, h3⟩
  · obtain ⟨o, es, ep, ho, r⟩ := hm
    exact ⟨o, es, ep, k _ o (Ne.symm hL) ho, r⟩
  · refine (I.hok b u e).stay (fun c v hc q => k c v ?_ q) (fun _ q => q) fun _ _ q => q
    rcases hc with z | z
    · rw [z]; exact nit b u e
    · exact nit c _ z
theorem Inv.tok (I : Inv X pins σ H s) (t : Nat) : Inv X pins σ H { s with toks := t } := I.un (h' := s.heap) (t' := t) Un.refl I.hok
theorem Inv.kept {t' : Nat} (I : Inv X pins σ H s) (k : ∀ b u, s.heap.get? b = some u → h'.get? b = some u) : Inv X pins σ H { s with heap := h', toks := t' } := I.un (Un.kept k) (I.hok.kept k)
theorem Inv.laid {a : Addr} {o : HO} {t' : Nat} (I : Inv X pins σ H s) (k : ∀ b u, s.heap.get? b = some u → h'.get? b = some u) (hp : s.heap.objs.size ≤ a) (new : ObjOk X.prog X.w (upd H a o) h' a o) :
    Inv X pins σ (upd H a o) { s with heap := h', toks := t' } := I.un (Un.laid k hp (I.hok.fresh hp)) (I.hok.laid k hp new)
theorem Inv.write {x e : Addr} {o : HO} {t' : Nat} (I : Inv X pins σ H s) (mu : Mut (H x)) (he : e = x ∨ H e = some (.own x)) (k : ∀ b u, b ≠ e → s.heap.get? b = some u → h'.get? b = some u) (heo : ∃ u, h'.get? e = some u)
    (new : ObjOk X.prog X.w (upd H x o) h' x o) : Inv X pins σ (upd H x o) { s with heap := h', toks := t' } := I.un (Un.write mu he k heo) (I.hok.write mu he k heo new)
theorem Inv.pins_of {pins' : List (Addr × Obj)} (I : Inv X pins σ H s) (h : ∀ p ∈ pins', s.heap.get? p.1 = some p.2 ∧ H p.1 = none ∧ p.1 ≠ X.env.locals ∧ p.1 ∉ X.fs ∧ ∀ v, p.2.data ≠ .cell v) : Inv X pins' σ H s :=
  ⟨I.ok, I.os, I.bare, I.base, I.loc, I.cell, I.free, I.freeC, fun p hp => (List.mem_append.mp hp).elim (fun z => I.pin p (List.mem_append_left _ z)) (h p), I.hok, I.len⟩
theorem nodup_ix {N : List Str} (hN : N.Nodup) {i j : Nat} {x : Str} (a : N[i]? = some x) (b : N[j]? = some x) : i = j := by
  obtain ⟨h1, e1⟩ := List.getElem?_eq_some_iff.mp a
  obtain ⟨h2, e2⟩ := List.getElem?_eq_some_iff.mp b
  exact (List.getElem_inj hN).mp (e1.trans e2.symm)
theorem store_ok2 {M : Model} {A : Around} {E : Value → Shared → Prop} {i : Nat} {x : Str} {v : V} {u : Value} {Q : Unit → Shared → Prop} (I : Inv X pins σ H s) (hN : X.N.Nodup) (hi : X.N[i]? = some x) (hx : Loc X.env.scope x) (r : RelV v u)
    (h : ∀ s', Inv X pins (σ.set i (some v)) H s' → (∃ a, Heap.SameBut a s.heap s'.heap ∧ (a = X.env.locals ∨ X.env.cells.lookup x = some a)) → Q () s') (hf : X.fn x = true ∨ X.env.scope.names.lookup x = some .local := by first | exact .inl rfl | exact .inr rfl | assumption) : wpAny M A (storeName X.env x u) Q E s := by
  obtain ⟨m, hn, hl⟩ := id I.loc
  have hcls : (X.env.scope.kind == .class || (X.env.scope.kind == .module && X.env.locals != X.env.globals)) = false := by rw [I.ok.kind]; rfl
  have hiσ : i < σ.length := by rw [I.len]; exact (List.getElem?_eq_some_iff.mp hi).1
  have cne := I.cne
  have tracked : ∀ {a : Addr} {h' : Heap}, (∃ o, s.heap.get? a = some o ∧ H a = none) → Heap.SameBut a s.heap h' → HOk X.prog X.w H h' := fun {a h'} ha hs b ob e => by
    obtain ⟨_, _, hfree⟩ := ha
    refine (I.hok b ob e).stay (fun c w' hc q => (hs.2 c ?_).trans q) (fun _ q => q) fun _ _ q => q
    rintro rfl
    rcases hc with rfl | hc
    · rw [hfree] at e; cases e
    · rw [hfree] at hc; cases hc
  rcases hx with hk | hk
  · refine wpAny_storeName_local hk hn (fun h' hn' hs => ?_) hcls
    obtain ⟨oL, _, _, hoL, _⟩ := id hn
    refine h _ ⟨I.ok, I.os, I.bare, ⟨fun b o e n hb hx => ?_, fun b o e n hb hx => ?_, I.base.free, fun b o e hx => ?_, I.base.tups, I.base.frzs, I.base.tbls⟩, ⟨_, hn', fun j y v' e1 e2 e3 => ?_⟩, fun y c e => ?_, I.free, I.freeC, fun p hp => ?_, tracked ⟨oL, hoL, I.free⟩ hs, by simpa using I.len⟩ ⟨_, hs, .inl rfl⟩
    · exact (hs.2 b (Nat.ne_of_lt (Nat.lt_of_lt_of_le (Heap.lt_size e) I.ok.above))).trans (I.base.keep b o e n hb hx)
    · obtain ⟨sl, e1⟩ := I.base.slot b o e n hb hx
      exact ⟨sl, (hs.2 b (Nat.ne_of_lt (Nat.lt_of_lt_of_le (Heap.lt_size e) I.ok.above))).trans e1⟩
    · obtain ⟨o', e1⟩ := I.base.there b o e hx
      exact ⟨o', (hs.2 b (Nat.ne_of_lt (Nat.lt_of_lt_of_le (Heap.lt_size e) I.ok.above))).trans e1⟩
    · by_cases hj : j = i
      · subst hj
        rw [hi] at e1; cases e1
        rw [List.getElem?_set_self hiσ] at e2
        cases e2
        exact ⟨u, r, .inl ⟨hk, by simp⟩⟩
      · rw [List.getElem?_set_ne (Ne.symm hj)] at e2
        obtain ⟨u', r', q⟩ := hl j y v' e1 e2 e3
        refine ⟨u', r', ?_⟩
        rcases q with ⟨k, e⟩ | ⟨k, c, e, z⟩
        · refine .inl ⟨k, ?_⟩
          have : y ≠ x := fun e => hj (nodup_ix hN e1 (e ▸ hi))
          simp [this, e]
        · exact .inr ⟨k, c, e, z.sameBut hs (cne y c e)⟩
    · obtain ⟨w', z⟩ := I.cell y c e
      exact ⟨w', z.sameBut hs (cne y c e)⟩
    · obtain ⟨e, n, ne, nf, d⟩ := I.pin p hp
      exact ⟨(hs.2 p.1 ne).trans e, n, ne, nf, d⟩
  · have hfn : X.fn x = true := by
      rcases hf with z | z
      · exact z
      · rw [z] at hk; cases hk
    obtain ⟨c, hc⟩ := I.ok.has x (.inl hk)
    obtain ⟨w', z⟩ := I.cell x c hc
    refine wpAny_storeName_cell I.ok.kind hk hc z (fun h' hc' hs => ?_)
    obtain ⟨oc, hoc, hocd⟩ := id z
    refine h { s with heap := h' } ⟨I.ok, I.os, I.bare, ⟨fun b o e n hb hx => ?_, fun b o e n hb hx => ?_, I.base.free, fun b o e hx => ?_, I.base.tups, I.base.frzs, I.base.tbls⟩, ⟨m, hn.sameBut hs (Ne.symm (cne x c hc)), fun j y v' e1 e2 e3 => ?_⟩, fun y c' e => ?_, I.free, I.freeC, fun p hp => ?_, tracked ⟨oc, hoc, I.freeC x c hc⟩ hs, by simpa using I.len⟩ ⟨c, hs, .inr hc⟩
    · exact (hs.2 b (Nat.ne_of_lt (Nat.lt_of_lt_of_le (Heap.lt_size e) (I.ok.cab x c hfn hc)))).trans (I.base.keep b o e n hb hx)
    · obtain ⟨sl, e1⟩ := I.base.slot b o e n hb hx
      exact ⟨sl, (hs.2 b (Nat.ne_of_lt (Nat.lt_of_lt_of_le (Heap.lt_size e) (I.ok.cab x c hfn hc)))).trans e1⟩
    · obtain ⟨o', e1⟩ := I.base.there b o e hx
      exact ⟨o', (hs.2 b (Nat.ne_of_lt (Nat.lt_of_lt_of_le (Heap.lt_size e) (I.ok.cab x c hfn hc)))).trans e1⟩
    · by_cases hj : j = i
      · subst hj
        rw [hi] at e1; cases e1
        rw [List.getElem?_set_self hiσ] at e2
        cases e2
        exact ⟨u, r, .inr ⟨.inl hk, c, hc, hc'⟩⟩
      · rw [List.getElem?_set_ne (Ne.symm hj)] at e2
        obtain ⟨u', r', q⟩ := hl j y v' e1 e2 e3
        refine ⟨u', r', ?_⟩
        rcases q with q | ⟨k, c', e, z'⟩
        · exact .inl q
        · refine .inr ⟨k, c', e, z'.sameBut hs ?_⟩
          rintro rfl
          exact hj (nodup_ix hN e1 (I.ok.inj _ _ _ e hc ▸ hi))
    · by_cases hcc : c' = c
      · subst hcc; exact ⟨_, hc'⟩
      · obtain ⟨w2, z2⟩ := I.cell y c' e
        exact ⟨w2, z2.sameBut hs hcc⟩
    · obtain ⟨e, n, ne, nf, d⟩ := I.pin p hp
      refine ⟨(hs.2 p.1 ?_).trans e, n, ne, nf, d⟩
      intro q
      rw [q, hoc] at e
      have q' : oc = p.2 := Option.some.inj e
      exact d w' (by rw [← q']; exact hocd)
theorem store_ok {M : Model} {A : Around} {E : Value → Shared → Prop} {i : Nat} {x : Str} {v : V} {u : Value} {Q : Unit → Shared → Prop} (I : Inv X pins σ H s) (hN : X.N.Nodup) (hi : X.N[i]? = some x) (hx : Loc X.env.scope x) (r : RelV v u)
    (h : ∀ s', Inv X pins (σ.set i (some v)) H s' → Q () s') (hf : X.fn x = true ∨ X.env.scope.names.lookup x = some .local := by first | exact .inl rfl | exact .inr rfl | assumption) : wpAny M A (storeName X.env x u) Q E s :=
  store_ok2 I hN hi hx r (fun s' I' _ => h s' I') hf
theorem Inv.call' {s' : Shared} {ch : List Addr} (I : Inv X pins σ H s) (ho : s'.os = s.os) (u : Un (frs X.stack) ch H H' s.heap s'.heap) (hok : HOk X.prog X.w H' s'.heap) (hg : AllBare s'.gens)
    (hch : ∀ b ∈ ch, (b ∈ X.ex ∨ X.s₀.heap.objs.size ≤ b) ∧ b ≠ X.env.locals ∧ (∀ x c, X.env.cells.lookup x = some c → c ≠ b) ∧ ∀ p ∈ X.pn ++ pins, p.1 ≠ b) : Inv X pins σ H' s' := by
  obtain ⟨h', g', d', t', o'⟩ := s'
  have e : o' = s.os := ho
  subst e
  exact I.call (g' := g') (t' := t') (d' := d') u hok hg hch
end
abbrev XK := Value → Option Addr → Hp → Prop
abbrev St := List (Option V)
abbrev VK := V → Hp → Prop
abbrev TE := St → Hp → VK → Prop
abbrev TT := St → Hp → (Bool → Hp → Prop) → Prop
abbrev TA := St → Hp → (List V → Hp → Prop) → Prop
structure Ends where
  nx : St → Hp → Prop
  rt : VK
  bk : St → Hp → Prop := fun _ _ => False
  ct : St → Hp → Prop := fun _ _ => False
abbrev TS := Ends → St → Hp → Prop
def EP (X : Cx) (pins : List (Addr × Obj)) (σ : St) (Q : VK) (u : Value) (s' : Shared) : Prop := ∃ v H', Inv X pins σ H' s' ∧ RelV v u ∧ Q v H'
def TP (X : Cx) (pins : List (Addr × Obj)) (σ : St) (Q : Bool → Hp → Prop) (b : Bool) (s' : Shared) : Prop := ∃ H', Inv X pins σ H' s' ∧ Q b H'
def AP (X : Cx) (pins : List (Addr × Obj)) (σ : St) (Q : List V → Hp → Prop) (us : List Value) (s' : Shared) : Prop := ∃ vs H', Inv X pins σ H' s' ∧ Vals vs us ∧ Q vs H'
def SP (X : Cx) (pins : List (Addr × Obj)) (D : Ends) (f : Flow) (s' : Shared) : Prop :=
  match f with
  | .next => ∃ σ' H', Inv X pins σ' H' s' ∧ D.nx σ' H'
  | .brk => ∃ σ' H', Inv X pins σ' H' s' ∧ D.bk σ' H'
  | .cont => ∃ σ' H', Inv X pins σ' H' s' ∧ D.ct σ' H'
  | .ret u => ∃ v σ' H', Inv X pins σ' H' s' ∧ RelV v u ∧ D.rt v H'
def PE (X : Cx) (e : Expr) (t : TE) : Prop :=
  ∀ (pins : List (Addr × Obj)) (s : Shared) (σ : St) (H : Hp) (Q : VK), Inv X pins σ H s → t σ H Q → wpAny (model X.prog X.w) X.A (eval e X.env) (EP X pins σ Q) X.xe s
def PT (X : Cx) (e : Expr) (t : TT) : Prop :=
  ∀ (pins : List (Addr × Obj)) (s : Shared) (σ : St) (H : Hp) (Q : Bool → Hp → Prop), Inv X pins σ H s → t σ H Q → wpAny (model X.prog X.w) X.A (isTrue e X.env (eval e X.env)) (TP X pins σ Q) X.xe s
def PW (X : Cx) (e : Expr) (t : TT) : Prop :=
  ∀ (whole : Sem Value) (pins : List (Addr × Obj)) (s : Shared) (σ : St) (H : Hp) (Q : Bool → Hp → Prop), Inv X pins σ H s → t σ H Q → wpAny (model X.prog X.w) X.A (isTrue e X.env whole) (TP X pins σ Q) X.xe s
theorem PW.pt {X : Cx} {e : Expr} {t : TT} (h : PW X e t) : PT X e t := h _
def PA (X : Cx) (es : List Expr) (t : TA) : Prop :=
  ∀ (pos : Pos) (pins : List (Addr × Obj)) (s : Shared) (σ : St) (H : Hp) (Q : List V → Hp → Prop), Inv X pins σ H s → t σ H Q → wpAny (model X.prog X.w) X.A (spliced (backTo pos (starEach es X.env))) (AP X pins σ Q) X.xe s
def PS (X : Cx) (st : Stmt) (t : TS) : Prop :=
  ∀ (pins : List (Addr × Obj)) (s : Shared) (σ : St) (H : Hp) (D : Ends), Inv X pins σ H s → t D σ H → wpAny (model X.prog X.w) X.A (exec st X.env) (SP X pins D) X.xe s
def PSs (X : Cx) (st : List Stmt) (t : TS) : Prop :=
  ∀ (pins : List (Addr × Obj)) (s : Shared) (σ : St) (H : Hp) (D : Ends), Inv X pins σ H s → t D σ H → wpAny (model X.prog X.w) X.A (execs st X.env) (SP X pins D) X.xe s
theorem thn {α : Type} {t : Sem α} {Q Q' : α → Shared → Prop} {M : Model} {A : Around} {E : Value → Shared → Prop} {s : Shared} (h : wpAny M A t Q E s) (hQ : ∀ a s, Q a s → Q' a s) : wpAny M A t Q' E s := wpAny_mono h hQ fun _ _ x => x
end L2
namespace L2
open PySem PySem.Spec PyProof.Rows
section
variable {X : Cx}
def tVar (i : Nat) : TE := fun σ H Q => ∃ v, σ[i]? = some (some v) ∧ Q v H
def tC (v : V) : TE := fun _ H Q => Q v H
theorem pe_var {i : Nat} {x : Str} {pos : Pos} (hN : X.N[i]? = some x) (hv : Vis X.env.scope x) (hd : (x == ("__debug__" : Str)) = false := by decide) (hcd : (x == ("__classdict__" : Str)) = false := by decide) : PE X (.Name x pos) (tVar i) := by
  intro pins s σ H Q I h
  obtain ⟨v, e, h⟩ := h
  obtain ⟨m, hn, hl⟩ := I.loc
  obtain ⟨u, r, l⟩ := hl i x v hN e hv
  have fin : EP X pins σ Q u s := ⟨v, H, I, r, h⟩
  rcases l with ⟨hk, hm⟩ | ⟨hk, c, hc, hcell⟩
  · exact wpAny_Name (wpAny_loadName_local I.ok.kind hk hn hm fin) hd
  · rcases hk with hk | hk
    · exact wpAny_Name (wpAny_loadName_cell I.ok.kind hk hc hcell fin) hd
    · exact wpAny_Name (wpAny_loadName_free I.ok.kind hk hc hcell fin hcd) hd
theorem pe_int {i j pos} : PE X (.Constant (.int i) j pos) (tC (.int i)) := fun _ _ _ H _ I h => wpAny_Constant_int ⟨.int i, H, I.tok _, ⟨_, rfl⟩, h⟩
theorem pe_bl {b j pos} : PE X (.Constant (.bool b) j pos) (tC (.bl b)) := fun _ _ _ H _ I h => Constant_bool ⟨.bl b, H, I, rfl, h⟩
theorem pe_str {x j pos} : PE X (.Constant (.str x) j pos) (tC (.str x)) := fun _ _ _ H _ I h => Calls.Constant_str ⟨.str x, H, I.tok _, ⟨_, rfl⟩, h⟩
def Gl (X : Cx) (x : Str) : Prop := X.env.kindOf x = some .globalImplicit
theorem ld_glob {E : Value → Shared → Prop} {pins : List (Addr × Obj)} {s : Shared} {σ : St} {H : Hp} {x : Str} {u : Value} {pos : Pos} {Q : Value → Shared → Prop} (I : Inv X pins σ H s) (hg : Gl X x) (hm : X.mg x = some u) (h : Q u s)
    (hd : (x == ("__debug__" : Str)) = false := by decide) : wpAny (model X.prog X.w) X.A (eval (.Name x pos) X.env) Q E s :=
  Calls.Name_function_global I.ok.kind hg (Calls.loadGlobal_global (by rw [I.ok.glob]; exact I.mod.glob.keeps I.bk) hm h) hd
theorem ld_blt {E : Value → Shared → Prop} {pins : List (Addr × Obj)} {s : Shared} {σ : St} {H : Hp} {x : Str} {u : Value} {pos : Pos} {Q : Value → Shared → Prop} (I : Inv X pins σ H s) (hg : Gl X x) (hm : X.mg x = none) (hv : bootBuiltins x = some u) (h : Q u s)
    (hn : x ≠ "__name__" := by decide) (hd : (x == ("__debug__" : Str)) = false := by decide) : wpAny (model X.prog X.w) X.A (eval (.Name x pos) X.env) Q E s := by
  obtain ⟨mb, h1, h2⟩ := I.mod.blt
  exact Calls.Name_function_global I.ok.kind hg (Calls.loadGlobal_builtin (by rw [I.ok.glob]; exact I.mod.glob.keeps I.bk) hm (by rw [I.ok.blt]; exact h1.keeps I.bk) ((h2 x hn).trans hv) h) hd
theorem pe_glob {x : Str} {v : V} {u : Value} {pos : Pos} (hg : Gl X x) (hm : X.mg x = some u) (r : RelV v u) (hd : (x == ("__debug__" : Str)) = false := by decide) : PE X (.Name x pos) (tC v) :=
  fun _ _ _ H _ I h => ld_glob I hg hm ⟨v, H, I, r, h⟩ hd
variable {a b : Expr} {ta tb : TE} {pos : Pos}
def tB (t : TE) : TT := fun σ H Q => t σ H fun x H1 => ∃ c, x = .bl c ∧ Q c H1
variable {tA tB' : TT} {rest : List Expr}
def tAnd (t u : TT) : TT := fun σ H Q => t σ H fun c H1 => if c = true then u σ H1 Q else Q false H1
def tOr (t u : TT) : TT := fun σ H Q => t σ H fun c H1 => if c = true then Q true H1 else u σ H1 Q
def tNot (t : TT) : TT := fun σ H Q => t σ H fun c H1 => Q (!c) H1
theorem pw_and1 (ha : PT X a tA) : PW X (.BoolOp .And [a] pos) tA := by
  intro wh pins s σ H Q I h
  refine isTrue_and (thn (ha pins s σ H Q I h) fun c s1 e => ?_)
  cases c with
  | true => exact isTrue_and_nil e
  | false => exact e
theorem pw_or1 (ha : PT X a tA) : PW X (.BoolOp .Or [a] pos) tA := by
  intro wh pins s σ H Q I h
  refine isTrue_or (thn (ha pins s σ H Q I h) fun c s1 e => ?_)
  cases c with
  | false => exact isTrue_or_nil e
  | true => exact e
theorem pw_and (ha : PT X a tA) (hb : PW X (.BoolOp .And (b :: rest) pos) tB') : PW X (.BoolOp .And (a :: b :: rest) pos) (tAnd tA tB') := by
  intro wh pins s σ H Q I h
  refine isTrue_and (thn (ha pins s σ H _ I h) fun c s1 ⟨H1, I1, q1⟩ => ?_)
  cases c with
  | true => exact hb wh pins s1 σ H1 Q I1 q1
  | false => exact ⟨H1, I1, q1⟩
theorem pw_or (ha : PT X a tA) (hb : PW X (.BoolOp .Or (b :: rest) pos) tB') : PW X (.BoolOp .Or (a :: b :: rest) pos) (tOr tA tB') := by
  intro wh pins s σ H Q I h
  refine isTrue_or (thn (ha pins s σ H _ I h) fun c s1 ⟨H1, I1, q1⟩ => ?_)
  cases c with
  | true => exact ⟨H1, I1, q1⟩
  | false => exact hb wh pins s1 σ H1 Q I1 q1
theorem pt_not (ha : PT X a tA) : PT X (.UnaryOp .Not a pos) (tNot tA) := by
  intro pins s σ H Q I h
  exact isTrue_not (ha pins s σ H (fun c H1 => Q (!c) H1) I h)
def tAndV (ta tb : TE) : TE := fun σ H Q => ta σ H fun x H1 => ∃ c, x = .bl c ∧ if c = true then tb σ H1 Q else Q (.bl false) H1
def tOrV (ta tb : TE) : TE := fun σ H Q => ta σ H fun x H1 => ∃ c, x = .bl c ∧ if c = true then Q (.bl true) H1 else tb σ H1 Q
def tNotV (ta : TE) : TE := fun σ H Q => ta σ H fun x H1 => ∃ c, x = .bl c ∧ Q (.bl (!c)) H1
theorem pe_one {op} {t : TE} (h : PE X a t) : PE X (.BoolOp op [a] pos) t := fun pins s σ H Q I hw => BoolOp_one (h pins s σ H Q I hw)
theorem pe_and (ha : PE X a ta) (hb : PE X (.BoolOp .And (b :: rest) pos) tb) : PE X (.BoolOp .And (a :: b :: rest) pos) (tAndV ta tb) := by
  intro pins s σ H Q I h
  refine BoolOp_and (thn (ha pins s σ H _ I h) fun v s1 ⟨x, H1, I1, r1, q1⟩ => ?_)
  obtain ⟨c, rfl, q1⟩ := q1
  cases r1
  refine wpAny_truthy_bool ?_
  cases c with
  | true => exact hb pins s1 σ H1 Q I1 q1
  | false => exact ⟨.bl false, H1, I1, rfl, q1⟩
theorem pe_not (ha : PE X a ta) : PE X (.UnaryOp .Not a pos) (tNotV ta) := by
  intro pins s σ H Q I h
  refine UnaryOp_ (thn (ha pins s σ H _ I h) fun v s1 ⟨x, H1, I1, r1, q1⟩ => ?_)
  obtain ⟨c, rfl, q1⟩ := q1
  cases r1
  exact not_of (wpAny_truthy_bool ⟨.bl (!c), H1, I1, rfl, q1⟩)
def tIf (t : TT) (ta tb : TE) : TE := fun σ H Q => t σ H fun c H1 => if c = true then ta σ H1 Q else tb σ H1 Q
theorem pe_ifExp {c : Expr} (hc : PT X c tA) (ha : PE X a ta) (hb : PE X b tb) : PE X (.IfExp c a b pos) (tIf tA ta tb) := by
  intro pins s σ H Q I h
  refine wpAny_IfExp (thn (hc pins s σ H _ I h) fun d s1 ⟨H1, I1, q1⟩ => ?_)
  cases d with
  | true => exact ha pins s1 σ H1 Q I1 q1
  | false => exact hb pins s1 σ H1 Q I1 q1
end
end L2
namespace L2
open PySem PySem.Spec PyProof.Rows
def SqL (K : PySem.W.Frag) (H : Hp) (a : Addr) (xs : List V) : Prop :=
  Rd H a (.lst xs) ∨
    ∃ (o : Obj) (its : Array Value) (n : Nat), K.lookup a = some o ∧ o.cls = .type "list" ∧ o.dict = none ∧ o.data = .seq its n ∧ its.size ≤ sizeLine ∧ Vals xs its.toList
def SqT (K : PySem.W.Frag) (H : Hp) (a : Addr) (xs : List V) : Prop :=
  Rd H a (.tup xs) ∨
    ∃ (o : Obj) (its : Array Value) (n : Nat), K.lookup a = some o ∧ o.cls = .type "tuple" ∧ o.data = .seq its n ∧ its.size ≤ sizeLine ∧ Vals xs its.toList
def absV : Value → Option V
  | .none => some .non
  | .bool b => some (.bl b)
  | .int i _ => some (.int i)
  | .str x _ => some (.str x)
  | .bytes b _ => some (.byt b)
  | .float b _ => some (.flt b)
  | .ref a => some (.ref a)
  | .type n => some (.ty n)
  | _ => none
theorem RelV.abs {x : V} {u : Value} (r : RelV x u) : absV u = some x := by
  cases x with
  | non => cases r; rfl
  | bl _ => cases r; rfl
  | int _ => obtain ⟨t, rfl⟩ := r; rfl
  | str _ => obtain ⟨t, rfl⟩ := r; rfl
  | byt _ => obtain ⟨t, rfl⟩ := r; rfl
  | flt _ => obtain ⟨t, rfl⟩ := r; rfl
  | ref _ => cases r; rfl
  | ty _ => cases r; rfl
theorem RelV.inj {x y : V} {u : Value} (r : RelV x u) (q : RelV y u) : x = y := Option.some.inj (r.abs.symm.trans q.abs)
theorem Vals.inj : ∀ {xs ys : List V} {us : List Value}, Vals xs us → Vals ys us → xs = ys
  | _, _, _, .nil, .nil => rfl
  | _, _, _, .cons r t, .cons r' t' => by rw [r.inj r', Vals.inj t t']
section
variable {X : Cx} {pins : List (Addr × Obj)} {σ : St} {H : Hp} {s : Shared} {a : Addr} {xs ys : List V}
theorem SqL.of {K : PySem.W.Frag} (h : H a = some (.lst xs)) : SqL K H a xs := .inl (.inl h)
theorem SqT.of {K : PySem.W.Frag} (h : H a = some (.tup xs)) : SqT K H a xs := .inl (.inl h)
theorem Inv.list (I : Inv X pins σ H s) (h : SqL X.K H a xs) : ∃ its : List Value, Vals xs its ∧ PlainL s.heap a its.toArray ∧ xs.length ≤ sizeLine := by
  rcases h with h | ⟨o, its, n, hk, hc, hd, hs, hz, r⟩
  · obtain ⟨z, its, n, r, e⟩ := h.ok I.hok
    exact ⟨its, r, ⟨_, n, e, rfl, rfl, rfl⟩, z⟩
  · refine ⟨its.toList, r, ⟨o, n, I.kIn a o hk, hc, hd, by simpa using hs⟩, ?_⟩
    have e := r.length
    simp only [Array.length_toList] at e
    omega
theorem Inv.tuple (I : Inv X pins σ H s) (h : SqT X.K H a xs) : ∃ its : List Value, Vals xs its ∧ IsTup s.heap a its.toArray ∧ xs.length ≤ sizeLine := by
  rcases h with h | ⟨o, its, n, hk, hc, hs, hz, r⟩
  · obtain ⟨z, its, r, p⟩ := h.ok I.hok
    exact ⟨its, r, p, z⟩
  · refine ⟨its.toList, r, ⟨o, I.kIn a o hk, hc, n, by simpa using hs⟩, ?_⟩
    have e := r.length
    simp only [Array.length_toList] at e
    omega
theorem Inv.list_inj (I : Inv X pins σ H s) (h : SqL X.K H a xs) (h' : SqL X.K H a ys) : xs = ys := by
  obtain ⟨its, r, ⟨o, n, e, _, _, d⟩, _⟩ := I.list h
  obtain ⟨its', r', ⟨o', n', e', _, _, d'⟩, _⟩ := I.list h'
  rw [e] at e'; cases e'
  rw [d] at d'
  injection d' with d1 _
  have : its = its' := by simpa using congrArg Array.toList d1
  subst this
  exact r.inj r'
end
abbrev Cx.wish (X : Cx) (E : Value → Shared → Prop) : Cx := { X with xe := E }
abbrev Cx.nox (X : Cx) : Cx := X.wish fun _ _ => False
theorem Cx.Ok.wish {X : Cx} (ok : X.Ok) (E : Value → Shared → Prop) : (X.wish E).Ok :=
  ⟨ok.mod, ok.kind, ok.glob, ok.blt, ok.above, ok.inj, ok.has, ok.cab, ok.hd, ok.frames, ok.stk, ok.exf, ok.bs, ok.bsz, ok.noex, ok.exfs, ok.funs, ok.frf⟩
theorem Cx.Ok.unwish {X : Cx} {E : Value → Shared → Prop} (ok : (X.wish E).Ok) : X.Ok :=
  ⟨ok.mod, ok.kind, ok.glob, ok.blt, ok.above, ok.inj, ok.has, ok.cab, ok.hd, ok.frames, ok.stk, ok.exf, ok.bs, ok.bsz, ok.noex, ok.exfs, ok.funs, ok.frf⟩
section
variable {X : Cx} {pins : List (Addr × Obj)} {σ : St} {H : Hp} {s : Shared} {E : Value → Shared → Prop}
theorem Inv.wish (I : Inv X pins σ H s) (E : Value → Shared → Prop) : Inv (X.wish E) pins σ H s := ⟨I.ok.wish E, I.os, I.bare, I.base, I.loc, I.cell, I.free, I.freeC, I.pin, I.hok, I.len⟩
theorem Inv.unwish (I : Inv (X.wish E) pins σ H s) : Inv X pins σ H s := ⟨I.ok.unwish, I.os, I.bare, I.base, I.loc, I.cell, I.free, I.freeC, I.pin, I.hok, I.len⟩
theorem SP.unwish {D : Ends} {f : Flow} {s' : Shared} (h : SP (X.wish E) pins D f s') : SP X pins D f s' := by
  cases f with
  | next => obtain ⟨σ', H', I, q⟩ := h; exact ⟨σ', H', I.unwish, q⟩
  | brk => obtain ⟨σ', H', I, q⟩ := h; exact ⟨σ', H', I.unwish, q⟩
  | cont => obtain ⟨σ', H', I, q⟩ := h; exact ⟨σ', H', I.unwish, q⟩
  | ret u => obtain ⟨v, σ', H', I, r, q⟩ := h; exact ⟨v, σ', H', I.unwish, r, q⟩
theorem PE.nox {e : Expr} {t : TE} (h : PE X.nox e t) : PE X e t := fun pins s σ H Q I hw =>
  wpAny_mono (h pins s σ H Q (I.wish _) hw) (fun _ _ ⟨v, H', I', r, q⟩ => ⟨v, H', I'.unwish, r, q⟩) fun _ _ z => False.elim z
theorem PT.nox {e : Expr} {t : TT} (h : PT X.nox e t) : PT X e t := fun pins s σ H Q I hw =>
  wpAny_mono (h pins s σ H Q (I.wish _) hw) (fun _ _ ⟨H', I', q⟩ => ⟨H', I'.unwish, q⟩) fun _ _ z => False.elim z
theorem PSs.nox {st : List Stmt} {t : TS} (h : PSs X.nox st t) : PSs X st t := fun pins s σ H D I hw =>
  wpAny_mono (h pins s σ H D (I.wish _) hw) (fun _ _ q => q.unwish) fun _ _ z => False.elim z
end
section
variable {X : Cx} {st : Stmt} {rest : List Stmt} {t u : TS} {e : Expr} {te : TE} {pos : Pos}
def tNext : TS := fun D σ H => D.nx σ H
def tSeq (t u : TS) : TS := fun D σ H => t { D with nx := u D } σ H
theorem pss_nil : PSs X [] tNext := fun _ _ σ H _ I h => wpAny_execs_nil ⟨σ, H, I, h⟩
theorem pss_cons (h1 : PS X st t) (h2 : PSs X rest u) : PSs X (st :: rest) (tSeq t u) := by
  intro pins s σ H D I h
  refine wpAny_execs_cons (thn (h1 pins s σ H { D with nx := u D } I h) fun f s1 q => ?_)
  cases f with
  | next =>
    obtain ⟨σ', H', I', q⟩ := q
    exact h2 pins s1 σ' H' D I' q
  | ret v => exact q
  | brk => exact q
  | cont => exact q
theorem pss_one (h1 : PS X st t) : PSs X [st] t := by
  intro pins s σ H D I h
  refine wpAny_execs_cons (thn (h1 pins s σ H D I h) fun f s1 q => ?_)
  cases f with
  | next => exact wpAny_execs_nil q
  | ret v => exact q
  | brk => exact q
  | cont => exact q
def tBreak : TS := fun D σ H => D.bk σ H
def tCont : TS := fun D σ H => D.ct σ H
theorem Inv.quiet {pins : List (Addr × Obj)} {σ : St} {H : Hp} {s : Shared} (I : Inv X pins σ H s) : interactive X.env = false := by simp [interactive, I.ok.kind]
def tDrop (te : TE) : TS := fun D σ H => te σ H fun _ H1 => D.nx σ H1
theorem ps_expr (he : PE X e te) (hs : swapsWith e none pos.line X.env = pure false := by rfl) : PS X (.Expr e pos) (tDrop te) := by
  intro pins s σ H D I h
  exact wpAny_Expr_any (thn (he pins s σ H _ I h) fun v s1 ⟨x, H1, I1, r1, q1⟩ => ⟨σ, H1, I1, q1⟩) I.quiet hs
def tRet (te : TE) : TS := fun D σ H => te σ H D.rt
theorem ps_ret (he : PE X e te) : PS X (.Return (some e) pos) (tRet te) := by
  intro pins s σ H D I h
  exact wpAny_Return_some (thn (he pins s σ H _ I h) fun v s1 ⟨x, H1, I1, r1, q1⟩ => ⟨x, σ, H1, I1, r1, q1⟩)
def tRetN : TS := fun D _ H => D.rt .non H
def tIfS (c : TT) (t u : TS) : TS := fun D σ H => c σ H fun b H1 => if b = true then t D σ H1 else u D σ H1
theorem ps_if {c : Expr} {a b : List Stmt} {tc : TT} (hc : PT X c tc) (ha : PSs X a t) (hb : PSs X b u) : PS X (.If c a b pos) (tIfS tc t u) := by
  intro pins s σ H D I h
  refine wpAny_If (thn (hc pins s σ H _ I h) fun d s1 ⟨H1, I1, q1⟩ => ?_)
  cases d with
  | true => exact ha pins s1 σ H1 D I1 q1
  | false => exact hb pins s1 σ H1 D I1 q1
end
abbrev TG := V → St → Hp → (St → Hp → Prop) → Prop
abbrev TGs := List V → St → Hp → (St → Hp → Prop) → Prop
def PG (X : Cx) (target : Expr) (t : TG) : Prop :=
  ∀ (pins : List (Addr × Obj)) (s : Shared) (σ : St) (H : Hp) (v : V) (u : Value) (Q : St → Hp → Prop), Inv X pins σ H s → RelV v u → t v σ H Q →
    wpAny (model X.prog X.w) X.A (assign target X.env u) (fun _ s' => ∃ σ' H', Inv X pins σ' H' s' ∧ Q σ' H') X.xe s
def PGs (X : Cx) (ts : List Expr) (t : TGs) : Prop :=
  ∀ (pins : List (Addr × Obj)) (s : Shared) (σ : St) (H : Hp) (vs : List V) (us : List Value) (Q : St → Hp → Prop), Inv X pins σ H s → Vals vs us → t vs σ H Q →
    wpAny (model X.prog X.w) X.A (assignInOrder ((assignEach ts X.env).map (·.2)) us) (fun _ s' => ∃ σ' H', Inv X pins σ' H' s' ∧ Q σ' H') X.xe s
abbrev TSet := V → V → V → Hp → (Hp → Prop) → Prop
section
variable {X : Cx} {pos : Pos}
def gName (i : Nat) : TG := fun v σ H Q => Q (σ.set i (some v)) H
theorem pg_name {i : Nat} {x : Str} (hN : X.N.Nodup) (hi : X.N[i]? = some x) (hx : Loc X.env.scope x) (hf : X.fn x = true ∨ X.env.scope.names.lookup x = some .local := by first | exact .inl rfl | exact .inr rfl | assumption) : PG X (.Name x pos) (gName i) := by
  intro pins s σ H v u Q I r h
  exact wpAny_assign_Name (store_ok I hN hi hx r (fun s' I' => ⟨_, H, I', h⟩) hf)
def gNil : TGs := fun vs σ H Q => vs = [] ∧ Q σ H
def gCons (t : TG) (u : TGs) : TGs := fun vs σ H Q => ∃ v r, vs = v :: r ∧ t v σ H fun σ' H' => u r σ' H' Q
theorem pgs_nil : PGs X [] gNil := by
  intro pins s σ H vs us Q I r h
  obtain ⟨e, h⟩ := h
  subst e
  cases r
  exact assignInOrder_nil ⟨σ, H, I, h⟩
theorem pgs_cons {e : Expr} {es : List Expr} {t : TG} {u : TGs} (h1 : PG X e t) (h2 : PGs X es u)
    (hs : (assignEach (e :: es) X.env).map (·.2) = assign e X.env :: (assignEach es X.env).map (·.2) := by rfl) : PGs X (e :: es) (gCons t u) := by
  intro pins s σ H vs us Q I r h
  obtain ⟨v, vr, e1, h⟩ := h
  subst e1
  cases r with
  | cons r rr =>
    rw [hs]
    refine assignInOrder_cons (thn (h1 pins s σ H _ _ _ I r h) fun _ s1 ⟨σ1, H1, I1, q1⟩ => ?_)
    exact h2 pins s1 σ1 H1 _ _ Q I1 rr q1
def gTup (K : PySem.W.Frag) (n : Nat) (t : TGs) : TG := fun v σ H Q => ∃ a xs, v = .ref a ∧ SqT K H a xs ∧ xs.length = n ∧ t xs σ H Q
theorem pg_tup {es : List Expr} {k : Nat} {t : TGs} {n : Nat} (hc : X.calm = true) (h : PGs X es t)
    (hn : (assignEach es X.env).length = n := by rfl) (hst : (assignEach es X.env).findIdx? (·.1) = none := by rfl) : PG X (.Tuple es k pos) (gTup X.K n t) := by
  intro pins s σ H v u Q I r hw
  obtain ⟨a, xs, e1, hq, hl, hw⟩ := hw
  subst e1
  cases r
  obtain ⟨its, rv, ht, hz⟩ := I.tuple hq
  refine assign_Tuple_tuple (I.ok.hd hc) ht (by simp [hn, ← hl, rv.length]) hst fun h' hx => ?_
  have I1 : Inv X pins σ H { s with heap := h' } := I.kept (t' := s.toks) fun b o e => hx b o (Nat.ne_of_lt (Heap.lt_size e)) e
  exact h pins _ σ H xs _ Q I1 (by simpa using rv) hw
def gSub (to ti : TE) (t : TSet) : TG := fun v σ H Q => to σ H fun o H1 => ti σ H1 fun i H2 => t o i v H2 fun H3 => Q σ H3
def tAsg (te : TE) (g : TG) : TS := fun D σ H => te σ H fun x H1 => g x σ H1 D.nx
theorem ps_set {i : Nat} {x : Str} {e : Expr} {te : TE} {pos' : Pos} (hN : X.N.Nodup) (hi : X.N[i]? = some x) (hx : Loc X.env.scope x) (he : PE X e te) (hs : swapsWith e (some (.Name x pos')) pos.line X.env = pure false := by rfl) (hf : X.fn x = true ∨ X.env.scope.names.lookup x = some .local := by first | exact .inl rfl | exact .inr rfl | assumption) :
    PS X (.Assign [.Name x pos'] e pos) (tAsg te (gName i)) := by
  intro pins s σ H D I h
  refine wpAny_Assign_Name (thn (he pins s σ H _ I h) fun v s1 ⟨y, H1, I1, r1, q1⟩ => ?_) hs
  exact store_ok I1 hN hi hx r1 (fun s2 I2 => ⟨_, H1, I2, q1⟩) hf
def tPar (i j : Nat) (ta : TA) : TS := fun D σ H => ta σ H fun vs H1 => ∃ v w, vs = [v, w] ∧ D.nx ((σ.set i (some v)).set j (some w)) H1
end
section
variable {X : Cx} {pos : Pos}
end
structure It where
  go : Nat → Hp → Prop
  yld : Nat → Hp → V → Hp → Prop
  stop : Nat → Hp → Prop
def FpOk (X : Cx) (pins : List (Addr × Obj)) (H : Hp) (b : Addr) : Prop :=
  H b = none ∧ b ≠ X.env.locals ∧ b ∉ X.fs ∧ (b ∈ X.ex ∨ X.s₀.heap.objs.size ≤ b) ∧ (∀ x c, X.env.cells.lookup x = some c → c ≠ b) ∧ ∀ p ∈ X.pn ++ pins, p.1 ≠ b
theorem Inv.fpOk {X : Cx} {pins : List (Addr × Obj)} {σ : St} {H H' : Hp} {s : Shared} {b : Addr} (I : Inv X pins σ H s) (hb : s.heap.objs.size ≤ b) (hn : H' b = none) : FpOk X pins H' b := by
  refine ⟨hn, Nat.ne_of_gt (Nat.lt_of_lt_of_le I.lt hb), I.nofs hb, .inr (Nat.le_trans I.sz hb), fun x c e z => ?_, fun p hp z => ?_⟩
  · obtain ⟨v, q⟩ := I.cell x c e
    exact absurd (Nat.lt_of_lt_of_le q.lt (by rw [z]; exact hb)) (Nat.lt_irrefl _)
  · exact absurd (Nat.lt_of_lt_of_le (Heap.lt_size (I.pin p hp).1) (by rw [z]; exact hb)) (Nat.lt_irrefl _)
structure Turn (P : Program) (w : World) (K : PySem.W.Frag) (tg : Expr) (J : It) (fp : List Addr) (it : Addr) (tn : Nat → Heap → Prop) : Prop where
  mem : it ∈ fp
  obj : ∀ i h, tn i h → ∀ b ∈ fp, ∃ o, h.get? b = some o ∧ ∀ v, o.data ≠ .cell v
  keep : ∀ i h h', tn i h → (∀ b ∈ fp, ∀ o, h.get? b = some o → h'.get? b = some o) → tn i h'
  item : ∀ (X : Cx), X.prog = P → X.w = w → X.K = K → X.calm = true → ∀ (i : Nat) (pins : List (Addr × Obj)) (s : Shared) (σ : St) (H : Hp) (E : Value → Shared → Prop), Inv X pins σ H s → (∀ b ∈ fp, FpOk X pins H b) → tn i s.heap → J.go i H →
    wpAny (model P w) X.A (pyNext (.ref it)) (fun r s1 => ∃ u, r = some u ∧
      wpAny (model P w) X.A (letOwnedTupleGo tg (.ref it) u) (fun _ s2 => ∃ x H', Inv X pins σ H' s2 ∧ RelV x u ∧ J.yld i H x H' ∧ tn (i + 1) s2.heap ∧ ∀ b ∈ fp, H' b = none) E s1) E s
  done : ∀ (X : Cx), X.prog = P → X.w = w → X.K = K → X.calm = true → ∀ (i : Nat) (pins : List (Addr × Obj)) (s : Shared) (σ : St) (H : Hp) (E : Value → Shared → Prop), Inv X pins σ H s → (∀ b ∈ fp, FpOk X pins H b) → tn i s.heap → J.stop i H →
    wpAny (model P w) X.A (pyNext (.ref it)) (fun r s1 => r = none ∧ Inv X pins σ H s1) E s
  self : ∀ (A : Around) (i : Nat) (s : Shared) (Q : Value → Shared → Prop) (E : Value → Shared → Prop), tn i s.heap → Q (.ref it) s → wpAny (model P w) A (pyIter (.ref it)) Q E s
abbrev TI := St → Hp → (It → Hp → Prop) → Prop
def PIE (X : Cx) (pins : List (Addr × Obj)) (σ : St) (tg : Expr) (R : It → Hp → Prop) (itv : Value) (s2 : Shared) : Prop :=
  ∃ (it : Addr) (fp : List Addr) (tn : Nat → Heap → Prop) (J : It) (H' : Hp), itv = .ref it ∧ Inv X pins σ H' s2 ∧ Turn X.prog X.w X.K tg J fp it tn ∧ tn 0 s2.heap ∧ (∀ b ∈ fp, FpOk X pins H' b) ∧ R J H'
def PI (X : Cx) (tg iter : Expr) (wi : TI) : Prop :=
  ∀ (pins : List (Addr × Obj)) (s : Shared) (σ : St) (H : Hp) (R : It → Hp → Prop), Inv X pins σ H s → wi σ H R →
    wpAny (model X.prog X.w) X.A (eval iter X.env) (fun v s1 => wpAny (model X.prog X.w) X.A (pyIter v) (PIE X pins σ tg R) X.xe s1) X.xe s
theorem go_of {M : Model} {A : Around} {E : Value → Shared → Prop} {s : Shared} {tg : Expr} {it : Addr} {u : Value} {o : Obj} {n : String} {vs : Array Value} {Q : Unit → Shared → Prop} (ho : s.heap.get? it = some o) (hc : o.cls = .type n) (hd : o.data = .fields vs)
    (hn : ["enumerate", "zip", "dict_itemiterator", "dict_reverseitemiterator", "odict_iterator", "itertools.zip_longest", "itertools.pairwise"].contains n = false) (hQ : Q () s) : wpAny M A (letOwnedTupleGo tg (.ref it) u) Q E s := by
  unfold letOwnedTupleGo
  cases tg <;> first
    | exact wpAny_pure hQ
    | (cases u <;> first
        | exact wpAny_pure hQ
        | (refine wpAny_bind (wpAny_load ho ?_)
           rw [hc, hd]
           show wpAny M A (if (["enumerate", "zip", "dict_itemiterator", "dict_reverseitemiterator", "odict_iterator", "itertools.zip_longest", "itertools.pairwise"].contains n && vs[0]? == some (rawInt _)) = true then _ else _) Q E s
           rw [if_neg (by intro h; rw [hn, Bool.false_and] at h; cases h)]
           exact wpAny_pure hQ))
def Itl (K : PySem.W.Frag) (a : Addr) : It :=
  ⟨fun i H => ∃ xs x, SqL K H a xs ∧ xs[i]? = some x, fun i H x H' => H' = H ∧ ∀ xs, SqL K H a xs → xs[i]? = some x, fun i H => ∃ xs, SqL K H a xs ∧ xs.length ≤ i⟩
def Itt (K : PySem.W.Frag) (a : Addr) : It :=
  ⟨fun i H => ∃ xs x, SqT K H a xs ∧ xs[i]? = some x, fun i H x H' => H' = H ∧ ∀ xs, SqT K H a xs → xs[i]? = some x, fun i H => ∃ xs, SqT K H a xs ∧ xs.length ≤ i⟩
def Itr (lo : Int) (n : Nat) : It := ⟨fun i _ => i < n, fun i H x H' => H' = H ∧ x = .int (lo + i), fun i _ => n ≤ i⟩
theorem turn_list {P : Program} {w : World} {K : PySem.W.Frag} {tg : Expr} (a it : Addr) : Turn P w K tg (Itl K a) [it] it (fun i h => h.IsListIter it a i) where
  mem := by simp
  obj := fun i h st b hb => by
    have e : b = it := by simpa using hb
    subst e
    obtain ⟨o, e, c, d⟩ := st
    exact ⟨o, e, fun v z => by rw [d] at z; cases z⟩
  keep := fun i h h' st k => st.at fun o e => k it (by simp) o e
  item := by
    intro X hP hw hK hc i pins s σ H E I hf st hg
    subst hP hw hK
    obtain ⟨xs, x, hq, hx⟩ := hg
    obtain ⟨its, rv, p, hz⟩ := I.list hq
    obtain ⟨u, hu, ru⟩ := rv.get hx
    obtain ⟨f0, f1, f2, f3, f4, f5⟩ := hf it (by simp)
    refine wpAny_pyNext_list_item st p.isList (x := u) (by simpa using hu) fun h' st' sb => ?_
    have I1 : Inv X pins σ H { s with heap := h' } := I.turned (t' := s.toks) (fun b o hb e => (sb.2 b hb).trans e) f0 f1 f3 f4 f5
    obtain ⟨o, e, c, d⟩ := id st'
    exact ⟨u, rfl, go_of (s := { s with heap := h' }) e c d (by decide) ⟨x, H, I1, ru, ⟨rfl, fun ys hy => by rw [I.list_inj hy hq]; exact hx⟩, st', fun b hb => (hf b hb).1⟩⟩
  done := by
    intro X hP hw hK hc i pins s σ H E I hf st hg
    subst hP hw hK
    obtain ⟨xs, hq, hx⟩ := hg
    obtain ⟨its, rv, p, hz⟩ := I.list hq
    obtain ⟨f0, f1, f2, f3, f4, f5⟩ := hf it (by simp)
    have hl := rv.length
    exact wpAny_pyNext_list_end (I.ok.hd hc) st p.isList (by simp; omega) fun h' eb => ⟨rfl, I.turned (t' := s.toks) (fun b o hb e => eb b o hb e) f0 f1 f3 f4 f5⟩
  self := fun _ _ _ _ _ st h => wpAny_pyIter_listiter st h
theorem turn_range {P : Program} {w : World} {K : PySem.W.Frag} {tg : Expr} (it : Addr) (lo : Int) (n : Nat) : Turn P w K tg (Itr lo n) [it] it (fun i h => IsRangeIter h it (lo + (i : Nat) * 1) ((n : Int) - (i : Nat)) 1) where
  mem := by simp
  obj := fun i h st b hb => by
    have e : b = it := by simpa using hb
    subst e
    exact ⟨_, st, fun v z => by
      have z' : Data.fields _ = Data.cell v := z
      cases z'⟩
  keep := fun i h h' st k => k it (by simp) _ st
  item := by
    intro X hP hw hK hc i pins s σ H E I hf st hg
    subst hP hw hK
    obtain ⟨f0, f1, f2, f3, f4, f5⟩ := hf it (by simp)
    have W := Walks.range (prog := X.prog) (w := X.w) (I.ok.hd hc) it lo 1 n
    refine W.item i s _ _ hg st fun v h' tk hv st' kk => ?_
    obtain ⟨t, rfl⟩ := hv
    have I1 : Inv X pins σ H { s with heap := h', toks := tk } := I.turned (fun b o hb e => kk b o (by simpa using hb) e) f0 f1 f3 f4 f5
    refine ⟨_, rfl, go_of (s := { s with heap := h', toks := tk }) (n := "range_iterator") st' rfl rfl (by decide) ⟨.int (lo + i), H, I1, ⟨t, ?_⟩, ⟨rfl, rfl⟩, st', fun b hb => (hf b hb).1⟩⟩
    rw [Int.mul_one]
  done := by
    intro X hP hw hK hc i pins s σ H E I hf st hg
    subst hP hw hK
    obtain ⟨f0, f1, f2, f3, f4, f5⟩ := hf it (by simp)
    exact wpAny_pyNext_range_end (I.ok.hd hc) st (by have : n ≤ i := hg; omega) fun h' eb => ⟨rfl, I.turned (t' := s.toks) (fun b o hb e => eb b o hb e) f0 f1 f3 f4 f5⟩
  self := fun _ _ _ _ _ st h => wpAny_pyIter_rangeiter st h
end L2
namespace L2
open PySem PySem.Spec PyProof.Rows
section
variable {X : Cx} {tg : Expr}
def iList (K : PySem.W.Frag) (tl : TE) : TI := fun σ H R => tl σ H fun x H1 => ∃ a, x = .ref a ∧ (∃ xs, SqL K H1 a xs) ∧ R (Itl K a) H1
def iTup (K : PySem.W.Frag) (tl : TE) : TI := fun σ H R => tl σ H fun x H1 => ∃ a, x = .ref a ∧ (∃ xs, SqT K H1 a xs) ∧ R (Itt K a) H1
theorem pi_list {l : Expr} {tl : TE} (hl : PE X l tl) : PI X tg l (iList X.K tl) := by
  intro pins s σ H R I h
  refine thn (hl pins s σ H _ I h) fun v s1 ⟨x, H1, I1, r1, q1⟩ => ?_
  obtain ⟨a, e, ⟨xs, hq⟩, q⟩ := q1
  subst e
  cases r1
  obtain ⟨its, rv, p, hz⟩ := I1.list hq
  refine wpAny_pyIter_list p.isList ?_
  refine ⟨s1.heap.objs.size, [s1.heap.objs.size], _, _, H1, rfl, I1.kept (t' := s1.toks) fun b o e => Heap.get?_push_of_some _ e, turn_list a _, ⟨_, Heap.get?_push_size _ rfl, rfl, rfl⟩, fun b hb => ?_, q⟩
  have e : b = s1.heap.objs.size := by simpa using hb
  subst e
  exact I1.fpOk (Nat.le_refl _) (I1.hok.fresh (Nat.le_refl _))
theorem range_it {pins : List (Addr × Obj)} {σ : St} {H : Hp} {s : Shared} {R : It → Hp → Prop} {E : Value → Shared → Prop} {lo hi : Int} {t u v : Tok} {tk : Nat} (I : Inv X pins σ H s) (h1 : -(2 ^ 62) ≤ lo) (h2 : lo < 2 ^ 62) (h3 : -(2 ^ 62) ≤ hi) (h4 : hi < 2 ^ 62)
    (q : R (Itr lo (hi - lo).toNat) H) : wpAny (model X.prog X.w) X.A (pyIter (.ref s.heap.objs.size)) (PIE X pins σ tg R) E { s with heap := s.heap.push { cls := .type "range", data := .fields #[.int lo t, .int hi u, .int 1 v] }, toks := tk } := by
  refine wpAny_pyIter_range (IsRange.new ..) (small_one h1 h2 h3 h4) ?_
  have I1 : Inv X pins σ H { s with heap := s.heap.push { cls := .type "range", data := .fields #[.int lo t, .int hi u, .int 1 v] }, toks := tk } := I.kept fun b o e => Heap.get?_push_of_some _ e
  refine ⟨(s.heap.push { cls := .type "range", data := .fields #[.int lo t, .int hi u, .int 1 v] }).objs.size, [(s.heap.push { cls := .type "range", data := .fields #[.int lo t, .int hi u, .int 1 v] }).objs.size], _, _, H, rfl,
    I1.kept (t' := tk) fun b o e => Heap.get?_push_of_some _ e, turn_range _ lo (hi - lo).toNat, ?_, fun b hb => ?_, q⟩
  · have e1 : lo + ((0 : Nat) : Int) * 1 = lo := by simp
    have e2 : (((hi - lo).toNat : Nat) : Int) - ((0 : Nat) : Int) = Builtin.Range.rangeSize lo hi 1 := by rw [rangeSize_one]; split <;> omega
    show IsRangeIter _ _ (lo + ((0 : Nat) : Int) * 1) ((((hi - lo).toNat : Nat) : Int) - ((0 : Nat) : Int)) 1
    rw [e1, e2]
    exact Heap.get?_push_size _ rfl
  · have e : b = (s.heap.push { cls := .type "range", data := .fields #[.int lo t, .int hi u, .int 1 v] }).objs.size := by simpa using hb
    subst e
    exact I1.fpOk (Nat.le_refl _) (I1.hok.fresh (Nat.le_refl _))
def iRng1 (ta : TA) : TI := fun σ H R => ta σ H fun vs H1 => ∃ j : Int, vs = [.int j] ∧ -(2 ^ 62) ≤ j ∧ j < 2 ^ 62 ∧ R (Itr 0 j.toNat) H1
def iRng2 (ta : TA) : TI := fun σ H R => ta σ H fun vs H1 => ∃ i j : Int, vs = [.int i, .int j] ∧ (-(2 ^ 62) ≤ i ∧ i < 2 ^ 62 ∧ -(2 ^ 62) ≤ j ∧ j < 2 ^ 62) ∧ R (Itr i (j - i).toNat) H1
theorem pi_range1 {a : Expr} {ta : TA} {p pos : Pos} (hg : Gl X "range") (hm : X.mg "range" = none) (ha : PA X [a] ta) (hs : starEach [a] X.env = [(false, eval a X.env)] := by rfl) : PI X tg (.Call (.Name "range" p) [a] [] pos) (iRng1 ta) := by
  intro pins s σ H R I h
  refine Call_ (ld_blt I hg hm boot_range (PyProof.Rows.callWith_type1 (thn (ha pos pins s σ H _ I h) fun us s1 ⟨vs, H1, I1, r1, q1⟩ => ?_) hs rfl))
  obtain ⟨j, e, q1, q2, q⟩ := q1
  subst e
  cases r1 with
  | cons r rr =>
    cases rr
    obtain ⟨t, rfl⟩ := r
    exact call_range_1 (range_it I1 (by omega) (by omega) q1 q2 (by simpa using q))
def tFor (wi : TI) (g : TG) (tb : TS) : TS := fun D σ H => wi σ H fun J H1 => ∃ W : Nat → Nat → St → Hp → Prop, (∃ m, W 0 m σ H1) ∧ ∀ i m σ H, W i m σ H →
  (J.stop i H ∧ D.nx σ H) ∨ (J.go i H ∧ ∃ N : St → Hp → Prop, (∀ σ' H', N σ' H' → ∃ m', m' < m ∧ W (i + 1) m' σ' H') ∧ ∀ x H', J.yld i H x H' → g x σ H' fun σ2 H2 => tb { D with nx := N, ct := N, bk := D.nx } σ2 H2)
def pinsAt (fp : List Addr) (h : Heap) : List (Addr × Obj) := fp.filterMap fun b => (h.get? b).map fun o => (b, o)
theorem mem_pinsAt {fp : List Addr} {h : Heap} {b : Addr} {o : Obj} (hb : b ∈ fp) (e : h.get? b = some o) : (b, o) ∈ pinsAt fp h := List.mem_filterMap.mpr ⟨b, hb, by rw [e]; rfl⟩
theorem of_pinsAt {fp : List Addr} {h : Heap} {p : Addr × Obj} (hp : p ∈ pinsAt fp h) : p.1 ∈ fp ∧ h.get? p.1 = some p.2 := by
  obtain ⟨b, hb, e⟩ := List.mem_filterMap.mp hp
  cases q : h.get? b with
  | none => rw [q] at e; cases e
  | some o =>
    rw [q] at e
    have e' : (b, o) = p := Option.some.inj e
    subst e'
    exact ⟨hb, q⟩
theorem Inv.pinned {pins : List (Addr × Obj)} {σ : St} {H : Hp} {s : Shared} {fp : List Addr} (I : Inv X pins σ H s) (hf : ∀ b ∈ fp, FpOk X pins H b) (ho : ∀ b ∈ fp, ∃ o, s.heap.get? b = some o ∧ ∀ v, o.data ≠ .cell v) : Inv X (pins ++ pinsAt fp s.heap) σ H s :=
  I.pins_of fun p hp => (List.mem_append.mp hp).elim (fun z => I.pin p (List.mem_append_right _ z)) fun z => by
    obtain ⟨hb, e⟩ := of_pinsAt z
    obtain ⟨f0, f1, f2, _⟩ := hf p.1 hb
    obtain ⟨o, e', d⟩ := ho p.1 hb
    rw [e] at e'; cases e'
    exact ⟨e, f0, f1, f2, d⟩
theorem Inv.unpinned {pins pl : List (Addr × Obj)} {σ : St} {H : Hp} {s : Shared} (I : Inv X (pins ++ pl) σ H s) : Inv X pins σ H s := I.pins_of fun p hp => I.pin p (List.mem_append_right _ (List.mem_append_left _ hp))
theorem ps_for {iter : Expr} {body : List Stmt} {wi : TI} {g : TG} {tb : TS} {pos : Pos} (hp : PassesOwn (model X.prog X.w) X.A X.env X.xe) (hc : X.calm = true) (hi : PI X tg iter wi) (hg : PG X tg g) (hb : PSs X body tb)
    (hs : ∀ x, foldedSetIterable iter X.env x = pure x := by intro _; rfl) : PS X (.For tg iter body [] pos) (tFor wi g tb) := by
  intro pins s σ H D I h
  refine wpAny_For (thn (hi pins s σ H _ I h) fun v s1 h1 => thn h1 fun itv s2 h2 => ?_) hs
  obtain ⟨it, fp, tn, J, H2, e, I2, T, st2, f2, W, ⟨m0, w0⟩, turn⟩ := h2
  subst e
  -- what stays true of the iterator's objects through the loop
  have stat : ∀ {H' : Hp}, (∀ b ∈ fp, H' b = none) → ∀ b ∈ fp, FpOk X pins H' b := fun hn b hb => ⟨hn b hb, (f2 b hb).2⟩
  refine codeAny_forLoop_any (fun n s' => ∃ i σ' H', Inv X pins σ' H' s' ∧ tn i s'.heap ∧ (∀ b ∈ fp, H' b = none) ∧ W i n σ' H') ?_ m0 ⟨0, σ, H2, I2, st2, fun b hb => (f2 b hb).1, w0⟩
  rintro n s3 ⟨i, σ3, H3, I3, st3, fr3, w3⟩
  rcases turn i n σ3 H3 w3 with ⟨stop, qn⟩ | ⟨go, N, hN, step⟩
  · refine wpAny_passesOwn hp (thn (T.done X rfl rfl rfl hc i pins s3 σ3 H3 X.xe I3 (stat fr3) st3 stop) fun r s4 ⟨hr, I4⟩ => ?_)
    subst hr
    exact wpAny_execs_nil ⟨σ3, H3, I4, qn⟩
  · refine wpAny_passesOwn hp (thn (T.item X rfl rfl rfl hc i pins s3 σ3 H3 X.xe I3 (stat fr3) st3 go) fun r s4 ⟨u, hr, h4⟩ => ?_)
    subst hr
    refine wpAny_passesOwn hp (thn h4 fun _ s5 ⟨x, H5, I5, r5, y5, st5, fr5⟩ => ?_)
    have I5' := I5.pinned (stat fr5) (T.obj _ _ st5)
    refine wpAny_passesOwn hp (thn (hg _ s5 σ3 H5 x u _ I5' r5 (step x H5 y5)) fun _ s6 ⟨σ6, H6, I6, q6⟩ => ?_)
    refine wpAny_passesOwn hp (thn (hb _ s6 σ6 H6 _ I6 q6) fun f s7 q7 => ?_)
    have again : ∀ {σ7 : St} {H7 : Hp}, Inv X (pins ++ pinsAt fp s5.heap) σ7 H7 s7 → N σ7 H7 → ∃ m, m < n ∧ ∃ i σ' H', Inv X pins σ' H' s7 ∧ tn i s7.heap ∧ (∀ b ∈ fp, H' b = none) ∧ W i m σ' H' := fun {σ7 H7} I7 n7 => by
      obtain ⟨m', hm, w7⟩ := hN σ7 H7 n7
      refine ⟨m', hm, i + 1, σ7, H7, I7.unpinned, T.keep _ _ _ st5 fun b hb o e => (I7.pin (b, o) (List.mem_append_right _ (List.mem_append_right _ (mem_pinsAt hb e)))).1, fun b hb => ?_, w7⟩
      obtain ⟨o, e, d⟩ := T.obj _ _ st5 b hb
      exact (I7.pin (b, o) (List.mem_append_right _ (List.mem_append_right _ (mem_pinsAt hb e)))).2.1
    cases f with
    | next => obtain ⟨σ7, H7, I7, n7⟩ := q7; exact again I7 n7
    | cont => obtain ⟨σ7, H7, I7, n7⟩ := q7; exact again I7 n7
    | brk => obtain ⟨σ7, H7, I7, q7⟩ := q7; exact ⟨σ7, H7, I7.unpinned, q7⟩
    | ret v => obtain ⟨x7, σ7, H7, I7, r7, q7⟩ := q7; exact ⟨x7, σ7, H7, I7.unpinned, r7, q7⟩
end
theorem for_list {K : PySem.W.Frag} {a : Addr} {xs : List V} {g : TG} {tb : TS} {D : Ends} {σ : St} {H : Hp} (Pv : Nat → St → Hp → Prop) (h0 : Pv 0 σ H) (hl : ∀ i σ H, i ≤ xs.length → Pv i σ H → SqL K H a xs)
    (hs : ∀ i x σ H, xs[i]? = some x → Pv i σ H → g x σ H fun σ2 H2 => tb { D with nx := Pv (i + 1), ct := Pv (i + 1), bk := D.nx } σ2 H2) (hd : ∀ σ H, Pv xs.length σ H → D.nx σ H) :
    ∃ W : Nat → Nat → St → Hp → Prop, (∃ m, W 0 m σ H) ∧ ∀ i m σ H, W i m σ H →
      ((Itl K a).stop i H ∧ D.nx σ H) ∨ ((Itl K a).go i H ∧ ∃ N : St → Hp → Prop, (∀ σ' H', N σ' H' → ∃ m', m' < m ∧ W (i + 1) m' σ' H') ∧ ∀ x H', (Itl K a).yld i H x H' → g x σ H' fun σ2 H2 => tb { D with nx := N, ct := N, bk := D.nx } σ2 H2) := by
  refine ⟨fun i m σ H => m = xs.length - i ∧ i ≤ xs.length ∧ Pv i σ H, ⟨xs.length, by simp, Nat.zero_le _, h0⟩, ?_⟩
  rintro i m σ H ⟨rfl, hi, p⟩
  have q := hl i σ H hi p
  by_cases hlt : i < xs.length
  · refine .inr ⟨⟨xs, xs[i], q, by simp [hlt]⟩, Pv (i + 1), fun σ' H' p' => ⟨xs.length - (i + 1), by omega, rfl, hlt, p'⟩, fun x H' y => ?_⟩
    obtain ⟨e, y⟩ := y
    subst e
    exact hs i x σ _ (y xs q) p
  · have e : i = xs.length := by omega
    subst e
    exact .inl ⟨⟨xs, q, Nat.le_refl _⟩, hd σ H p⟩
theorem for_range {lo : Int} {n : Nat} {g : TG} {tb : TS} {D : Ends} {σ : St} {H : Hp} (Pv : Nat → St → Hp → Prop) (h0 : Pv 0 σ H)
    (hs : ∀ i σ H, i < n → Pv i σ H → g (.int (lo + i)) σ H fun σ2 H2 => tb { D with nx := Pv (i + 1), ct := Pv (i + 1), bk := D.nx } σ2 H2) (hd : ∀ σ H, Pv n σ H → D.nx σ H) :
    ∃ W : Nat → Nat → St → Hp → Prop, (∃ m, W 0 m σ H) ∧ ∀ i m σ H, W i m σ H →
      ((Itr lo n).stop i H ∧ D.nx σ H) ∨ ((Itr lo n).go i H ∧ ∃ N : St → Hp → Prop, (∀ σ' H', N σ' H' → ∃ m', m' < m ∧ W (i + 1) m' σ' H') ∧ ∀ x H', (Itr lo n).yld i H x H' → g x σ H' fun σ2 H2 => tb { D with nx := N, ct := N, bk := D.nx } σ2 H2) := by
  refine ⟨fun i m σ H => m = n - i ∧ i ≤ n ∧ Pv i σ H, ⟨n, by simp, Nat.zero_le _, h0⟩, ?_⟩
  rintro i m σ H ⟨rfl, hi, p⟩
  by_cases hlt : i < n
  · refine .inr ⟨hlt, Pv (i + 1), fun σ' H' p' => ⟨n - (i + 1), by omega, rfl, hlt, p'⟩, fun x H' y => ?_⟩
    obtain ⟨e, y⟩ := y
    subst e y
    exact hs i σ _ hlt p
  · have e : i = n := by omega
    subst e
    exact .inl ⟨Nat.le_refl _, hd σ H p⟩
end L2
namespace L2
open PySem PySem.Spec PyProof.Rows
abbrev R2 := V → V → Hp → VK → Prop
def OpR (X : Cx) (f : Value → Value → Sem Value) (r : R2) : Prop :=
  ∀ (pins : List (Addr × Obj)) (s : Shared) (σ : St) (H : Hp) (x y : V) (v u : Value) (Q : VK), Inv X pins σ H s → RelV x v → RelV y u → r x y H Q →
    wpAny (model X.prog X.w) X.A (f v u) (EP X pins σ Q) X.xe s
def CallR (X : Cx) (f : Value) (r : List V → Hp → VK → Prop) : Prop :=
  ∀ (pins : List (Addr × Obj)) (s : Shared) (σ : St) (H : Hp) (xs : List V) (us : List Value) (Q : VK), Inv X pins σ H s → Vals xs us → r xs H Q →
    wpAny (model X.prog X.w) X.A (call f us) (EP X pins σ Q) X.xe s
def tOp (r : R2) (ta tb : TE) : TE := fun σ H Q => ta σ H fun x H1 => tb σ H1 fun y H2 => r x y H2 Q
def tUn (r : V → Hp → VK → Prop) (ta : TE) : TE := fun σ H Q => ta σ H fun x H1 => r x H1 Q
def rI (C : Int → Int → Prop) (g : Int → Int → V) : R2 := fun x y H Q => ∃ i j, x = .int i ∧ y = .int j ∧ C i j ∧ Q (g i j) H
def rI0 (g : Int → Int → V) : R2 := fun x y H Q => ∃ i j, x = .int i ∧ y = .int j ∧ Q (g i j) H
def rU (g : Int → V) : V → Hp → VK → Prop := fun x H Q => ∃ i, x = .int i ∧ Q (g i) H
section
variable {X : Cx} {a b c : Expr} {ta tb tc : TE} {pos : Pos}
theorem binT (ha : PE X a ta) (hb : PE X b tb) {pins : List (Addr × Obj)} {s : Shared} {σ : St} {H : Hp} {R : V → V → Hp → Prop} (I : Inv X pins σ H s)
    (h : ta σ H fun x H1 => tb σ H1 fun y H2 => R x y H2) {Q : Value → Shared → Prop} {f : Value → Value → Sem Value}
    (hf : ∀ v u s2 x y H2, Inv X pins σ H2 s2 → RelV x v → RelV y u → R x y H2 → wpAny (model X.prog X.w) X.A (f v u) Q X.xe s2) :
    wpAny (model X.prog X.w) X.A (eval a X.env) (fun v s₁ => wpAny (model X.prog X.w) X.A (eval b X.env) (fun u s₂ => wpAny (model X.prog X.w) X.A (f v u) Q X.xe s₂) X.xe s₁) X.xe s := by
  refine thn (ha pins s σ H _ I h) fun v s1 ⟨x, H1, I1, r1, q1⟩ => ?_
  refine thn (hb pins s1 σ H1 _ I1 q1) fun u s2 ⟨y, H2, I2, r2, q2⟩ => ?_
  exact hf v u s2 x y H2 I2 r1 r2 q2
theorem pe_op {op : Operator} {r : R2} (ho : OpR X (binaryOp op) r) (ha : PE X a ta) (hb : PE X b tb) : PE X (.BinOp a op b pos) (tOp r ta tb) := by
  intro pins s σ H Q I h
  exact wpAny_BinOp (binT ha hb I h fun v u s2 x y H2 I2 rx ry q => ho pins s2 σ H2 x y v u Q I2 rx ry q)
theorem opI {f : Value → Value → Sem Value} {C : Int → Int → Prop} {g : Int → Int → Int}
    (rule : ∀ (i j : Int) (t u : Tok) (s : Shared) (Q : Value → Shared → Prop) (E : Value → Shared → Prop), C i j → Q (.int (g i j) s.toks) { s with toks := s.toks + 1 } → wpAny (model X.prog X.w) X.A (f (.int i t) (.int j u)) Q E s) :
    OpR X f (rI C fun i j => .int (g i j)) := by
  intro pins s σ H x y v u Q I rx ry h
  obtain ⟨i, j, rfl, rfl, hc, q⟩ := h
  obtain ⟨t, rfl⟩ := rx
  obtain ⟨t', rfl⟩ := ry
  exact rule i j t t' s _ _ hc ⟨.int (g i j), H, I.tok _, ⟨_, rfl⟩, q⟩
theorem opI0 {f : Value → Value → Sem Value} {g : Int → Int → Int}
    (rule : ∀ (i j : Int) (t u : Tok) (s : Shared) (Q : Value → Shared → Prop) (E : Value → Shared → Prop), Q (.int (g i j) s.toks) { s with toks := s.toks + 1 } → wpAny (model X.prog X.w) X.A (f (.int i t) (.int j u)) Q E s) :
    OpR X f (rI0 fun i j => .int (g i j)) := by
  intro pins s σ H x y v u Q I rx ry h
  obtain ⟨i, j, rfl, rfl, q⟩ := h
  obtain ⟨t, rfl⟩ := rx
  obtain ⟨t', rfl⟩ := ry
  exact rule i j t t' s _ _ ⟨.int (g i j), H, I.tok _, ⟨_, rfl⟩, q⟩
theorem opB0 {f : Value → Value → Sem Value} {g : Int → Int → Bool}
    (rule : ∀ (i j : Int) (t u : Tok) (s : Shared) (Q : Value → Shared → Prop) (E : Value → Shared → Prop), Q (.bool (g i j)) s → wpAny (model X.prog X.w) X.A (f (.int i t) (.int j u)) Q E s) :
    OpR X f (rI0 fun i j => .bl (g i j)) := by
  intro pins s σ H x y v u Q I rx ry h
  obtain ⟨i, j, rfl, rfl, q⟩ := h
  obtain ⟨t, rfl⟩ := rx
  obtain ⟨t', rfl⟩ := ry
  exact rule i j t t' s _ _ ⟨.bl (g i j), H, I, rfl, q⟩
def CPow (i j : Int) : Prop := 0 ≤ j ∧ j ≤ 1000000 ∧ i.natAbs < 2 ^ 64
def CMul (i j : Int) : Prop := (-(2 ^ 64) < i ∧ i < 2 ^ 64) ∨ (-(2 ^ 64) < j ∧ j < 2 ^ 64)
theorem CMul.ok {i j : Int} (h : CMul i j) : IntMulOk i j := by
  rcases h with ⟨h1, h2⟩ | ⟨h1, h2⟩
  · exact .of_left (intBits_le_64 h1 h2)
  · exact .of_right (intBits_le_64 h1 h2)
theorem op_add : OpR X (binaryOp .Add) (rI0 fun i j => .int (i + j)) := opI0 fun _ _ _ _ _ _ _ q => add_int q
theorem op_sub : OpR X (binaryOp .Sub) (rI0 fun i j => .int (i - j)) := opI0 fun _ _ _ _ _ _ _ q => sub_int q
theorem op_mul : OpR X (binaryOp .Mult) (rI CMul fun i j => .int (i * j)) := opI fun _ _ _ _ _ _ _ hc q => mul_int q hc.ok
theorem op_mod : OpR X (binaryOp .Mod) (rI (fun _ j => 0 < j) fun i j => .int (i % j)) := opI fun i j _ _ _ _ _ hc q => by
  have h1 : (0 : Int) < j := hc
  exact mod_int' (by omega) (by rw [Int.fmod_eq_emod_of_nonneg i (by omega)]; exact q)
theorem op_pow : OpR X (binaryOp .Pow) (rI CPow fun i j => .int (i ^ j.toNat)) := opI fun _ _ _ _ _ _ _ hc q => pow_int_small hc.1 hc.2.1 hc.2.2 q
end
def scal : V → V → Bool
  | .non, .non => true | .non, .int _ => true | .int _, .non => true | .non, .bl _ => true | .bl _, .non => true | .non, .str _ => true | .str _, .non => true
  | .int _, .int _ => true | .bl _, .bl _ => true | .str _, .str _ => true | .byt _, .byt _ => true
  | .int _, .str _ => true | .str _, .int _ => true | .bl _, .str _ => true | .str _, .bl _ => true
  | _, _ => false
def rEq : R2 := fun x y H Q => scal x y = true ∧ Q (.bl (decide (x = y))) H
def rNe : R2 := fun x y H Q => scal x y = true ∧ Q (.bl (!decide (x = y))) H
theorem dec_int {i j : Int} : decide (V.int i = V.int j) = (i == j) := by
  rw [Bool.eq_iff_iff]
  simp
theorem dec_bl {i j : Bool} : decide (V.bl i = V.bl j) = (i == j) := by
  rw [Bool.eq_iff_iff]
  simp
theorem dec_str {i j : Str} : decide (V.str i = V.str j) = (i == j) := by
  rw [Bool.eq_iff_iff]
  simp
theorem dec_byt {i j : Array UInt8} : decide (V.byt i = V.byt j) = (i.toList == j.toList) := by
  rw [Bool.eq_iff_iff]
  cases i
  cases j
  simp
section
variable {X : Cx} {a b c : Expr} {ta tb tc : TE} {pos : Pos}
theorem fin_bl {pins : List (Addr × Obj)} {σ : St} {H : Hp} {s : Shared} {Q : VK} {k k' : Bool} (I : Inv X pins σ H s) (q : Q (.bl k) H) (e : k = k') : EP X pins σ Q (.bool k') s := by
  subst e
  exact ⟨.bl k, H, I, rfl, q⟩
theorem op_eq : OpR X (compareOp .Eq) rEq := by
  intro pins s σ H x y v u Q I rx ry h
  obtain ⟨hs, q⟩ := h
  cases x with
  | non =>
    cases rx
    cases y with
    | non => cases ry; exact PySem.EqNone.eq_none_none (fin_bl I q (by simp))
    | bl j => cases ry; exact PySem.EqNone.eq_none_bool (fin_bl I q (by simp))
    | int j => obtain ⟨t', rfl⟩ := ry; exact PySem.EqNone.eq_none_int (fin_bl I q (by simp))
    | str j => obtain ⟨t', rfl⟩ := ry; exact PySem.EqNone.eq_none_str (fin_bl I q (by simp))
    | _ => exact absurd (show false = true from hs) Bool.false_ne_true
  | bl i =>
    cases rx
    cases y with
    | non => cases ry; exact PySem.EqNone.eq_bool_none (fin_bl I q (by simp))
    | bl j => cases ry; exact eq_bool (fin_bl I q dec_bl)
    | str j => obtain ⟨t', rfl⟩ := ry; exact PySem.EqMixed.eq_bool_str (fin_bl I q (by simp))
    | _ => exact absurd (show false = true from hs) Bool.false_ne_true
  | int i =>
    obtain ⟨t, rfl⟩ := rx
    cases y with
    | non => cases ry; exact PySem.EqNone.eq_int_none (fin_bl I q (by simp))
    | int j => obtain ⟨t', rfl⟩ := ry; exact eq_int (fin_bl I q dec_int)
    | str j => obtain ⟨t', rfl⟩ := ry; exact PySem.EqMixed.eq_int_str (fin_bl I q (by simp))
    | _ => exact absurd (show false = true from hs) Bool.false_ne_true
  | str i =>
    obtain ⟨t, rfl⟩ := rx
    cases y with
    | non => cases ry; exact PySem.EqNone.eq_str_none (fin_bl I q (by simp))
    | bl j => cases ry; exact PySem.EqMixed.eq_str_bool (fin_bl I q (by simp))
    | int j => obtain ⟨t', rfl⟩ := ry; exact PySem.EqMixed.eq_str_int (fin_bl I q (by simp))
    | str j => obtain ⟨t', rfl⟩ := ry; exact eq_str (fin_bl I q dec_str)
    | _ => exact absurd (show false = true from hs) Bool.false_ne_true
  | byt i =>
    obtain ⟨t, rfl⟩ := rx
    cases y with
    | byt j => obtain ⟨t', rfl⟩ := ry; exact PySem.W.eq_bytes (fin_bl I q dec_byt)
    | _ => exact absurd (show false = true from hs) Bool.false_ne_true
  | _ => cases y <;> exact absurd (show false = true from hs) Bool.false_ne_true
theorem op_ne : OpR X (compareOp .NotEq) rNe := by
  intro pins s σ H x y v u Q I rx ry h
  obtain ⟨hs, q⟩ := h
  cases x with
  | non =>
    cases rx
    cases y with
    | non => cases ry; exact PySem.EqNone.ne_none_none (fin_bl I q (by simp))
    | bl j => cases ry; exact PySem.EqNone.ne_none_bool (fin_bl I q (by simp))
    | int j => obtain ⟨t', rfl⟩ := ry; exact PySem.EqNone.ne_none_int (fin_bl I q (by simp))
    | str j => obtain ⟨t', rfl⟩ := ry; exact PySem.EqNone.ne_none_str (fin_bl I q (by simp))
    | _ => exact absurd (show false = true from hs) Bool.false_ne_true
  | bl i =>
    cases rx
    cases y with
    | non => cases ry; exact PySem.EqNone.ne_bool_none (fin_bl I q (by simp))
    | bl j => cases ry; exact ne_bool (fin_bl I q (congrArg not dec_bl))
    | str j => obtain ⟨t', rfl⟩ := ry; exact PySem.EqMixed.ne_bool_str (fin_bl I q (by simp))
    | _ => exact absurd (show false = true from hs) Bool.false_ne_true
  | int i =>
    obtain ⟨t, rfl⟩ := rx
    cases y with
    | non => cases ry; exact PySem.EqNone.ne_int_none (fin_bl I q (by simp))
    | int j => obtain ⟨t', rfl⟩ := ry; exact ne_int (fin_bl I q (congrArg not dec_int))
    | str j => obtain ⟨t', rfl⟩ := ry; exact PySem.EqMixed.ne_int_str (fin_bl I q (by simp))
    | _ => exact absurd (show false = true from hs) Bool.false_ne_true
  | str i =>
    obtain ⟨t, rfl⟩ := rx
    cases y with
    | non => cases ry; exact PySem.EqNone.ne_str_none (fin_bl I q (by simp))
    | bl j => cases ry; exact PySem.EqMixed.ne_str_bool (fin_bl I q (by simp))
    | int j => obtain ⟨t', rfl⟩ := ry; exact PySem.EqMixed.ne_str_int (fin_bl I q (by simp))
    | str j => obtain ⟨t', rfl⟩ := ry; exact ne_str (fin_bl I q (congrArg not dec_str))
    | _ => exact absurd (show false = true from hs) Bool.false_ne_true
  | byt i =>
    obtain ⟨t, rfl⟩ := rx
    cases y with
    | byt j => obtain ⟨t', rfl⟩ := ry; exact PySem.W.ne_bytes (fin_bl I q (congrArg not dec_byt))
    | _ => exact absurd (show false = true from hs) Bool.false_ne_true
  | _ => cases y <;> exact absurd (show false = true from hs) Bool.false_ne_true
theorem op_lt : OpR X (compareOp .Lt) (rI0 fun i j => .bl (decide (i < j))) := opB0 fun _ _ _ _ _ _ _ q => lt_int q
theorem op_le : OpR X (compareOp .LtE) (rI0 fun i j => .bl (decide (i ≤ j))) := opB0 fun _ _ _ _ _ _ _ q => le_int q
theorem op_gt : OpR X (compareOp .Gt) (rI0 fun i j => .bl (decide (j < i))) := opB0 fun _ _ _ _ _ _ _ q => gt_int q
theorem op_ge : OpR X (compareOp .GtE) (rI0 fun i j => .bl (decide (j ≤ i))) := opB0 fun _ _ _ _ _ _ _ q => ge_int q
theorem op_in_str : OpR X (compareOp .In) (fun x y H Q => ∃ i j, x = .str i ∧ y = .str j ∧ Q (.bl (!(Builtin.Str.occurrences j i 0 j.length 1).isEmpty)) H) := by
  intro pins s σ H x y v u Q I rx ry h
  obtain ⟨i, j, rfl, rfl, q⟩ := h
  obtain ⟨t, rfl⟩ := rx
  obtain ⟨t', rfl⟩ := ry
  exact in_str (fin_bl I q rfl)
theorem op_notin_str : OpR X (compareOp .NotIn) (fun x y H Q => ∃ i j, x = .str i ∧ y = .str j ∧ Q (.bl (!(!(Builtin.Str.occurrences j i 0 j.length 1).isEmpty))) H) := by
  intro pins s σ H x y v u Q I rx ry h
  obtain ⟨i, j, rfl, rfl, q⟩ := h
  obtain ⟨t, rfl⟩ := rx
  obtain ⟨t', rfl⟩ := ry
  exact notIn_str (fin_bl I q rfl)
theorem OpR.or {f : Value → Value → Sem Value} {r r' : R2} (h : OpR X f r) (h' : OpR X f r') : OpR X f (fun x y H Q => r x y H Q ∨ r' x y H Q) := by
  intro pins s σ H x y v u Q I rx ry q
  rcases q with q | q
  · exact h pins s σ H x y v u Q I rx ry q
  · exact h' pins s σ H x y v u Q I rx ry q
theorem nomark (b : Expr) {op : CmpOp} (h : op ≠ .In := by decide) (h2 : op ≠ .NotIn := by decide) : behindInMarks op b = false := by
  have e1 : (op == CmpOp.In) = false := by cases op <;> first | rfl | exact absurd rfl h
  have e2 : (op == CmpOp.NotIn) = false := by cases op <;> first | rfl | exact absurd rfl h2
  cases b <;> simp [behindInMarks, e1, e2]
theorem pe_cmpR {op : CmpOp} {r : R2} (ho : OpR X (compareOp op) r) (ha : PE X a ta) (hb : PE X b tb) (hm : behindInMarks op b = false) : PE X (.Compare a [op] [b] pos) (tOp r ta tb) := by
  intro pins s σ H Q I h
  exact wpAny_Compare1 (binT ha hb I h fun v u s2 x y H2 I2 rx ry q => ho pins s2 σ H2 x y v u Q I2 rx ry q) hm
def tTest (t : TE) : TT := fun σ H Q => t σ H fun x H' => ∃ k, x = .bl k ∧ Q k H'
theorem pt_cmpR {op : CmpOp} {r : R2} (ho : OpR X (compareOp op) r) (ha : PE X a ta) (hb : PE X b tb) (hm : behindInMarks op b = false) : PT X (.Compare a [op] [b] pos) (tTest (tOp r ta tb)) := by
  intro pins s σ H Q I h
  refine wpAny_isTrue_Compare1 (thn (ha pins s σ H _ I h) fun v s1 ⟨x, H1, I1, r1, q1⟩ => thn (hb pins s1 σ H1 _ I1 q1) fun u s2 ⟨y, H2, I2, r2, q2⟩ =>
    thn (ho pins s2 σ H2 x y v u _ I2 r1 r2 q2) fun c s3 ⟨z, H3, I3, r3, k, e, q3⟩ => ?_) hm
  subst e
  cases r3
  exact wpAny_truthy_bool ⟨H3, I3, q3⟩
def tChain (r r' : R2) (ta tb tc : TE) : TE := fun σ H Q => ta σ H fun x H1 => tb σ H1 fun y H2 => r x y H2 fun z H3 => ∃ k, z = .bl k ∧
  (if k = true then tc σ H3 fun w' H4 => r' y w' H4 Q else Q (.bl false) H3)
theorem pe_chain {op op' : CmpOp} {r r' : R2} (ho : OpR X (compareOp op) r) (ho' : OpR X (compareOp op') r') (ha : PE X a ta) (hb : PE X b tb) (hc : PE X c tc)
    (hm : lastMarks [op, op'] [b, c] = false := by with_unfolding_all rfl) : PE X (.Compare a [op, op'] [b, c] pos) (tChain r r' ta tb tc) := by
  intro pins s σ H Q I h
  refine Compare_chain (thn (ha pins s σ H _ I h) fun v s1 ⟨x, H1, I1, r1, q1⟩ => chain_link (thn (hb pins s1 σ H1 _ I1 q1) fun u s2 ⟨y, H2, I2, r2, q2⟩ =>
    thn (ho pins s2 σ H2 x y v u _ I2 r1 r2 q2) fun d s3 ⟨z, H3, I3, r3, k, e, q3⟩ => ?_)) hm
  subst e
  cases r3
  refine wpAny_truthy_bool ?_
  cases k with
  | false => exact ite_ff ⟨.bl false, H3, I3, rfl, q3⟩
  | true => exact ite_tt (chain_last (thn (hc pins s3 σ H3 _ I3 q3) fun w' s4 ⟨z', H4, I4, r4, q4⟩ => ho' pins s4 σ H4 y z' u w' Q I4 r2 r4 q4))
theorem line63 : (sizeLine : Nat) < 2 ^ 63 := by rw [sizeLine_eq]; decide
theorem op_add_str : OpR X (binaryOp .Add) (fun x y H Q => ∃ i j, x = .str i ∧ y = .str j ∧ i.length + j.length ≤ sizeLine ∧ Q (.str (i ++ j)) H) := by
  intro pins s σ H x y v u Q I rx ry h
  obtain ⟨i, j, rfl, rfl, hz, q⟩ := h
  obtain ⟨t, rfl⟩ := rx
  obtain ⟨t', rfl⟩ := ry
  exact add_str (fun t' tk => ⟨.str (i ++ j), H, I.tok _, ⟨_, rfl⟩, q⟩) hz
theorem vals1 {x : V} {us : List Value} (r : Vals [x] us) : ∃ u, us = [u] ∧ RelV x u := by
  cases r with
  | cons r1 r2 => cases r2; exact ⟨_, rfl, r1⟩
theorem call_str_int : CallR X (.type "str") (fun xs H Q => ∃ i, xs = [.int i] ∧ i.natAbs.log2 < 1920 ∧ Q (.str (toString i)) H) := by
  intro pins s σ H xs us Q I r h
  obtain ⟨i, rfl, hz, q⟩ := h
  obtain ⟨u, rfl, t, rfl⟩ := vals1 r
  exact PySem.P.str_of_int hz ⟨.str _, H, I.tok _, ⟨_, rfl⟩, q⟩
end
end L2
namespace L2
open PySem PySem.Spec PyProof.Rows
structure ObjM (h : Heap) (x dx C : Addr) (mA : Str → Option Value) : Prop where
  obj : h.get? x = some (PySem.W.instObj C dx)
  ns : h.Ns1 dx mA
  ne : dx ≠ x
theorem lookIn_ns {h : Heap} {dx : Addr} {mA : Str → Option Value} (n : h.Ns1 dx mA) : ∃ od, h.get? dx = some od ∧ ∀ name, PySem.W.lookIn name od = some (mA name) := by
  obtain ⟨o, es, ep, ho, hd, hk, _, hm⟩ := n
  refine ⟨o, ho, fun name => ?_⟩
  have e := hm name
  unfold nsFind findBy at e
  rw [← Array.find?_toList] at e
  unfold PySem.W.lookIn
  rw [hd]
  dsimp only
  split
  · rename_i y q
    rw [q] at e
    exact congrArg some e
  · rename_i q
    rw [q] at e
    have a : es.toList.any (·.refKey) = false := by
      rw [List.any_eq_false]
      intro y hy
      obtain ⟨z, t, hkey⟩ := hk y (Array.mem_toList_iff.mp hy)
      simp [DictEntry.refKey, hkey]
    have a' : ¬ es.toList.any (·.refKey) = true := by rw [a]; exact Bool.false_ne_true
    rw [if_neg a']
    exact congrArg some e
theorem ObjM.look {h : Heap} {x dx C : Addr} {mA : Str → Option Value} (I : ObjM h x dx C mA) : ∃ od, PySem.W.InstAt h x (PySem.W.instObj C dx) C (some od) ∧ ∀ name, PySem.W.lookIn name od = some (mA name) :=
  let ⟨od, ho, hl⟩ := lookIn_ns I.ns
  ⟨od, ⟨I.obj, rfl, rfl, ho⟩, hl⟩
section
variable {prog : Program} {w : World} {A : Around} {E : Value → Shared → Prop} {s : Shared} {K : PySem.W.Frag} {x dx C f : Addr} {mA : Str → Option Value} {name : Str} {v : Value}
theorem get_map {expr : Bool} {Q : Value → Shared → Prop} (X : K.In s.heap) (I : ObjM s.heap x dx C mA) (hg : PySem.W.plainGet K C name = true) (hh : PySem.W.hasDictIn K C = true)
    (ha : PySem.W.findIn K (.ref C) name = some none) (hv : mA name = some v) (hv' : PySem.W.handedIn v = true) (h : Q v { s with toks := s.toks + 1 }) :
    wpAny (model prog w) A (getAttr (.ref x) name expr) Q E s := by
  obtain ⟨od, J, hl⟩ := I.look
  exact PySem.W.get_value X J (PySem.W.plainGet_of hg).1 (PySem.W.findObj_own hh ha rfl (by rw [hl, hv])) hv' h
theorem get_meth {pl : Sem Bool} {Q : Value × List Value → Shared → Prop} (X : K.In s.heap) (I : ObjM s.heap x dx C mA) (hg : PySem.W.plainGet K C name = true)
    (hf : PySem.W.findIn K (.ref C) name = some (some (.ref f))) (ht : PySem.W.isFn K (.ref f) = true) (hv : mA name = none) (h : Q (.ref f, [.ref x]) s) :
    wpAny (model prog w) A (getMethod (.ref x) name pl) Q E s := by
  obtain ⟨od, J, hl⟩ := I.look
  exact PySem.W.method_fn X J (PySem.W.plainGet_of hg).1 (PySem.W.plainGet_of hg).2 hf (beq_iff_eq.mp ht) (by show (PySem.W.lookIn name od).map (·.isSome) = some false; rw [hl, hv]; rfl) h
theorem set_map {ns : List Str} {Q : Unit → Shared → Prop} (X : K.In s.heap) (I : ObjM s.heap x dx C mA)
    (hs : PySem.W.findIn K (.ref C) "__setattr__" = some (some (.builtin "object.__setattr__"))) (hp : PySem.W.plainOver K C = true) (ht : PySem.W.takerIn K C name = some none) (hh : PySem.W.hasDictIn K C = true)
    (hw : PySem.Within mA ns) (hsz : ns.length ≤ sizeLine)
    (h : ∀ h', ObjM h' x dx C (fun y => if y = name then some v else mA y) → Heap.SameBut dx s.heap h' → Q () { s with heap := h', toks := s.toks + 2 }) :
    wpAny (model prog w) A (setAttr (.ref x) name v) Q E s := by
  obtain ⟨od, J, hl⟩ := I.look
  refine PySem.W.set_plain X J hs (PySem.W.osa_open (s := { s with toks := s.toks + 1 }) (r := none) X J hp ht fun b => ?_)
  obtain ⟨cd, hc, hd'⟩ := PySem.W.any_some hh
  have hx : s.heap.get? x = some ⟨.ref C, some dx, .plain, #[]⟩ := I.obj
  refine wpAny_bind (wpAny_pure (wpAny_bind (wpAny_bind (wpAny_loadPart hx (wpAny_bind (PySem.W.Looks.here (s := { s with toks := s.toks + 1 }) (PySem.W.looks_clsIn X hc) ?_))))))
  rw [hd']
  refine wpAny_pure (a := some dx) (wpAny_bind (wpAny_pure (wpAny_bind ?_)))
  refine wpAny_nsSet1 (s := { s with toks := s.toks + 1 }) I.ns fun h' hn2 hs2 => ?_
  obtain ⟨oD, esD, epD, hoD, hdD, hcD⟩ := hn2.count (PySem.Within.cons name v hw)
  refine wpAny_bind (wpAny_lookBehind hoD (by rw [hdD]; exact pastItsLine_dict (Nat.le_trans hcD (by rw [List.length_cons]; omega))) ?_)
  exact wpAny_pure (h _ ⟨(hs2.2 _ (Ne.symm I.ne)).trans I.obj, hn2, I.ne⟩ hs2)
theorem make_map {R : Result → Shared → Prop} {vs : List Value} {kw : List (Str × Value)} (X : K.In s.heap) (hm : PySem.W.makesIn K C = true)
    (hi : PySem.W.findIn K (.ref C) "__init__" = some (some (.ref f))) (hf : PySem.W.typeIn K (.ref f) = some (.type "function"))
    (h : codeAny (model prog w) (A.under (.builtin "type.__call__" ⟨.ref C :: vs, kw⟩)) (.call (.ref f) ⟨.ref (s.heap.objs.size + 1) :: vs, kw⟩) (PySem.W.InitBack (s.heap.objs.size + 1) R)
      { s with heap := (s.heap.push PySem.W.emptyDict).push (PySem.W.instObj C s.heap.objs.size) }) :
    codeAny (model prog w) A (.call (.ref C) ⟨vs, kw⟩) R s := by
  obtain ⟨hh, g, d, t, os⟩ := s
  exact PySem.W.make_core (PySem.W.makes_of X hm) (PySem.W.looks_findIn X hi) (fun self => PySem.W.bind_fn X self hf) (.inl rfl) h
end
def putF (f : Str) (v : V) : List (Str × V) → List (Str × V)
  | [] => [(f, v)]
  | (g, x) :: r => if g = f then (g, v) :: r else (g, x) :: putF f v r
theorem lookup_putF (f g : Str) (v : V) : ∀ fs : List (Str × V), (putF f v fs).lookup g = if g = f then some v else fs.lookup g
  | [] => by
    show List.lookup g [(f, v)] = _
    by_cases h : g = f
    · have hb : (g == f) = true := beq_iff_eq.mpr h
      simp only [List.lookup, hb, if_pos h]
    · have hb : (g == f) = false := beq_eq_false_iff_ne.mpr h
      simp only [List.lookup, hb, if_neg h]
  | (k, x) :: r => by
    have ih := lookup_putF f g v r
    rw [show putF f v ((k, x) :: r) = (if k = f then (k, v) :: r else (k, x) :: putF f v r) from rfl]
    by_cases hk : k = f
    · rw [if_pos hk]
      by_cases h : g = k
      · have hb : (g == k) = true := beq_iff_eq.mpr h
        simp only [List.lookup, hb, if_pos (h.trans hk)]
      · have hb : (g == k) = false := beq_eq_false_iff_ne.mpr h
        simp only [List.lookup, hb, if_neg (fun e : g = f => h (e.trans hk.symm))]
    · rw [if_neg hk]
      by_cases h : g = k
      · have hb : (g == k) = true := beq_iff_eq.mpr h
        simp only [List.lookup, hb, if_neg (fun e : g = f => hk (h.symm.trans e))]
      · have hb : (g == k) = false := beq_eq_false_iff_ne.mpr h
        simp only [List.lookup, hb]
        exact ih
theorem keys_putF (f : Str) (v : V) : ∀ fs : List (Str × V), f ∈ (putF f v fs).map (·.1) ∧ ∀ g, g ∈ fs.map (·.1) → g ∈ (putF f v fs).map (·.1)
  | [] => ⟨by simp [putF], fun g h => by simp at h⟩
  | (k, x) :: r => by
    obtain ⟨i1, i2⟩ := keys_putF f v r
    rw [show putF f v ((k, x) :: r) = (if k = f then (k, v) :: r else (k, x) :: putF f v r) from rfl]
    by_cases hk : k = f
    · rw [if_pos hk]
      subst hk
      exact ⟨by simp, fun g h => by simpa using h⟩
    · rw [if_neg hk]
      refine ⟨?_, fun g h => ?_⟩
      · rw [List.map_cons]
        exact List.mem_cons_of_mem _ i1
      · rw [List.map_cons] at h ⊢
        rcases List.mem_cons.mp h with e | e
        · exact List.mem_cons.mpr (.inl e)
        · exact List.mem_cons_of_mem _ (i2 g e)
theorem length_putF (f : Str) (v : V) : ∀ fs : List (Str × V), (putF f v fs).length ≤ fs.length + 1
  | [] => by simp [putF]
  | (k, x) :: r => by
    have ih := length_putF f v r
    rw [show putF f v ((k, x) :: r) = (if k = f then (k, v) :: r else (k, x) :: putF f v r) from rfl]
    by_cases hk : k = f
    · rw [if_pos hk, List.length_cons, List.length_cons]; omega
    · rw [if_neg hk, List.length_cons, List.length_cons]; omega
theorem RelO.some_of {v : V} {o : Option Value} (r : RelO (some v) o) : ∃ u, o = some u ∧ RelV v u := by
  cases o with
  | none => exact (show False from r).elim
  | some u => exact ⟨u, rfl, r⟩
theorem RelO.none_of {o : Option Value} (r : RelO none o) : o = none := by
  cases o with
  | none => rfl
  | some u => exact (show False from r).elim
theorem handed_of {v : V} {u : Value} (r : RelV v u) : PySem.W.handedIn u = true := by
  cases v with
  | non => cases (show u = Value.none from r); rfl
  | bl b => cases (show u = Value.bool b from r); rfl
  | int i => obtain ⟨t, e⟩ := (show ∃ t, u = Value.int i t from r); cases e; rfl
  | str x => obtain ⟨t, e⟩ := (show ∃ t, u = Value.str x t from r); cases e; rfl
  | byt b => obtain ⟨t, e⟩ := (show ∃ t, u = Value.bytes b t from r); cases e; rfl
  | flt b => obtain ⟨t, e⟩ := (show ∃ t, u = Value.float b t from r); cases e; rfl
  | ref a => cases (show u = Value.ref a from r); rfl
  | ty n => cases (show u = Value.type n from r); rfl
section
variable {P : Program} {w : World} {H H' : Hp} {h h' : Heap} {a C dx : Addr} {fs fs' : List (Str × V)}
theorem ins_get (hok : HOk P w H h) (e : H a = some (.ins C dx fs)) : ∃ mA, ObjM h a dx C mA ∧ (∀ f, RelO (fs.lookup f) (mA f)) ∧ PySem.Within mA (fs.map (·.1)) ∧ fs.length ≤ 1000 ∧ H dx = some (.own a) := by
  obtain ⟨d, z, ne, ob, mA, n, r, q⟩ := (show ObjOk P w H h a (.ins C dx fs) from hok a _ e)
  exact ⟨mA, ⟨ob, n, ne⟩, r, q, z, d⟩
end
structure Cls (K : PySem.W.Frag) (C : Addr) : Prop where
  pg : PySem.W.plainGet K C Str.empty = true
  hd : PySem.W.hasDictIn K C = true
  po : PySem.W.plainOver K C = true
  sa : PySem.W.findIn K (.ref C) "__setattr__" = some (some (.builtin "object.__setattr__"))
theorem Cls.get {K : PySem.W.Frag} {C : Addr} (c : Cls K C) (f : Str) : PySem.W.plainGet K C f = true := c.pg
def NoAttr (K : PySem.W.Frag) (C : Addr) (f : Str) : Prop := PySem.W.findIn K (.ref C) f = some none
theorem NoAttr.taker {K : PySem.W.Frag} {C : Addr} {f : Str} (n : NoAttr K C f) : PySem.W.takerIn K C f = some none := by
  unfold PySem.W.takerIn
  rw [show PySem.W.findIn K (.ref C) f = some none from n]
  rfl
structure Con (K : PySem.W.Frag) (C : Addr) (f : Str) (v : V) (u : Value) : Prop where
  at_ : PySem.W.findIn K (.ref C) f = some (some u)
  rel : RelV v u
  get : PySem.W.specialIn K u "__get__" = some none
  cp : PySem.W.copiedNames.contains f = false
structure Meth (K : PySem.W.Frag) (C : Addr) (m : Str) (f : Addr) : Prop where
  at_ : PySem.W.findIn K (.ref C) m = some (some (.ref f))
  fn : PySem.W.isFn K (.ref f) = true
  kp : PySem.W.keepIn K (.ref f) = true
section
variable {X : Cx} {pins : List (Addr × Obj)} {σ : St} {H : Hp} {s : Shared} {a C dx : Addr} {fs : List (Str × V)} {f : Str} {v : V} {A : Around} {E : Value → Shared → Prop}
theorem getattr_ok {b : Bool} {Q : Value → Shared → Prop} (I : Inv X pins σ H s) (e : H a = some (.ins C dx fs)) (c : Cls X.K C) (n : NoAttr X.K C f) (l : fs.lookup f = some v)
    (h : ∀ u s', Inv X pins σ H s' → RelV v u → Q u s') : wpAny (model X.prog X.w) A (getAttr (.ref a) f b) Q E s := by
  obtain ⟨mA, O, r, _, _, _⟩ := ins_get I.hok e
  obtain ⟨u, hu, ru⟩ := RelO.some_of (v := v) (o := mA f) (by rw [← l]; exact r f)
  exact get_map I.kIn O (c.get f) c.hd n hu (handed_of ru) (h u _ (I.tok _) ru)
theorem getmeth_ok {m : Str} {g : Addr} {pl : Sem Bool} {Q : Value × List Value → Shared → Prop} (I : Inv X pins σ H s) (e : H a = some (.ins C dx fs)) (c : Cls X.K C) (k : Meth X.K C m g) (l : fs.lookup m = none)
    (h : Q (.ref g, [.ref a]) s) : wpAny (model X.prog X.w) A (getMethod (.ref a) m pl) Q E s := by
  obtain ⟨mA, O, r, _, _, _⟩ := ins_get I.hok e
  have hn : mA m = none := RelO.none_of (by rw [← l]; exact r m)
  exact get_meth I.kIn O (c.get m) k.at_ k.fn hn h
theorem setattr_ok {y : V} {u : Value} {Q : Unit → Shared → Prop} (I : Inv X pins σ H s) (e : H a = some (.ins C dx fs)) (c : Cls X.K C) (n : NoAttr X.K C f) (hl : fs.length < 1000) (ry : RelV y u)
    (h : ∀ s', Inv X pins σ (upd H a (.ins C dx (putF f y fs))) s' → Q () s') : wpAny (model X.prog X.w) A (setAttr (.ref a) f u) Q E s := by
  obtain ⟨mA, O, r, wi, _, ho⟩ := ins_get I.hok e
  have hz : (fs.map (·.1)).length ≤ sizeLine := by rw [List.length_map, sizeLine_eq]; omega
  refine set_map I.kIn O c.sa c.po n.taker c.hd wi hz fun h' O' sb => h _ ?_
  have hd : ∃ o, h'.get? dx = some o := let ⟨o, _, _, e', _⟩ := O'.ns; ⟨o, e'⟩
  refine I.write (x := a) (e := dx) (by rw [e]; exact True.intro) (.inr ho) (fun b q hb z => (sb.2 b hb).trans z) hd ?_
  refine ⟨by rw [upd_ne O.ne]; exact ho, ?_, O.ne, O'.obj, _, O'.ns, fun g => ?_, fun g hg => ?_⟩
  · have := length_putF f y fs; omega
  · show RelO ((putF f y fs).lookup g) (if g = f then some u else mA g)
    rw [lookup_putF]
    by_cases q : g = f
    · rw [if_pos q, if_pos q]; exact ry
    · rw [if_neg q, if_neg q]; exact r g
  · by_cases q : g = f
    · rw [q]; exact (keys_putF f y fs).1
    · refine (keys_putF f y fs).2 g (wi g fun z => hg ?_)
      show (if g = f then some u else mA g) = none
      rw [if_neg q]; exact z
theorem Inv.made (I : Inv X pins σ H s) : Inv X pins σ (upd (upd H s.heap.objs.size (.own (s.heap.objs.size + 1))) (s.heap.objs.size + 1) (.ins C s.heap.objs.size []))
    { s with heap := (s.heap.push PySem.W.emptyDict).push (PySem.W.instObj C s.heap.objs.size) } := by
  have e1 : (s.heap.push PySem.W.emptyDict).get? s.heap.objs.size = some PySem.W.emptyDict := Heap.get?_push_size s.heap rfl
  have e2 : ((s.heap.push PySem.W.emptyDict).push (PySem.W.instObj C s.heap.objs.size)).get? (s.heap.objs.size + 1) = some (PySem.W.instObj C s.heap.objs.size) := by
    have := Heap.get?_push_size (s.heap.push PySem.W.emptyDict) (o := PySem.W.instObj C s.heap.objs.size) rfl
    rwa [Heap.size_push] at this
  have e3 : (s.heap.push PySem.W.emptyDict).Ns s.heap.objs.size (fun _ => none) := ⟨PySem.W.emptyDict, #[], _, e1, rfl, (fun e he => absurd he (by simp)), fun _ => rfl⟩
  have I1 := I.laid (a := s.heap.objs.size) (o := .own (s.heap.objs.size + 1)) (h' := s.heap.push PySem.W.emptyDict) (t' := s.toks) (fun b u q => Heap.get?_push_of_some _ q) (Nat.le_refl _) ⟨_, e1⟩
  refine I1.laid (a := s.heap.objs.size + 1) (o := .ins C s.heap.objs.size []) (t' := s.toks) (fun b u q => Heap.get?_push_of_some _ q) (Nat.le_of_eq (Heap.size_push _ _)) ?_
  have ne : s.heap.objs.size ≠ s.heap.objs.size + 1 := Nat.ne_of_lt (Nat.lt_succ_self _)
  refine ⟨by rw [upd_ne ne, upd_same], Nat.zero_le _, ne, e2, fun _ => none, (Heap.Ns1.of_empty e3).at fun o q => Heap.get?_push_of_some _ q, fun _ => True.intro, fun y hy => absurd rfl hy⟩
theorem attr_of {prog : Program} {w : World} {env : Env} {e : Expr} {f : Str} {pos : Pos} {s : Shared} {Q : Value → Shared → Prop} (hb : attributeBase e f env (eval e env) = eval e env)
    (h : wpAny (model prog w) A (eval e env) (fun o s₁ => wpAny (model prog w) A (getAttr o f true) Q E s₁) E s) : wpAny (model prog w) A (eval (.Attribute e f pos) env) Q E s :=
  Attribute_any_ h (by rw [arm_eval_Attribute, hb])
end
def tFld (K : PySem.W.Frag) (ta : TE) (f : Str) : TE := fun σ H Q => ta σ H fun x H1 => ∃ a C dx fs v, x = .ref a ∧ H1 a = some (.ins C dx fs) ∧ Cls K C ∧ NoAttr K C f ∧ fs.lookup f = some v ∧ Q v H1
def sFld (K : PySem.W.Frag) (ta tv : TE) (f : Str) : TS := fun D σ H => tv σ H fun y H1 => ta σ H1 fun x H2 => ∃ a C dx fs, x = .ref a ∧ H2 a = some (.ins C dx fs) ∧ Cls K C ∧ NoAttr K C f ∧ fs.length < 1000 ∧
  D.nx σ (upd H2 a (.ins C dx (putF f y fs)))
section
variable {X : Cx} {o e value : Expr} {f : Str} {pos pos' tpos : Pos} {ta tv : TE}
theorem pe_fld (he : PE X e ta) (hb : attributeBase e f X.env (eval e X.env) = eval e X.env) : PE X (.Attribute e f pos) (tFld X.K ta f) := by
  intro pins s σ H Q I h
  refine attr_of hb (thn (he pins s σ H _ I h) fun u s1 ⟨x, H1, I1, rx, a, C, dx, fs, v, ex, ea, c, n, l, q⟩ => ?_)
  subst ex
  obtain rfl : u = Value.ref a := rx
  exact getattr_ok I1 ea c n l fun u' s2 I2 ru => ⟨v, H1, I2, ru, q⟩
theorem ps_fld (ha : PE X o ta) (hv : PE X value tv) (hs : swapsWith value (some (.Attribute o f pos')) pos.line X.env = pure false) : PS X (.Assign [.Attribute o f pos'] value pos) (sFld X.K ta tv f) := by
  intro pins s σ H D I h
  refine plainObj_wpAny_Assign_Attribute (thn (hv pins s σ H _ I h) fun u s1 ⟨y, H1, I1, ry, q⟩ => thn (ha pins s1 σ H1 _ I1 q) fun ov s2 ⟨x, H2, I2, rx, a, C, dx, fs, ex, ea, c, n, l, q2⟩ => ?_) hs
  subst ex
  obtain rfl : ov = Value.ref a := rx
  exact setattr_ok I2 ea c n l ry fun s3 I3 => ⟨σ, _, I3, q2⟩
end
section
variable {X : Cx} {pins : List (Addr × Obj)} {σ : St} {H : Hp} {s : Shared} {A : Around} {E : Value → Shared → Prop} {Q : Value → Shared → Prop} {c : Value} {b : Bool}
inductive TyOf (K : PySem.W.Frag) (H : Hp) : V → Value → Prop where
  | non : TyOf K H .non (.type "NoneType")
  | bl (x : Bool) : TyOf K H (.bl x) (.type "bool")
  | int (i : Int) : TyOf K H (.int i) (.type "int")
  | str (x : Str) : TyOf K H (.str x) (.type "str")
  | flt (x : UInt64) : TyOf K H (.flt x) (.type "float")
  | lst {a : Addr} {xs : List V} (e : H a = some (.lst xs)) : TyOf K H (.ref a) (.type "list")
  | frz {a : Addr} {o : Obj} {xs : List V} (e : H a = some (.frz o (.lst xs))) : TyOf K H (.ref a) (.type "list")
  | tup {a : Addr} {xs : List V} (e : H a = some (.tup xs)) : TyOf K H (.ref a) (.type "tuple")
  | dK {a : Addr} {kvs : List (Key × V)} (e : H a = some (.dK kvs)) : TyOf K H (.ref a) (.type "dict")
  | dT {a : Addr} {kvs : List (List Key × V)} (e : H a = some (.dT kvs)) : TyOf K H (.ref a) (.type "dict")
  | ins {a C dx : Addr} {fs : List (Str × V)} (e : H a = some (.ins C dx fs)) (cl : Cls K C) (ha : PySem.W.findIn K (.ref C) "__class__" = some (some (.builtin "object.__class__")))
      (hn : PySem.W.specialIn K (.builtin "object.__class__") "__get__" = some (some (.builtin "getset_descriptor.__get__"))) (htk : PySem.W.takesIn K (.builtin "object.__class__") = some true)
      (hm : PySem.W.mroIn K C (.type "object") = some true) : TyOf K H (.ref a) (.ref C)
theorem isinst_ok {x : V} {u t : Value} (I : Inv X pins σ H s) (rx : RelV x u) (ty : TyOf X.K H x t) (e : PySem.W.kitOne X.K t c = some b) (h : ∀ tk, Q (.bool b) { s with toks := tk }) :
    wpAny (model X.prog X.w) A (call (.builtin "isinstance") [u, c]) Q E s := by
  cases ty with
  | non => cases (show u = Value.none from rx); exact PySem.W.kia_one PySem.W.kitx_none I.kIn True.intro e (fun z => nomatch z) h
  | bl y => cases (show u = Value.bool y from rx); exact PySem.W.kia_one PySem.W.kitx_bool I.kIn True.intro e (fun z => nomatch z) h
  | int i => obtain ⟨t, q⟩ := (show ∃ t, u = Value.int i t from rx); cases q; exact PySem.W.kia_one PySem.W.kitx_int I.kIn True.intro e (fun z => nomatch z) h
  | str y => obtain ⟨t, q⟩ := (show ∃ t, u = Value.str y t from rx); cases q; exact PySem.W.kia_one PySem.W.kitx_str I.kIn True.intro e (fun z => nomatch z) h
  | flt y => obtain ⟨t, q⟩ := (show ∃ t, u = Value.float y t from rx); cases q; exact PySem.W.kia_one PySem.W.kitx_float I.kIn True.intro e (fun z => nomatch z) h
  | @lst a xs ea =>
    cases (show u = Value.ref a from rx)
    obtain ⟨_, _, n, _, h1⟩ := (show ObjOk X.prog X.w H s.heap a (.lst xs) from I.hok a _ ea)
    exact PySem.W.kia_one PySem.W.kitx_list I.kIn ⟨_, h1, rfl⟩ e (fun z => nomatch z) h
  | @frz a ob xs ea =>
    cases (show u = Value.ref a from rx)
    obtain ⟨_, _, _, n, _, h1⟩ := (show ObjOk X.prog X.w H s.heap a (.frz ob (.lst xs)) from I.hok a _ ea)
    exact PySem.W.kia_one PySem.W.kitx_list I.kIn ⟨_, h1, rfl⟩ e (fun z => nomatch z) h
  | @tup a xs ea =>
    cases (show u = Value.ref a from rx)
    obtain ⟨_, _, _, p⟩ := (show ObjOk X.prog X.w H s.heap a (.tup xs) from I.hok a _ ea)
    obtain ⟨o, h1, h2, _⟩ := p
    exact PySem.W.kia_one PySem.W.kitx_tuple I.kIn ⟨o, h1, h2⟩ e (fun z => nomatch z) h
  | @dK a kvs ea =>
    cases (show u = Value.ref a from rx)
    obtain ⟨_, _, vs, _, p⟩ := (show ObjOk X.prog X.w H s.heap a (.dK kvs) from I.hok a _ ea)
    obtain ⟨o, es, ep, h1, h2, _⟩ := p
    exact PySem.W.kia_one PySem.W.kitx_dict I.kIn ⟨o, h1, h2.1⟩ e (fun z => nomatch z) h
  | @dT a kvs ea =>
    cases (show u = Value.ref a from rx)
    obtain ⟨_, _, xs, _, o, es, ep, h1, h2, _⟩ := (show ObjOk X.prog X.w H s.heap a (.dT kvs) from I.hok a _ ea)
    exact PySem.W.kia_one PySem.W.kitx_dict I.kIn ⟨o, h1, h2.1⟩ e (fun z => nomatch z) h
  | @ins a C dx fs ea cl ha hn htk hm =>
    cases (show u = Value.ref a from rx)
    obtain ⟨mA, O, _⟩ := ins_get I.hok ea
    obtain ⟨od, J, _⟩ := O.look
    exact PySem.W.kia_one (PySem.W.kitx_own (cl.get _) cl.hd ha hn htk hm) I.kIn J e (fun z => nomatch z) h
end
end L2
namespace L2
open PySem PySem.Spec PyProof.Rows
structure Room (k : Nat) (A : Around) : Prop where
  hd : A.handled = none
  dp : A.depth + 3 * k + 5 < recursionLimit
  un : A.units + 16 * k + 200 < cLine
theorem Room.mono {j k : Nat} {A : Around} (r : Room k A) (h : j ≤ k) : Room j A := ⟨r.hd, by have := r.dp; omega, by have := r.un; omega⟩
theorem Room.deeper {k : Nat} {A : Around} (r : Room (k + 1) A) (env : Env) : Room k (A.deeper env) :=
  ⟨r.hd, by have := r.dp; show A.depth + 1 + 3 * k + 5 < _; omega, by have := r.un; show A.units + 3 + 16 * k + 200 < _; omega⟩
theorem Room.in1 {k : Nat} {A : Around} (r : Room (k + 1) A) : Room k A.in1 :=
  ⟨r.hd, by have := r.dp; show A.depth + 3 * k + 5 < _; omega, by have := r.un; show A.units + 1 + 16 * k + 200 < _; omega⟩
theorem make_depth {A : Around} {C : Addr} {us : List Value} {kw : List (Str × Value)} : (A.under (.builtin "type.__call__" ⟨.ref C :: us, kw⟩)).depth = A.depth + 1 := by
  first | rfl | simp [Around.under, Code.weight, Code.isCreation, Code.isGuard, Code.isCaller, Code.frames, Code.isFrame, guardIds]
theorem make_units {A : Around} {C : Addr} {us : List Value} {kw : List (Str × Value)} : (A.under (.builtin "type.__call__" ⟨.ref C :: us, kw⟩)).units = A.units + 1 := by
  first | rfl | simp [Around.under, Code.cUnits, Code.frames, Code.isFrame]
theorem Room.make {k : Nat} {A : Around} (r : Room (k + 1) A) (C : Addr) (us : List Value) (kw : List (Str × Value)) : Room k (A.under (.builtin "type.__call__" ⟨.ref C :: us, kw⟩)) :=
  ⟨r.hd, by have := r.dp; rw [make_depth]; omega, by have := r.un; rw [make_units]; omega⟩
theorem Room.depth {k : Nat} {A : Around} (r : Room k A) : A.depth < recursionLimit := by have := r.dp; omega
theorem Room.units {k : Nat} {A : Around} (r : Room k A) : A.units + 64 < cLine := by have := r.un; omega
def tNil : TA := fun _ H Q => Q [] H
def tCons (ta : TE) (tr : TA) : TA := fun σ H Q => ta σ H fun x H1 => tr σ H1 fun xs H2 => Q (x :: xs) H2
section
variable {X : Cx} {e : Expr} {es : List Expr} {te : TE} {t : TA} {pos : Pos}
theorem pa_nil : PA X [] tNil := fun _ _ _ _ H Q I h => Calls.spliced_nil ⟨[], H, I, .nil, h⟩
theorem pa_cons (ha : PE X e te) (hr : PA X es t) (hs : starEach (e :: es) X.env = (false, eval e X.env) :: starEach es X.env := by rfl) : PA X (e :: es) (tCons te t) := by
  intro pos pins s σ H Q I h
  rw [hs]
  show wpAny _ _ (spliced ((false, eval e X.env) :: backTo pos (starEach es X.env))) _ _ s
  refine Calls.spliced_cons (thn (ha pins s σ H _ I h) fun u s1 ⟨x, H1, I1, r1, q1⟩ => ?_)
  exact thn (hr pos pins s1 σ H1 _ I1 q1) fun us s2 ⟨xs, H2, I2, r2, q2⟩ => ⟨x :: xs, H2, I2, .cons r1 r2, q2⟩
def tTup (t : TA) : TE := fun σ H Q => t σ H fun xs H1 => xs.length ≤ sizeLine ∧ ∀ p, H1 p = none → Q (.ref p) (upd H1 p (.tup xs))
def tLst (t : TA) : TE := fun σ H Q => t σ H fun xs H1 => xs.length ≤ sizeLine ∧ ∀ p, H1 p = none → Q (.ref p) (upd H1 p (.lst xs))
theorem pe_tup {x1} (h : PA X es t) : PE X (.Tuple es x1 pos) (tTup t) := by
  intro pins s σ H Q I hq
  refine wpAny_Tuple_spliced (thn (h pos pins s σ H _ I hq) fun us s1 ⟨xs, H1, I1, r, z, q⟩ => ⟨by rw [← r.length]; exact z, ?_⟩)
  have hf : H1 s1.heap.objs.size = none := I1.hok.fresh (Nat.le_refl _)
  refine ⟨.ref s1.heap.objs.size, upd H1 s1.heap.objs.size (.tup xs), I1.laid (t' := s1.toks) (fun b u e => Heap.get?_push_of_some _ e) (Nat.le_refl _) ?_, rfl, q _ hf⟩
  exact ⟨z, us, r, ⟨_, Heap.get?_push_size _ rfl, rfl, _, rfl⟩⟩
theorem pe_lst (h : PA X es t) : PE X (.List es pos) (tLst t) := by
  intro pins s σ H Q I hq
  refine wpAny_List_spliced (thn (h pos pins s σ H _ I hq) fun us s1 ⟨xs, H1, I1, r, z, q⟩ => ⟨by rw [← r.length]; exact z, ?_⟩)
  have hf : H1 s1.heap.objs.size = none := I1.hok.fresh (Nat.le_refl _)
  refine ⟨.ref s1.heap.objs.size, upd H1 s1.heap.objs.size (.lst xs), I1.laid (t' := s1.toks) (fun b u e => Heap.get?_push_of_some _ e) (Nat.le_refl _) ?_, rfl, q _ hf⟩
  exact ⟨z, us, 0, r, Heap.get?_push_size _ rfl⟩
end
abbrev Sp := List V → Hp → VK → XK → Prop
abbrev CXT := List Env → Hp → Shared → XK → Value → Shared → Prop
structure Env0 (P : Program) (w : World) (K : PySem.W.Frag) (mg : Str → Option Value) (base : Heap) (A : Around) (outer : List Env) (s : Shared) (H : Hp) : Prop where
  frames : A.frames = some outer
  mod : Mod K mg base
  bs : ∀ b o, base.get? b = some o → s.heap.get? b = some o ∧ H b = none
  bsz : base.objs.size ≤ s.heap.objs.size
  funs : s.heap.FunFrames base outer
  frf : ∀ b ∈ frs outer, H b = none
  hok : HOk P w H s.heap
  bare : AllBare s.gens
def CE (outer : List Env) (P : Program) (w : World) (H : Hp) (s : Shared) (Q : VK) (u : Value) (s' : Shared) : Prop :=
  ∃ v H', s'.os = s.os ∧ AllBare s'.gens ∧ Un (frs outer) [] H H' s.heap s'.heap ∧ HOk P w H' s'.heap ∧ RelV v u ∧ Q v H'
def CR (CX : CXT) (outer : List Env) (P : Program) (w : World) (H : Hp) (s : Shared) (Q : VK) (E : XK) (r : Result) (s' : Shared) : Prop :=
  match r with
  | .ok (.ret u) => CE outer P w H s Q u s'
  | .ok _ => False
  | .error e => CX outer H s E e s'
structure FnOk (P : Program) (w : World) (K : PySem.W.Frag) (mg : Str → Option Value) (base : Heap) (CX : CXT) (k : Nat) (f : Addr) (fd : FuncData) (ps : List Str) (sp : Sp) : Prop where
  len : ∀ vs H Q E, sp vs H Q E → vs.length = ps.length
  run : ∀ (A : Around) (outer : List Env) (s : Shared) (H : Hp) (args : Args) (us : List Value) (vs : List V) (Q : VK) (E : XK), Room k A → Env0 P w K mg base A outer s H → BindsTo s fd args (ps.zip us) → Vals vs us → sp vs H Q E →
    codeAny (model P w) A (.call (.ref f) args) (CR CX outer P w H s Q E) s
theorem FnOk.mono {P : Program} {w : World} {K : PySem.W.Frag} {mg : Str → Option Value} {base : Heap} {CX : CXT} {j k : Nat} {f : Addr} {fd : FuncData} {ps : List Str} {sp : Sp} (F : FnOk P w K mg base CX j f fd ps sp) (h : j ≤ k) :
    FnOk P w K mg base CX k f fd ps sp := ⟨F.len, fun A outer s H args us vs Q E hr => F.run A outer s H args us vs Q E (hr.mono h)⟩
theorem FnOk.imp {P : Program} {w : World} {K : PySem.W.Frag} {mg : Str → Option Value} {base : Heap} {CX : CXT} {k : Nat} {f : Addr} {fd : FuncData} {ps : List Str} {sp sp' : Sp} (F : FnOk P w K mg base CX k f fd ps sp)
    (h : ∀ vs H Q E, sp' vs H Q E → sp vs H Q E) : FnOk P w K mg base CX k f fd ps sp' :=
  ⟨fun vs H Q E q => F.len vs H Q E (h _ _ _ _ q), fun A outer s H args us vs Q E hr he hb hv hs => F.run A outer s H args us vs Q E hr he hb hv (h _ _ _ _ hs)⟩
theorem Env0.make {P : Program} {w : World} {K : PySem.W.Frag} {mg : Str → Option Value} {base : Heap} {A : Around} {outer : List Env} {s : Shared} {H : Hp} (e : Env0 P w K mg base A outer s H) (C : Addr) (us : List Value) (kw : List (Str × Value)) :
    Env0 P w K mg base (A.under (.builtin "type.__call__" ⟨.ref C :: us, kw⟩)) outer s H := ⟨by first | exact e.frames | (simpa [Around.under, Code.envs, Code.isFrame, pushEnvs] using e.frames), e.mod, e.bs, e.bsz, e.funs, e.frf, e.hok, e.bare⟩
theorem Env0.in1 {P : Program} {w : World} {K : PySem.W.Frag} {mg : Str → Option Value} {base : Heap} {A : Around} {outer : List Env} {s : Shared} {H : Hp} (e : Env0 P w K mg base A outer s H) :
    Env0 P w K mg base A.in1 outer s H := ⟨e.frames, e.mod, e.bs, e.bsz, e.funs, e.frf, e.hok, e.bare⟩
section
variable {X : Cx} {pins : List (Addr × Obj)} {σ : St} {H : Hp} {s s' : Shared}
theorem Inv.env0 (I : Inv X pins σ H s) : Env0 X.prog X.w X.K X.mg X.base X.A X.stack s H :=
  ⟨I.ok.frames, I.ok.mod, I.bs, Nat.le_trans I.ok.bsz I.sz, I.stack, I.stkFree, I.hok, I.bare⟩
theorem Inv.after {Q : VK} {u : Value} (I : Inv X pins σ H s) (h : CE X.stack X.prog X.w H s Q u s') : EP X pins σ Q u s' := by
  obtain ⟨v, H', os, bare, un, hok, r, q⟩ := h
  obtain ⟨hh, g, d, t, os'⟩ := s'
  obtain rfl : os' = s.os := os
  exact ⟨v, H', I.call (h' := hh) (g' := g) (d' := d) (t' := t) (ch := []) un hok bare (fun b z => absurd z (by simp)), r, q⟩
end
def tCall (sp : Sp) (dvs : List V) (E : XK) (t : TA) : TE := fun σ H Q => t σ H fun vs H1 => sp (vs ++ dvs) H1 Q E
def tMeth (C : Addr) (m : Str) (sp : Sp) (dvs : List V) (E : XK) (ta : TE) (t : TA) : TE := fun σ H Q => ta σ H fun x H1 => ∃ a dx fs, x = .ref a ∧ H1 a = some (.ins C dx fs) ∧ fs.lookup m = none ∧
  t σ H1 fun vs H2 => sp (x :: (vs ++ dvs)) H2 Q E
def tMake (C : Addr) (sp : Sp) (dvs : List V) (E : XK) (t : TA) : TE := fun σ H Q => t σ H fun vs H1 => ∀ x dx, H1 x = none → H1 dx = none → dx ≠ x →
  sp (.ref x :: (vs ++ dvs)) (upd (upd H1 dx (.own x)) x (.ins C dx [])) (fun v H2 => v = .non ∧ Q (.ref x) H2) E
def Binds (K : PySem.W.Frag) (fd : FuncData) (ps : List Str) (ds : List Value) : Prop :=
  ∀ (s : Shared) (us : List Value), K.In s.heap → (us ++ ds).length = ps.length → BindsTo s fd ⟨us, []⟩ (ps.zip (us ++ ds))
theorem Binds.all {K : PySem.W.Frag} {fd : FuncData} {ps : List Str} (h : ∀ us : List Value, us.length = ps.length → bindArgs fd ⟨us, []⟩ = pure (ps.zip us)) : Binds K fd ps [] := fun s us _ hl => by
  rw [List.append_nil] at hl ⊢
  exact .of_eq (h us hl)
def Passes (CX : CXT) (X : Cx) (E : XK) : Prop := ∀ (pins : List (Addr × Obj)) (σ : St) (H : Hp) (s : Shared) (e : Value) (s' : Shared), Inv X pins σ H s → CX X.stack H s E e s' → X.xe e s'
section
variable {X : Cx} {CX : CXT} {k : Nat} {f C : Addr} {fd : FuncData} {ps : List Str} {sp : Sp} {dvs : List V} {ds : List Value} {E : XK} {x m : Str} {p pos apos : Pos} {e o : Expr} {es : List Expr} {ta : TE} {t : TA}
theorem run_fn {pins : List (Addr × Obj)} {σ : St} {H : Hp} {s : Shared} {Q : VK} {us : List Value} {vs : List V} (F : FnOk X.prog X.w X.K X.mg X.base CX k f fd ps sp) (hr : Room k X.A) (hb : Binds X.K fd ps ds) (hd : Vals dvs ds) (hx : Passes CX X E)
    (I : Inv X pins σ H s) (r : Vals vs us) (h : sp (vs ++ dvs) H Q E) : wpAny (model X.prog X.w) X.A (call (.ref f) us) (EP X pins σ Q) X.xe s := by
  have r2 : Vals (vs ++ dvs) (us ++ ds) := r.append hd
  have hl : (us ++ ds).length = ps.length := by rw [← r2.length]; exact F.len _ _ _ _ h
  refine wpAny_call (codeAny_mono (F.run X.A X.stack s H ⟨us, []⟩ (us ++ ds) (vs ++ dvs) Q E hr I.env0 (hb s us I.kIn hl) r2 h) fun r s' hq => ?_)
  cases r with
  | error e => exact hx pins σ H s e s' I hq
  | ok fl =>
    cases fl with
    | ret u => exact I.after hq
    | next => exact False.elim hq
    | brk => exact False.elim hq
    | cont => exact False.elim hq
theorem pe_call (F : FnOk X.prog X.w X.K X.mg X.base CX k f fd ps sp) (hr : Room k X.A) (hg : Gl X x) (hm : X.mg x = some (.ref f)) (hk : PySem.W.keepIn X.K (.ref f) = true) (hb : Binds X.K fd ps ds) (hd : Vals dvs ds) (hx : Passes CX X E)
    (ha : PA X (e :: es) t) (hdb : (x == ("__debug__" : Str)) = false := by decide) (he : starEach (e :: es) X.env = (false, eval e X.env) :: starEach es X.env := by rfl) (hpl : (backTo pos (starEach es X.env)).any (·.1) = false := by rfl) :
    PE X (.Call (.Name x p) (e :: es) [] pos) (tCall sp dvs E t) := by
  intro pins s σ H Q I h
  refine wpAny_Call_Name_kw (ld_glob I hg hm ?_ hdb)
  refine PySem.W.callWith_K (h₀ := X.base) I.ok.mod.kin hk (thn (ha pos pins s σ H _ I h) fun us s1 ⟨vs, H1, I1, r, q⟩ => ⟨I1.kIn, ?_⟩) he hpl
  exact run_fn F hr hb hd hx I1 r q
theorem pe_meth0 {pl : Sem Bool} (he : PE X o ta) (c : Cls X.K C) (hm : Meth X.K C m f) (F : FnOk X.prog X.w X.K X.mg X.base CX k f fd ps sp) (hr : Room k X.A) (hb : Binds X.K fd ps ds) (hd : Vals dvs ds) (hx : Passes CX X E)
    (ht : eval (.Call (.Attribute o m apos) [] [] pos) X.env = (do
      let ov ← eval o X.env
      standAt apos.atName
      let (f, first) ← holding [ov] (getMethod ov m pl)
      callWith pos f first (backTo pos (starEach [] X.env)) (backToKw pos (keywordEach [] X.env))) := by rfl) :
    PE X (.Call (.Attribute o m apos) [] [] pos) (tMeth C m sp dvs E ta tNil) := by
  intro pins s σ H Q I h
  refine PySem.W.methodCall_KW (pl := pl) (thn (he pins s σ H _ I h) fun u s1 ⟨x, H1, I1, rx, a, dx, fs, ex, ea, l, q⟩ => ?_) ht
  subst ex
  obtain rfl : u = Value.ref a := rx
  refine getmeth_ok I1 ea c hm l ?_
  exact PySem.W.callWith_K0 (first := [.ref a]) I1.kIn hm.kp (run_fn (us := [.ref a]) (vs := [.ref a]) F hr hb hd hx I1 (.cons rfl .nil) q)
structure Mk (K : PySem.W.Frag) (C f : Addr) : Prop where
  makes : PySem.W.makesIn K C = true
  init : PySem.W.findIn K (.ref C) "__init__" = some (some (.ref f))
  fn : PySem.W.isFn K (.ref f) = true
  kp : PySem.W.keepIn K (.ref C) = true
theorem run_make {pins : List (Addr × Obj)} {σ : St} {H : Hp} {s : Shared} {Q : VK} {us : List Value} {vs : List V} (M : Mk X.K C f) (F : FnOk X.prog X.w X.K X.mg X.base CX k f fd ps sp) (hr : Room (k + 1) X.A) (hb : Binds X.K fd ps ds) (hd : Vals dvs ds)
    (hx : Passes CX X E) (I : Inv X pins σ H s) (r : Vals vs us)
    (h : ∀ x dx, H x = none → H dx = none → dx ≠ x → sp (.ref x :: (vs ++ dvs)) (upd (upd H dx (.own x)) x (.ins C dx [])) (fun v H2 => v = .non ∧ Q (.ref x) H2) E) :
    wpAny (model X.prog X.w) X.A (call (.ref C) us) (EP X pins σ Q) X.xe s := by
  have hq := h (s.heap.objs.size + 1) s.heap.objs.size (I.hok.fresh (Nat.le_succ _)) (I.hok.fresh (Nat.le_refl _)) (Nat.ne_of_lt (Nat.lt_succ_self _))
  have I2 := Inv.made (C := C) I
  have r2 : Vals (V.ref (s.heap.objs.size + 1) :: (vs ++ dvs)) (Value.ref (s.heap.objs.size + 1) :: (us ++ ds)) := .cons rfl (r.append hd)
  have hl : (Value.ref (s.heap.objs.size + 1) :: us ++ ds).length = ps.length := by
    have e := r2.length
    rw [F.len _ _ _ _ hq] at e
    exact e.symm
  refine wpAny_call (make_map (f := f) I.kIn M.makes M.init (beq_iff_eq.mp M.fn) (codeAny_mono (F.run _ X.stack _ _ ⟨Value.ref (s.heap.objs.size + 1) :: us, []⟩ (Value.ref (s.heap.objs.size + 1) :: (us ++ ds)) _ _ E (hr.make C us [])
    (I2.env0.make C us []) (hb _ (Value.ref (s.heap.objs.size + 1) :: us) I2.kIn hl) r2 hq) fun r s' hq' => ?_))
  cases r with
  | error e => exact hx pins σ _ _ e s' I2 hq'
  | ok fl =>
    cases fl with
    | ret u =>
      obtain ⟨v, H', I3, rv, ev, q3⟩ := I2.after hq'
      subst ev
      exact ⟨rv, ⟨V.ref (s.heap.objs.size + 1), H', I3, rfl, q3⟩⟩
    | next => exact False.elim hq'
    | brk => exact False.elim hq'
    | cont => exact False.elim hq'
theorem pe_make (M : Mk X.K C f) (F : FnOk X.prog X.w X.K X.mg X.base CX k f fd ps sp) (hr : Room (k + 1) X.A) (hg : Gl X x) (hm : X.mg x = some (.ref C)) (hb : Binds X.K fd ps ds) (hd : Vals dvs ds) (hx : Passes CX X E)
    (ha : PA X (e :: es) t) (hdb : (x == ("__debug__" : Str)) = false := by decide) (he : starEach (e :: es) X.env = (false, eval e X.env) :: starEach es X.env := by rfl) (hpl : (backTo pos (starEach es X.env)).any (·.1) = false := by rfl) :
    PE X (.Call (.Name x p) (e :: es) [] pos) (tMake C sp dvs E t) := by
  intro pins s σ H Q I h
  refine wpAny_Call_Name_kw (ld_glob I hg hm ?_ hdb)
  refine PySem.W.callWith_K (h₀ := X.base) I.ok.mod.kin M.kp (thn (ha pos pins s σ H _ I h) fun us s1 ⟨vs, H1, I1, r, q⟩ => ⟨I1.kIn, ?_⟩) he hpl
  exact run_make M F hr hb hd hx I1 r q
end
section
variable {X : Cx} {CX : CXT} {k : Nat} {f C : Addr} {fd : FuncData} {ps ks : List Str} {sp : Sp} {E : XK} {x m : Str} {p pos apos kpos : Pos} {e o : Expr} {es : List Expr} {kws : List Keyword} {te ta : TE} {t tk : TA} {nm : Option Str}
structure KBinds (K : PySem.W.Frag) (fd : FuncData) (ps ks : List Str) (g : List Value → List Value → List Value) (gV : List V → List V → List V) : Prop where
  to : ∀ (s : Shared) (us ws : List Value), K.In s.heap → (g us ws).length = ps.length → BindsTo s fd ⟨us, ks.zip ws⟩ (ps.zip (g us ws))
  rel : ∀ {vs : List V} {us : List Value} {zs : List V} {ws : List Value}, Vals vs us → Vals zs ws → Vals (gV vs zs) (g us ws)
variable {g : List Value → List Value → List Value} {gV : List V → List V → List V}
end
structure FnScope (N P : List Str) (sc : Scope) : Prop where
  kind : sc.kind = .function
  co : sc.isCoroutine = false
  gen : sc.isGenerator = false
  nd : N.Nodup
  pre : N.take P.length = P
  par : ∀ x ∈ P, sc.names.lookup x = some .local ∨ sc.names.lookup x = some .cell
  nofree : ∀ y ∈ sc.names, y.2 ≠ .free
theorem bindL_out {kindOf : Str → Option NameKind} {x : Str} : ∀ {binds : List (Str × Value)} {m : Str → Option Value}, (∀ v, (x, v) ∉ binds) → bindL kindOf binds m x = m x
  | [], _, _ => rfl
  | (n, v) :: r, m, h => by
    unfold bindL
    rw [bindL_out fun w hw => h w (List.mem_cons_of_mem _ hw)]
    split
    · have : x ≠ n := by rintro rfl; exact h v List.mem_cons_self
      simp [this]
    · rfl
theorem bindC_out {kindOf : Str → Option NameKind} {x : Str} : ∀ {binds : List (Str × Value)} {m : Str → Option Value}, (∀ v, (x, v) ∉ binds) → bindC kindOf binds m x = m x
  | [], _, _ => rfl
  | (n, v) :: r, m, h => by
    unfold bindC
    rw [bindC_out fun w hw => h w (List.mem_cons_of_mem _ hw)]
    split
    · rfl
    · have : x ≠ n := by rintro rfl; exact h v List.mem_cons_self
      simp [this]
theorem bindL_get {kindOf : Str → Option NameKind} {x : Str} {v : Value} : ∀ {P : List Str} {vs : List Value} {i : Nat} {m : Str → Option Value}, P.Nodup → P[i]? = some x → vs[i]? = some v → kindOf x = some .local →
    bindL kindOf (P.zip vs) m x = some v
  | [], _, _, _, _, h, _, _ => by simp at h
  | _ :: _, [], _, _, _, _, h, _ => by simp at h
  | p :: P, w :: vs, 0, m, nd, h1, h2, hk => by
    simp at h1 h2; subst h1; subst h2
    show bindL kindOf ((p, w) :: P.zip vs) m p = _
    unfold bindL
    rw [bindL_out fun v hv => (List.nodup_cons.mp nd).1 (List.of_mem_zip hv).1, if_pos hk]
    simp
  | p :: P, w :: vs, i + 1, m, nd, h1, h2, hk => by
    show bindL kindOf ((p, w) :: P.zip vs) m x = _
    unfold bindL
    exact bindL_get (i := i) (List.nodup_cons.mp nd).2 (by simpa using h1) (by simpa using h2) hk
theorem bindC_get {kindOf : Str → Option NameKind} {x : Str} {v : Value} : ∀ {P : List Str} {vs : List Value} {i : Nat} {m : Str → Option Value}, P.Nodup → P[i]? = some x → vs[i]? = some v → kindOf x ≠ some .local →
    bindC kindOf (P.zip vs) m x = some v
  | [], _, _, _, _, h, _, _ => by simp at h
  | _ :: _, [], _, _, _, _, h, _ => by simp at h
  | p :: P, w :: vs, 0, m, nd, h1, h2, hk => by
    simp at h1 h2; subst h1; subst h2
    show bindC kindOf ((p, w) :: P.zip vs) m p = _
    unfold bindC
    rw [bindC_out fun v hv => (List.nodup_cons.mp nd).1 (List.of_mem_zip hv).1, if_neg hk]
    simp
  | p :: P, w :: vs, i + 1, m, nd, h1, h2, hk => by
    show bindC kindOf ((p, w) :: P.zip vs) m x = _
    unfold bindC
    exact bindC_get (i := i) (List.nodup_cons.mp nd).2 (by simpa using h1) (by simpa using h2) hk
def start (N : List Str) (vs : List V) : St := vs.map some ++ List.replicate (N.length - vs.length) none
def cxOf (CX : CXT) (P : Program) (w : World) (K : PySem.W.Frag) (mg : Str → Option Value) (base : Heap) (N : List Str) (qual : Str) (scope : Scope) (f : Addr) (cd : Value) (A : Around) (outer : List Env) (s : Shared) (H : Hp) (E : XK) : Cx where
  prog := P
  w := w
  K := K
  mg := mg
  base := base
  A := A.deeper (envOfC qual scope s.heap.objs.size f cd)
  N := N
  s₀ := s
  H₀ := H
  env := envOfC qual scope s.heap.objs.size f cd
  outer := outer
  stack := envOfC qual scope s.heap.objs.size f cd :: outer
  ex := []
  calm := true
  fn := fun _ => true
  pn := []
  xe := fun e s' => wpAny (model P w) (A.deeper (envOfC qual scope s.heap.objs.size f cd)) (leaving (envOfC qual scope s.heap.objs.size f cd) e) (fun _ s'' => CX outer H s E e s'') (fun e' s'' => CX outer H s E e' s'') s'
theorem cell_has {sc : Scope} {n : Nat} {x : Str} (h : sc.names.lookup x = some .cell) : ∃ c, (cellsFrom n sc.names []).lookup x = some c := by
  have q := PySem.W.cellsFrom_some sc.names n [] (.inl h)
  exact Option.isSome_iff_exists.mp q
theorem inv_start {CX : CXT} {P : Program} {w : World} {K : PySem.W.Frag} {mg : Str → Option Value} {base : Heap} {N ps : List Str} {qual : Str} {scope : Scope} {f : Addr} {cd : Value} {A : Around} {outer : List Env} {s s1 : Shared} {H : Hp} {E : XK} {us : List Value} {vs : List V}
    (S : FnScope N ps scope) (hd : A.handled = none) (e0 : Env0 P w K mg base A outer s H) (hl : vs.length = ps.length) (r : Vals vs us)
    (x : InCallC s s.heap.objs.size (bindL (envOfC qual scope s.heap.objs.size f cd).kindOf (ps.zip us) fun _ => none) (cellsFrom (s.heap.objs.size + 1) scope.names []) (bindC (envOfC qual scope s.heap.objs.size f cd).kindOf (ps.zip us) fun _ => none) s1) :
    Inv (cxOf CX P w K mg base N qual scope f cd A outer s H E) [] (start N vs) H s1 := by
  have hpl : ps.length ≤ N.length := by have := congrArg List.length S.pre; rw [List.length_take] at this; omega
  obtain ⟨h1, tk, rfl, hk⟩ := x.done
  have noA : ∀ b : Addr, b ∉ (cxOf CX P w K mg base N qual scope f cd A outer s H E).ex := fun b z => absurd (show b ∈ ([] : List Addr) from z) (by simp)
  refine ⟨⟨e0.mod, S.kind, rfl, rfl, Nat.le_refl _, fun y z c h1 h2 => ?_, fun y hy => ?_, fun y c _ h => ?_, fun _ => hd, Around.frames_deeper e0.frames, .inr ⟨rfl, rfl⟩, fun b z => absurd z (noA b), e0.bs, e0.bsz, fun b _ _ => noA b, fun b z => absurd z (noA b), e0.funs, e0.frf⟩,
    rfl, e0.bare, Un.kept hk, ⟨_, x.toInCall.ns, fun i y v h1 h2 h3 => ?_⟩, fun y c h => ⟨_, x.cell y c h⟩, e0.hok.fresh (Nat.le_refl _), fun y c h => ?_, fun p hp => absurd (show p ∈ ([] : List (Addr × Obj)) from hp) (by simp), e0.hok.kept hk, ?_⟩
  · exact name_of_addr x.apart (PySem.mem_of_lookup h1) (PySem.mem_of_lookup h2)
  · have hy : scope.names.lookup y = some .cell ∨ scope.names.lookup y = some .free := hy
    rcases hy with hy | hy
    · exact cell_has hy
    · exact absurd rfl (S.nofree _ (PySem.mem_of_lookup hy))
  · exact Nat.le_of_lt (x.above y c (PySem.mem_of_lookup h))
  · have hi : i < vs.length := by
      unfold start at h2
      by_cases hi : i < vs.length
      · exact hi
      · rw [List.getElem?_append_right (by simpa using hi)] at h2
        rw [List.getElem?_replicate] at h2
        split at h2 <;> cases h2
    have ha : vs[i]? = some v := by
      unfold start at h2
      rw [List.getElem?_append_left (by simpa using hi), List.getElem?_map] at h2
      cases e : vs[i]? with
      | none => rw [e] at h2; cases h2
      | some a => rw [e] at h2; cases h2; rfl
    obtain ⟨u, hu, rv⟩ := r.get ha
    have hp : ps[i]? = some y := by
      rw [← S.pre, List.getElem?_take_of_lt (by omega)]; exact h1
    have ndP : ps.Nodup := by rw [← S.pre]; exact S.nd.sublist (List.take_sublist _ _)
    refine ⟨u, rv, ?_⟩
    rcases S.par y (List.mem_of_getElem? hp) with k | k
    · exact .inl ⟨k, bindL_get ndP hp hu k⟩
    · obtain ⟨c, e⟩ := cell_has (n := s.heap.objs.size + 1) k
      refine .inr ⟨.inl k, c, e, ?_⟩
      have q := x.cell y c e
      rw [bindC_get ndP hp hu (by show scope.names.lookup y ≠ _; rw [k]; decide)] at q
      exact q
  · exact e0.hok.fresh (Nat.le_of_lt (x.above y c (PySem.mem_of_lookup h)))
  · unfold start
    show _ = N.length
    rw [List.length_append, List.length_map, List.length_replicate]
    omega
theorem fn_of {CX : CXT} {P : Program} {w : World} {K : PySem.W.Frag} {mg : Str → Option Value} {base : Heap} {k : Nat} {f : Addr} {name qual : Str} {params : Arguments} {body : List Stmt} {scope : Scope} {dV kV doc pm cdv ct oc : Value} {an od : Option Addr}
    {osl : Array (Option Value)} {N ps : List Str} {sp : Sp} (lk : K.lookup f = some ⟨oc, od, .func (PySem.W.fnOf name qual params body scope dV kV doc pm an cdv ct), osl⟩) (hcd : PySem.W.codeIn K cdv qual = true) (S : FnScope N ps scope)
    (len : ∀ vs H Q E, sp vs H Q E → vs.length = ps.length)
    (hbody : ∀ (A : Around) (outer : List Env) (s : Shared) (H : Hp) (vs : List V) (Q : VK) (E : XK), Room k (A.deeper (envOfC qual scope s.heap.objs.size f cdv)) → sp vs H Q E →
      ∃ t, PSs (cxOf CX P w K mg base N qual scope f cdv A outer s H E) body t ∧ t { nx := fun _ H' => Q .non H', rt := Q } (start N vs) H) :
    FnOk P w K mg base CX (k + 1) f (PySem.W.fnOf name qual params body scope dV kV doc pm an cdv ct) ps sp := by
  refine ⟨len, fun A outer s H args us vs Q E hr e0 hb r hsp => ?_⟩
  have hl := len _ _ _ _ hsp
  have KX : K.In s.heap := e0.mod.kin.keeps fun b o e => (e0.bs b o e).1
  have lim : s.heap.NoLimit := e0.mod.nolimit.keeps fun b o e => (e0.bs b o e).1
  have hkind : ∀ y ∈ ps.zip us, scope.names.lookup y.1 = some .local ∨ (scope.names.lookup y.1 = some .cell ∧ ((cellsFrom (s.heap.objs.size + 1) scope.names []).lookup y.1).isSome = true) := fun ⟨n, v⟩ hy => by
    rcases S.par n (List.of_mem_zip hy).1 with q | q
    · exact .inl q
    · exact .inr ⟨q, PySem.W.cellsFrom_some _ _ _ (.inl q)⟩
  refine codeAny_call_function hr.depth (KX _ _ lk) rfl S.co S.gen rfl (PySem.W.codeRec_of KX hcd) (hb _ _ _ _ ?_)
  refine wpAny_newFunctionEnv_cells S.kind hkind fun env he s1 x => ?_
  subst he
  refine ⟨lim.keeps x.toInCall.keep, codeAny_func ?_⟩
  obtain ⟨t, ht, hq⟩ := hbody A outer s H vs Q E (hr.deeper _) hsp
  have I : Inv (cxOf CX P w K mg base N qual scope f cdv A outer s H E) [] (start N vs) H s1 := inv_start S hr.hd e0 hl r x
  refine wpAny_mono (ht [] s1 (start N vs) H _ I hq) (fun fl s' hs => ?_) fun e s' hs => hs
  have fin : ∀ {σ' : St} {H' : Hp} {v : V} {u : Value}, Inv (cxOf CX P w K mg base N qual scope f cdv A outer s H E) [] σ' H' s' → RelV v u → Q v H' → CE outer P w H s Q u s' :=
    fun {σ' H' v u} J rv q => ⟨v, H', J.os, J.bare, J.base, J.hok, rv, q⟩
  cases fl with
  | ret u =>
    obtain ⟨v, σ', H', J, rv, q⟩ := hs
    exact fin J rv q
  | next =>
    obtain ⟨σ', H', J, q⟩ := hs
    exact fin (v := V.non) (u := Value.none) J rfl q
  | brk =>
    obtain ⟨_, _, _, q⟩ := hs
    exact False.elim q
  | cont =>
    obtain ⟨_, _, _, q⟩ := hs
    exact False.elim q
end L2
namespace L2
open PySem PySem.Spec PyProof.Rows
section
variable {X : Cx} {x : Str} {p pos : Pos} {e : Expr} {es : List Expr} {t : TA} {id T : String} {r : List V → Hp → VK → Prop}
def tCB (r : List V → Hp → VK → Prop) (t : TA) : TE := fun σ H Q => t σ H fun vs H1 => r vs H1 Q
theorem pe_callB (hc : CallR X (.builtin id) r) (hg : Gl X x) (hm : X.mg x = none) (hv : bootBuiltins x = some (.builtin id)) (ha : PA X (e :: es) t) (hn : x ≠ "__name__" := by decide) (hdb : (x == ("__debug__" : Str)) = false := by decide)
    (he : starEach (e :: es) X.env = (false, eval e X.env) :: starEach es X.env := by rfl) (hpl : (backTo pos (starEach es X.env)).any (·.1) = false := by rfl) : PE X (.Call (.Name x p) (e :: es) [] pos) (tCB r t) := by
  intro pins s σ H Q I h
  refine wpAny_Call_Name_kw (ld_blt I hg hm hv ?_ hn hdb)
  exact PyProof.Rows.callWith_builtin1 (thn (ha pos pins s σ H _ I h) fun us s1 ⟨vs, H1, I1, r1, q1⟩ => hc pins s1 σ H1 vs us Q I1 r1 q1) he hpl
theorem pe_callTy (hc : CallR X (.type T) r) (hg : Gl X x) (hm : X.mg x = none) (hv : bootBuiltins x = some (.type T)) (ha : PA X (e :: es) t) (hn : x ≠ "__name__" := by decide) (hdb : (x == ("__debug__" : Str)) = false := by decide)
    (he : starEach (e :: es) X.env = (false, eval e X.env) :: starEach es X.env := by rfl) (hpl : (backTo pos (starEach es X.env)).any (·.1) = false := by rfl) : PE X (.Call (.Name x p) (e :: es) [] pos) (tCB r t) := by
  intro pins s σ H Q I h
  refine wpAny_Call_Name_kw (ld_blt I hg hm hv ?_ hn hdb)
  exact PyProof.Rows.callWith_type1 (thn (ha pos pins s σ H _ I h) fun us s1 ⟨vs, H1, I1, r1, q1⟩ => hc pins s1 σ H1 vs us Q I1 r1 q1) he hpl
end
end L2
namespace HT
open PySem PyProof.Rows
def lexLt : List Int → List Int → Bool
  | [], [] => false
  | [], _ :: _ => true
  | _ :: _, [] => false
  | x :: xs, y :: ys => if x = y then lexLt xs ys else decide (x < y)
section
open PySem.SeqAt
open PySem.AutoSeq1 (wpAny_loadPart')
open PySem.MeetsSeq PySem.MeetsSeq2 PySem.MeetsSeq3
end
section
variable {prog : Program} {w : World} {A : Around} {E : Value → Shared → Prop} {s : Shared}
def sIx (n d : Nat) : Option Int → Nat
  | none => d
  | some v => if v < 0 then (v + (n : Int)).toNat else min v.toNat n
theorem sIx_none (n d : Nat) : sIx n d none = d := rfl
theorem sIx_nat (n d k : Nat) : sIx n d (some (k : Int)) = min k n := by
  show (if (k : Int) < 0 then ((k : Int) + (n : Int)).toNat else min (k : Int).toNat n) = min k n
  rw [if_neg (by omega), Int.toNat_natCast]
theorem sIx_le (n d : Nat) (hd : d ≤ n) (o : Option Int) : sIx n d o ≤ n := by
  cases o with
  | none => exact hd
  | some v =>
    show (if v < 0 then (v + (n : Int)).toNat else min v.toNat n) ≤ n
    by_cases hv : v < 0
    · rw [if_pos hv]; omega
    · rw [if_neg hv]; exact Nat.min_le_right _ _
end
end HT
namespace L2
open PySem PySem.Spec PyProof.Rows
abbrev TO := St → Hp → (Option Int → Hp → Prop) → Prop
def PO (X : Cx) (e : Option Expr) (t : TO) : Prop :=
  ∀ (pins : List (Addr × Obj)) (s : Shared) (σ : St) (H : Hp) (Q : Option Int → Hp → Prop), Inv X pins σ H s → t σ H Q →
    wpAny (model X.prog X.w) X.A (evalPart e X.env) (fun u s' => ∃ o H', Inv X pins σ H' s' ∧ IsPart u o ∧ Q o H') X.xe s
def tNoPart : TO := fun _ H Q => Q none H
def tPart (t : TE) : TO := fun σ H Q => t σ H fun x H1 => ∃ i, x = .int i ∧ Q (some i) H1
section
variable {X : Cx} {e : Expr} {te : TE} {lo hi : Option Expr} {tl th : TO} {pos p2 : Pos}
theorem po_none : PO X none tNoPart := by
  intro pins s σ H Q I h
  rw [evalPart_none]
  exact wpAny_pure ⟨none, H, I, .none, h⟩
theorem po_some (h : PE X e te) : PO X (some e) (tPart te) := by
  intro pins s σ H Q I hw
  rw [evalPart_some]
  refine thn (h pins s σ H _ I hw) fun u s1 ⟨x, H1, I1, r1, q1⟩ => ?_
  obtain ⟨i, rfl, q⟩ := q1
  obtain ⟨t, rfl⟩ := r1
  exact ⟨some i, H1, I1, .int i t, q⟩
def SlR (X : Cx) (r : V → Option Int → Option Int → Hp → VK → Prop) : Prop :=
  ∀ (pins : List (Addr × Obj)) (s : Shared) (σ : St) (H : Hp) (x : V) (v vl vu : Value) (lo hi : Option Int) (sl : Addr) (Q : VK), Inv X pins σ H s → RelV x v → s.heap.IsSliceOf sl vl vu .none → IsPart vl lo → IsPart vu hi → r x lo hi H Q →
    ∃ T id, typeLookup (.type T) "__getitem__" = pure (some (.builtin id)) ∧ s.TypeIs v T ∧ wpAny (model X.prog X.w) X.A (getItem v (.ref sl)) (EP X pins σ Q) X.xe s
theorem SlR.or {r r' : V → Option Int → Option Int → Hp → VK → Prop} (h : SlR X r) (h' : SlR X r') : SlR X (fun x lo hi H Q => r x lo hi H Q ∨ r' x lo hi H Q) := by
  intro pins s σ H x v vl vu lo hi sl Q I rx hs pl pu q
  rcases q with q | q
  · exact h pins s σ H x v vl vu lo hi sl Q I rx hs pl pu q
  · exact h' pins s σ H x v vl vu lo hi sl Q I rx hs pl pu q
def tSl (r : V → Option Int → Option Int → Hp → VK → Prop) (te : TE) (tl th : TO) : TE := fun σ H Q => te σ H fun x H1 => tl σ H1 fun l H2 => th σ H2 fun u H3 => r x l u H3 Q
theorem pe_slice {r : V → Option Int → Option Int → Hp → VK → Prop} (hr : SlR X r) (he : PE X e te) (hl : PO X lo tl) (hu : PO X hi th) : PE X (.Subscript e (.Slice lo hi none p2) pos) (tSl r te tl th) := by
  intro pins s σ H Q I h
  refine Subscript_ (thn (he pins s σ H _ I h) fun v s1 ⟨x, H1, I1, r1, q1⟩ => ?_)
  refine wpAny_Slice (thn (hl pins s1 σ H1 _ I1 q1) fun vl s2 ⟨l, H2, I2, pl, q2⟩ => thn (hu pins s2 σ H2 _ I2 q2) fun vu s3 ⟨u, H3, I3, pu, q3⟩ => ?_)
  rw [evalPart_none]
  refine wpAny_pure ?_
  have I4 : Inv X pins σ H3 { s3 with heap := s3.heap.push { cls := .type "slice", data := .fields #[vl, vu, .none] } } := I3.kept (t' := s3.toks) fun b ob q => Heap.get?_push_of_some _ q
  obtain ⟨T, id, hT, ht, hg⟩ := hr pins { s3 with heap := s3.heap.push { cls := .type "slice", data := .fields #[vl, vu, .none] } } σ H3 x v vl vu l u s3.heap.objs.size Q I4 r1 (Heap.IsSliceOf.new ..) pl pu q3
  show wpAny (model X.prog X.w) X.A (subscriptTail e (.Slice lo hi none p2) v (.ref s3.heap.objs.size)) (EP X pins σ Q) X.xe { s3 with heap := s3.heap.push { cls := .type "slice", data := .fields #[vl, vu, .none] } }
  exact tail_any (ops := [.ref s3.heap.objs.size, v]) ht hT hg (by with_unfolding_all rfl)
def cutV (xs : List V) (lo hi : Option Int) : List V := (xs.drop (HT.sIx xs.length 0 lo)).take (HT.sIx xs.length xs.length hi - HT.sIx xs.length 0 lo)
theorem cutV_length (xs : List V) (lo hi : Option Int) : (cutV xs lo hi).length ≤ xs.length := by
  unfold cutV
  rw [List.length_take, List.length_drop]
  omega
def rSlT (K : PySem.W.Frag) : V → Option Int → Option Int → Hp → VK → Prop := fun x lo hi H Q => ∃ a xs, x = .ref a ∧ SqT K H a xs ∧
  ¬ (HT.sIx xs.length 0 lo = 0 ∧ HT.sIx xs.length xs.length hi = xs.length) ∧ ∀ p, H p = none → Q (.ref p) (upd H p (.tup (cutV xs lo hi)))
def rLtT (K : PySem.W.Frag) : R2 := fun x y H Q => ∃ a b ns ms, x = .ref a ∧ y = .ref b ∧ SqT K H a (ns.map V.int) ∧ SqT K H b (ms.map V.int) ∧ Q (.bl (HT.lexLt ns ms)) H
end
end L2
namespace L2
open PySem PySem.Spec PyProof.Rows
def ixN (n : Nat) (i : Int) : Option Nat := if 0 ≤ i then (if i < n then some i.toNat else none) else if -(n : Int) ≤ i then some (i + n).toNat else none
def atI {α : Type} (xs : List α) (i : Int) : Option α := (ixN xs.length i).bind fun j => xs[j]?
theorem ixN_seq {n : Nat} {i : Int} {j : Nat} (h : ixN n i = some j) : seqIndex? i n = some j ∧ j < n ∧ -(n : Int) ≤ i ∧ i < n := by
  unfold ixN at h
  by_cases h0 : 0 ≤ i
  · rw [if_pos h0] at h
    by_cases h1 : i < n
    · rw [if_pos h1] at h
      have e : i.toNat = j := Option.some.inj h
      exact ⟨by rw [seqIndex_of h0 h1, e], by omega, by omega, h1⟩
    · rw [if_neg h1] at h; cases h
  · rw [if_neg h0] at h
    by_cases h1 : -(n : Int) ≤ i
    · rw [if_pos h1] at h
      have e : (i + n).toNat = j := Option.some.inj h
      exact ⟨by rw [seqIndex_neg (by omega) h1, e], by omega, h1, by omega⟩
    · rw [if_neg h1] at h; cases h
theorem atI_get {α : Type} {xs : List α} {i : Int} {v : α} (h : atI xs i = some v) : ∃ j, seqIndex? i xs.length = some j ∧ xs[j]? = some v ∧ j < xs.length ∧ -(xs.length : Int) ≤ i ∧ i < xs.length := by
  unfold atI at h
  cases e : ixN xs.length i with
  | none => rw [e] at h; cases h
  | some j =>
    rw [e] at h
    obtain ⟨h1, h2, h3, h4⟩ := ixN_seq e
    exact ⟨j, h1, h, h2, h3, h4⟩
theorem atI_nat {α : Type} {xs : List α} {j : Nat} {v : α} (h : xs[j]? = some v) : atI xs (j : Int) = some v := by
  have hj : j < xs.length := (List.getElem?_eq_some_iff.mp h).1
  have e : ixN xs.length (j : Int) = some j := by
    unfold ixN
    rw [if_pos (by omega), if_pos (by omega)]; simp
  unfold atI; rw [e]; exact h
def PlainIx (b : Expr) : Prop := ∀ o i, subscripted b false o i = operate [o, i] (getItem o i)
def IxR (X : Cx) (r : R2) : Prop :=
  ∀ (value slice : Expr) (pins : List (Addr × Obj)) (s : Shared) (σ : St) (H : Hp) (x y : V) (v u : Value) (Q : VK), Inv X pins σ H s → RelV x v → RelV y u → r x y H Q →
    subscripted slice false v u = operate [v, u] (getItem v u) → wpAny (model X.prog X.w) X.A (subscriptTail value slice v u) (EP X pins σ Q) X.xe s
def MtR (X : Cx) (id : String) (r : V → List V → Hp → VK → Prop) : Prop :=
  ∀ (pins : List (Addr × Obj)) (s : Shared) (σ : St) (H : Hp) (x : V) (xs : List V) (v : Value) (us : List Value) (Q : VK), Inv X pins σ H s → RelV x v → Vals xs us → r x xs H Q →
    wpAny (model X.prog X.w) X.A (call (.builtin id) (v :: us)) (EP X pins σ Q) X.xe s
section
variable {X : Cx} {a b : Expr} {ta tb : TE} {pos : Pos}
theorem IxR.or {r r' : R2} (h : IxR X r) (h' : IxR X r') : IxR X (fun x y H Q => r x y H Q ∨ r' x y H Q) := by
  intro value slice pins s σ H x y v u Q I rx ry q hs
  rcases q with q | q
  · exact h value slice pins s σ H x y v u Q I rx ry q hs
  · exact h' value slice pins s σ H x y v u Q I rx ry q hs
theorem MtR.or {id : String} {r r' : V → List V → Hp → VK → Prop} (h : MtR X id r) (h' : MtR X id r') : MtR X id (fun x xs H Q => r x xs H Q ∨ r' x xs H Q) := by
  intro pins s σ H x xs v us Q I rx rs q
  rcases q with q | q
  · exact h pins s σ H x xs v us Q I rx rs q
  · exact h' pins s σ H x xs v us Q I rx rs q
theorem pe_ix {r : R2} (hr : IxR X r) (ha : PE X a ta) (hb : PE X b tb) (hs : PlainIx b) : PE X (.Subscript a b pos) (tOp r ta tb) := by
  intro pins s σ H Q I h
  exact Subscript_ (binT ha hb I h fun v u s2 x y H2 I2 rx ry q => hr a b pins s2 σ H2 x y v u Q I2 rx ry q (hs _ _))
def rIxL (K : PySem.W.Frag) : R2 := fun x y H Q => ∃ p xs i v, x = .ref p ∧ y = .int i ∧ SqL K H p xs ∧ atI xs i = some v ∧ Q v H
def rIxT (K : PySem.W.Frag) : R2 := fun x y H Q => ∃ p xs i v, x = .ref p ∧ y = .int i ∧ SqT K H p xs ∧ atI xs i = some v ∧ Q v H
def rIxS : R2 := fun x y H Q => ∃ z i c, x = .str z ∧ y = .int i ∧ z.length ≤ sizeLine ∧ atI z.cps.toList i = some c ∧ Q (.str ⟨#[c]⟩) H
theorem ix_list : IxR X (rIxL X.K) := by
  intro value slice pins s σ H x y v u Q I rx ry h hs
  obtain ⟨p, xs, i, z, rfl, rfl, hq, he, q⟩ := h
  cases rx
  obtain ⟨t, rfl⟩ := ry
  obtain ⟨its, r, pl, hz⟩ := I.list hq
  obtain ⟨j, h1, h2, h3, h4, h5⟩ := atI_get he
  obtain ⟨w, ew, rw'⟩ := r.get h2
  have hl := r.length
  have hn := line63
  have fin : EP X pins σ Q w s := ⟨z, H, I, rw', q⟩
  by_cases h0 : 0 ≤ i
  · have hj : i.toNat = j := by
      rw [seqIndex_of h0 h5] at h1
      exact Option.some.inj h1
    exact item_listR pl.isList h0 (by omega) (by rw [hj]; simpa using ew) fin hs
  · have hj : (i + (its.toArray.size : Int)).toNat = j := by
      rw [seqIndex_neg (by omega) h4] at h1
      rw [List.size_toArray, ← hl]
      exact Option.some.inj h1
    exact subscriptTail_builtinR (x := w) pl.isList.typeIs slot_list_getitem.lookup
      (wpAny_getItem_list_neg (Q := fun r s' => r = w ∧ EP X pins σ Q r s') pl.isList (by omega) (by rw [List.size_toArray] <;> omega) (by omega) (by rw [hj]; simpa using ew) ⟨rfl, fin⟩) hs
theorem ix_tup : IxR X (rIxT X.K) := by
  intro value slice pins s σ H x y v u Q I rx ry h hs
  obtain ⟨p, xs, i, z, rfl, rfl, hq, he, q⟩ := h
  cases rx
  obtain ⟨t, rfl⟩ := ry
  obtain ⟨its, r, pl, hz⟩ := I.tuple hq
  obtain ⟨j, h1, h2, h3, h4, h5⟩ := atI_get he
  obtain ⟨w, ew, rw'⟩ := r.get h2
  have hl := r.length
  have hn := line63
  have fin : EP X pins σ Q w s := ⟨z, H, I, rw', q⟩
  exact subscriptTail_builtinR (x := w) pl.typeIs slot_tuple_getitem.lookup
    (getItem_tuple (j := j) (Q := fun r s' => r = w ∧ EP X pins σ Q r s') pl (by omega) (by omega) (by rw [List.size_toArray, ← hl]; exact h1) (by simpa using ew) ⟨rfl, fin⟩) hs
theorem ix_str : IxR X rIxS := by
  intro value slice pins s σ H x y v u Q I rx ry h hs
  obtain ⟨z, i, c, rfl, rfl, hz, he, q⟩ := h
  obtain ⟨t, rfl⟩ := rx
  obtain ⟨t', rfl⟩ := ry
  obtain ⟨j, h1, h2, h3, h4, h5⟩ := atI_get he
  have hl : z.cps.toList.length = z.length := by simp [Str.length]
  rw [hl] at h1 h4 h5
  have hn := line63
  exact tail_any (typeIs_str s z t) slot_str_getitem.lookup (getItem_str (c := c) (by
    have e1 : decide (i < -(2 ^ 63 : Int)) = false := decide_eq_false (by omega)
    have e2 : decide (i ≥ 2 ^ 63) = false := decide_eq_false (by omega)
    rw [e1, e2, Bool.or_false]) (by rw [h1]; simpa using h2) ⟨.str ⟨#[c]⟩, H, I.tok _, ⟨_, rfl⟩, q⟩) hs
theorem Inv.lst {pins : List (Addr × Obj)} {σ : St} {H : Hp} {s : Shared} {p : Addr} {xs : List V} (I : Inv X pins σ H s) (h : H p = some (.lst xs)) :
    ∃ (its : List Value) (n : Nat), Vals xs its ∧ s.heap.get? p = some { cls := .type "list", data := .seq its.toArray n } ∧ xs.length ≤ sizeLine := by
  obtain ⟨z, its, n, r, e⟩ := I.hok p _ h
  exact ⟨its, n, r, e, z⟩
def rSetL : V → V → V → Hp → (Hp → Prop) → Prop := fun o i v H Q => ∃ p xs k j, o = .ref p ∧ i = .int k ∧ H p = some (.lst xs) ∧ ixN xs.length k = some j ∧ Q (upd H p (.lst (xs.set j v)))
theorem slice_bounds (lo hi : Option Int) (n : Nat) : (sliceBounds lo hi none n).1 = ((HT.sIx n 0 lo : Nat) : Int) ∧ (sliceBounds lo hi none n).2.1 = ((HT.sIx n n hi : Nat) : Int) ∧ (sliceBounds lo hi none n).2.2 = 1 := by
  refine ⟨?_, ?_, rfl⟩
  · cases lo with
    | none => simp [sliceBounds, HT.sIx]
    | some i =>
      simp only [sliceBounds, HT.sIx, Option.getD_none, show (1 : Int) > 0 by decide, if_true]
      by_cases h : i < 0
      · simp only [h, if_true] <;> omega
      · simp only [h, if_false] <;> omega
  · cases hi with
    | none => simp [sliceBounds, HT.sIx]
    | some i =>
      simp only [sliceBounds, HT.sIx, Option.getD_none, show (1 : Int) > 0 by decide, if_true]
      by_cases h : i < 0
      · simp only [h, if_true] <;> omega
      · simp only [h, if_false] <;> omega
theorem slicePick_cut (its : List Value) (lo hi : Option Int) : slicePick its.toArray lo hi none = ((its.drop (HT.sIx its.length 0 lo)).take (HT.sIx its.length its.length hi - HT.sIx its.length 0 lo)).toArray := by
  obtain ⟨h1, h2, h3⟩ := slice_bounds lo hi its.toArray.size
  unfold slicePick
  rw [h1, h2, h3]
  simp only [sliceRange_one, pick_run, List.size_toArray] <;> rfl
def rSlL (K : PySem.W.Frag) : V → Option Int → Option Int → Hp → VK → Prop := fun x lo hi H Q => ∃ a xs, x = .ref a ∧ SqL K H a xs ∧ ∀ p, H p = none → Q (.ref p) (upd H p (.lst (cutV xs lo hi)))
theorem sl_list : SlR X (rSlL X.K) := by
  intro pins s σ H x v vl vu lo hi sl Q I rx hs pl pu h
  obtain ⟨a, xs, rfl, hx, q⟩ := h
  cases rx
  obtain ⟨its, r, ht, hz⟩ := I.list hx
  have hlen := r.length
  refine ⟨"list", _, slot_list_getitem.lookup, ht.isList.typeIs, ?_⟩
  refine wpAny_getItem_list_slice ht.isList hs pl pu .none (by simp) ?_ (by rw [List.size_toArray] <;> omega)
  rw [slicePick_cut, ← hlen]
  refine ⟨.ref s.heap.objs.size, _, I.laid (t' := s.toks) (o := .lst (cutV xs lo hi)) (fun b ob q => Heap.get?_push_of_some _ q) (Nat.le_refl _) ?_, rfl, q _ (I.hok.fresh (Nat.le_refl _))⟩
  exact ⟨Nat.le_trans (cutV_length xs lo hi) hz, _, 0, (r.drop (HT.sIx xs.length 0 lo)).take (HT.sIx xs.length xs.length hi - HT.sIx xs.length 0 lo), Heap.get?_push_size _ rfl⟩
def flatV : V → Bool
  | .non => true
  | .bl _ => true
  | .int _ => true
  | .str _ => true
  | _ => false
def eqV : V → V → Bool
  | .non, .non => true
  | .bl a, .bl b => a == b
  | .bl a, .int b => (if a then 1 else 0) == b
  | .int a, .bl b => a == (if b then 1 else 0)
  | .int a, .int b => a == b
  | .str a, .str b => a == b
  | _, _ => false
theorem eqAt_V {A : Around} {s : Shared} {y x : V} {u v : Value} (ry : RelV y u) (rx : RelV x v) (fy : flatV y = true) (fx : flatV x = true) : SeqAt.EqAt A s u v (eqV y x) := by
  cases y with
  | non =>
    cases ry
    cases x with
    | non => cases rx; exact SeqAt.EqAt.same _
    | bl b => cases rx; exact SeqAt.EqAt.none_bool b
    | int b => obtain ⟨t, rfl⟩ := rx; exact SeqAt.EqAt.none_int b t
    | str b => obtain ⟨t, rfl⟩ := rx; exact SeqAt.EqAt.none_str b t
    | _ => exact absurd (show false = true from fx) Bool.false_ne_true
  | bl a =>
    cases ry
    cases x with
    | non => cases rx; exact SeqAt.EqAt.bool_none a
    | bl b => cases rx; exact SeqAt.EqAt.bool_bool a b
    | int b => obtain ⟨t, rfl⟩ := rx; exact SeqAt.EqAt.bool_int a b t
    | str b => obtain ⟨t, rfl⟩ := rx; exact SeqAt.EqAt.bool_str a b t
    | _ => exact absurd (show false = true from fx) Bool.false_ne_true
  | int a =>
    obtain ⟨t', rfl⟩ := ry
    cases x with
    | non => cases rx; exact SeqAt.EqAt.int_none a t'
    | bl b => cases rx; exact SeqAt.EqAt.int_bool a t' b
    | int b => obtain ⟨t, rfl⟩ := rx; exact SeqAt.EqAt.int_int a t' b t
    | str b => obtain ⟨t, rfl⟩ := rx; exact SeqAt.EqAt.int_str a t' b t
    | _ => exact absurd (show false = true from fx) Bool.false_ne_true
  | str a =>
    obtain ⟨t', rfl⟩ := ry
    cases x with
    | non => cases rx; exact SeqAt.EqAt.str_none a t'
    | bl b => cases rx; exact SeqAt.EqAt.str_bool a t' b
    | int b => obtain ⟨t, rfl⟩ := rx; exact SeqAt.EqAt.str_int a t' b t
    | str b => obtain ⟨t, rfl⟩ := rx; exact SeqAt.EqAt.str_str a t' b t
    | _ => exact absurd (show false = true from fx) Bool.false_ne_true
  | _ => exact absurd (show false = true from fy) Bool.false_ne_true
theorem call_len_seq : CallR X (.builtin "len") (fun xs H Q => ∃ p ys, xs = [.ref p] ∧ (SqL X.K H p ys ∨ SqT X.K H p ys) ∧ Q (.int ys.length) H) := by
  intro pins s σ H xs us Q I r h
  obtain ⟨p, ys, rfl, hq, q⟩ := h
  obtain ⟨u, rfl, rx⟩ := vals1 r
  cases rx
  have hn := line63
  rcases hq with hq | hq
  · obtain ⟨its, r', pl, hz⟩ := I.list hq
    have hlen := r'.length
    exact Calls.call_len_list pl.isList (by simp only [List.size_toArray] <;> omega) ⟨.int ys.length, H, I.tok _, ⟨s.toks + 1, by rw [List.size_toArray, hlen]⟩, q⟩
  · obtain ⟨its, r', pl, hz⟩ := I.tuple hq
    have hlen := r'.length
    exact len_tuple pl (by simp only [List.size_toArray] <;> omega) ⟨.int ys.length, H, I.tok _, ⟨s.toks + 1, by rw [List.size_toArray, hlen]⟩, q⟩
theorem call_len_str : CallR X (.builtin "len") (fun xs H Q => ∃ z, xs = [.str z] ∧ z.length ≤ sizeLine ∧ Q (.int z.length) H) := by
  intro pins s σ H xs us Q I r h
  obtain ⟨z, rfl, hz, q⟩ := h
  obtain ⟨u, rfl, t, rfl⟩ := vals1 r
  have hn := line63
  exact len_str (by omega) ⟨.int z.length, H, I.tok _, ⟨_, rfl⟩, q⟩
theorem CallR.or {f : Value} {r r' : List V → Hp → VK → Prop} (h : CallR X f r) (h' : CallR X f r') : CallR X f (fun xs H Q => r xs H Q ∨ r' xs H Q) := by
  intro pins s σ H xs us Q I rs q
  rcases q with q | q
  · exact h pins s σ H xs us Q I rs q
  · exact h' pins s σ H xs us Q I rs q
theorem call_list_of : CallR X (.type "list") (fun xs H Q => ∃ p ys, xs = [.ref p] ∧ (SqL X.K H p ys ∨ SqT X.K H p ys) ∧ ∀ l, H l = none → Q (.ref l) (upd H l (.lst ys))) := by
  intro pins s σ H xs us Q I r h
  obtain ⟨p, ys, rfl, hq, q⟩ := h
  obtain ⟨u, rfl, rx⟩ := vals1 r
  cases rx
  have fin : ∀ (its : List Value), Vals ys its → ys.length ≤ sizeLine → ∀ (h' : Heap) (c' : Nat), (∀ b o', s.heap.get? b = some o' → h'.get? b = some o') →
      h'.get? s.heap.objs.size = some { cls := .type "list", dict := none, data := .seq its.toArray c', slots := #[] } → EP X pins σ Q (.ref s.heap.objs.size) { s with heap := h' } := fun its r' hz h' c' kp e =>
    ⟨.ref s.heap.objs.size, _, I.laid (t' := s.toks) kp (Nat.le_refl _) (show ObjOk X.prog X.w _ h' _ (.lst ys) from ⟨hz, its, c', r', e⟩), rfl, q _ (I.hok.fresh (Nat.le_refl _))⟩
  rcases hq with hq | hq
  · obtain ⟨its, r', pl, hz⟩ := I.list hq
    have hlen := r'.length
    obtain ⟨o, ho, hc, n, hd⟩ := pl.isList
    exact call_list_seq p (.inl rfl) ho hc hd (fun h' c' kp e => fin its r' hz h' c' kp e) (by simp only [List.size_toArray] <;> omega)
  · obtain ⟨its, r', pl, hz⟩ := I.tuple hq
    have hlen := r'.length
    obtain ⟨o, ho, hc, n, hd⟩ := pl
    exact call_list_seq p (.inr rfl) ho hc hd (fun h' c' kp e => fin its r' hz h' c' kp e) (by simp only [List.size_toArray] <;> omega)
def tyV (K : PySem.W.Frag) (T : String) (x : V) (H : Hp) : Prop := match x with
  | .str _ => T = "str"
  | .int _ => T = "int"
  | .ref p => (T = "list" ∧ ∃ xs, SqL K H p xs) ∨ (T = "tuple" ∧ ∃ o, K.lookup p = some o ∧ o.cls = .type "tuple" ∧ o.dict = none) ∨
      (T = "dict" ∧ ((∃ kvs, H p = some (.dK kvs)) ∨ ∃ kvs, H p = some (.dT kvs))) ∨ (T = "set" ∧ ∃ S n, H p = some (.set S n))
  | _ => False
theorem tyV_is {pins : List (Addr × Obj)} {σ : St} {H : Hp} {s : Shared} {T : String} {x : V} {v : Value} (I : Inv X pins σ H s) (r : RelV x v) (ty : tyV X.K T x H) :
    s.TypeIs v T ∧ ∀ a, v = .ref a → ∃ ob, s.heap.get? a = some ob ∧ ob.dict = none := by
  cases x with
  | str z =>
    obtain ⟨t, rfl⟩ := r
    cases (show T = "str" from ty)
    exact ⟨typeIs_str s z t, fun _ e => nomatch e⟩
  | int i =>
    obtain ⟨t, rfl⟩ := r
    cases (show T = "int" from ty)
    exact ⟨typeIs_int s i t, fun _ e => nomatch e⟩
  | ref p =>
    cases r
    rcases ty with ⟨rfl, xs, hq⟩ | ⟨rfl, o, hk, hc, hd⟩ | ⟨rfl, hk⟩ | ⟨rfl, S, n, hk⟩
    · obtain ⟨its, _, pl, _⟩ := I.list hq
      refine ⟨pl.isList.typeIs, fun a e => ?_⟩
      cases e
      obtain ⟨o, n, e, c, hd, _⟩ := pl
      exact ⟨o, e, hd⟩
    · refine ⟨⟨o, I.kIn p o hk, hc⟩, fun a e => ?_⟩
      cases e
      exact ⟨o, I.kIn _ o hk, hd⟩
    · have z : ∃ o, s.heap.get? p = some o ∧ o.ExactDict := by
        rcases hk with ⟨kvs, hk⟩ | ⟨kvs, hk⟩
        · obtain ⟨_, _, _, _, o, _, _, e, ex, _⟩ := I.hok p _ hk
          exact ⟨o, e, ex⟩
        · obtain ⟨_, _, _, _, o, _, _, e, ex, _⟩ := I.hok p _ hk
          exact ⟨o, e, ex⟩
      obtain ⟨o, e, ex⟩ := z
      refine ⟨⟨o, e, ex.1⟩, fun a e2 => ?_⟩
      cases e2
      exact ⟨o, e, ex.2.1⟩
    · obtain ⟨o, _, _, _, e, ex, _⟩ := I.hok p _ hk
      refine ⟨⟨o, e, ex.1⟩, fun a e2 => ?_⟩
      cases e2
      exact ⟨o, e, ex.2.1⟩
  | _ => exact False.elim ty
def tBM0 (K : PySem.W.Frag) (T : String) (r : V → List V → Hp → VK → Prop) (to : TE) : TE := fun σ H Q => to σ H fun x H1 => tyV K T x H1 ∧ r x [] H1 Q
def tBM (K : PySem.W.Frag) (T : String) (r : V → List V → Hp → VK → Prop) (to : TE) (t : TA) : TE := fun σ H Q => to σ H fun x H1 => tyV K T x H1 ∧ t σ H1 fun xs H2 => r x xs H2 Q
variable {o e : Expr} {es : List Expr} {to : TE} {t : TA} {name : Str} {apos cpos : Pos} {T id : String} {r : V → List V → Hp → VK → Prop}
theorem pe_bm (pa : PlainAttrs T) (slot : Slot T name id) (hty : typeOf (.builtin id) = pure (.type "method_descriptor")) (hm : MtR X id r) (ho : PE X o to) (ha : PA X (e :: es) t)
    (hbase : attributeBase o name X.env (eval o X.env) = eval o X.env := by rfl)
    (hfew : ((backTo cpos (starEach (e :: es) X.env)).all (fun x => !x.1) && (backToKw cpos (keywordEach [] X.env)).all (fun x => x.1.isSome)
      && decide ((e :: es).length + ([] : List Keyword).length + (if ([] : List Keyword).isEmpty then 0 else 1) < 30)) = true := by rfl)
    (hline : (apos.endLine == cpos.line) = true := by rfl) (hs : starEach (e :: es) X.env = (false, eval e X.env) :: starEach es X.env := by rfl) (hplain : (backTo cpos (starEach es X.env)).any (·.1) = false := by rfl) :
    PE X (.Call (.Attribute o name apos) (e :: es) [] cpos) (tBM X.K T r to t) := by
  intro pins s σ H Q I h
  refine wpAny_Call_method_late hbase hfew hline rfl (thn (ho pins s σ H _ I h) fun v s1 ⟨x, H1, I1, r1, ty, q1⟩ => ?_)
  obtain ⟨h1, h2⟩ := tyV_is I1 r1 ty
  refine ⟨T, id, pa, slot, hty, h1, h2, ?_⟩
  have hA := ha cpos pins s1 σ H1 _ I1 q1
  rw [hs] at hA ⊢
  refine Calls.callWith_builtin (by show (false || (backTo cpos (starEach es X.env)).any (·.1)) = false; rw [hplain] <;> rfl) (Calls.evalArgs_plain ?_)
  exact thn hA fun us s2 ⟨vs, H2, I2, r2, q2⟩ => hm pins s2 σ H2 x vs v us Q I2 r1 r2 q2
end
end L2
namespace L2
open PySem PySem.Spec PyProof.Rows
def MtM (X : Cx) (id : String) (r : V → List V → Hp → VK → Prop) : Prop :=
  ∀ (pins : List (Addr × Obj)) (s : Shared) (σ : St) (H : Hp) (x : V) (xs : List V) (v : Value) (us : List Value) (Q : VK), Inv X pins σ H s → RelV x v → Vals xs us → r x xs H Q →
    wpAny (model X.prog X.w) X.A (call (.builtin id) (v :: us)) (EP X pins σ Q) X.xe s
theorem Vals.one : ∀ {x : V} {us : List Value}, Vals [x] us → ∃ u, us = [u] ∧ RelV x u
  | _, _, .cons r .nil => ⟨_, rfl, r⟩
theorem Vals.two : ∀ {x y : V} {us : List Value}, Vals [x, y] us → ∃ u v, us = [u, v] ∧ RelV x u ∧ RelV y v
  | _, _, _, .cons r (.cons q .nil) => ⟨_, _, rfl, r, q⟩
theorem Vals.zero : ∀ {us : List Value}, Vals [] us → us = []
  | _, .nil => rfl
theorem Vals.dropLast {xs : List V} {us : List Value} (h : Vals xs us) : Vals xs.dropLast us.dropLast := by
  induction h with
  | nil => exact .nil
  | cons r t ih =>
    cases t with
    | nil => exact .nil
    | cons q t' => exact .cons r ih
theorem Vals.reverse {xs : List V} {us : List Value} (h : Vals xs us) : Vals xs.reverse us.reverse := by
  induction h with
  | nil => exact .nil
  | cons r t ih => rw [List.reverse_cons, List.reverse_cons]; exact Vals.append ih (.cons r .nil)
theorem Vals.rep {xs : List V} {us : List Value} (h : Vals xs us) : ∀ k : Nat, Vals (List.replicate k xs).flatten (List.replicate k us).flatten
  | 0 => .nil
  | k + 1 => by
    rw [List.replicate_succ, List.replicate_succ, List.flatten_cons, List.flatten_cons]
    exact Vals.append h (Vals.rep h k)
section
variable {X : Cx} {pins : List (Addr × Obj)} {σ : St} {H : Hp} {s : Shared} {l b : Addr} {xs ys zs : List V}
theorem Inv.lset {its its' : List Value} {n : Nat} {f : Array Value → Array Value} {t' : Nat} (I : Inv X pins σ H s) (hH : H l = some (.lst xs))
    (e : s.heap.get? l = some { cls := .type "list", data := .seq its.toArray n }) (hf : f its.toArray = its'.toArray) (hv : Vals ys its') (hz : ys.length ≤ sizeLine) :
    Inv X pins σ (upd H l (.lst ys)) { s with heap := s.heap.update l (Obj.mapSeq f), toks := t' } := by
  have q := PySem.IsL.update e f
  rw [hf] at q
  refine I.write (x := l) (e := l) (by rw [hH]; exact trivial) (.inl rfl) (fun b' u hb hu => (Heap.get?_update_other s.heap (Obj.mapSeq f) (Ne.symm hb)).trans hu) ⟨_, q⟩ ?_
  exact ⟨hz, its', _, hv, q⟩
theorem Inv.lnew {its : List Value} {t' : Nat} (I : Inv X pins σ H s) (hv : Vals ys its) (hz : ys.length ≤ sizeLine) :
    Inv X pins σ (upd H s.heap.objs.size (.lst ys)) { s with heap := s.heap.push { cls := .type "list", data := .seq its.toArray }, toks := t' } :=
  I.laid (fun _ _ q => Heap.get?_push_of_some _ q) (Nat.le_refl _) ⟨hz, its, 0, hv, Heap.get?_push_size _ rfl⟩
theorem Inv.fresh (I : Inv X pins σ H s) : H s.heap.objs.size = none := I.hok.fresh (Nat.le_refl _)
theorem Inv.lstM (I : Inv X pins σ H s) (hH : H l = some (.lst xs)) : xs.length ≤ sizeLine ∧ ∃ (its : List Value) (n : Nat), Vals xs its ∧ xs.length = its.length ∧ s.heap.get? l = some { cls := .type "list", data := .seq its.toArray n } := by
  obtain ⟨z, its, n, r, e⟩ := I.hok l _ hH
  exact ⟨z, its, n, r, r.length, e⟩
end
section
variable {X : Cx}
def rAppend : V → List V → Hp → VK → Prop := fun x vs H Q => ∃ l xs y, x = .ref l ∧ vs = [y] ∧ H l = some (.lst xs) ∧ xs.length < sizeLine ∧ Q .non (upd H l (.lst (xs ++ [y])))
theorem mt_append : MtM X "list.append" rAppend := by
  intro pins s σ H x vs v us Q I rx rv h
  obtain ⟨l, xs, y, rfl, rfl, hH, hz, q⟩ := h
  cases rx
  obtain ⟨u, rfl, ru⟩ := rv.one
  obtain ⟨z, its, n, r, hl, e⟩ := I.lstM hH
  refine call_meets F.slot_list_append ⟨_, e, rfl⟩ F.entry_list_append (F.args_list_append_2 _ _) (PySem.list_append l its.toArray n u (by rw [List.size_toArray]; omega)) ⟨e, ?_⟩
  refine ⟨.non, _, I.lset (its' := its ++ [u]) hH e (by simp) (r.append (.cons ru .nil)) ?_, rfl, q⟩
  rw [List.length_append, List.length_singleton]
  omega
def rExtend : V → List V → Hp → VK → Prop := fun x vs H Q => ∃ l b xs zs, x = .ref l ∧ vs = [.ref b] ∧ H l = some (.lst xs) ∧ H b = some (.lst zs) ∧ xs.length + zs.length ≤ sizeLine ∧ Q .non (upd H l (.lst (xs ++ zs)))
def rReverse : V → List V → Hp → VK → Prop := fun x vs H Q => ∃ l xs, x = .ref l ∧ vs = [] ∧ H l = some (.lst xs) ∧ Q .non (upd H l (.lst xs.reverse))
def rClear : V → List V → Hp → VK → Prop := fun x vs H Q => ∃ l xs, x = .ref l ∧ vs = [] ∧ H l = some (.lst xs) ∧ Q .non (upd H l (.lst []))
def rCat : R2 := fun x y H Q => ∃ l b xs zs, x = .ref l ∧ y = .ref b ∧ H l = some (.lst xs) ∧ H b = some (.lst zs) ∧ xs.length + zs.length ≤ sizeLine ∧ ∀ p, H p = none → Q (.ref p) (upd H p (.lst (xs ++ zs)))
theorem op_cat : OpR X (binaryOp .Add) rCat := by
  intro pins s σ H x y v u Q I rx ry h
  obtain ⟨l, b, xs, zs, rfl, rfl, hH, hB, hz, q⟩ := h
  cases rx
  cases ry
  obtain ⟨z, its, n, r, hl, e⟩ := I.lstM hH
  obtain ⟨z2, its2, n2, r2, hl2, e2⟩ := I.lstM hB
  refine PySem.P.add_list e e2 ?_ (by rw [List.size_toArray, List.size_toArray]; omega)
  have ea : its.toArray ++ its2.toArray = (its ++ its2).toArray := by simp
  rw [ea]
  exact ⟨.ref _, _, I.lnew (t' := s.toks) (r.append r2) (by rw [List.length_append]; omega), rfl, q _ I.fresh⟩
end
section
variable {prog : Program} {w : World} {A : Around} {E : Value → Shared → Prop} {s : Shared}
end
section
variable {X : Cx}
end
end L2
namespace L2
open PySem PySem.Spec PyProof.Rows
section
variable {κ : Type} [DecidableEq κ]
def valV (kvs : List (κ × V)) (k : κ) : Option V := (kvs.find? fun kv => decide (kv.1 = k)).map (·.2)
def putK (kvs : List (κ × V)) (k : κ) (v : V) : List (κ × V) :=
  if (kvs.any fun kv => decide (kv.1 = k)) = true then kvs.map (fun kv => if kv.1 = k then (kv.1, v) else kv) else kvs ++ [(k, v)]
def dropK (kvs : List (κ × V)) (k : κ) : List (κ × V) := kvs.filter fun kv => decide (kv.1 ≠ k)
theorem valV_pos {p : κ × V} {r : List (κ × V)} {k : κ} (e : p.1 = k) : valV (p :: r) k = some p.2 := by simp [valV, List.find?_cons, e]
theorem valV_neg {p : κ × V} {r : List (κ × V)} {k : κ} (e : ¬ p.1 = k) : valV (p :: r) k = valV r k := by simp [valV, List.find?_cons, e]
theorem valV_any (k : κ) : ∀ kvs : List (κ × V), (kvs.any fun kv => decide (kv.1 = k)) = (valV kvs k).isSome
  | [] => rfl
  | p :: r => by
    rw [List.any_cons]
    by_cases e : p.1 = k
    · simp only [valV_pos e, decide_eq_true e, Bool.true_or, Option.isSome_some]
    · rw [valV_neg e, decide_eq_false e, Bool.false_or]; exact valV_any k r
theorem valV_map (k j : κ) (y : V) : ∀ kvs : List (κ × V), valV (kvs.map fun kv => if kv.1 = k then (kv.1, y) else kv) j = (valV kvs j).map fun x => if j = k then y else x
  | [] => rfl
  | p :: r => by
    have ih := valV_map k j y r
    rw [List.map_cons]
    by_cases h : p.1 = k
    · rw [if_pos h]
      by_cases e : p.1 = j
      · rw [valV_pos (p := (p.1, y)) e, valV_pos e, Option.map_some, if_pos (e.symm.trans h)]
      · rw [valV_neg (p := (p.1, y)) e, valV_neg e, ih]
    · rw [if_neg h]
      by_cases e : p.1 = j
      · rw [valV_pos (p := p) e, valV_pos e, Option.map_some, if_neg (fun z => h (e.trans z))]
      · rw [valV_neg (p := p) e, valV_neg e, ih]
theorem valV_snoc (k j : κ) (y : V) : ∀ kvs : List (κ × V), valV kvs k = none → valV (kvs ++ [(k, y)]) j = if j = k then some y else valV kvs j
  | [], _ => by
    by_cases e : k = j
    · rw [if_pos e.symm]; exact valV_pos (p := (k, y)) e
    · rw [if_neg (fun z => e z.symm)]; exact valV_neg (p := (k, y)) e
  | p :: r, hn => by
    rw [List.cons_append]
    have hk : ¬ p.1 = k := fun z => by rw [valV_pos z] at hn; cases hn
    rw [valV_neg hk] at hn
    have ih := valV_snoc k j y r hn
    by_cases e : p.1 = j
    · rw [valV_pos e, valV_pos e, if_neg (fun z => hk (e.trans z))]
    · rw [valV_neg e, valV_neg e, ih]
theorem valV_put (kvs : List (κ × V)) (k j : κ) (y : V) : valV (putK kvs k y) j = if j = k then some y else valV kvs j := by
  unfold putK
  by_cases a : (kvs.any fun kv => decide (kv.1 = k)) = true
  · rw [if_pos a, valV_map]
    rw [valV_any] at a
    by_cases e : j = k
    · obtain ⟨x, hx⟩ := Option.isSome_iff_exists.mp a
      rw [if_pos e, e, hx, Option.map_some, if_pos rfl]
    · rw [if_neg e]
      cases valV kvs j with
      | none => rfl
      | some x => rw [Option.map_some, if_neg e]
  · rw [if_neg a]
    refine valV_snoc k j y kvs ?_
    rw [valV_any] at a
    cases q : valV kvs k with
    | none => rfl
    | some x => rw [q] at a; exact (a rfl).elim
theorem length_putK (kvs : List (κ × V)) (k : κ) (v : V) : (putK kvs k v).length ≤ kvs.length + 1 := by
  unfold putK
  split
  · rw [List.length_map]; omega
  · rw [List.length_append, List.length_cons, List.length_nil]; omega
theorem putK_new {kvs : List (κ × V)} {k : κ} (v : V) (h : valV kvs k = none) : putK kvs k v = kvs ++ [(k, v)] := by
  unfold putK
  rw [valV_any, h]
  exact if_neg (by decide)
theorem RelO.isSome_eq {o : Option V} {u : Option Value} (r : RelO o u) : o.isSome = u.isSome := by
  cases o with
  | none => cases u with
    | none => rfl
    | some _ => exact (show False from r).elim
  | some _ => cases u with
    | none => exact (show False from r).elim
    | some _ => rfl
theorem RelO.getD {o : Option V} {u : Option Value} {d : V} {d' : Value} (r : RelO o u) (rd : RelV d d') : RelV (o.getD d) (u.getD d') := by
  cases o with
  | none => cases u with
    | none => exact rd
    | some _ => exact (show False from r).elim
  | some _ => cases u with
    | none => exact (show False from r).elim
    | some _ => exact r
theorem KV.val {kvs : List (κ × V)} {vs : List (κ × Value)} (r : KV kvs vs) (k : κ) : RelO (valV kvs k) (valueAt vs k) := by
  unfold KV at r
  induction r with
  | nil => exact True.intro
  | @cons p q ps qs h t ih =>
    obtain ⟨h1, h2⟩ := h
    by_cases e : p.1 = k
    · have e' : q.1 = k := h1.symm.trans e
      have b : valueAt (q :: qs) k = some q.2 := by simp [valueAt, List.find?_cons, e']
      rw [valV_pos e, b]; exact h2
    · have e' : ¬ q.1 = k := fun z => e (h1.trans z)
      have b : valueAt (q :: qs) k = valueAt qs k := by simp [valueAt, List.find?_cons, e']
      rw [valV_neg e, b]; exact ih
theorem KV.any {kvs : List (κ × V)} {vs : List (κ × Value)} (r : KV kvs vs) (k : κ) : (kvs.any fun kv => decide (kv.1 = k)) = vs.any fun kv => decide (kv.1 = k) := by
  unfold KV at r
  induction r with
  | nil => rfl
  | cons h t ih => rw [List.any_cons, List.any_cons, ih, h.1]
theorem KV.repl {kvs : List (κ × V)} {vs : List (κ × Value)} (r : KV kvs vs) (k : κ) {y : V} {u : Value} (ry : RelV y u) :
    KV (kvs.map fun kv => if kv.1 = k then (kv.1, y) else kv) (vs.map fun kv => if kv.1 = k then (kv.1, u) else kv) := by
  unfold KV at r ⊢
  induction r with
  | nil => exact .nil
  | @cons p q ps qs h t ih =>
    rw [List.map_cons, List.map_cons]
    refine .cons ?_ ih
    obtain ⟨h1, h2⟩ := h
    by_cases e : p.1 = k
    · rw [if_pos e, if_pos (h1.symm.trans e)]; exact ⟨h1, ry⟩
    · rw [if_neg e, if_neg (fun z => e (h1.trans z))]; exact ⟨h1, h2⟩
theorem KV.put {kvs : List (κ × V)} {vs : List (κ × Value)} (r : KV kvs vs) (k : κ) {y : V} {u : Value} (ry : RelV y u) : KV (putK kvs k y) (stored vs k u) := by
  unfold putK stored
  rw [r.any k]
  by_cases e : (vs.any fun kv => decide (kv.1 = k)) = true
  · rw [if_pos e, if_pos e]; exact r.repl k ry
  · rw [if_neg e, if_neg e]; exact Paired.snoc r ⟨rfl, ry⟩
theorem KV.drop {kvs : List (κ × V)} {vs : List (κ × Value)} (r : KV kvs vs) (k : κ) : KV (dropK kvs k) (without vs k) := by
  unfold KV at r ⊢
  unfold dropK without
  induction r with
  | nil => exact .nil
  | @cons p q ps qs h t ih =>
    obtain ⟨h1, h2⟩ := h
    rw [List.filter_cons, List.filter_cons]
    by_cases e : p.1 = k
    · have a : ¬ decide (p.1 ≠ k) = true := by simp [e]
      have b : ¬ decide (q.1 ≠ k) = true := by simp [h1.symm.trans e]
      rw [if_neg a, if_neg b]; exact ih
    · have e' : ¬ q.1 = k := fun z => e (h1.trans z)
      have a : decide (p.1 ≠ k) = true := by simp [e]
      have b : decide (q.1 ≠ k) = true := by simp [e']
      rw [if_pos a, if_pos b]; exact .cons ⟨h1, h2⟩ ih
theorem KV.keys {kvs : List (κ × V)} {vs : List (κ × Value)} (r : KV kvs vs) : kvs.map (·.1) = vs.map (·.1) := by
  unfold KV at r
  induction r with
  | nil => rfl
  | cons h t ih => rw [List.map_cons, List.map_cons, ih, h.1]
theorem KV.length {kvs : List (κ × V)} {vs : List (κ × Value)} (r : KV kvs vs) : kvs.length = vs.length := Paired.length r
end
theorem kV_is {P : Program} {w : World} {k : Key} {u : Value} (r : RelV (kV k) u) : (mixKind P w).is k u = true := by
  cases k with
  | inl i => obtain ⟨t, e⟩ := (show ∃ t, u = Value.int i t from r); subst e; exact mixKind_int P w i t
  | inr x => obtain ⟨t, e⟩ := (show ∃ t, u = Value.str x t from r); subst e; exact mixKind_str P w x t
theorem items_are {P : Program} {w : World} : ∀ {ks : List Key} {us : List Value}, Vals (ks.map kV) us → ItemsAre (mixKind P w) ks us
  | [], _, r => by rw [List.map_nil] at r; cases r; exact .nil
  | k :: ks, _, r => by
    rw [List.map_cons] at r
    cases r with
    | cons h t => exact .cons (kV_is h) (items_are t)
abbrev KT (H : Hp) : List (List Key × V) → List (List Key × Addr × Value) → Prop := Paired fun p q => p.1 = q.1 ∧ H q.2.1 = some (.tup (p.1.map kV)) ∧ RelV p.2 q.2.2
theorem KT.val {H : Hp} {kvs : List (List Key × V)} {xs : List (List Key × Addr × Value)} (r : KT H kvs xs) (k : List Key) : RelO (valV kvs k) ((atKey xs k).map (·.2)) := by
  induction r with
  | nil => exact True.intro
  | @cons p q ps qs h t ih =>
    obtain ⟨h1, _, h2⟩ := h
    by_cases e : p.1 = k
    · have e' : q.1 = k := h1.symm.trans e
      have b : atKey (q :: qs) k = some q.2 := by simp [atKey, List.find?_cons, e']
      rw [valV_pos e, b]; exact h2
    · have e' : ¬ q.1 = k := fun z => e (h1.trans z)
      have b : atKey (q :: qs) k = atKey qs k := by simp [atKey, List.find?_cons, e']
      rw [valV_neg e, b]; exact ih
theorem KT.repl {H : Hp} {kvs : List (List Key × V)} {xs : List (List Key × Addr × Value)} (r : KT H kvs xs) (k : List Key) {y : V} {u : Value} (ry : RelV y u) :
    KT H (kvs.map fun kv => if kv.1 = k then (kv.1, y) else kv) (xs.map (putAt k u)) := by
  induction r with
  | nil => exact .nil
  | @cons p q ps qs h t ih =>
    rw [List.map_cons, List.map_cons]
    refine .cons ?_ ih
    obtain ⟨h1, h2, h3⟩ := h
    unfold putAt
    by_cases e : p.1 = k
    · rw [if_pos e, if_pos (h1.symm.trans e)]; exact ⟨h1, h2, ry⟩
    · rw [if_neg e, if_neg (fun z => e (h1.trans z))]; exact ⟨h1, h2, h3⟩
theorem KT.put {H : Hp} {kvs : List (List Key × V)} {xs : List (List Key × Addr × Value)} (r : KT H kvs xs) (k : List Key) {b : Addr} {y : V} {u : Value} (hb : H b = some (.tup (k.map kV))) (ry : RelV y u) :
    KT H (putK kvs k y) (storedH xs k b u) := by
  have e : (kvs.any fun kv => decide (kv.1 = k)) = (atKey xs k).isSome := by
    rw [valV_any, (r.val k).isSome_eq, Option.isSome_map]
  unfold putK storedH
  rw [e]
  by_cases q : (atKey xs k).isSome = true
  · rw [if_pos q, if_pos q]; exact r.repl k ry
  · rw [if_neg q, if_neg q]; exact Paired.snoc r ⟨rfl, hb, ry⟩
theorem KT.keeps {H H' : Hp} {kvs : List (List Key × V)} {xs : List (List Key × Addr × Value)} (r : KT H kvs xs) (ht : ∀ b ys, H b = some (.tup ys) → H' b = some (.tup ys)) : KT H' kvs xs :=
  Paired.mapP r fun _ _ z => ⟨z.1, ht _ _ z.2.1, z.2.2⟩
section
variable {P : Program} {w : World} {H : Hp} {h : Heap} {a : Addr}
theorem rd_of {u : HO} (ok : HOk P w H h) (e : Rd H a u) : ObjOk P w H h a u := e.ok ok
theorem dk_rd {kvs : List (Key × V)} (ok : HOk P w H h) (e : Rd H a (.dK kvs)) : kvs.length ≤ sizeLine ∧ (a == sysModules) = false ∧ ∃ vs, KV kvs vs ∧ h.DictOf (mixKind P w) a vs :=
  show ObjOk P w H h a (.dK kvs) from rd_of ok e
theorem dk_of {kvs : List (Key × V)} (ok : HOk P w H h) (e : H a = some (.dK kvs)) : kvs.length ≤ sizeLine ∧ (a == sysModules) = false ∧ ∃ vs, KV kvs vs ∧ h.DictOf (mixKind P w) a vs := dk_rd ok (.inl e)
theorem key_of {ks : List Key} (ok : HOk P w H h) (e : H a = some (.tup (ks.map kV))) : (tupleKind (mixKind P w)).is h ks a := by
  obtain ⟨_, its, r, o, h1, h2, n, h3⟩ := (show ObjOk P w H h a (.tup (ks.map kV)) from ok a _ e)
  exact ⟨o, its.toArray, n, h1, h2, h3, by simpa using items_are r⟩
theorem dt_rd {kvs : List (List Key × V)} (ok : HOk P w H h) (e : Rd H a (.dT kvs)) : kvs.length ≤ sizeLine ∧ (a == sysModules) = false ∧
    ∃ xs, KT H kvs xs ∧ h.DictOfH (tupleKind (mixKind P w)) a xs := by
  obtain ⟨z, y, xs, r, o, es, ep, h1, h2, h3, h4, h5⟩ := (show ObjOk P w H h a (.dT kvs) from rd_of ok e)
  refine ⟨z, y, xs, r, o, es, ep, h1, h2, h3, h4, fun x hx => ?_, h5⟩
  have all : ∀ {l : List (List Key × V)} {m : List (List Key × Addr × Value)}, KT H l m → ∀ x ∈ m, (tupleKind (mixKind P w)).is h x.1 x.2.1 := by
    intro l m q
    induction q with
    | nil => intro x hx; exact nomatch hx
    | @cons p q ps qs hq t ih =>
      intro x hx
      rcases List.mem_cons.mp hx with e | hx
      · subst e
        exact key_of ok (by rw [← hq.1]; exact hq.2.1)
      · exact ih x hx
  exact all r x hx
theorem dt_of {kvs : List (List Key × V)} (ok : HOk P w H h) (e : H a = some (.dT kvs)) : kvs.length ≤ sizeLine ∧ (a == sysModules) = false ∧
    ∃ xs, KT H kvs xs ∧ h.DictOfH (tupleKind (mixKind P w)) a xs := dt_rd ok (.inl e)
end
def DGet (H : Hp) (a : Addr) (y : V) (r : Option V) : Prop :=
  (∃ kvs k, Rd H a (.dK kvs) ∧ y = kV k ∧ r = valV kvs k) ∨ ∃ kvs k b, Rd H a (.dT kvs) ∧ y = .ref b ∧ H b = some (.tup (k.map kV)) ∧ r = valV kvs k
def DPut (H : Hp) (a : Addr) (y v : V) (H' : Hp) : Prop :=
  (∃ kvs k, H a = some (.dK kvs) ∧ y = kV k ∧ kvs.length < sizeLine ∧ H' = upd H a (.dK (putK kvs k v))) ∨
  ∃ kvs k b, H a = some (.dT kvs) ∧ y = .ref b ∧ H b = some (.tup (k.map kV)) ∧ kvs.length < sizeLine ∧ H' = upd H a (.dT (putK kvs k v))
theorem DGet.k {H : Hp} {a : Addr} {kvs : List (Key × V)} {k : Key} (e : H a = some (.dK kvs)) : DGet H a (kV k) (valV kvs k) := .inl ⟨kvs, k, .inl e, rfl, rfl⟩
theorem DGet.t {H : Hp} {a b : Addr} {kvs : List (List Key × V)} {k : List Key} (e : H a = some (.dT kvs)) (eb : H b = some (.tup (k.map kV))) : DGet H a (.ref b) (valV kvs k) := .inr ⟨kvs, k, b, .inl e, rfl, eb, rfl⟩
theorem DPut.k {H : Hp} {a : Addr} {kvs : List (Key × V)} {k : Key} {v : V} (e : H a = some (.dK kvs)) (hl : kvs.length < sizeLine) : DPut H a (kV k) v (upd H a (.dK (putK kvs k v))) := .inl ⟨kvs, k, e, rfl, hl, rfl⟩
theorem DPut.t {H : Hp} {a b : Addr} {kvs : List (List Key × V)} {k : List Key} {v : V} (e : H a = some (.dT kvs)) (eb : H b = some (.tup (k.map kV))) (hl : kvs.length < sizeLine) :
    DPut H a (.ref b) v (upd H a (.dT (putK kvs k v))) := .inr ⟨kvs, k, b, e, rfl, eb, hl, rfl⟩
section
variable {X : Cx} {pins : List (Addr × Obj)} {σ : St} {H : Hp} {s : Shared} {a : Addr} {y v : V} {u r : Value} {o : Option V} {A : Around} {E : Value → Shared → Prop}
theorem Inv.big (I : Inv X pins σ H s) : sysModules < s.heap.objs.size := by
  have h : mainGlobals < s.heap.objs.size := (I.mod.glob.keeps I.bk).lt
  exact Nat.lt_trans (by decide) h
theorem d_getItem {Q : Value → Shared → Prop} (hu : A.units + 1 < cLine) (I : Inv X pins σ H s) (g : DGet H a y (some v)) (ry : RelV y u) (h : ∀ w' s', Inv X pins σ H s' → RelV v w' → Q w' s') :
    wpAny (model X.prog X.w) A (getItem (.ref a) u) Q E s := by
  rcases g with ⟨kvs, k, e, ey, l⟩ | ⟨kvs, k, b, e, ey, eb, l⟩
  · subst ey
    obtain ⟨z, hd, vs, rel, dd⟩ := dk_rd I.hok e
    obtain ⟨w', hw, rw'⟩ := RelO.some_of (v := v) (o := valueAt vs k) (by rw [l]; exact rel.val k)
    exact wpAny_getItem_of (kV_is ry) dd.mapOf hw (h w' _ (I.tok _) rw')
  · subst ey
    cases (show u = Value.ref b from ry)
    obtain ⟨z, hd, xs, rel, dd⟩ := dt_rd I.hok e
    obtain ⟨w', hw, rw'⟩ := RelO.some_of (v := v) (o := (atKey xs k).map (·.2)) (by rw [l]; exact rel.val k)
    obtain ⟨p, hp, hp2⟩ := Option.map_eq_some_iff.mp hw
    refine wpAny_getItem_heap (tupleKind_room_in1 hu) (key_of I.hok eb) dd hp ?_
    rw [hp2]
    exact h w' _ (I.tok _) rw'
theorem d_write {h' : Heap} {t' : Nat} {ob : HO} (I : Inv X pins σ H s) (mu : Mut (H a)) (hs : Heap.SameBut a s.heap h') (he : ∃ q, h'.get? a = some q) (new : ObjOk X.prog X.w (upd H a ob) h' a ob) :
    Inv X pins σ (upd H a ob) { s with heap := h', toks := t' } :=
  I.write (x := a) (e := a) mu (.inl rfl) (fun b q hb z => (hs.2 b hb).trans z) he new
theorem dk_new {P : Program} {w : World} {H' : Hp} {h' : Heap} {kvs : List (Key × V)} {vs : List (Key × Value)} (z : kvs.length ≤ sizeLine) (hd : (a == sysModules) = false) (rel : KV kvs vs) (dd : h'.DictOf (mixKind P w) a vs) :
    ObjOk P w H' h' a (.dK kvs) := ⟨z, hd, vs, rel, dd⟩
theorem d_setItem {H' : Hp} {Q : Unit → Shared → Prop} (hu : A.units + 1 < cLine) (I : Inv X pins σ H s) (g : DPut H a y v H') (ry : RelV y u) (rv : RelV v r) (h : ∀ s', Inv X pins σ H' s' → Q () s') :
    wpAny (model X.prog X.w) A (setItem (.ref a) u r) Q E s := by
  rcases g with ⟨kvs, k, e, ey, l, eH⟩ | ⟨kvs, k, b, e, ey, eb, l, eH⟩
  · subst ey eH
    obtain ⟨z, hd, vs, rel, dd⟩ := dk_of I.hok e
    have hz : vs.length ≤ sizeLine := by rw [← rel.length]; exact z
    have hl : (putK kvs k v).length ≤ sizeLine := by have := length_putK kvs k v; omega
    refine wpAny_setItem_pairs (hsz := hz) (kV_is ry) dd fun h' dd' hs => h _ ?_
    have he : ∃ q, h'.get? a = some q := let ⟨q, _, _, hq, _⟩ := dd'; ⟨q, hq⟩
    exact d_write I (by rw [e]; exact True.intro) hs he (dk_new hl hd (rel.put k rv) dd')
  · subst ey eH
    cases (show u = Value.ref b from ry)
    obtain ⟨z, hd, xs, rel, dd⟩ := dt_of I.hok e
    have hz : xs.length ≤ sizeLine := by rw [← Paired.length rel]; exact z
    have hl : (putK kvs k v).length ≤ sizeLine := by have := length_putK kvs k v; omega
    refine wpAny_setItem_heap (hsz := hz) (tupleKind_room_in1 hu) (key_of I.hok eb) dd fun h' dd' hs => h _ ?_
    obtain ⟨q, es, ep, hq, h2, h3, h4, _, h5⟩ := dd'
    refine d_write I (by rw [e]; exact True.intro) hs ⟨q, hq⟩ ⟨hl, hd, _, (rel.put k eb rv).keeps fun c ys ec => ?_, q, es, ep, hq, h2, h3, h4, h5⟩
    rw [upd_ne (ne_of ec e (fun z => nomatch z))]
    exact ec
end
section
variable {X : Cx} {pins : List (Addr × Obj)} {σ : St} {H : Hp} {s : Shared} {a : Addr} {kvs : List (Key × V)} {k : Key} {u : Value} {A : Around} {E : Value → Shared → Prop}
theorem d_len {Q : Value → Shared → Prop} (I : Inv X pins σ H s) (e : Rd H a (.dK kvs)) (h : ∀ t s', Inv X pins σ H s' → Q (.int kvs.length t) s') : wpAny (model X.prog X.w) A (call (.builtin "len") [.ref a]) Q E s := by
  obtain ⟨z, hd, vs, rel, dd⟩ := dk_rd I.hok e
  refine call_len_dict hd dd (by rw [← rel.length]; rw [sizeLine_eq] at z; omega) ?_
  rw [← rel.length]
  exact h _ _ (I.tok _)
end
def NoSl (i : Expr) : Prop := ∀ ov iv, subscripted i false ov iv = operate [ov, iv] (getItem ov iv)
theorem subD_of {prog : Program} {w : World} {A : Around} {E : Value → Shared → Prop} {s : Shared} {env : Env} {value slice : Expr} {pos : Pos} {T id : String} {Q : Value → Shared → Prop}
    (hl : typeLookup (.type T) "__getitem__" = pure (some (.builtin id))) (hs : NoSl slice)
    (h : wpAny (model prog w) A (eval value env) (fun o s₁ => wpAny (model prog w) A (eval slice env) (fun i s₂ => s₂.TypeIs o T ∧ wpAny (model prog w) A (getItem o i) Q E s₂) E s₁) E s) :
    wpAny (model prog w) A (eval (.Subscript value slice pos) env) Q E s := by
  refine Subscript_ (wpAny_mono h (fun o s₁ h₁ => wpAny_mono h₁ (fun i s₂ h₂ => ?_) fun _ _ x => x) fun _ _ x => x)
  obtain ⟨hT, h₂⟩ := h₂
  unfold subscriptTail
  refine wpAny_bind ?_
  rw [getitemInPython_of_ne hT.not_modules]
  refine wpAny_bind (wpAny_specialOf hT hl ?_)
  have fin : wpAny (model prog w) A (subscripted slice false o i) (fun r s₃ => wpAny (model prog w) A (letTemporaryGo value o r >>= fun _ => pure r) Q E s₃) E s₂ := by
    rw [hs o i]
    exact wpAny_operating (wpAny_mono h₂ (fun r s₃ h₃ => wpAny_bind (wpAny_letTemporaryGo (wpAny_pure h₃))) fun _ _ x => x)
  first
    | exact wpAny_pure (wpAny_bind fin)
    | exact wpAny_bind (wpAny_pure (wpAny_bind fin))
    | exact wpAny_bind fin
theorem dict_typeIs {X : Cx} {pins : List (Addr × Obj)} {σ : St} {H : Hp} {s : Shared} {a : Addr} {y : V} {o : Option V} (I : Inv X pins σ H s) (g : DGet H a y o) : s.TypeIs (.ref a) "dict" := by
  rcases g with ⟨kvs, k, e, _, _⟩ | ⟨kvs, k, b, e, _, _, _⟩
  · obtain ⟨_, _, vs, _, dd⟩ := dk_rd I.hok e
    exact dd.typeIs
  · obtain ⟨_, _, xs, _, dd⟩ := dt_rd I.hok e
    exact dd.typeIs
def tDGet (td ty : TE) : TE := fun σ H Q => td σ H fun x H1 => ty σ H1 fun y H2 => ∃ a v, x = .ref a ∧ DGet H2 a y (some v) ∧ Q v H2
def tDIn (ty td : TE) : TE := fun σ H Q => ty σ H fun y H1 => td σ H1 fun x H2 => ∃ a o, x = .ref a ∧ DGet H2 a y o ∧ Q (.bl o.isSome) H2
def tDNotIn (ty td : TE) : TE := fun σ H Q => ty σ H fun y H1 => td σ H1 fun x H2 => ∃ a o, x = .ref a ∧ DGet H2 a y o ∧ Q (.bl (!o.isSome)) H2
def sDPut (td ty tv : TE) : TS := fun D σ H => tv σ H fun v H1 => td σ H1 fun x H2 => ty σ H2 fun y H3 => ∃ a H4, x = .ref a ∧ DPut H3 a y v H4 ∧ D.nx σ H4
section
variable {X : Cx} {o i e value : Expr} {pos pos' tpos : Pos} {td ty tv : TE}
theorem pe_dget (hu : X.A.units + 1 < cLine) (ho : PE X o td) (hi : PE X i ty) (hs : NoSl i) : PE X (.Subscript o i pos) (tDGet td ty) := by
  intro pins s σ H Q I h
  refine subD_of PySem.F.slot_dict_getitem.lookup hs (thn (ho pins s σ H _ I h) fun u s1 ⟨x, H1, I1, rx, q1⟩ => thn (hi pins s1 σ H1 _ I1 q1) fun iv s2 ⟨y, H2, I2, ry, a, v, ex, g, q2⟩ => ?_)
  subst ex
  obtain rfl : u = Value.ref a := rx
  exact ⟨dict_typeIs I2 g, d_getItem hu I2 g ry fun w' s3 I3 rw' => ⟨v, H2, I3, rw', q2⟩⟩
theorem ps_dput (hu : X.A.units + 1 < cLine) (ho : PE X o td) (hi : PE X i ty) (hv : PE X value tv) (hs : swapsWith value (some (.Subscript o i pos')) pos.line X.env = pure false) :
    PS X (.Assign [.Subscript o i pos'] value pos) (sDPut td ty tv) := by
  intro pins s σ H D I h
  refine wpAny_Assign_Subscript (thn (hv pins s σ H _ I h) fun r s1 ⟨v, H1, I1, rv, q1⟩ => thn (ho pins s1 σ H1 _ I1 q1) fun u s2 ⟨x, H2, I2, rx, q2⟩ => thn (hi pins s2 σ H2 _ I2 q2) fun iv s3 ⟨y, H3, I3, ry, a, H4, ex, g, q3⟩ => ?_) hs
  subst ex
  obtain rfl : u = Value.ref a := rx
  exact d_setItem hu I3 g ry rv fun s4 I4 => ⟨σ, H4, I4, q3⟩
end
theorem dk_empty {P : Program} {w : World} {H : Hp} (h : Heap) (hb : sysModules < h.objs.size) : ObjOk P w H (h.push { cls := .type "dict", data := .dict #[] }) h.objs.size (.dK []) :=
  ⟨Nat.zero_le _, beq_eq_false_iff_ne.mpr (Ne.symm (Nat.ne_of_lt hb)), [], .nil, Heap.DictOf.new h⟩
def tDNewK : TE := fun _ H Q => ∀ p, H p = none → Q (.ref p) (upd H p (.dK []))
section
variable {X : Cx} {pos : Pos}
theorem pe_dnewK : PE X (.Dict [] [] pos) tDNewK := fun pins s σ H Q I h =>
  wpAny_Dict_empty ⟨.ref s.heap.objs.size, _, I.laid (a := s.heap.objs.size) (o := .dK []) (t' := s.toks) (fun _ _ q => Heap.get?_push_of_some _ q) (Nat.le_refl _) (dk_empty s.heap I.big), rfl, h _ (I.hok.fresh (Nat.le_refl _))⟩
end
def tPairs : List (TE × TE) → St → Hp → (List (V × V) → Hp → Prop) → Prop
  | [], _, H, Q => Q [] H
  | (tk, tv) :: r, σ, H, Q => tk σ H fun x H1 => tv σ H1 fun y H2 => tPairs r σ H2 fun ps H3 => Q ((x, y) :: ps) H3
abbrev VV : List (V × V) → List (Value × Value) → Prop := Paired fun p q => RelV p.1 q.1 ∧ RelV p.2 q.2
def PPs (X : Cx) (pos : Pos) (keys : List (Option Expr)) (values : List Expr) (trs : List (TE × TE)) : Prop :=
  ∀ (pins : List (Addr × Obj)) (s : Shared) (σ : St) (H : Hp) (Q : List (V × V) → Hp → Prop), Inv X pins σ H s → tPairs trs σ H Q →
    wpAny (model X.prog X.w) X.A (evalPairs (pairTrees keys values X.env pos)) (fun vs s' => ∃ ps H', Inv X pins σ H' s' ∧ VV ps vs ∧ Q ps H') X.xe s
theorem pps_nil {X : Cx} {pos : Pos} : PPs X pos [] [] [] := fun pins s σ H Q I h => pairTrees_nil_walk ⟨[], H, I, .nil, h⟩
theorem pps_cons {X : Cx} {pos : Pos} {k v : Expr} {ks : List (Option Expr)} {vs : List Expr} {tk tv : TE} {trs : List (TE × TE)} (hk : PE X k tk) (hv : PE X v tv) (hr : PPs X pos ks vs trs) :
    PPs X pos (some k :: ks) (v :: vs) ((tk, tv) :: trs) := fun pins s σ H Q I h =>
  pairTrees_cons_walk (thn (hk pins s σ H _ I h) fun u s1 ⟨x, H1, I1, rx, q1⟩ => thn (hv pins s1 σ H1 _ I1 q1) fun w2 s2 ⟨y, H2, I2, ry, q2⟩ =>
    thn (hr pins s2 σ H2 _ I2 q2) fun ws s3 ⟨ps, H3, I3, rel, q3⟩ => ⟨(x, y) :: ps, H3, I3, .cons ⟨rx, ry⟩ rel, q3⟩)
def mergeK (kvs more : List (Key × V)) : List (Key × V) := more.foldl (fun acc kv => putK acc kv.1 kv.2) kvs
theorem KV.merge : ∀ {more : List (Key × V)} {rs : List (Key × Value)} {kvs : List (Key × V)} {vs : List (Key × Value)}, KV more rs → KV kvs vs → KV (mergeK kvs more) (merged vs rs) := by
  intro more rs kvs vs r
  unfold KV at r
  induction r generalizing kvs vs with
  | nil => intro q; exact q
  | @cons p q ps qs h t ih =>
    intro r0
    have e : KV (putK kvs p.1 p.2) (stored vs q.1 q.2) := by
      have := r0.put p.1 h.2
      rw [← h.1]; exact this
    exact ih e
theorem length_mergeK : ∀ (more kvs : List (Key × V)), (mergeK kvs more).length ≤ kvs.length + more.length
  | [], kvs => by show kvs.length ≤ kvs.length + 0; omega
  | p :: r, kvs => by
    have h1 := length_mergeK r (putK kvs p.1 p.2)
    have h2 := length_putK kvs p.1 p.2
    show (mergeK (putK kvs p.1 p.2) r).length ≤ _
    rw [List.length_cons]; omega
theorem carries_of {P : Program} {w : World} : ∀ {kvs : List (Key × V)} {ws : List (Value × Value)}, VV (kvs.map fun kv => (kV kv.1, kv.2)) ws → ∃ rs, Carries (mixKind P w) ws rs ∧ KV kvs rs
  | [], _, r => by rw [List.map_nil] at r; cases r; exact ⟨[], True.intro, .nil⟩
  | p :: kvs, _, r => by
    rw [List.map_cons] at r
    cases r with
    | @cons a b as bs h t =>
      obtain ⟨rs, c, q⟩ := carries_of (P := P) (w := w) t
      obtain ⟨b1, b2⟩ := b
      exact ⟨(p.1, b2) :: rs, ⟨kV_is h.1, rfl, c⟩, .cons ⟨rfl, h.2⟩ q⟩
def tDisp (trs : List (TE × TE)) : TE := fun σ H Q => ∀ p, H p = none → tPairs trs σ (upd H p (.dK [])) fun ps H2 => H2 p = some (.dK []) ∧ ∃ kvs : List (Key × V), ps = kvs.map (fun kv => (kV kv.1, kv.2)) ∧ kvs.length ≤ 15 ∧ Q (.ref p) (upd H2 p (.dK (mergeK [] kvs)))
theorem pe_disp {X : Cx} {pos : Pos} {keys : List (Option Expr)} {values : List Expr} {trs : List (TE × TE)} (h : PPs X pos keys values trs) (hall : keys.all (·.isSome) = true) (hl : keys.length = values.length) (h0 : keys ≠ [])
    (h15 : keys.length ≤ 15) : PE X (.Dict keys values pos) (tDisp trs) := by
  intro pins s σ H Q I q
  have hn := I.hok.fresh (Nat.le_refl s.heap.objs.size)
  have I1 := I.laid (a := s.heap.objs.size) (o := .dK []) (h' := s.heap.push { cls := .type "dict", data := .dict #[] }) (t' := s.toks) (fun _ _ q => Heap.get?_push_of_some _ q) (Nat.le_refl _) (dk_empty s.heap I.big)
  refine wpAny_Dict_walk (knd := mixKind X.prog X.w) hall hl h0 h15 (thn (h pins _ σ _ _ I1 (q _ hn)) fun ws s2 ⟨ps, H2, I2, rel, e, kvs, ep, lk, q2⟩ => ?_)
  subst ep
  obtain ⟨rs, c, rk⟩ := carries_of (P := X.prog) (w := X.w) rel
  obtain ⟨z, hd, vs0, r0, dd⟩ := dk_of I2.hok e
  cases r0
  refine ⟨rs, c, dd, fun h' dd' hs => ⟨.ref s.heap.objs.size, _, ?_, rfl, q2⟩⟩
  have hz : (mergeK [] kvs).length ≤ sizeLine := by
    have h1 := length_mergeK kvs []
    rw [List.length_nil] at h1
    rw [sizeLine_eq]; omega
  have he : ∃ q, h'.get? s.heap.objs.size = some q := let ⟨q, _, _, hq, _⟩ := dd'; ⟨q, hq⟩
  exact d_write I2 (by rw [e]; exact True.intro) hs he (dk_new hz hd (rk.merge .nil) dd')
structure M1 (X : Cx) (o : Expr) (m : Str) (apos : Pos) (e : Expr) (cpos : Pos) : Prop where
  base : attributeBase o m X.env (eval o X.env) = eval o X.env
  few : ((backTo cpos (starEach [e] X.env)).all (fun x => !x.1) && (backToKw cpos (keywordEach [] X.env)).all (fun x => x.1.isSome)
    && decide (([e] : List Expr).length + ([] : List Keyword).length + (if ([] : List Keyword).isEmpty then 0 else 1) < 30)) = true
  line : (apos.endLine == cpos.line) = true
  trees : backTo cpos (starEach [e] X.env) = [(false, eval e X.env)]
structure M2 (X : Cx) (o : Expr) (m : Str) (apos : Pos) (e f : Expr) (cpos : Pos) : Prop where
  base : attributeBase o m X.env (eval o X.env) = eval o X.env
  few : ((backTo cpos (starEach [e, f] X.env)).all (fun x => !x.1) && (backToKw cpos (keywordEach [] X.env)).all (fun x => x.1.isSome)
    && decide (([e, f] : List Expr).length + ([] : List Keyword).length + (if ([] : List Keyword).isEmpty then 0 else 1) < 30)) = true
  line : (apos.endLine == cpos.line) = true
  trees : backTo cpos (starEach [e, f] X.env) = [(false, eval e X.env), (false, eval f X.env)]
def IsD (H : Hp) (a : Addr) : Prop := (∃ kvs, Rd H a (.dK kvs)) ∨ ∃ kvs, Rd H a (.dT kvs)
theorem isD_at {X : Cx} {pins : List (Addr × Obj)} {σ : St} {H : Hp} {s : Shared} {a : Addr} (I : Inv X pins σ H s) (d : IsD H a) :
    s.TypeIs (.ref a) "dict" ∧ (∀ b, Value.ref a = .ref b → ∃ ob, s.heap.get? b = some ob ∧ ob.dict = none) ∧ (a == sysModules) = false := by
  rcases d with ⟨kvs, e⟩ | ⟨kvs, e⟩
  · obtain ⟨_, hd, vs, _, dd⟩ := dk_rd I.hok e
    refine ⟨dd.typeIs, fun b q => ?_, hd⟩
    cases q
    obtain ⟨ob, _, _, h1, h2, _⟩ := dd
    exact ⟨ob, h1, h2.2.1⟩
  · obtain ⟨_, hd, xs, _, dd⟩ := dt_rd I.hok e
    refine ⟨dd.typeIs, fun b q => ?_, hd⟩
    cases q
    obtain ⟨ob, _, _, h1, h2, _⟩ := dd
    exact ⟨ob, h1, h2.2.1⟩
section
variable {X : Cx} {pins : List (Addr × Obj)} {σ : St} {H : Hp} {s : Shared} {a : Addr} {y d : V} {u r : Value} {o : Option V} {A : Around} {E : Value → Shared → Prop}
end
def tDGet2 (td ty tx : TE) : TE := fun σ H Q => td σ H fun x H1 => ∃ a, x = .ref a ∧ IsD H1 a ∧ ty σ H1 fun y H2 => tx σ H2 fun z H3 => ∃ o, DGet H3 a y o ∧ Q (o.getD z) H3
section
variable {X : Cx} {o e f : Expr} {apos cpos : Pos} {td ty tx : TE}
end
section
variable {X : Cx} {pins : List (Addr × Obj)} {σ : St} {H : Hp} {s : Shared} {a : Addr} {kvs : List (Key × V)} {A : Around} {E : Value → Shared → Prop}
end
section
variable {X : Cx} {pins : List (Addr × Obj)} {σ : St} {H : Hp} {s : Shared} {a : Addr} {y : V} {u : Value} {A : Around} {E : Value → Shared → Prop}
end
end L2
namespace Att
open PySem PySem.W PySem.Calls PyProof.Rows
theorem ints_of_wellAll {P : Params} {h : Heap} : ∀ (ns : List Int) (vs : List Value), WellAll P h vs (ns.map WData.int) → IntsAre vs ns := by
  intro ns
  induction ns with
  | nil =>
    intro vs w
    rw [List.map_nil] at w
    cases w
    exact .nil
  | cons n ns ih =>
    intro vs w
    rw [List.map_cons] at w
    cases w with
    | cons a b =>
      cases a
      exact .cons _ _ (ih _ b)
theorem script_of {l : OpenLaw} {n : Nat} (hn : l.most = some n) {P : Params} {h : Heap} {args : List WData} {vals : List Value}
    (hpre : l.row.toRowW.claim.pre args = true) (hwl : WellAll P h vals args) :
    ∃ a vs ns, vals = [Value.ref a] ∧ args = [WData.list (ns.map WData.int)] ∧ h.get? a = some { cls := .type "list", data := .seq vs.toArray } ∧ IntsAre vs ns ∧ ns.length ≤ n := by
  have hsh : WShape.hasAll [] args [.list .int] = true := (pre_splitW hpre).1
  have hc : l.pre.holds [] { args := args } = true := (pre_splitW hpre).2
  obtain ⟨d, r, rfl, h1, h2⟩ := hasAllW_cons hsh
  obtain rfl := hasAllW_nil h2
  obtain ⟨xs, rfl, h3⟩ := hasW_list h1
  obtain ⟨ns, rfl⟩ := items_int h3
  have hlen : ns.length ≤ n := by
    unfold OpenLaw.pre at hc
    have h4 : (WTm.not (.lt (.lit (.int (n : Int))) (.len (.arg 0)))).holds [] { args := [.list (ns.map .int)] } = true := by
      have h4 := (holds_andW hc).1
      rw [hn] at h4
      exact h4
    have h5 := condW_of h4 (w_not (w_lt w_lit (w_len_list (w_arg rfl))))
    rw [List.length_map] at h5
    refine Nat.le_of_not_lt fun q => ?_
    have q' : (n : Int) < ((ns.length : Nat) : Int) := by omega
    first
      | (rw [decide_eq_true q'] at h5; exact absurd h5 (by decide))
      | (simp at h5; omega)
  cases hwl with
  | cons w1 w2 =>
    cases w2
    cases w1 with
    | list ho hall => exact ⟨_, _, ns, rfl, rfl, ho, ints_of_wellAll ns _ hall, hlen⟩
theorem post_true (l : OpenLaw) (args : List WData) : l.row.toRowW.claim.post args (.bool true) args = true :=
  postW_of (r := l.row.toRowW) (X := (true == true))
    (show WShape.has [] (.bool true) .bool = true by first | rfl | decide | simp [WShape.has, WShape.arms, WShape.armsAll])
    (show (WTm.eq .res (.lit (.bool true))).value [] { args := args, res := some (.bool true), after := args } = some (.bool (true == true)) from w_eq_bool (w_res rfl) w_lit) rfl
theorem attach_call {l : OpenLaw} {n : Nat} {q : Program} {loose : List Str} {XP : (Str → Option Value) → Heap → Prop} {YP : World → Heap → Prop} {d : DefRec}
    (hn : l.most = some n) (hdf : d.params.defaults = [])
    (call : ∀ (w : World) (s₀ s₁ : Shared) (mg mb : Str → Option Value) (fa : Addr) (o : Obj) (pm cd doc : Value) (a : Addr) (vs : List Value) (ns : List Int),
      Ground q loose [] XP w s₀ mg mb s₁.heap → YP w s₁.heap →
      s₁.heap.get? fa = some o → o.data = .func (docDef d.name d.params d.body d.scope pm cd doc) → s₁.heap.CodeRec cd d.name → mg d.name = some (.ref fa) →
      s₁.heap.get? a = some { cls := .type "list", data := .seq vs.toArray } → IntsAre vs ns → ns.length ≤ n → s₁.gens = #[] →
      codeAny (model l.prog w) callerA (.call (.ref fa) ⟨[.ref a], []⟩) (fun r s' => r = .ok (.ret (.bool true)) ∧ OldK s₁.heap s'.heap ∧ s'.os = s₁.os ∧ AllBare s'.gens) s₁) :
    WalkO q loose XP YP l.row.toRowW d [] (fun f vs => PySem.call f vs) := by
  intro w s₀ s₁ mg mb G Y fa o pm cd doc dV kV ho hd hcd hD hmg hg args vals as hpre hlay hrd hwl hlo
  obtain rfl : dV = .none := Dflts.none hD hdf
  obtain rfl : kV = .none := Dflts.noKw hD
  obtain ⟨a, vs, ns, rfl, rfl, hobj, hints, hlen⟩ := script_of hn hpre hwl
  refine enter_call (codeAny_mono (call w s₀ s₁ mg mb fa o pm cd doc a vs ns G Y ho (fd_plain hd) hcd hmg hobj hints hlen hg) fun r s' hq => ?_)
  obtain ⟨rfl, h2, h3, h4⟩ := hq
  exact ⟨.inl ⟨.bool true, .bool true, [], rfl, fun _ => rfl, .bool true, post_true l _, fun _ => ⟨List.Pairwise.nil, fun _ hm => (nomatch hm)⟩⟩, h2, h3, h4⟩
section
variable {prog : Program} {w : World} {A : Around} {E : Value → Shared → Prop} {s : Shared} {K : Frag}
def ledger (h : Heap) (L d : Addr) : List (Addr × Obj) := (List.range h.objs.size).filterMap fun a => if a = L ∨ a = d then none else (h.get? a).map fun o => (a, o)
end
end Att
namespace L2
open PySem PySem.Spec PyProof.Rows
theorem vals_ints : ∀ {vs : List Value} {ns : List Int}, IntsAre vs ns → Vals (ns.map V.int) vs
  | _, _, .nil => .nil
  | _, _, .cons n t h => .cons ⟨t, rfl⟩ (vals_ints h)
def Only (H : Hp) : Prop := ∀ b, H b = none ∨ ∃ o xs, H b = some (.frz o (.lst xs))
theorem law_call {P : Program} {w : World} {K : PySem.W.Frag} {mg mb : Str → Option Value} {CX : CXT} {k : Nat} {fa a : Addr} {fd : FuncData} {x : Str} {sp : Sp} {s₁ : Shared} {vs : List Value} {ns : List Int}
    (KX : K.In s₁.heap) (hns : s₁.heap.Ns mainGlobals mg) (hb : s₁.heap.Ns builtinsNs mb) (hbb : ∀ x : Str, x ≠ "__name__" → mb x = bootBuiltins x) (hlim : s₁.heap.NoLimit) (hg : s₁.gens = #[])
    (ha : s₁.heap.get? a = some { cls := .type "list", data := .seq vs.toArray }) (hi : IntsAre vs ns) (hl : ns.length ≤ sizeLine) (hr : Room k callerA)
    (F : ∀ base : Heap, K.In base → base.Ns mainGlobals mg → FnOk P w K mg base CX k fa fd [x] sp) (hbind : ∀ (s : Shared) (u : Value), BindsTo s fd ⟨[u], []⟩ [(x, u)])
    (hsp : ∀ H : Hp, Only H → SqL K H a (ns.map V.int) → sp [.ref a] H (fun v _ => v = .bl true) fun _ _ _ => False)
    (hCX : ∀ H e s', CX [] H s₁ (fun _ _ _ => False) e s' → False) :
    codeAny (model P w) callerA (.call (.ref fa) ⟨[.ref a], []⟩) (fun r s' => r = .ok (.ret (.bool true)) ∧ OldK s₁.heap s'.heap ∧ s'.os = s₁.os ∧ AllBare s'.gens) s₁ := by
  have rv := vals_ints hi
  have lenV := hi.length
  -- from an abstract heap in which nothing but the script may be tracked
  have core : ∀ H : Hp, Only H → SqL K H a (ns.map V.int) → HOk P w H s₁.heap → (∀ b, H b ≠ none → b = a) → (H a ≠ none → K.lookup a = none) →
      codeAny (model P w) callerA (.call (.ref fa) ⟨[.ref a], []⟩) (fun r s' => r = .ok (.ret (.bool true)) ∧ OldK s₁.heap s'.heap ∧ s'.os = s₁.os ∧ AllBare s'.gens) s₁ := by
    intro H hO hS hok hA hK
    have base_of : ∀ {b : Addr} {o : Obj}, s₁.heap.get? b = some o → H b = none → (hidT s₁.heap H).get? b = some o := fun e n => hidT_get e n
    have noA : ∀ {b : Addr} {o : Obj} {es : Array DictEntry} {ep : Nat}, s₁.heap.get? b = some o → o.data = .dict es ep → H b = none := fun {b o es ep} e d => by
      cases q : H b with
      | none => rfl
      | some u =>
        have e' : b = a := hA b (by rw [q]; simp)
        subst e'
        rw [ha] at e; cases e
        have d' : Data.seq vs.toArray _ = Data.dict es ep := d
        cases d'
    have nsK : ∀ {b : Addr} {m : Str → Option Value}, s₁.heap.Ns b m → (hidT s₁.heap H).Ns b m := fun {b m} ⟨o, es, ep, e, d, r⟩ => ⟨o, es, ep, base_of e (noA e d), d, r⟩
    have hKb : K.In (hidT s₁.heap H) := fun b o e => base_of (KX b o e) (by
      cases q : H b with
      | none => rfl
      | some u =>
        have e' : b = a := hA b (by rw [q]; simp)
        subst e'
        rw [hK (by rw [q]; simp)] at e; cases e)
    have hM : Mod K mg (hidT s₁.heap H) := ⟨hKb, nsK hns, ⟨mb, nsK hb, hbb⟩, let ⟨mc, h1, h2⟩ := hlim; ⟨mc, nsK h1, h2⟩⟩
    have e0 : Env0 P w K mg (hidT s₁.heap H) callerA [] s₁ H := ⟨rfl, hM, fun b o e => of_hidT e, Nat.le_of_eq (hidT_size _ _), trivial, fun b hb => absurd (show b ∈ ([] : List Addr) from hb) (by simp), hok, .of_eq hg⟩
    refine codeAny_mono ((F _ hKb (nsK hns)).run callerA [] s₁ H ⟨[.ref a], []⟩ [.ref a] [.ref a] _ _ hr e0 (hbind s₁ (.ref a)) (.cons rfl .nil) (hsp H hO hS)) fun r s' h => ?_
    cases r with
    | error e => exact (hCX H e s' h).elim
    | ok fl =>
      cases fl with
      | next => exact False.elim h
      | brk => exact False.elim h
      | cont => exact False.elim h
      | ret u =>
        obtain ⟨v, H', os, bare, un, hok', r', q⟩ := h
        have q' : v = .bl true := q
        subst q'
        obtain rfl : u = Value.bool true := r'
        refine ⟨rfl, OldK.of_keep fun b o e => ?_, os, bare⟩
        cases q : H b with
        | none => exact un.keep b o e q (by intro z; exact absurd (show b ∈ ([] : List Addr) from z) (by simp)) (by simp)
        | some u =>
          rcases hO b with z | ⟨ob, xs, z⟩
          · rw [q] at z; cases z
          · have z2 := un.frzs b ob _ z
            obtain ⟨e1, _⟩ := hok b _ z
            obtain ⟨e2, _⟩ := hok' b _ z2
            rw [e] at e1; cases e1
            exact e2
  cases hk : K.lookup a with
  | some o =>
    -- the script is one of the module's own objects
    have e := KX a o hk
    rw [ha] at e
    cases e
    refine core (fun _ => none) (fun _ => .inl rfl) (.inr ⟨_, vs.toArray, _, hk, rfl, rfl, rfl, by rw [List.size_toArray, lenV]; exact hl, by simpa using rv⟩) (fun b u z => by have z' : (none : Option HO) = some u := z; cases z') (fun b z => absurd rfl z) fun z => absurd rfl z
  | none =>
    refine core (fun b => if b = a then some (.frz { cls := .type "list", data := .seq vs.toArray } (.lst (ns.map V.int))) else none) (fun b => ?_) (.inl (.inr ⟨{ cls := .type "list", data := .seq vs.toArray }, if_pos rfl⟩)) (fun b u z => ?_) (fun b z => ?_) fun _ => hk
    · by_cases hb : b = a
      · exact .inr ⟨_, _, if_pos hb⟩
      · exact .inl (if_neg hb)
    · by_cases hb : b = a
      · have z' := (if_pos hb).symm.trans z
        cases z'
        subst hb
        exact ⟨ha, by rw [List.length_map]; exact hl, vs, _, rv, ha⟩
      · have z' := (if_neg hb).symm.trans z
        cases z'
    · by_cases hb : b = a
      · exact hb
      · exact absurd (if_neg hb) z
end L2
namespace L2
open PySem PySem.Spec PyProof.Rows
theorem walk_of {l : PySem.W.OpenLaw} {n k : Nat} {q : Program} {loose : List Str} {XP : (Str → Option Value) → Heap → Prop} {YP : World → Heap → Prop} {d : DefRec} {K : Params → PySem.W.Frag} {CX : World → CXT} {sp : World → Sp} {x : Str}
    (hn : l.most = some n) (hn2 : n ≤ sizeLine) (hdf : d.params.defaults = []) (hr : Room k callerA)
    (hY : ∀ (w : World) (h : Heap), YP w h → (K w.params).In h)
    (F : ∀ (w : World) (mg : Str → Option Value) (fa : Addr) (h : Heap), (K w.params).In h → h.Ns mainGlobals mg → mg d.name = some (.ref fa) →
      ∃ fd : FuncData, (∀ (s : Shared) (u : Value), BindsTo s fd ⟨[u], []⟩ [(x, u)]) ∧
        ∀ base : Heap, (K w.params).In base → base.Ns mainGlobals mg → FnOk l.prog w (K w.params) mg base (CX w) k fa fd [x] (sp w))
    (hsp : ∀ (w : World) (H : Hp) (a : Addr) (ns : List Int), ns.length ≤ n → Only H → SqL (K w.params) H a (ns.map V.int) → sp w [.ref a] H (fun v _ => v = .bl true) fun _ _ _ => False)
    (hCX : ∀ (w : World) (H : Hp) (s : Shared) (e : Value) (s' : Shared), CX w [] H s (fun _ _ _ => False) e s' → False) :
    PySem.W.WalkO q loose XP YP l.row.toRowW d [] (fun f vs => PySem.call f vs) := by
  refine Att.attach_call hn hdf fun w s₀ s₁ mg mb fa o pm cd doc a vs ns G Y ho hd hcd hmg hobj hints hlen hg => ?_
  have KX := hY w _ Y
  obtain ⟨fd, hb, hF⟩ := F w mg fa _ KX G.T.g hmg
  exact law_call KX G.T.g G.T.b G.T.builtins G.T.nolimit hg hobj hints (Nat.le_trans hlen hn2) hr hF hb (fun H hO hS => hsp w H a ns hlen hO hS) fun H e s' => hCX w H s₁ e s'
end L2
namespace L2
open PySem PySem.Spec PyProof.Rows
def defArgs (s : Stmt) : Arguments := match s with
  | .FunctionDef _ a _ _ _ _ _ _ _ _ => a
  | _ => { posonlyargs := [], args := [], vararg := none, kwonlyargs := [], kw_defaults := [], kwarg := none, defaults := [] }
def defBody (s : Stmt) : List Stmt := match s with
  | .FunctionDef _ _ b _ _ _ _ _ _ _ => b
  | _ => []
def defScope (s : Stmt) : Scope := match s with
  | .FunctionDef _ _ _ _ _ _ sc _ _ _ => sc
  | _ => { kind := .function, names := [], isGenerator := false, isCoroutine := false }
abbrev CX0 : CXT := fun _ _ _ _ _ _ => False
abbrev E0 : XK := fun _ _ _ => False
theorem pass0 {X : Cx} : Passes CX0 X E0 := fun _ _ _ _ _ _ _ h => h.elim
structure Fun (K : PySem.W.Frag) (x qual : Str) (st : Stmt) (f : Addr) (fd : FuncData) : Prop where
  ex : ∃ (oc : Value) (od : Option Addr) (kV doc pm : Value) (an : Option Addr) (cdv ct : Value) (osl : Array (Option Value)),
    fd = PySem.W.fnOf x qual (defArgs st) (defBody st) (defScope st) .none kV doc pm an cdv ct ∧ K.lookup f = some ⟨oc, od, .func fd, osl⟩ ∧ PySem.W.codeIn K cdv qual = true
  kp : PySem.W.keepIn K (.ref f) = true
section
variable {P : Program} {w : World} {K : PySem.W.Frag} {mg : Str → Option Value} {base : Heap}
theorem Fun.ok {x qual : Str} {st : Stmt} {f : Addr} {fd : FuncData} {N ps : List Str} {k : Nat} {sp : Sp} (F : Fun K x qual st f fd) (S : FnScope N ps (defScope st)) (len : ∀ vs H Q E, sp vs H Q E → vs.length = ps.length)
    (hbody : ∀ (cdv : Value) (A : Around) (outer : List Env) (s : Shared) (H : Hp) (vs : List V) (Q : VK) (E : XK), Room k (A.deeper (envOfC qual (defScope st) s.heap.objs.size f cdv)) → sp vs H Q E →
      ∃ t, PSs (cxOf CX0 P w K mg base N qual (defScope st) f cdv A outer s H E).nox (defBody st) t ∧ t { nx := fun _ H' => Q .non H', rt := Q } (start N vs) H) : FnOk P w K mg base CX0 (k + 1) f fd ps sp := by
  obtain ⟨oc, od, kV, doc, pm, an, cdv, ct, osl, rfl, lk, hcd⟩ := F.ex
  refine fn_of lk hcd S len fun A outer s H vs Q E hr hsp => ?_
  obtain ⟨t, h, q⟩ := hbody cdv A outer s H vs Q E hr hsp
  exact ⟨t, h.nox, q⟩
theorem Fun.binds {x qual : Str} {st : Stmt} {f : Addr} {fd : FuncData} {ps : List Str} (F : Fun K x qual st f fd)
    (h : ∀ (kV doc pm : Value) (an : Option Addr) (cdv ct : Value) (us : List Value), us.length = ps.length → bindArgs (PySem.W.fnOf x qual (defArgs st) (defBody st) (defScope st) .none kV doc pm an cdv ct) ⟨us, []⟩ = pure (ps.zip us)) : Binds K fd ps [] := by
  obtain ⟨oc, od, kV, doc, pm, an, cdv, ct, osl, rfl, lk, hcd⟩ := F.ex
  exact .all (h kV doc pm an cdv ct)
theorem fun_mk {x qual : Str} {st : Stmt} {f : Addr} {oc : Value} {od an : Option Addr} {osl : Array (Option Value)} {kV doc pm cdv ct : Value} (l : K.lookup f = some ⟨oc, od, .func (PySem.W.fnOf x qual (defArgs st) (defBody st) (defScope st) .none kV doc pm an cdv ct), osl⟩)
    (c : PySem.W.codeIn K cdv qual = true) (k : PySem.W.keepIn K (.ref f) = true) : Fun K x qual st f (PySem.W.fnOf x qual (defArgs st) (defBody st) (defScope st) .none kV doc pm an cdv ct) := ⟨⟨oc, od, kV, doc, pm, an, cdv, ct, osl, rfl, l, c⟩, k⟩
end
section
variable {X : Cx}
theorem pv (i : Nat) {x : Str} {pos : Pos} (hN : X.N[i]? = some x := by rfl) (hv : Vis X.env.scope x := by first | exact Or.inl rfl | exact Or.inr (Or.inl rfl) | exact Or.inr (Or.inr rfl)) (hd : (x == ("__debug__" : Str)) = false := by decide)
    (hcd : (x == ("__classdict__" : Str)) = false := by decide) : PE X (.Name x pos) (tVar i) := pe_var hN hv hd hcd
theorem call_lenD : CallR X (.builtin "len") (fun xs H Q => ∃ a kvs, xs = [V.ref a] ∧ H a = some (.dK kvs) ∧ Q (.int kvs.length) H) := by
  intro pins s σ H xs us Q I r h
  obtain ⟨a, kvs, rfl, ha, q⟩ := h
  obtain ⟨u, rfl, ru⟩ := vals1 r
  cases ru
  exact d_len I (.inl ha) fun t s' I' => ⟨.int kvs.length, H, I', ⟨t, rfl⟩, q⟩
end
def Same (H H' : Hp) : Prop := ∀ b o, H b = some o → H' b = some o
theorem Same.refl (H : Hp) : Same H H := fun _ _ h => h
theorem Same.trans {H H1 H2 : Hp} (a : Same H H1) (b : Same H1 H2) : Same H H2 := fun c o h => b c o (a c o h)
theorem Same.free {H H' : Hp} (e : Same H H') {l : Addr} (h : H' l = Option.none) : H l = Option.none := by
  cases q : H l with
  | none => rfl
  | some o =>
    rw [e l o q] at h
    cases h
theorem Same.seq {K : PySem.W.Frag} {H H' : Hp} {a : Addr} {xs : List V} (e : Same H H') (h : SqL K H a xs) : SqL K H' a xs := by
  rcases h with (h | ⟨o, h⟩) | h
  · exact .inl (.inl (e _ _ h))
  · exact .inl (.inr ⟨o, e _ _ h⟩)
  · exact .inr h
section
variable {κ : Type} [DecidableEq κ]
theorem valV_not {kvs : List (κ × V)} {k : κ} (h : valV kvs k = none) : ¬ k ∈ kvs.map (·.1) := by
  intro m
  obtain ⟨p, hp, e⟩ := List.mem_map.mp m
  have q : (kvs.any fun kv => decide (kv.1 = k)) = true := List.any_eq_true.mpr ⟨p, hp, decide_eq_true e⟩
  rw [valV_any, h] at q
  exact absurd q (by simp)
end
end L2
set_option Elab.async false
set_option linter.all false
set_option maxRecDepth 100000
namespace PySem
open Sem (wp)
open Builtin Builtin.Str Builtin.Int
namespace F
theorem owner_rvs : Manifest.owners.lookup "reversed" = some Manifest.sig_reversed := by kernel_rfl
theorem slot_rvs_next : Slot "reversed" "__next__" "reversed.__next__" :=
  .of (owner := "reversed") (n := "__next__") (by rw [typeLookup_type, builtinLookup_eq_fast]; kernel_rfl) (by decide +kernel) (by decide +kernel) (by decide +kernel)
    (by first | exact .inl (by decide +kernel) | exact .inr (by decide +kernel)) (by rw [isSubtype_type]; kernel_rfl)
theorem entry_rvs_next : entryFor table "reversed.__next__" = some Builtin.«reversed.__next__» := entryFor_of_tree (by kernel_rfl)
theorem slot_rvs_iter : Slot "reversed" "__iter__" "reversed.__iter__" :=
  .of (owner := "reversed") (n := "__iter__") (by rw [typeLookup_type, builtinLookup_eq_fast]; kernel_rfl) (by decide +kernel) (by decide +kernel) (by decide +kernel)
    (by first | exact .inl (by decide +kernel) | exact .inr (by decide +kernel)) (by rw [isSubtype_type]; kernel_rfl)
theorem nolen_rvs : typeLookup (.type "reversed") "__len__" = pure none := by rw [typeLookup_type, builtinLookup_eq_fast]; kernel_rfl
theorem hint_rvs : typeLookup (.type "reversed") "__length_hint__" = pure (some (.builtin "reversed.__length_hint__")) := by rw [typeLookup_type, builtinLookup_eq_fast]; kernel_rfl
theorem args_rvs_next_1 (a : Value) : argsOk "reversed.__next__" ⟨[a], []⟩ := by
  unfold argsOk; rw [signature?_of (id := "reversed.__next__") (n := ['_', '_', 't', 'x', 'e', 'n', '_', '_']) (o := ['d', 'e', 's', 'r', 'e', 'v', 'e', 'r']) (by kernel_rfl) owner_rvs]; kernel_rfl
theorem args_rvs_iter_1 (a : Value) : argsOk "reversed.__iter__" ⟨[a], []⟩ := by
  unfold argsOk; rw [signature?_of (id := "reversed.__iter__") (n := ['_', '_', 'r', 'e', 't', 'i', '_', '_']) (o := ['d', 'e', 's', 'r', 'e', 'v', 'e', 'r']) (by kernel_rfl) owner_rvs]; kernel_rfl
theorem entry_rvs_iter : entryFor table "reversed.__iter__" = some Builtin.«dict_keyiterator.__iter__» :=
  entryFor_alias (id' := "dict_keyiterator.__iter__") (by kernel_rfl) (by first | rfl | decide +kernel | (unfold String.splitOn; simp +decide [String.splitOnAux])) (by decide +kernel) (by kernel_rfl)
theorem slot_rvs_hint : Slot "reversed" "__length_hint__" "reversed.__length_hint__" :=
  .of (owner := "reversed") (n := "__length_hint__") (by rw [typeLookup_type, builtinLookup_eq_fast]; kernel_rfl) (by decide +kernel) (by decide +kernel) (by decide +kernel)
    (by first | exact .inl (by decide +kernel) | exact .inr (by decide +kernel)) (by rw [isSubtype_type]; kernel_rfl)
theorem entry_rvs_hint : entryFor table "reversed.__length_hint__" = some Builtin.«reversed.__length_hint__» := entryFor_of_tree (by kernel_rfl)
theorem args_rvs_hint_1 (a : Value) : argsOk "reversed.__length_hint__" ⟨[a], []⟩ := by
  unfold argsOk; rw [signature?_of (id := "reversed.__length_hint__") (n := ['_', '_', 't', 'n', 'i', 'h', '_', 'h', 't', 'g', 'n', 'e', 'l', '_', '_']) (o := ['d', 'e', 's', 'r', 'e', 'v', 'e', 'r']) (by kernel_rfl) owner_rvs]; kernel_rfl
end F
section
variable {prog : Program} {w : World} {A : Around} {E : Value → Shared → Prop} {s : Shared}
def rvsObj (x : Str) (t : Tok) (i : Int) : Obj := { cls := .type "reversed", data := .fields #[.str x t, rawInt i] }
def Heap.IsRvs (h : Heap) (a : Addr) (x : Str) (t : Tok) (i : Int) : Prop := ∃ o, h.get? a = some o ∧ o.cls = .type "reversed" ∧ o.data = .fields #[.str x t, rawInt i]
theorem Heap.IsRvs.typeIs {a : Addr} {x : Str} {t : Tok} {i : Int} (y : s.heap.IsRvs a x t i) : s.TypeIs (.ref a) "reversed" := let ⟨o, ho, hc, _⟩ := y; ⟨o, ho, hc⟩
theorem Heap.IsRvs.at {h h' : Heap} {a : Addr} {x : Str} {t : Tok} {i : Int} (y : h.IsRvs a x t i) (e : ∀ o, h.get? a = some o → h'.get? a = some o) : h'.IsRvs a x t i := let ⟨o, ho, r⟩ := y; ⟨o, e _ ho, r⟩
theorem wpAny_pyNext_rvs_item {it : Addr} {x : Str} {t : Tok} {i c : Nat} {Q : Option Value → Shared → Prop} (hit : s.heap.IsRvs it x t (i : Int)) (hx : x.cps[i]? = some c) (hsz : i < 2 ^ 63)
    (hQ : ∀ h' tk tk', h'.IsRvs it x t ((i : Int) - 1) → Heap.SameBut it s.heap h' → Q (some (.str ⟨#[c]⟩ tk)) { s with heap := h', toks := tk' }) : wpAny (model prog w) A (pyNext (.ref it)) Q E s := by
  obtain ⟨o, ho, hc, hd⟩ := id hit
  have hlen : i < x.length := (Array.getElem?_eq_some_iff.mp hx).1
  unfold pyNext
  refine wpAny_bind (wpAny_attempt (wpAny_callSpecial?_slot (name := Str.ofString "__next__") hit.typeIs F.slot_rvs_next
    (wpAny_call_entry F.slot_rvs_next hit.typeIs F.entry_rvs_next ?_ (F.args_rvs_next_1 _))))
  unfold Builtin.«reversed.__next__»
  refine wpAny_bind (wpAny_of_eq (a := (Value.ref it, [])) rfl ?_)
  try dsimp only
  refine wpAny_bind (wpAny_field ho hd (x := .str x t) rfl ?_)
  refine wpAny_bind (wpAny_field ho hd (x := rawInt (i : Int)) rfl ?_)
  show wpAny _ _ (if (i : Int) < 0 then _ else _) _ _ s
  rw [if_neg (by omega)]
  refine wpAny_bind (wpAny_specialOf (typeIs_str s x t) F.slot_str_getitem.lookup ?_)
  try dsimp only
  first
  | rw [if_neg (show ¬ ((some (Value.builtin "str.__getitem__")).isNone = true) from Bool.false_ne_true)]
  | skip
  refine wpAny_bind (wpAny_mkInt ?_)
  refine wpAny_bind (wpAny_attempt ?_)
  have hb : (seqIndex? (i : Int) x.length).bind (x.cps[·]?) = some c := by
    have e : seqIndex? (i : Int) x.length = some i := by
      have hn : ¬ ((i : Int) < 0) := by omega
      unfold seqIndex?
      simp [hn, hlen]
    rw [e]
    exact hx
  refine P.getItem_str (c := c) (by simp; omega) hb ?_
  dsimp only
  refine wpAny_bind (wpAny_field ho hd (x := rawInt (i : Int)) rfl ?_)
  show wpAny _ _ (setField (Value.ref it) 1 (rawInt ((i : Int) - 1)) >>= fun _ => ret (Value.str ⟨#[c]⟩ _)) _ _ _
  refine wpAny_bind (wpAny_setField ho hd (by simp) ?_)
  refine wpAny_pure ⟨_, rfl, wpAny_pure (hQ _ _ _ ?_ (Heap.SameBut.update ..))⟩
  exact ⟨_, Heap.get?_update_self _ ho (Obj.isFreed_of_fields (Obj.data_mapFields hd _)), (Obj.cls_mapFields ..).trans hc, by
    rw [Obj.data_mapFields hd]; simp⟩
theorem wpAny_pyNext_rvs_end {it : Addr} {x : Str} {t : Tok} {Q : Option Value → Shared → Prop} (hh : A.handled = none) (hit : s.heap.IsRvs it x t (-1))
    (hQ : ∀ h', Heap.ExtBut it s.heap h' → Q none { s with heap := h' }) : wpAny (model prog w) A (pyNext (.ref it)) Q E s := by
  obtain ⟨o, ho, hc, hd⟩ := id hit
  unfold pyNext
  refine wpAny_bind (wpAny_attempt (wpAny_callSpecial?_slot (name := Str.ofString "__next__") hit.typeIs F.slot_rvs_next
    (wpAny_call_entry F.slot_rvs_next hit.typeIs F.entry_rvs_next ?_ (F.args_rvs_next_1 _))))
  unfold Builtin.«reversed.__next__»
  refine wpAny_bind (wpAny_of_eq (a := (Value.ref it, [])) rfl ?_)
  try dsimp only
  refine wpAny_bind (wpAny_field ho hd (x := .str x t) rfl ?_)
  refine wpAny_bind (wpAny_field ho hd (x := rawInt (-1)) rfl ?_)
  show wpAny _ _ (if (-1 : Int) < 0 then _ else _) _ _ s
  rw [if_pos (by decide)]
  refine wpAny_bind (wpAny_rule ?_)
  show wpAny _ _ ((setField (Value.ref it) 1 (rawInt (-1)) >>= fun _ => setField (Value.ref it) 0 .none) >>= _) _ _ _
  refine wpAny_bind (wpAny_bind (wpAny_setField ho hd (by simp) ?_))
  have ho1 := Heap.get?_update_self (Obj.mapFields (·.setIfInBounds 1 (rawInt (-1)))) ho (Obj.isFreed_of_fields (Obj.data_mapFields hd _))
  refine wpAny_setField ho1 (Obj.data_mapFields hd _) (by simp) ?_
  dsimp only
  show wpAny _ _ (SmallTypes.stopIteration >>= _) _ _ _
  refine wpAny_bind ?_
  unfold SmallTypes.stopIteration
  first
  | show wpAny _ _ (newExc (.type "StopIteration") [] >>= _) _ _ _
  | (refine wpAny_bind ?_; show wpAny _ _ (newExc (.type "StopIteration") [] >>= _) _ _ _)
  refine wpAny_bind ?_
  simp only [newExc, newTuple]
  refine wpAny_bind (wpAny_newObj_type ?_ (by size_fits))
  refine wpAny_bind (m := firstArgMember _ _) (wpAny_of_eq (a := Value.none) (by first | rfl | (simp only [firstArgMember]; rfl)) ?_)
  refine wpAny_newObj_type ?_ (by size_fits)
  simp only [raiseNew]
  refine wpAny_bind (wpAny_handled ?_)
  first | rw [show A.in1.handled = none from hh] | rw [hh]
  refine wpAny_bind (wpAny_pure (wpAny_throw ?_))
  refine wpAny_bind (wpAny_isInstance (T := "StopIteration") (b := true) ⟨_, Heap.get?_push_size _ rfl, rfl⟩ isSubtype_stop ?_)
  refine wpAny_pure (hQ _ ?_)
  intro b ob hb eb
  exact Heap.get?_push_of_some _ (Heap.get?_push_of_some _ ((Heap.get?_update_other _ _ (Ne.symm hb)).trans ((Heap.get?_update_other _ _ (Ne.symm hb)).trans eb)))
theorem wpAny_pyIter_rvs {it : Addr} {x : Str} {t : Tok} {i : Int} {Q : Value → Shared → Prop} (hit : s.heap.IsRvs it x t i) (h : Q (.ref it) s) : wpAny (model prog w) A (pyIter (.ref it)) Q E s := by
  refine wpAny_pyIter_slot hit.typeIs F.slot_rvs_iter (wpAny_call_entry F.slot_rvs_iter hit.typeIs F.entry_rvs_iter ?_ (F.args_rvs_iter_1 _))
  show wpAny _ _ (ret (.ref it)) _ _ s
  exact wpAny_pure ⟨_, rfl, "reversed", _, hit.typeIs, F.slot_rvs_next.lookup, h⟩
theorem hint_rvs {it : Addr} {x : Str} {t : Tok} {i : Int} {Q : Value → Shared → Prop} (hit : s.heap.IsRvs it x t i) (hi : i < x.length) (hz : x.length ≤ sizeLine)
    (h : ∀ u tk, s.toks ≤ tk → Q (.int (i + 1) u) { s with toks := tk }) : wpAny (model prog w) A (call (.builtin "reversed.__length_hint__") [.ref it]) Q E s := by
  obtain ⟨o, ho, hc, hd⟩ := id hit
  refine wpAny_call_entry F.slot_rvs_hint hit.typeIs F.entry_rvs_hint ?_ (F.args_rvs_hint_1 _)
  unfold Builtin.«reversed.__length_hint__»
  refine wpAny_bind (wpAny_of_eq (a := Value.ref it) rfl ?_)
  refine wpAny_bind (wpAny_field ho hd (x := .str x t) rfl ?_)
  show wpAny _ _ (if (Value.str x t == Value.none) = true then _ else _) _ _ s
  rw [if_neg (show ¬ ((Value.str x t == Value.none) = true) from fun z => by cases (eq_of_beq z))]
  have hs : sizeLine = 16777216 := sizeLine_eq
  refine wpAny_bind (P.len_str (by omega) ?_)
  refine wpAny_bind (m := asInt? _) (wpAny_pure ?_)
  dsimp only
  refine wpAny_bind (wpAny_field ho hd (x := rawInt i) rfl ?_)
  show wpAny _ _ (if (x.length : Int) < i + 1 then _ else _) _ _ _
  rw [if_neg (by omega)]
  show wpAny _ _ (mkInt (i + 1) >>= fun v => ret v) _ _ _
  exact wpAny_bind (wpAny_mkInt (wpAny_pure ⟨_, rfl, h _ _ (by simp; omega)⟩))
theorem Walks.rvs {A : Around} (hh : A.handled = none) (I : Addr) (x : Str) (t : Tok) (hz : x.length ≤ sizeLine) :
    Walks prog w A I [I] [I] x.length (fun i v => ∃ c tk, x.cps[x.length - 1 - i]? = some c ∧ v = .str ⟨#[c]⟩ tk) (fun i h => i ≤ x.length ∧ h.IsRvs I x t ((x.length : Int) - 1 - (i : Int))) where
  sub := fun b hb => hb
  frame := fun _ _ _ y hk => ⟨y.1, y.2.at fun o e => hk I (by simp) o e⟩
  item := fun i s Q E hi y hQ => by
    have e : (x.length : Int) - 1 - (i : Int) = ((x.length - 1 - i : Nat) : Int) := by omega
    have hit := y.2
    rw [e] at hit
    have hb : x.length - 1 - i < x.cps.size := by have : x.length = x.cps.size := rfl; omega
    have hx : x.cps[x.length - 1 - i]? = some (x.cps[x.length - 1 - i]'hb) := Array.getElem?_eq_getElem hb
    have hs : sizeLine = 16777216 := sizeLine_eq
    refine wpAny_pyNext_rvs_item hit hx (by omega) fun h' tk tk' hit' hs' => ?_
    have e2 : ((x.length - 1 - i : Nat) : Int) - 1 = (x.length : Int) - 1 - ((i + 1 : Nat) : Int) := by omega
    rw [e2] at hit'
    exact hQ _ h' tk' ⟨_, tk, hx, rfl⟩ ⟨hi, hit'⟩ fun b o hb eo => hs'.extBut b o (fun h => hb (by simp [h])) eo
  done := fun s Q E y hQ => by
    have e : (x.length : Int) - 1 - (x.length : Int) = -1 := by omega
    have hit := y.2
    rw [e] at hit
    exact wpAny_pyNext_rvs_end hh hit fun h' he' => hQ h' s.toks fun b o hb eo => he' b o (fun h => hb (by simp [h])) eo
  self := fun _ _ _ _ y hQ => wpAny_pyIter_rvs y.2 hQ
theorem wpAny_collect_rvs {I : Addr} {x : Str} {t : Tok} {Q : List Value → Shared → Prop} (hh : A.handled = none) (hit : s.heap.IsRvs I x t ((x.length : Int) - 1)) (hz : x.length ≤ sizeLine)
    (hQ : ∀ s' acc, Moved [I] (fun a b => b = a) s s' → ItemsOf (fun i v => ∃ c tk, x.cps[x.length - 1 - i]? = some c ∧ v = .str ⟨#[c]⟩ tk) acc x.length → Q acc.toList s') : wpAny (model prog w) A (collect (.ref I)) Q E s := by
  have W := (Walks.rvs (prog := prog) (w := w) (A := A.in1) hh I x t hz).toS
  have hn : x.length ≤ sizeLine := hz
  have hst : (fun i (s : Shared) => i ≤ x.length ∧ s.heap.IsRvs I x t ((x.length : Int) - 1 - (i : Int))) 0 s := ⟨Nat.zero_le _, by simpa using hit⟩
  have hT : ∀ i (s : Shared), (i ≤ x.length ∧ s.heap.IsRvs I x t ((x.length : Int) - 1 - (i : Int))) → s.TypeIs (.ref I) "reversed" := fun i s y => y.2.typeIs
  have hlt : I < s.heap.objs.size := by obtain ⟨o, ho, _⟩ := hit; exact Heap.lt_size ho
  have hSI : s.heap.objs.size ≠ I := fun e => Nat.lt_irrefl _ (e ▸ hlt)
  have hSf : s.heap.objs.size ∉ [I] := fun hm => hSI (List.mem_singleton.mp hm)
  unfold collect
  refine wpAny_bind (wpAny_runValue (codeAny_builtin F.entry_proto_collect ?_))
  rw [Around.under_plainId F.plain_proto_collect _]
  show wpAny _ A.in1 (newList [] >>= fun l => again (.builtin "list.__iadd__" ⟨[l, .ref I], []⟩)) _ _ s
  refine wpAny_bind (wpAny_newObj_type ?_)
  refine wpAny_pure ⟨plainId_quiet F.plain_list_iadd _, codeAny_builtin F.entry_list_iadd ?_⟩
  rw [Around.under_plainId F.plain_list_iadd _]
  have hst₁ := W.frame 0 s (s.heap.push { cls := .type "list", data := .seq ([] : List Value).toArray }) s.toks hst (Nat.le_refl _) fun b _ o e => Heap.get?_push_of_some _ e
  have hS₁ : (s.heap.push { cls := .type "list", data := .seq ([] : List Value).toArray }).get? s.heap.objs.size = some { cls := .type "list", data := .seq ([] : List Value).toArray } := Heap.get?_push_size _ rfl
  have h1 : Builtin.List.listSameRef (.ref s.heap.objs.size) (.ref I) = false := by simp [Builtin.List.listSameRef, hSI]
  show wpAny _ A.in1 (Builtin.List.listExtendWith (.ref s.heap.objs.size) (.ref I) (.ref s.heap.objs.size)) _ _ _
  unfold Builtin.List.listExtendWith
  refine wpAny_bind (wpAny_typeOf (hT 0 _ hst₁) ?_)
  rw [if_neg (by rw [h1]; decide)]
  refine wpAny_bind (W.self 0 _ _ _ hst₁ ?_)
  refine wpAny_bind (wpAny_holding ?_)
  unfold Builtin.List.listLengthHint
  refine wpAny_bind (wpAny_specialOf (hT 0 _ hst₁) F.nolen_rvs ?_)
  show wpAny _ A.in1 (specialOf (Value.ref I) (Str.ofString "__length_hint__") >>= _) _ _ _
  refine wpAny_bind (wpAny_specialOf (hT 0 _ hst₁) F.hint_rvs ?_)
  (generalize hid : ("reversed.__length_hint__" : String) = id0; (fail_if_success (clear hid id0)); wp_delta; rw [show splitId id0 = some ("reversed", "__length_hint__") from by subst hid; decide +kernel]; subst hid)
  refine wpAny_bind (wpAny_isInstance (b := true) (hT 0 _ hst₁) (by rw [isSubtype_type]; kernel_rfl) ?_)
  rw [if_neg (show ¬ ((!true) = true) by decide)]
  dsimp only
  split
  · rename_i hsil
    exact absurd hsil (by decide +kernel)
  refine wpAny_bind (wpAny_rule ?_)
  refine wpAny_bind (wpAny_of_eq (F.slot_rvs_hint.bind _) ?_)
  dsimp only
  refine wpAny_bind (wpAny_attempt ?_)
  refine hint_rvs (i := (x.length : Int) - 1 - ((0 : Nat) : Int)) hst₁.2 (by omega) hz fun u tk htk => ?_
  dsimp only
  have hs : sizeLine = 16777216 := sizeLine_eq
  have hk : Builtin.List.listTooLong (Int.toNat ((x.length : Int) - 1 - ((0 : Nat) : Int) + 1)) = false := by
    unfold Builtin.List.listTooLong
    have e : Int.toNat ((x.length : Int) - 1 - ((0 : Nat) : Int) + 1) = x.length := by omega
    rw [e]
    simpa using hz
  refine wpAny_bind (m := asInt? (.int _ u)) (wpAny_pure ?_)
  dsimp only
  have hfit : Builtin.List.listFitsIndex ((x.length : Int) - 1 - ((0 : Nat) : Int) + 1) = true := by
    unfold Builtin.List.listFitsIndex
    simp
    omega
  rw [if_neg (by rw [hfit]; decide), if_neg (by omega), if_neg (by rw [hk]; decide)]
  refine wpAny_pure ?_
  -- the loop, from a list that may have been touched
  have fin : ∀ (h₂ : Heap) (c : Nat), (∀ b o, b ≠ s.heap.objs.size → (s.heap.push { cls := .type "list", data := .seq ([] : List Value).toArray }).get? b = some o → h₂.get? b = some o) →
      h₂.get? s.heap.objs.size = some { cls := .type "list", data := .seq ([] : List Value).toArray c } →
      codeAny (model prog w) A (.builtin "list.extend.loop" ⟨[.ref s.heap.objs.size, .ref I, .ref s.heap.objs.size], []⟩) (fun r s' => match r with
        | .ok (.ret v) => wpAny (model prog w) A (match v with
          | .ref a => do
            let __do_lift ← load a
            match __do_lift.data with
              | .seq xs _ => pure xs.toList
              | _ => unsupported "internal:collect"
          | _ => unsupported "internal:collect") Q E s'
        | .ok _ => False
        | .error e => E e s') { s with heap := h₂, toks := tk } := fun h₂ c keep hS₂ => by
    have hst₂ : (fun i (s : Shared) => i ≤ x.length ∧ s.heap.IsRvs I x t ((x.length : Int) - 1 - (i : Int))) 0 { s with heap := h₂, toks := tk } := ⟨Nat.zero_le _, hst₁.2.at fun o e => keep I o (Ne.symm hSI) e⟩
    refine codeAny_extend_loopS W hn _ hSf _ x.length 0 _ _ _ rfl (Nat.zero_le _) hst₂ hS₂ (ItemsOf.nil _) fun s' acc' c' hm hS' hacc => ?_
    show wpAny _ A (load s.heap.objs.size >>= _) _ _ s'
    refine wpAny_bind (wpAny_load hS' ?_)
    refine wpAny_pure (hQ s' acc' ?_ hacc)
    exact ⟨fun b ob hb e => hm.heap b ob (fun hm' => by
        rcases List.mem_cons.mp hm' with e1 | hm'
        · exact absurd (e1 ▸ Heap.lt_size e) (Nat.lt_irrefl _)
        · exact hb hm') (keep b ob (fun e1 => absurd (e1 ▸ Heap.lt_size e) (Nat.lt_irrefl _)) (Heap.get?_push_of_some _ e)), hm.gens, hm.drawn, hm.os, Nat.le_trans htk hm.toks⟩
  have quiet := plainId_quiet F.plain_extend_loop (⟨[.ref s.heap.objs.size, .ref I, .ref s.heap.objs.size], []⟩ : Args)
  split
  · refine wpAny_bind (wpAny_rule ?_)
    show wpAny _ A.in1 ((updateSeq s.heap.objs.size (·.push .none) >>= fun _ => updateSeq s.heap.objs.size (·.pop)) >>= _) _ _ _
    refine wpAny_bind (wpAny_bind (wpAny_updateSeq hS₁ rfl ?_ (by simp) (by simp)))
    have q1 := PySem.IsL.update (h := s.heap.push { cls := .type "list", data := .seq ([] : List Value).toArray }) (l := s.heap.objs.size) (items := ([] : List Value).toArray) (n := 0) hS₁ (·.push .none)
    refine wpAny_updateSeq q1 rfl ?_ (by simp; omega) (by simp)
    have q2 := PySem.IsL.update q1 (·.pop)
    exact wpAny_pure ⟨quiet, fin _ _ (fun b o hb e => (Heap.get?_update_other _ _ (Ne.symm hb)).trans ((Heap.get?_update_other _ _ (Ne.symm hb)).trans e)) (show _ = some ({ cls := .type "list", data := .seq ([] : List Value).toArray _ } : Obj) from q2)⟩
  · exact wpAny_pure ⟨quiet, fin _ _ (fun b o hb e => e) hS₁⟩
theorem join_rvs {I : Addr} {x sep : Str} {t t0 : Tok} {Q : Value → Shared → Prop} (hh : A.handled = none) (hit : s.heap.IsRvs I x t ((x.length : Int) - 1)) (hz : x.length ≤ 1000) (hsep : sep.length ≤ 1000)
    (h : ∀ (s' : Shared) (t' : Tok) (k : Nat), (∀ b o, b ≠ I → s.heap.get? b = some o → s'.heap.get? b = some o) → s'.gens = s.gens → s'.drawn = s.drawn → s'.os = s.os →
      Q (.str (Txt.join sep (x.cps.toList.reverse.map fun c => (⟨#[c]⟩ : Str))) t') { s' with toks := k }) : wpAny (model prog w) A (call (.builtin "str.join") [.str sep t0, .ref I]) Q E s := by
  have hs : sizeLine = 16777216 := sizeLine_eq
  refine wpAny_call (codeAny_call_builtin F.slot_str_join.plain F.entry_str_join (F.slot_str_join.check _ _ _ _ _ _ _ _ (typeIs_str _ _ _) (F.args_str_join_2 _ _) ?_))
  rw [join_tree_other]
  refine wpAny_bind (wpAny_typeOf hit.typeIs ?_)
  show wpAny _ A.in1 ((pyIter (.ref I)).tryCatch _ >>= fun it => collect it >>= fun items => joinTail sep items) _ _ s
  refine wpAny_bind (wpAny_tryCatch (wpAny_pyIter_rvs hit ?_))
  refine wpAny_bind (wpAny_collect_rvs hh hit (by omega) fun s' acc hm hacc => ?_)
  obtain ⟨l, hl⟩ := exists_strValues acc.toList fun v hv => by
    obtain ⟨j, hj, rfl⟩ := Array.mem_iff_getElem.mp (Array.mem_toList_iff.mp hv)
    obtain ⟨c, tk, _, e⟩ := hacc.2 j _ (Array.getElem?_eq_getElem hj)
    exact ⟨_, _, e⟩
  have hlx : l.map (·.1) = x.cps.toList.reverse.map fun c => (⟨#[c]⟩ : Str) := by
    have el : l.length = x.length := by
      have q := congrArg List.length hl
      simp [strValues] at q
      rw [q]; exact hacc.1
    refine List.ext_getElem (by simp [el]; rfl) fun j h1 h2 => ?_
    simp only [List.getElem_map, List.getElem_reverse]
    have hj : j < l.length := by simpa using h1
    have ha : acc.toList[j]? = some (Value.str (l[j]).1 (l[j]).2) := by
      rw [← hl]
      simp [strValues, hj]
    have ha' : acc[j]? = some (Value.str (l[j]).1 (l[j]).2) := by simpa using ha
    obtain ⟨c, tk, hc, e⟩ := hacc.2 j _ ha'
    injection e with e1 _
    rw [e1]
    have hb : x.length - 1 - j < x.cps.size := by have : x.length = x.cps.size := rfl; omega
    rw [Array.getElem?_eq_getElem hb] at hc
    have hc' := Option.some.inj hc
    rw [← hc']
    simp only [Array.length_toList, Array.getElem_toList]
    rfl
  rw [← hl]
  have hok : JoinOk sep (l.map (·.1)) = true := by
    unfold JoinOk
    rw [StrLaws.joinTotal]
    have e1 : ((l.map (·.1)).map (·.length)).sum = x.length := by
      rw [hlx, List.map_map]
      have : ((fun y : Str => y.length) ∘ fun c => (⟨#[c]⟩ : Str)) = fun _ => 1 := by funext c; rfl
      rw [this, List.map_const', List.sum_replicate_nat]
      simp
      rfl
    have e2 : (l.map (·.1)).length = x.length := by rw [hlx]; simp; rfl
    rw [e1, e2]
    have : x.length * sep.length ≤ 1000 * 1000 := Nat.mul_le_mul hz hsep
    unfold tooLong
    rw [decide_eq_false (by omega)]
    rfl
  have hpost := fun t' k => h s' t' k (fun b o hb e => hm.heap b o (fun z => hb (List.mem_singleton.mp z)) e) hm.gens hm.drawn hm.os
  unfold JoinOk at hok
  rw [Bool.not_eq_true'] at hok
  have g : Gives (joinTail sep (strValues l)) (joinMade sep l) := by
    have g0 := gives_joinTail sep l hok
    cases l with
    | nil => exact g0
    | cons p r => cases r with
      | nil => exact g0
      | cons q r' => exact g0
  rw [← hlx] at hpost
  exact g prog w A (wants Q E) s' (post_join l ⟨joinFit_length hok, hpost⟩)
end
namespace F
theorem rvs_slot_init : Slot "reversed" "__init__" "object.__init__" :=
  .of (owner := "object") (n := "__init__") (by rw [typeLookup_type, builtinLookup_eq_fast]; kernel_rfl) (by decide +kernel) (by decide +kernel) (by decide +kernel)
    (by first | exact .inl (by decide +kernel) | exact .inr (by decide +kernel)) (by rw [isSubtype_type]; kernel_rfl)
theorem rvs_mro : mroOf (.type "reversed") = pure [.type "reversed", .type "object"] := by rw [mroOf_type]; kernel_rfl
theorem rvs_lookup_new : typeLookup (.type "reversed") "__new__" = pure (some (.builtin "reversed.__new__")) := by rw [typeLookup_type, builtinLookup_eq_fast]; kernel_rfl
theorem rvs_called : TypeCalled "reversed" "reversed.__new__" "object.__init__" :=
  ⟨by decide +kernel, by decide +kernel, ⟨_, _, rvs_mro⟩, madeBy_type rvs_mro rvs_lookup_new (by decide +kernel), by decide +kernel, by rw [isSubtype_type]; kernel_rfl, rvs_slot_init⟩
theorem rvs_typeCall_1 (a : Value) : checkTypeCall "reversed" ⟨[a], []⟩ = pure () := by kernel_rfl
theorem rvs_newCall_1 (a : Value) : checkBuiltinCall "reversed.__new__" ⟨[.type "reversed", a], []⟩ = pure () := by kernel_rfl
theorem rvs_entry_new : entryFor table "reversed.__new__" = some Builtin.«reversed.__new__» := entryFor_of_tree (by kernel_rfl)
theorem rvs_sub : isSubtype (.type "reversed") (.type "reversed") = pure true := by rw [isSubtype_type]; kernel_rfl
theorem rvs_nostr : typeLookup (.type "str") "__reversed__" = pure none := by rw [typeLookup_type, builtinLookup_eq_fast]; kernel_rfl
end F
section
variable {prog : Program} {w : World} {A : Around} {E : Value → Shared → Prop} {s : Shared}
theorem rvs_newClass (a : Value) : Builtin.SmallTypes.newClass "reversed" ⟨[.type "reversed", a], []⟩ = pure (.type "reversed", [a]) := by
  unfold Builtin.SmallTypes.newClass
  simp only [isType, F.rvs_sub, pure_bind, Bool.not_true, Bool.false_eq_true, if_false]
theorem meets_rvs_new (x : Str) (t : Tok) (hz : x.length ≤ sizeLine) : Meets (Builtin.«reversed.__new__» ⟨[.type "reversed", .str x t], []⟩)
    (fun _ R s => R (.ok (.ret (.ref s.heap.objs.size))) { s with heap := s.heap.push (rvsObj x t ((x.length : Int) - 1)), toks := s.toks + 1 + 1 }) :=
  .of_wp fun prog w A R s h => by
    have hs : sizeLine = 16777216 := sizeLine_eq
    unfold Builtin.«reversed.__new__»
    refine wpAny_bind (wpAny_of_eq (rvs_newClass _) ?_)
    try dsimp only
    refine wpAny_bind (wpAny_of_eq (a := ()) (by first | rfl | kernel_rfl) ?_)
    refine wpAny_bind (wpAny_of_eq (a := ()) (by first | rfl | kernel_rfl) ?_)
    try dsimp only
    refine wpAny_bind (wpAny_specialOf (typeIs_str s x t) F.rvs_nostr ?_)
    try dsimp only
    refine wpAny_bind ?_
    refine wpAny_bind (wpAny_isInstance (T := "str") (b := false) (typeIs_str s x t) (by rw [isSubtype_type]; kernel_rfl) ?_)
    rw [if_neg (by decide)]
    refine wpAny_bind (wpAny_specialOf (typeIs_str s x t) F.slot_str_getitem.lookup ?_)
    dsimp only
    split
    · refine wpAny_pure ?_
      rw [if_neg (by decide)]
      refine wpAny_bind (P.len_str (by omega) ?_)
      refine wpAny_bind (m := asInt? _) (wpAny_pure ?_)
      dsimp only
      show wpAny _ _ (newObj (.type "reversed") (.fields #[.str x t, rawInt ((x.length : Int) - 1)]) >>= fun v => ret v) _ _ _
      exact wpAny_bind (wpAny_newObj_type (wpAny_pure ⟨_, rfl, h⟩))
    · rename_i hn
      exact absurd (by decide +kernel) hn
theorem call_reversed_str {x : Str} {t : Tok} {Q : Value → Shared → Prop} (hz : x.length ≤ sizeLine)
    (h : Q (.ref s.heap.objs.size) { s with heap := s.heap.push (rvsObj x t ((x.length : Int) - 1)), toks := s.toks + 1 + 1 }) : wpAny (model prog w) A (call (.type "reversed") [.str x t]) Q E s :=
  callType_new F.rvs_called (by decide) (F.rvs_typeCall_1 _) (F.rvs_newCall_1 _) (fun obj => F.args_object_init_2 obj _) F.rvs_entry_new (meets_rvs_new x t hz) ⟨⟨_, Heap.get?_push_size _ rfl, rfl⟩, h⟩
end
end PySem
set_option Elab.async false
set_option linter.all false
set_option maxRecDepth 100000
namespace L2
open PySem PySem.Spec PyProof.Rows
def capOf (env : Env) : List (Str × NameKind) → List (Str × Addr) → List (Str × Addr)
  | [], acc => acc
  | (n, k) :: r, acc => if k == .free then capOf env r ((n, (env.cells.lookup n).getD 0) :: acc) else capOf env r acc
theorem closure_cap {env : Env} : ∀ (ns : List (Str × NameKind)) (acc : List (Str × Addr)), (∀ x ∈ ns, x.2 = .free → ∃ c, env.cells.lookup x.1 = some c) →
    (forIn ns acc fun (x : Str × NameKind) (cs : List (Str × Addr)) => (if x.2 == .free then do
        let c ← cellOf env x.1
        pure (ForInStep.yield ((x.1, c) :: cs))
      else pure (ForInStep.yield cs) : Sem (ForInStep (List (Str × Addr))))) = pure (capOf env ns acc)
  | [], acc, _ => rfl
  | (n, k) :: r, acc, h => by
    have ih := fun a => closure_cap (env := env) r a fun x hx => h x (List.mem_cons_of_mem _ hx)
    rw [List.forIn_cons]
    by_cases hk : k = .free
    · subst hk
      obtain ⟨c, hc⟩ := h (n, .free) List.mem_cons_self rfl
      have hc' : env.cells.lookup n = some c := hc
      have e1 : cellOf env n = pure c := by unfold cellOf; rw [hc']
      simp only [capOf, hc', Option.getD_some]
      show ((do let c ← cellOf env n; pure (ForInStep.yield ((n, c) :: acc))) >>= _) = _
      rw [e1, pure_bind, pure_bind]
      exact ih _
    · have e2 : (k == NameKind.free) = false := by simpa using hk
      simp only [capOf, e2, Bool.false_eq_true, if_false]
      rw [pure_bind]
      exact ih _
theorem closureFor_cap {env : Env} {scope : Scope} (h : ∀ x ∈ scope.names, x.2 = .free → ∃ c, env.cells.lookup x.1 = some c) :
    closureFor scope env = pure (capOf env scope.names []) := by
  unfold closureFor
  have e := closure_cap (env := env) scope.names [] h
  have e2 : (forIn scope.names ([] : List (Str × Addr)) fun x cs => (match x with
      | (name, kind) => if kind == .free then do
          let c ← cellOf env name
          pure (ForInStep.yield ((name, c) :: cs))
        else pure (ForInStep.yield cs) : Sem (ForInStep (List (Str × Addr))))) = pure (capOf env scope.names []) := e
  simp only [] at e2 ⊢
  first
    | (rw [e2]; rfl)
    | (erw [e2]; rfl)
theorem cap_lookup {env : Env} : ∀ {ns : List (Str × NameKind)} {acc : List (Str × Addr)} {x : Str} {c : Addr}, (∀ y ∈ ns, y.2 = .free → ∃ c, env.cells.lookup y.1 = some c) →
    (∀ y c, acc.lookup y = some c → env.cells.lookup y = some c) → (capOf env ns acc).lookup x = some c → env.cells.lookup x = some c
  | [], _, _, _, _, ha, e => ha _ _ e
  | (n, k) :: r, acc, x, c, h, ha, e => by
    have hr : ∀ y ∈ r, y.2 = .free → ∃ c, env.cells.lookup y.1 = some c := fun y hy => h y (List.mem_cons_of_mem _ hy)
    unfold capOf at e
    by_cases hk : k = .free
    · subst hk
      rw [if_pos (by simp)] at e
      obtain ⟨c', hc⟩ := h (n, .free) List.mem_cons_self rfl
      have hc' : env.cells.lookup n = some c' := hc
      refine cap_lookup hr (fun y d z => ?_) e
      rw [hc', Option.getD_some, List.lookup_cons] at z
      by_cases q : y = n
      · subst q
        simp at z
        subst z
        exact hc'
      · have q' : (y == n) = false := by simpa using q
        rw [q'] at z
        exact ha y d z
    · rw [if_neg (by simpa using hk)] at e
      exact cap_lookup hr ha e
theorem cap_has {env : Env} : ∀ {ns : List (Str × NameKind)} {acc : List (Str × Addr)} {x : Str}, ((∃ c, acc.lookup x = some c) ∨ (x, NameKind.free) ∈ ns) → ∃ c, (capOf env ns acc).lookup x = some c
  | [], _, _, h => by
    rcases h with h | h
    · exact h
    · exact nomatch h
  | (n, k) :: r, acc, x, h => by
    unfold capOf
    by_cases hk : k = .free
    · subst hk
      rw [if_pos (by simp)]
      refine cap_has ?_
      by_cases q : x = n
      · subst q
        left
        simp [List.lookup_cons]
      · have q' : (x == n) = false := by simpa using q
        rcases h with ⟨c, h⟩ | h
        · exact .inl ⟨c, by rw [List.lookup_cons, q']; exact h⟩
        · rcases List.mem_cons.mp h with z | z
          · cases z
            exact absurd rfl q
          · exact .inr z
    · rw [if_neg (by simpa using hk)]
      refine cap_has ?_
      rcases h with h | h
      · exact .inl h
      · rcases List.mem_cons.mp h with z | z
        · cases z
          exact absurd rfl hk
        · exact .inr z
def relabelS (scope osc : Scope) : Scope :=
  { scope with names := scope.names.map fun (n, k) => if (k == .free && osc.kind == .function && osc.names.lookup n == some .cell) then (n, .cell) else (n, k) }
def compOk (scope osc : Scope) : Bool :=
  (scope.kind == .function) && (osc.kind == .function) && scope.names.all fun (n, k) => (k != .free || !scope.names.contains (n, NameKind.cell)) && (k != .local || scope.names.lookup n == some .local) &&
    (k != .free || osc.names.lookup n == some .cell || osc.names.lookup n == some .free) && (k != .free || (relabelS scope osc).names.lookup n != some .local)
structure CompOk (scope osc : Scope) : Prop where
  kind : scope.kind = .function
  sep : ∀ x ∈ scope.names, x.2 = .free → (x.1, NameKind.cell) ∉ scope.names
  loc : ∀ x ∈ scope.names, x.2 = .local → scope.names.lookup x.1 = some .local
  free : ∀ x ∈ scope.names, x.2 = .free → osc.names.lookup x.1 = some .cell ∨ osc.names.lookup x.1 = some .free
  nl : ∀ x ∈ scope.names, x.2 = .free → (relabelS scope osc).names.lookup x.1 ≠ some .local
theorem CompOk.of {scope osc : Scope} (h : compOk scope osc = true) : CompOk scope osc := by
  unfold compOk at h
  rw [Bool.and_eq_true, Bool.and_eq_true, List.all_eq_true] at h
  obtain ⟨⟨h1, h0⟩, h2⟩ := h
  refine ⟨by simpa using h1, fun x hx e => ?_, fun x hx e => ?_, fun x hx e => ?_, fun x hx e => ?_⟩
  all_goals
    obtain ⟨n, k⟩ := x
    have q := h2 (n, k) hx
    simp only [Bool.and_eq_true, Bool.or_eq_true, bne_iff_ne, beq_iff_eq] at q
  · have z := q.1.1.1.resolve_left (fun z => z e)
    simpa using z
  · exact q.1.1.2.resolve_left (fun z => z e)
  · rcases q.1.2 with (z | z) | z
    · exact absurd e z
    · exact .inl z
    · exact .inr z
  · exact q.2.resolve_left (fun z => z e)
theorem lookup_relabel {osc : Scope} : ∀ {ns : List (Str × NameKind)} {x : Str} {k' : NameKind},
    (ns.map fun (n, k) => if (k == NameKind.free && osc.kind == .function && osc.names.lookup n == some .cell) then (n, NameKind.cell) else (n, k)).lookup x = some k' →
    (k' = .cell ∨ k' = .free) → (x, NameKind.free) ∈ ns ∨ (x, NameKind.cell) ∈ ns
  | [], _, _, h, _ => by simp at h
  | (n, k) :: r, x, k', h, hk' => by
    rw [List.map_cons] at h
    by_cases q : x = n
    · subst q
      by_cases z : (k == NameKind.free && osc.kind == .function && osc.names.lookup x == some .cell) = true
      · have : k = .free := by
          simp only [Bool.and_eq_true, beq_iff_eq] at z
          exact z.1.1
        subst this
        exact .inl List.mem_cons_self
      · simp only [z, Bool.false_eq_true, if_false] at h
        rw [List.lookup_cons] at h
        simp at h
        subst h
        rcases hk' with e | e
        · subst e; exact .inr List.mem_cons_self
        · subst e; exact .inl List.mem_cons_self
    · have q' : (x == n) = false := by simpa using q
      refine (lookup_relabel (osc := osc) (k' := k') (ns := r) (x := x) ?_ hk').imp (List.mem_cons_of_mem _) (List.mem_cons_of_mem _)
      by_cases z : (k == NameKind.free && osc.kind == .function && osc.names.lookup n == some .cell) = true
      · simp only [z, if_true] at h
        rw [List.lookup_cons, q'] at h
        exact h
      · simp only [z, Bool.false_eq_true, if_false] at h
        rw [List.lookup_cons, q'] at h
        exact h
theorem cf_app : ∀ (ns : List (Str × NameKind)) (n : Nat) (acc : List (Str × Addr)), cellsFrom n ns acc = cellsFrom n ns [] ++ acc
  | [], _, _ => rfl
  | (x, k) :: r, n, acc => by
    unfold cellsFrom
    split
    · rw [cf_app r (n + 1) ((x, n) :: acc), cf_app r (n + 1) [(x, n)], List.append_assoc]; rfl
    · exact cf_app r n acc
theorem cf_mem : ∀ {ns : List (Str × NameKind)} {n : Nat} {x : Str} {c : Addr}, (x, c) ∈ cellsFrom n ns [] → (x, NameKind.cell) ∈ ns
  | [], _, _, _, h => nomatch h
  | (y, k) :: r, n, x, c, h => by
    unfold cellsFrom at h
    split at h
    · rename_i hk
      rw [cf_app] at h
      rcases List.mem_append.mp h with h | h
      · exact List.mem_cons_of_mem _ (cf_mem h)
      · cases List.mem_singleton.mp h
        have : k = .cell := by simpa using hk
        subst this
        exact List.mem_cons_self
    · exact List.mem_cons_of_mem _ (cf_mem h)
theorem cf_has : ∀ {ns : List (Str × NameKind)} {n : Nat} {x : Str} {acc : List (Str × Addr)}, ((x, NameKind.cell) ∈ ns ∨ ∃ c, acc.lookup x = some c) → ∃ c, (cellsFrom n ns acc).lookup x = some c
  | [], _, _, _, h => h.elim (fun z => nomatch z) id
  | (y, k) :: r, n, x, acc, h => by
    unfold cellsFrom
    split
    · refine cf_has ?_
      by_cases q : x = y
      · subst q
        exact .inr ⟨n, by simp [List.lookup_cons]⟩
      · have q' : (x == y) = false := by simpa using q
        rcases h with h | ⟨c, h⟩
        · rcases List.mem_cons.mp h with z | z
          · cases z; exact absurd rfl q
          · exact .inl z
        · exact .inr ⟨c, by rw [List.lookup_cons, q']; exact h⟩
    · rename_i hk
      refine cf_has ?_
      rcases h with h | h
      · rcases List.mem_cons.mp h with z | z
        · cases z; exact absurd rfl hk
        · exact .inl z
      · exact .inr h
def blkCells (env : Env) (scope : Scope) (C : Addr) : List (Str × Addr) := cellsFrom (C + 1) scope.names (capOf env scope.names [])
theorem cf_above : ∀ {ns : List (Str × NameKind)} {n : Nat} {x : Str} {c : Addr}, (x, c) ∈ cellsFrom n ns [] → n ≤ c
  | [], _, _, _, h => nomatch h
  | (y, k) :: r, n, x, c, h => by
    unfold cellsFrom at h
    split at h
    · rw [cf_app] at h
      rcases List.mem_append.mp h with h | h
      · exact Nat.le_trans (Nat.le_succ _) (cf_above h)
      · cases List.mem_singleton.mp h
        exact Nat.le_refl _
    · exact cf_above h
theorem cf_apart : ∀ {ns : List (Str × NameKind)} {n : Nat}, (cellsFrom n ns []).Pairwise fun x y => x.2 ≠ y.2
  | [], _ => List.Pairwise.nil
  | (y, k) :: r, n => by
    unfold cellsFrom
    split
    · rw [cf_app]
      refine List.pairwise_append.mpr ⟨cf_apart, by simp, fun a ha b hb e => ?_⟩
      cases List.mem_singleton.mp hb
      have := cf_above (x := a.1) (c := a.2) ha
      rw [e] at this
      exact absurd this (Nat.not_succ_le_self _)
    · exact cf_apart
theorem blkCells_lookup {env : Env} {scope : Scope} {C : Addr} {x : Str} {c : Addr} (h : (blkCells env scope C).lookup x = some c) :
    ((x, c) ∈ cellsFrom (C + 1) scope.names [] ∧ C < c ∧ (x, NameKind.cell) ∈ scope.names) ∨ ((cellsFrom (C + 1) scope.names []).lookup x = none ∧ (capOf env scope.names []).lookup x = some c) := by
  unfold blkCells at h
  rw [cf_app, List.lookup_append] at h
  cases q : (cellsFrom (C + 1) scope.names []).lookup x with
  | none => rw [q] at h; exact .inr ⟨rfl, h⟩
  | some d =>
    rw [q] at h
    cases h
    have := mem_of_lookup q
    exact .inl ⟨this, cf_above this, cf_mem this⟩
theorem own_none {ns : List (Str × NameKind)} {n : Nat} {x : Str} (h : (x, NameKind.cell) ∉ ns) : (cellsFrom n ns []).lookup x = none := by
  cases q : (cellsFrom n ns []).lookup x with
  | none => rfl
  | some d => exact absurd (cf_mem (mem_of_lookup q)) h
section
variable {M : Model} {A : Around} {E : Value → Shared → Prop} {s : Shared}
theorem wpAny_newFunctionEnv_around {scope : Scope} {globals : Addr} {closure : List (Str × Addr)} {qual : Str} {func : Option Addr} {code : Value} {outer : Env} {builtins : Addr} {Q : Env → Shared → Prop}
    (hQ : Q (newEnv scope s.heap.objs.size globals (cellsFrom (s.heap.objs.size + 1) scope.names closure) qual func code (some outer) builtins) { s with heap := pushCells (s.heap.push { cls := .type "dict", data := .dict #[] }) scope.names }) :
    wpAny M A (newFunctionEnv scope globals closure [] qual func code (some outer) builtins) Q E s := by
  simp only [newFunctionEnv, Option.isSome_some, if_true]
  simp only [newEnv] at hQ
  refine wpAny_bind (wpAny_alloc ?_)
  refine wpAny_bind (wpAny_layCells _ (fun name kind cells => by cases hkc : kind == NameKind.cell <;> simp [hkc]) _ _ _ _ ?_)
  rw [show ({ s with heap := s.heap.push { cls := .type "dict", data := .dict #[] } } : Shared).heap.objs.size = s.heap.objs.size + 1 from Heap.size_push ..]
  rw [List.forIn_nil]
  exact wpAny_bind (wpAny_pure (wpAny_pure hQ))
end
def Cx.blk (X : Cx) (N' : List Str) (s₂ : Shared) (H₂ : Hp) (scope : Scope) (fp : List Addr) (C : Addr) : Cx where
  prog := X.prog
  w := X.w
  K := X.K
  mg := X.mg
  base := X.base
  A := X.A
  N := N'
  s₀ := s₂
  H₀ := H₂
  env := compEnvC scope (blkCells X.env scope C) C X.env
  outer := X.stack
  stack := X.stack
  ex := fp
  fn := fun x => scope.names.contains (x, NameKind.cell)
  calm := X.calm
  pn := []
  xe := fun _ _ => False
def blkSt (k : Nat) (js : List Nat) (σ : St) : St := List.replicate k none ++ js.map fun j => (σ[j]?).join
def blkN (own : List Str) (js : List Nat) (N : List Str) : List Str := own ++ js.map fun j => N.getD j Str.empty
section
variable {X : Cx}
theorem Inv.capFree {pins : List (Addr × Obj)} {σ : St} {H : Hp} {s : Shared} {scope : Scope} (I : Inv X pins σ H s) (hk : CompOk scope X.env.scope) : ∀ x ∈ scope.names, x.2 = .free → ∃ c, X.env.cells.lookup x.1 = some c :=
  fun x hx e => I.ok.has x.1 (hk.free x hx e)
theorem Inv.capL {pins : List (Addr × Obj)} {σ : St} {H : Hp} {s : Shared} {scope : Scope} {x : Str} {c : Addr} (I : Inv X pins σ H s) (hk : CompOk scope X.env.scope) (e : (capOf X.env scope.names []).lookup x = some c) : X.env.cells.lookup x = some c :=
  cap_lookup (I.capFree hk) (fun _ _ z => by simp at z) e
theorem Inv.blkL {pins : List (Addr × Obj)} {σ : St} {H : Hp} {s : Shared} {scope : Scope} {C : Addr} {x : Str} {c : Addr} (I : Inv X pins σ H s) (hk : CompOk scope X.env.scope) (e : (blkCells X.env scope C).lookup x = some c) :
    ((x, c) ∈ cellsFrom (C + 1) scope.names [] ∧ C < c ∧ (x, NameKind.cell) ∈ scope.names) ∨ X.env.cells.lookup x = some c :=
  (blkCells_lookup e).imp id fun z => I.capL hk z.2
theorem blk_ok {pins : List (Addr × Obj)} {σ : St} {H : Hp} {s : Shared} {N' : List Str} {scope : Scope} {fp : List Addr} {C : Addr} (I : Inv X pins σ H s) (hk : CompOk scope X.env.scope) (hC : s.heap.objs.size ≤ C)
    (hf : ∀ b ∈ fp, FpOk X pins H b) (ho : ∀ b ∈ fp, ∃ o, s.heap.get? b = some o) : (X.blk N' s H scope fp C).Ok where
  mod := I.ok.mod
  kind := hk.kind
  glob := I.ok.glob
  blt := I.ok.blt
  above := hC
  inj := fun x y c e1 e2 => by
    have low : ∀ z, X.env.cells.lookup z = some c → c < C := fun z e => by
      obtain ⟨v, q⟩ := I.cell z c e
      exact Nat.lt_of_lt_of_le q.lt hC
    rcases I.blkL hk e1 with ⟨a1, a2, _⟩ | a <;> rcases I.blkL hk e2 with ⟨b1, b2, _⟩ | b
    · exact name_of_addr cf_apart a1 b1
    · exact absurd (low _ b) (Nat.not_lt.mpr (Nat.le_of_lt a2))
    · exact absurd (low _ a) (Nat.not_lt.mpr (Nat.le_of_lt b2))
    · exact I.ok.inj x y c a b
  has := fun x h => by
    refine cf_has ?_
    have z : (x, NameKind.free) ∈ scope.names ∨ (x, NameKind.cell) ∈ scope.names := by
      rcases h with h | h
      · exact lookup_relabel (osc := X.env.scope) h (.inl rfl)
      · exact lookup_relabel (osc := X.env.scope) h (.inr rfl)
    rcases z with z | z
    · exact .inr (cap_has (.inr z))
    · exact .inl z
  cab := fun x c z e => by
    have z' : (x, NameKind.cell) ∈ scope.names := by
      have z2 : scope.names.contains (x, NameKind.cell) = true := z
      simpa using z2
    have e' : (blkCells X.env scope C).lookup x = some c := e
    rcases blkCells_lookup e' with ⟨_, a, _⟩ | ⟨a, _⟩
    · exact Nat.le_trans hC (Nat.le_of_lt a)
    · obtain ⟨d, q⟩ := cf_has (n := C + 1) (acc := []) (.inl z')
      rw [a] at q; cases q
  hd := I.ok.hd
  frames := I.ok.frames
  stk := .inl rfl
  exf := fun b hb => ⟨fun e => by
    obtain ⟨o, q⟩ := ho b hb
    have e' : b = C := e
    rw [e'] at q
    exact absurd (Heap.lt_size q) (Nat.not_lt.mpr hC), fun x c e => by
    rcases I.blkL hk e with ⟨_, a, _⟩ | a
    · obtain ⟨o, q⟩ := ho b hb
      intro z
      rw [z] at a
      exact absurd (Nat.lt_of_lt_of_le (Heap.lt_size q) hC) (Nat.not_lt.mpr (Nat.le_of_lt a))
    · exact (hf b hb).2.2.2.2.1 x c a⟩
  bs := I.bs
  bsz := Nat.le_trans I.ok.bsz I.sz
  noex := fun b o e hb => by
    rcases (hf b hb).2.2.2.1 with z | z
    · exact I.ok.noex b o e z
    · exact absurd (Heap.lt_size (I.ok.bs b o e).1) (Nat.not_lt.mpr z)
  exfs := fun b hb hs => by
    rcases List.mem_cons.mp (I.stkSub b hs) with z | z
    · exact (hf b hb).2.1 z
    · exact (hf b hb).2.2.1 z
  funs := I.stack
  frf := I.stkFree
theorem blk_start {pins : List (Addr × Obj)} {σ : St} {H : Hp} {s s1 : Shared} {own : List Str} {js : List Nat} {scope : Scope} {fp : List Addr} {C : Addr} {m : Str → Option Value} (I : Inv X pins σ H s) (hk : CompOk scope X.env.scope) (hC : s.heap.objs.size ≤ C)
    (hf : ∀ b ∈ fp, FpOk X pins H b) (ho : ∀ b ∈ fp, ∃ o, s.heap.get? b = some o) (hos : s1.os = s.os) (hg : s1.gens = s.gens) (hn : s1.heap.Ns C m) (keep : ∀ b o, s.heap.get? b = some o → s1.heap.get? b = some o)
    (hown : ∀ x c, (x, c) ∈ cellsFrom (C + 1) scope.names [] → s1.heap.IsCell c none) (hcap : (js.all fun j => scope.names.contains (X.N.getD j Str.empty, NameKind.free)) = true) :
    Inv (X.blk (blkN own js X.N) s H scope fp C) [] (blkSt own.length js σ) H s1 := by
  have cl := fun {x : Str} {c : Addr} (e : (capOf X.env scope.names []).lookup x = some c) => cap_lookup (I.capFree hk) (fun _ _ z => by simp at z) e
  refine ⟨blk_ok I hk hC hf ho, hos, hg ▸ I.bare, Un.kept keep, ⟨m, hn, fun i x v e1 e2 e3 => ?_⟩, fun x c e => ?_, I.hok.fresh hC, fun x c e => (I.blkL hk e).elim (fun z => I.hok.fresh (Nat.le_trans hC (Nat.le_of_lt z.2.1))) fun z => I.freeC x c z, fun p hp => (nomatch hp), I.hok.kept keep, ?_⟩
  · have e1' : (own ++ js.map fun j => X.N.getD j Str.empty)[i]? = some x := e1
    have e2' : (List.replicate own.length none ++ js.map fun j => (σ[j]?).join)[i]? = some (some v) := e2
    by_cases hi : i < own.length
    · rw [List.getElem?_append_left (by rw [List.length_replicate]; exact hi), List.getElem?_replicate, if_pos hi] at e2'
      cases e2'
    · have hi' : own.length ≤ i := Nat.le_of_not_lt hi
      rw [List.getElem?_append_right (by rw [List.length_replicate]; exact hi'), List.length_replicate, List.getElem?_map] at e2'
      rw [List.getElem?_append_right hi', List.getElem?_map] at e1'
      cases ej : js[i - own.length]? with
      | none => rw [ej] at e1'; cases e1'
      | some j =>
        rw [ej] at e1' e2'
        have ex : X.N.getD j Str.empty = x := Option.some.inj e1'
        have ev : (σ[j]?).join = some v := Option.some.inj e2'
        have hj : σ[j]? = some (some v) := by
          cases q : σ[j]? with
          | none => rw [q] at ev; cases ev
          | some z => rw [q] at ev; simp at ev; rw [ev]
        have hjl : j < X.N.length := by rw [← I.len]; exact (List.getElem?_eq_some_iff.mp hj).1
        have hN : X.N[j]? = some x := by rw [← ex, List.getD_eq_getElem?_getD, List.getElem?_eq_getElem hjl]; rfl
        have hx : (x, NameKind.free) ∈ scope.names := by
          have q := List.all_eq_true.mp hcap j (List.mem_of_getElem? ej)
          rw [ex] at q
          simpa using q
        have ko := hk.free _ hx rfl
        obtain ⟨mo, hno, hl⟩ := I.loc
        obtain ⟨u, ru, lk⟩ := hl j x v hN hj (ko.elim (fun z => .inr (.inl z)) fun z => .inr (.inr z))
        refine ⟨u, ru, ?_⟩
        rcases lk with ⟨kk, _⟩ | ⟨kk, c, ec, hc⟩
        · rcases ko with z | z
          · rw [show X.env.kindOf x = X.env.scope.names.lookup x from rfl, z] at kk; cases kk
          · rw [show X.env.kindOf x = X.env.scope.names.lookup x from rfl, z] at kk; cases kk
        · obtain ⟨c', hc'⟩ := cap_has (env := X.env) (ns := scope.names) (acc := []) (x := x) (.inr hx)
          have := cl hc'
          rw [ec] at this
          cases this
          refine .inr ⟨?_, c, ?_, hc.keeps keep⟩
          case refine_2 =>
            show (blkCells X.env scope C).lookup x = some c
            unfold blkCells
            rw [cf_app, List.lookup_append, own_none (hk.sep _ hx rfl)]
            exact hc'
          -- its kind within the block
          rcases e3 with z | z | z
          · exact absurd z (hk.nl _ hx rfl)
          · exact .inl z
          · exact .inr z
  · rcases I.blkL hk e with z | z
    · exact ⟨none, hown x c z.1⟩
    · obtain ⟨v, z⟩ := I.cell x c z
      exact ⟨v, z.keeps keep⟩
  · show (List.replicate own.length none ++ js.map fun j => (σ[j]?).join).length = (own ++ js.map fun j => X.N.getD j Str.empty).length
    simp
def ifsOf (env : Env) (ifs : List Expr) : Sem Bool := forIn ifs true fun c r => if r = true then do let ok ← isTrue c env (eval c env); pure (ForInStep.yield ok) else pure (ForInStep.yield r)
theorem compLoop_any {prog : Program} {w : World} {A : Around} {R : Result → Shared → Prop} {s : Shared} {elt target iter : Expr} {ifs : List Expr} {scope : Scope} {pos : Pos} {it acc : Value} {env : Env} (I : Nat → Shared → Prop)
    (turn : ∀ n s, I n s → wpAny (model prog w) A (pyNext it) (fun r s₁ => match r with
      | none => R (.ok .next) s₁
      | some v => wpAny (model prog w) A (letOwnedTupleGo target it v) (fun _ s₁' => wpAny (model prog w) A (assign target env v) (fun _ s₂ =>
          wpAny (model prog w) A (ifsOf env ifs) (fun ok s₃ =>
            if ok = true then wpAny (model prog w) A (eval elt env) (fun x s₄ =>
              wpAny (model prog w) A (call (.builtin "list.append") [acc, x]) (fun _ s₅ => ∃ m, m < n ∧ I m s₅) (fun _ _ => False) s₄) (fun _ _ => False) s₃
            else ∃ m, m < n ∧ I m s₃) (fun _ _ => False) s₂) (fun _ _ => False) s₁') (fun _ _ => False) s₁) (fun _ _ => False) s)
    (n : Nat) (h : I n s) :
    codeAny (model prog w) A (.compLoop (.ListComp elt [⟨target, iter, ifs, 0⟩] scope pos) 0 it acc env) R s := by
  refine codeAny_loop rfl I (fun n s hI => ?_) n h
  show wpAny _ A ((compTurn (.ListComp elt [⟨target, iter, ifs, 0⟩] scope pos) 0 it acc env).onRaise (fun x => do noteFrame x env; theTreesLotGoes x)) _ _ s
  refine wpAny_noted ?_
  rw [compTurn_list]
  have up : ∀ {α : Type} {t : Sem α} {Q Q' : α → Shared → Prop} {E' : Value → Shared → Prop} {s : Shared}, wpAny (model prog w) A t Q (fun _ _ => False) s → (∀ a s, Q a s → Q' a s) → wpAny (model prog w) A t Q' E' s :=
    fun h hQ => wpAny_mono h hQ fun _ _ f => f.elim
  refine wpAny_bind (wpAny_standAt (wpAny_bind (up (turn n s hI) fun r s₁ h₁ => ?_)))
  cases r with
  | none => exact wpAny_pure h₁
  | some v =>
    refine wpAny_bind (up h₁ fun _ s₁' h₁' => wpAny_bind (up h₁' fun _ s₂ h₂ => wpAny_bind (up h₂ fun ok s₃ h₃ => ?_)))
    cases ok with
    | false => exact wpAny_pure ⟨rfl, h₃⟩
    | true =>
      exact wpAny_bind (wpAny_bind (up h₃ fun x s₄ h₄ => wpAny_bind (up h₄ fun _ s₅ h₅ => wpAny_pure (wpAny_pure ⟨rfl, h₅⟩))))
def PIf (X : Cx) (ifs : List Expr) (t : TT) : Prop :=
  ∀ (pins : List (Addr × Obj)) (s : Shared) (σ : St) (H : Hp) (Q : Bool → Hp → Prop), Inv X pins σ H s → t σ H Q → wpAny (model X.prog X.w) X.A (ifsOf X.env ifs) (TP X pins σ Q) X.xe s
def tNoIf : TT := fun _ H Q => Q true H
theorem pif_nil {X : Cx} : PIf X [] tNoIf := fun pins s σ H Q I h => wpAny_tests_nil ⟨H, I, h⟩
def CompW (J : It) (g : TG) (ti : TT) (te : TE) (σ : St) (H : Hp) (Q : List V → Hp → Prop) : Prop :=
  ∃ W : Nat → Nat → List V → St → Hp → Prop, (∃ m, W 0 m [] σ H) ∧ ∀ i m acc σ' H', W i m acc σ' H' →
    acc.length < sizeLine ∧ ((J.stop i H' ∧ Q acc H') ∨
      (J.go i H' ∧ ∃ N : List V → St → Hp → Prop, (∀ acc' σ2 H2, N acc' σ2 H2 → ∃ m', m' < m ∧ W (i + 1) m' acc' σ2 H2) ∧
        ∀ x H2, J.yld i H' x H2 → g x σ' H2 fun σ2 H3 => ti σ2 H3 fun b H4 => if b = true then te σ2 H4 fun v H5 => N (acc ++ [v]) σ2 H5 else N acc σ2 H4))
def tComp (k : Nat) (js : List Nat) (wi : TI) (g : TG) (ti : TT) (te : TE) : TE := fun σ H Q => wi σ H fun J H1 => CompW J g ti te (blkSt k js σ) H1 fun acc H' => ∀ l, H' l = none → Q (.ref l) (upd H' l (.lst acc))
abbrev lstObj (its : List Value) (n : Nat) : Obj := { cls := .type "list", data := .seq its.toArray n }
theorem comp_core {pins : List (Addr × Obj)} {σ : St} {H : Hp} {s : Shared} {elt tg iter : Expr} {ifs : List Expr} {scope : Scope} {pos : Pos} {own : List Str} {js : List Nat} {g : TG} {ti : TT} {te : TE} {J : It} {fp : List Addr} {it : Addr} {tn : Nat → Heap → Prop} {Q : List V → Hp → Prop} {E : Value → Shared → Prop}
    {RR : Value → Addr → Result → Shared → Prop} (hc : X.calm = true) (hk : CompOk scope X.env.scope) (hcap : (js.all fun j => scope.names.contains (X.N.getD j Str.empty, NameKind.free)) = true)
    (hg : ∀ s H fp C, PG (X.blk (blkN own js X.N) s H scope fp C) tg g) (hi : ∀ s H fp C, PIf (X.blk (blkN own js X.N) s H scope fp C) ifs ti) (he : ∀ s H fp C, PE (X.blk (blkN own js X.N) s H scope fp C) elt te)
    (I : Inv X pins σ H s) (T : Turn X.prog X.w X.K tg J fp it tn) (st : tn 0 s.heap) (hf : ∀ b ∈ fp, FpOk X pins H b)
    (hW : CompW J g ti te (blkSt own.length js σ) H Q)
    (hRR : ∀ (D C : Addr) (s' : Shared) (H' : Hp) (acc : List V) (m : Str → Option Value), Q acc H' → H' D = none → Inv X pins σ (upd H' D (.lst acc)) s' → s'.heap.Ns C m → upd H' D (.lst acc) C = none → C ≠ X.env.locals → X.s₀.heap.objs.size ≤ C →
      (∀ x c, X.env.cells.lookup x = some c → c ≠ C) → (∀ p ∈ X.pn ++ pins, p.1 ≠ C) → RR (.ref D) C (.ok .next) s') :
    wpAny (model X.prog X.w) X.A (newList []) (fun acc s₃ => wpAny (model X.prog X.w) X.A (newFunctionEnv scope X.env.globals (capOf X.env scope.names []) [] X.env.qual none .none (some X.env)) (fun cenv s₄ =>
      codeAny (model X.prog X.w) X.A (.compStart (.ListComp elt [⟨tg, iter, ifs, 0⟩] scope pos) 0 (.ref it) acc { cenv with scope := relabel scope X.env }) (RR acc cenv.locals) s₄) E s₃) E s := by
  obtain ⟨W, ⟨m0, w0⟩, turn⟩ := hW
  refine wpAny_newObj_type (wpAny_newFunctionEnv_around ?_)
  dsimp only
  generalize hH2 : s.heap.push { cls := .type "list", dict := none, data := .seq ([] : List Value).toArray } = H2
  generalize hh1 : pushCells (H2.push { cls := .type "dict", data := .dict #[] }) scope.names = h₁
  have hpk : ∀ b o, (H2.push { cls := .type "dict", data := .dict #[] }).get? b = some o → h₁.get? b = some o := fun b o e => hh1 ▸ pushCells_keeps _ _ b o e
  have hns₁ : h₁.Ns H2.objs.size fun _ => none := by
    have q : (H2.push { cls := .type "dict", data := .dict #[] }).Ns H2.objs.size fun _ => none := Heap.Ns.new ..
    exact q.at' fun o e => hpk _ o e
  have hown₁ : ∀ x c, (x, c) ∈ cellsFrom (H2.objs.size + 1) scope.names [] → h₁.IsCell c none := fun x c e => by
    have ok := cellsFrom_ok scope.names (H2.push { cls := .type "dict", data := .dict #[] }) (H2.objs.size + 1) [] ⟨fun _ _ hm => (nomatch hm), List.Pairwise.nil⟩ (by rw [Heap.size_push]; exact Nat.le_refl _)
    rw [Heap.size_push, hh1] at ok
    exact (ok.empty x c e).1
  have hC : H2.objs.size = s.heap.objs.size + 1 := by rw [← hH2, Heap.size_push]
  have hDC : s.heap.objs.size ≠ H2.objs.size := by rw [hC]; exact Nat.ne_of_lt (Nat.lt_succ_self _)
  have hCle : s.heap.objs.size ≤ H2.objs.size := by rw [hC]; exact Nat.le_succ _
  have below : ∀ b, b < s.heap.objs.size → b ≠ H2.objs.size ∧ b ≠ s.heap.objs.size := fun b hb => ⟨by rw [hC]; exact Nat.ne_of_lt (Nat.lt_succ_of_lt hb), Nat.ne_of_lt hb⟩
  have old : ∀ b o, s.heap.get? b = some o → h₁.get? b = some o := fun b o e => hpk b o (Heap.get?_push_of_some _ (hH2 ▸ Heap.get?_push_of_some _ e))
  have hacc : h₁.get? s.heap.objs.size = some (lstObj [] 0) := hpk _ _ (Heap.get?_push_of_some _ (hH2 ▸ Heap.get?_push_size _ rfl))
  have hob : ∀ b ∈ fp, ∃ o, s.heap.get? b = some o := fun b hb => let ⟨o, e, _⟩ := T.obj 0 _ st b hb; ⟨o, e⟩
  have st₁ : tn 0 h₁ := T.keep 0 _ _ st fun b _ o e => old b o e
  generalize hXb : X.blk (blkN own js X.N) s H scope fp H2.objs.size = Xb
  have I₁ : Inv Xb [] (blkSt own.length js σ) H { s with heap := h₁ } := hXb ▸ blk_start I hk hCle hf hob rfl rfl hns₁ old hown₁ hcap
  have eP : Xb.prog = X.prog := by rw [← hXb]; rfl
  have ew : Xb.w = X.w := by rw [← hXb]; rfl
  have eK : Xb.K = X.K := by rw [← hXb]; rfl
  have eA : Xb.A = X.A := by rw [← hXb]; rfl
  have ec : Xb.calm = true := by rw [← hXb]; exact hc
  have eE : Xb.env = compEnvC scope (blkCells X.env scope H2.objs.size) H2.objs.size X.env := by rw [← hXb]; rfl
  have ex : Xb.xe = fun _ _ => False := by rw [← hXb]; rfl
  have es : Xb.s₀ = s := by rw [← hXb]; rfl
  have eh : Xb.H₀ = H := by rw [← hXb]; rfl
  have ef : Xb.fs = frs X.stack := by rw [← hXb]; rfl
  have exx : Xb.ex = fp := by rw [← hXb]; rfl
  have ep : Xb.pn = [] := by rw [← hXb]; rfl
  have eL : Xb.env.locals = H2.objs.size := by rw [eE]; rfl
  have hD0 : H s.heap.objs.size = none := I.hok.fresh (Nat.le_refl _)
  -- D is no iterator's, no frame's
  have hDf : ∀ b ∈ fp, b ≠ s.heap.objs.size := fun b hb e => by
    obtain ⟨o, q⟩ := hob b hb
    rw [e] at q
    exact absurd (Heap.lt_size q) (Nat.lt_irrefl _)
  have hDs : s.heap.objs.size ∉ Xb.fs := fun z => by
    rw [ef] at z
    rcases List.mem_cons.mp (I.stkSub _ z) with q | q
    · exact absurd I.lt (by rw [← q]; exact Nat.lt_irrefl _)
    · exact I.nofs (Nat.le_refl _) q
  have hDcell : ∀ x c, Xb.env.cells.lookup x = some c → c ≠ s.heap.objs.size := fun x c e q => by
    rcases I.blkL hk (C := H2.objs.size) (x := x) (c := c) (by rw [eE] at e; exact e) with ⟨_, z, _⟩ | z
    · rw [q] at z
      exact absurd hCle (Nat.not_le.mpr z)
    · obtain ⟨v, o, ho, _⟩ := I.cell x c z
      rw [q] at ho
      exact absurd (Heap.lt_size ho) (Nat.lt_irrefl _)
  have stat : ∀ {pl : List (Addr × Obj)} {H' : Hp}, (∀ b ∈ fp, H' b = none) → (∀ p ∈ pl, p.1 = s.heap.objs.size) → ∀ b ∈ fp, FpOk Xb pl H' b := fun hn hp b hb => by
    refine ⟨hn b hb, ?_, ?_, .inl (by rw [exx]; exact hb), fun x c e => ?_, fun p hpp => ?_⟩
    · rw [eL]; exact (below b (let ⟨o, q⟩ := hob b hb; Heap.lt_size q)).1
    · rw [ef]; intro z
      rcases List.mem_cons.mp (I.stkSub b z) with q | q
      · exact (hf b hb).2.1 q
      · exact (hf b hb).2.2.1 q
    · rcases I.blkL hk (C := H2.objs.size) (x := x) (c := c) (by rw [eE] at e; exact e) with ⟨_, z, _⟩ | z
      · intro q
        rw [q] at z
        obtain ⟨o, q2⟩ := hob b hb
        exact absurd (Nat.lt_of_lt_of_le (Heap.lt_size q2) hCle) (Nat.not_lt.mpr (Nat.le_of_lt z))
      · exact (hf b hb).2.2.2.2.1 x c z
    · rw [ep, List.nil_append] at hpp
      rw [hp p hpp]
      exact (hDf b hb).symm
  have loop : ∀ s₃ : Shared, s₃ = { s with heap := h₁ } →
      codeAny (model X.prog X.w) X.A (.compLoop (.ListComp elt [⟨tg, iter, ifs, 0⟩] scope pos) 0 (.ref it) (.ref s.heap.objs.size) (compEnvC scope (blkCells X.env scope H2.objs.size) H2.objs.size X.env))
        (RR (.ref s.heap.objs.size) H2.objs.size) s₃ := by
    rintro s₃ rfl
    refine compLoop_any (fun n s' => ∃ (i : Nat) (acc : List V) (its : List Value) (k : Nat) (σ' : St) (H' : Hp), Inv Xb [] σ' H' s' ∧ tn i s'.heap ∧ (∀ b ∈ fp, H' b = none) ∧ H' s.heap.objs.size = none ∧ s'.heap.get? s.heap.objs.size = some (lstObj its k) ∧ Vals acc its ∧ W i n acc σ' H')
      ?_ m0 ⟨0, [], [], 0, _, H, I₁, st₁, fun b hb => (hf b hb).1, hD0, hacc, .nil, w0⟩
    rintro n s' ⟨i, acc, its, k, σ', H', I', st', fr', hD', oD', rv', w'⟩
    obtain ⟨hlen, tt⟩ := turn i n acc σ' H' w'
    -- the gathered list, pinned
    have Ip : Inv Xb [(s.heap.objs.size, lstObj its k)] σ' H' s' := I'.pins_of fun p hp => by
      have e : p = (s.heap.objs.size, lstObj its k) := by simpa using hp
      subst e
      exact ⟨oD', hD', by rw [eL]; exact hDC, hDs, fun v z => by cases z⟩
    have hpl : ∀ p ∈ [(s.heap.objs.size, lstObj its k)], p.1 = s.heap.objs.size := fun p hp => by
      have e : p = (s.heap.objs.size, lstObj its k) := by simpa using hp
      rw [e]
    rcases tt with ⟨stop, q⟩ | ⟨go, N, hN, step⟩
    · have d := T.done Xb eP ew eK ec i _ s' σ' H' (fun _ _ => False) Ip (stat fr' hpl) st' stop
      rw [eA] at d
      refine wpAny_mono d (fun r s1 hr => ?_) fun _ _ z => z
      obtain ⟨rfl, I1⟩ := hr
      have oD1 : s1.heap.get? s.heap.objs.size = some (lstObj its k) := (I1.pin _ (List.mem_append_right _ (List.mem_singleton.mpr rfl))).1
      obtain ⟨mC, hnC, _⟩ := I1.loc
      rw [eL] at hnC
      obtain ⟨oC, _, _, hoC, _⟩ := id hnC
      have hCH : H' H2.objs.size = none := by have := I1.free; rwa [eL] at this
      have ub : Un (frs X.stack) fp H H' s.heap s1.heap := by have := I1.base; rwa [ef, exx, eh, es] at this
      refine hRR _ _ s1 H' acc mC q hD' ?_ hnC ?_ ?_ ?_ ?_ ?_
      · -- back outside
        refine I.call' (ch := fp) (by have := I1.os; rwa [es] at this) ⟨fun b o e n1 h1 h2 => ub.keep b o e n1 h1 h2, fun b o e n1 h1 h2 => ub.slot b o e n1 h1 h2, fun b o e n1 h1 => ?_, ub.there, fun b xs e => ?_, fun b o u e => ?_, fun b ps e => ?_⟩ ?_ (by have := I1.bare; exact this) fun b hb => ?_
        · rw [upd_ne (fun z => by rw [z] at e; exact absurd (Heap.lt_size e) (Nat.lt_irrefl _))]
          exact ub.free b o e n1 h1
        · rw [upd_ne (ne_of_none (ub.tups b xs e) hD')]
          exact ub.tups b xs e
        · rw [upd_ne (ne_of_none (ub.frzs b o u e) hD')]
          exact ub.frzs b o u e
        · obtain ⟨more, z⟩ := ub.tbls b ps e
          exact ⟨more, by rw [upd_ne (ne_of_none z hD')]; exact z⟩
        · intro b u e
          have hokb := I1.hok
          rw [eP, ew] at hokb
          by_cases hb : b = s.heap.objs.size
          · subst hb
            rw [upd_same] at e
            cases e
            exact ⟨Nat.le_of_lt hlen, its, k, rv', oD1⟩
          · rw [upd_ne hb] at e
            refine (hokb b u e).stay (fun c v _ z => z) (fun c z => ?_) fun c xs z => ?_
            · rw [upd_ne (ne_of_none z hD')]; exact z
            · rw [upd_ne (ne_of_none z hD')]; exact z
        · exact ⟨(hf b hb).2.2.2.1, (hf b hb).2.1, (hf b hb).2.2.2.2.1, (hf b hb).2.2.2.2.2⟩
      · rw [upd_ne hDC.symm]; exact hCH
      · intro z; have := I.lt; rw [← z] at this; exact absurd this (Nat.not_lt.mpr hCle)
      · exact Nat.le_trans I.sz hCle
      · intro x c e z
        obtain ⟨v, o, ho, _⟩ := I.cell x c e
        rw [z] at ho
        exact absurd (Heap.lt_size ho) (Nat.not_lt.mpr hCle)
      · intro p hp z
        have := (I.pin p hp).1
        rw [z] at this
        exact absurd (Heap.lt_size this) (Nat.not_lt.mpr hCle)
    · have d := T.item Xb eP ew eK ec i _ s' σ' H' (fun _ _ => False) Ip (stat fr' hpl) st' go
      rw [eA] at d
      refine wpAny_mono d (fun r s1 hr => ?_) fun _ _ z => z
      obtain ⟨u, rfl, d2⟩ := hr
      refine wpAny_mono d2 (fun _ s2 hr2 => ?_) fun _ _ z => z
      obtain ⟨x, H2', I2, r2, y2, st2, fr2⟩ := hr2
      have I2' := I2.pinned (stat fr2 hpl) (T.obj _ _ st2)
      have G := hXb ▸ hg s H fp H2.objs.size
      have d3 := G _ s2 σ' H2' x u _ I2' r2 (step x H2' y2)
      rw [eP, ew, eA, ex, eE] at d3
      refine wpAny_mono d3 (fun _ s3 hr3 => ?_) fun _ _ z => z
      obtain ⟨σ3, H3, I3, q3⟩ := hr3
      have Gi := hXb ▸ hi s H fp H2.objs.size
      have d4 := Gi _ s3 σ3 H3 _ I3 q3
      rw [eP, ew, eA, ex, eE] at d4
      refine wpAny_mono d4 (fun b s4 hr4 => ?_) fun _ _ z => z
      obtain ⟨H4, I4, q4⟩ := hr4
      have again : ∀ {s5 : Shared} {H5 : Hp} {σ5 : St}, Inv Xb ([(s.heap.objs.size, lstObj its k)] ++ pinsAt fp s2.heap) σ5 H5 s5 → s5.heap.get? s.heap.objs.size = some (lstObj its k) ∧ H5 s.heap.objs.size = none ∧ tn (i + 1) s5.heap ∧ ∀ b ∈ fp, H5 b = none := fun {s5 H5 σ5} I5 => by
        have pD := I5.pin (s.heap.objs.size, lstObj its k) (List.mem_append_right _ (List.mem_append_left _ (List.mem_singleton.mpr rfl)))
        refine ⟨pD.1, pD.2.1, T.keep _ _ _ st2 fun b hb o e => (I5.pin (b, o) (List.mem_append_right _ (List.mem_append_right _ (mem_pinsAt hb e)))).1, fun b hb => ?_⟩
        obtain ⟨o, e, _⟩ := T.obj _ _ st2 b hb
        exact (I5.pin (b, o) (List.mem_append_right _ (List.mem_append_right _ (mem_pinsAt hb e)))).2.1
      have bare : ∀ {s5 : Shared} {H5 : Hp} {σ5 : St} {pl : List (Addr × Obj)}, Inv Xb pl σ5 H5 s5 → Inv Xb [] σ5 H5 s5 := fun I5 => I5.pins_of fun p hp => nomatch hp
      cases b with
      | false =>
        obtain ⟨m', hm, w5⟩ := hN _ _ _ q4
        obtain ⟨a1, a2, a3, a4⟩ := again I4
        exact ⟨m', hm, i + 1, acc, its, k, σ3, H4, bare I4, a3, a4, a2, a1, rv', w5⟩
      | true =>
        have Ge := hXb ▸ he s H fp H2.objs.size
        have d5 := Ge _ s4 σ3 H4 _ I4 q4
        rw [eP, ew, eA, ex, eE] at d5
        refine wpAny_mono d5 (fun y s5 hr5 => ?_) fun _ _ z => z
        obtain ⟨v, H5, I5, r5, q5⟩ := hr5
        obtain ⟨m', hm, w5⟩ := hN _ _ _ q5
        obtain ⟨a1, a2, a3, a4⟩ := again I5
        have hl := rv'.length
        refine call_meets F.slot_list_append ⟨_, a1, rfl⟩ F.entry_list_append (F.args_list_append_2 _ _) (PySem.list_append s.heap.objs.size its.toArray k y (by rw [List.size_toArray]; omega)) ⟨a1, ?_⟩
        have qu := PySem.IsL.update a1 (fun x_1 => x_1.push y)
        have qe : (its.toArray.push y) = (its ++ [y]).toArray := by simp
        rw [qe] at qu
        have I6 : Inv Xb [] σ3 H5 { s5 with heap := s5.heap.update s.heap.objs.size (Obj.mapSeq fun x_1 => x_1.push y), toks := s5.toks } :=
          (bare I5).turned (fun b o hb e => (Heap.get?_update_other s5.heap _ (Ne.symm hb)).trans e) a2 (by rw [eL]; exact hDC) (.inr (by rw [es]; exact Nat.le_refl _)) hDcell (by rw [ep]; intro p hp; exact nomatch hp)
        refine ⟨m', hm, i + 1, acc ++ [v], its ++ [y], _, σ3, H5, I6, T.keep _ _ _ a3 (fun b hb o e => (Heap.get?_update_other s5.heap _ (hDf b hb).symm).trans e), a4, a2, qu, rv'.append (.cons r5 .nil), w5⟩
  refine codeAny_compStart_list (loop _ rfl) ?_
  exact T.self _ 0 _ _ _ st₁ (loop _ rfl)
theorem pe_comp {elt tg iter : Expr} {ifs : List Expr} {scope : Scope} {pos : Pos} (own : List Str) (js : List Nat) {wi : TI} {g : TG} {ti : TT} {te : TE} (hc : X.calm = true) (hk : CompOk scope X.env.scope)
    (hcap : (js.all fun j => scope.names.contains (X.N.getD j Str.empty, NameKind.free)) = true) (hw : PI X tg iter wi)
    (hg : ∀ s H fp C, PG (X.blk (blkN own js X.N) s H scope fp C) tg g) (hi : ∀ s H fp C, PIf (X.blk (blkN own js X.N) s H scope fp C) ifs ti) (he : ∀ s H fp C, PE (X.blk (blkN own js X.N) s H scope fp C) elt te)
    (hs : ∀ x, foldedSetIterable iter X.env x = pure x := by intro _; rfl) : PE X (.ListComp elt [⟨tg, iter, ifs, 0⟩] scope pos) (tComp own.length js wi g ti te) := by
  intro pins s σ H Q I h
  rw [eval_ListComp]
  refine wpAny_comprehension_free (use := none) rfl hs (closureFor_cap (I.capFree hk)) hk.kind hk.loc (thn (hw pins s σ H _ I h) fun v s1 h1 => thn h1 fun itv s2 h2 => ?_)
  obtain ⟨it, fp, tn, J, H2, rfl, I2, T, st2, f2, hW⟩ := h2
  refine comp_core (RR := fun acc C => compPost (model X.prog X.w) X.A X.xe none (EP X pins σ Q) acc C) (Q := fun acc H' => ∀ l, H' l = none → Q (.ref l) (upd H' l (.lst acc))) hc hk hcap hg hi he I2 T st2 f2 hW ?_
  intro D C s' H' acc m q hD I' hn hC0 hCL hCs hCc hCp
  refine ⟨m, hn, fun h' sb => ?_⟩
  exact ⟨.ref D, _, I'.turned (t' := s'.toks) (fun b o hb e => (sb.2 b hb).trans e) hC0 hCL (.inr hCs) hCc hCp, rfl, q D hD⟩
theorem ps_setcomp {i : Nat} {x : Str} {elt tg iter : Expr} {ifs : List Expr} {scope : Scope} {pos spos : Pos} {px : Pos} (own : List Str) (js : List Nat) {wi : TI} {g : TG} {ti : TT} {te : TE} (hN : X.N.Nodup) (hxi : X.N[i]? = some x) (hx : Loc X.env.scope x)
    (hsw : swapsWith (.ListComp elt [⟨tg, iter, ifs, 0⟩] scope pos) (some (.Name x px)) spos.line X.env = pure true)
    (hc : X.calm = true) (hk : CompOk scope X.env.scope)
    (hcap : (js.all fun j => scope.names.contains (X.N.getD j Str.empty, NameKind.free)) = true) (hw : PI X tg iter wi)
    (hg : ∀ s H fp C, PG (X.blk (blkN own js X.N) s H scope fp C) tg g) (hi : ∀ s H fp C, PIf (X.blk (blkN own js X.N) s H scope fp C) ifs ti) (he : ∀ s H fp C, PE (X.blk (blkN own js X.N) s H scope fp C) elt te)
    (hs : ∀ x, foldedSetIterable iter X.env x = pure x := by intro _; rfl) (hf : X.fn x = true ∨ X.env.scope.names.lookup x = some .local := by first | exact .inl rfl | exact .inr rfl | assumption) :
    PS X (.Assign [.Name x px] (.ListComp elt [⟨tg, iter, ifs, 0⟩] scope pos) spos) (tAsg (tComp own.length js wi g ti te) (gName i)) := by
  intro pins s σ H Dn I h
  rw [exec_Assign_Name_used _ _ _ _ hsw]
  refine wpAny_bind (wpAny_standAt (wpAny_bind ?_))
  show wpAny _ _ (do let _ ← comprehension (.ListComp elt [⟨tg, iter, ifs, 0⟩] scope pos) scope X.env _ (newList []) false (eval iter X.env) (some (assign (.Name x px) X.env))) _ _ s
  refine wpAny_bind (wpAny_mono (wpAny_comprehension_free (use := some (assign (.Name x px) X.env)) (Q := fun _ s' => SP X pins Dn .next s') (E := X.xe) rfl hs (closureFor_cap (I.capFree hk)) hk.kind hk.loc ?_) (fun _ s' q => wpAny_pure (wpAny_pure q)) fun _ _ z => z)
  refine (thn (hw pins s σ H _ I h) fun v s1 h1 => thn h1 fun itv s2 h2 => ?_)
  obtain ⟨it, fp, tn, J, H2, rfl, I2, T, st2, f2, hW⟩ := h2
  refine comp_core (RR := fun acc C => compPost (model X.prog X.w) X.A X.xe (some (assign (.Name x px) X.env)) (fun _ s' => SP X pins Dn .next s') acc C) (Q := fun acc H' => ∀ l, H' l = none → gName i (.ref l) σ (upd H' l (.lst acc)) Dn.nx) hc hk hcap hg hi he I2 T st2 f2 hW ?_
  intro D C s' H' acc m q hD I' hn hC0 hCL hCs hCc hCp
  show wpAny _ _ (assign (.Name x px) X.env (.ref D)) _ _ s'
  refine wpAny_assign_Name (store_ok2 I' hN hxi hx (v := .ref D) rfl (fun s'' I'' sb => ?_) hf)
  obtain ⟨a, sb, ha⟩ := sb
  have hCa : C ≠ a := by
    rcases ha with z | z
    · rw [z]; exact hCL
    · exact (hCc x a z).symm
  refine ⟨m, hn.sameBut sb hCa, fun h' sb' => ?_⟩
  exact ⟨_, _, I''.turned (t' := s''.toks) (fun b o hb e => (sb'.2 b hb).trans e) hC0 hCL (.inr hCs) hCc hCp, q D hD⟩
end
section
variable {K : PySem.W.Frag} {g : TG} {ti : TT} {te : TE} {σ : St} {H : Hp} {Q : List V → Hp → Prop}
theorem comp_by {J : It} {n : Nat} (Pv : Nat → List V → St → Hp → Prop) (h0 : Pv 0 [] σ H) (hz : ∀ i acc σ H, Pv i acc σ H → acc.length < sizeLine) (hi : ∀ i acc σ H, Pv i acc σ H → i ≤ n)
    (stop : ∀ acc σ H, Pv n acc σ H → J.stop n H) (go : ∀ i acc σ H, i < n → Pv i acc σ H → J.go i H)
    (hs : ∀ i x acc σ H H2, i < n → Pv i acc σ H → J.yld i H x H2 → g x σ H2 fun σ2 H3 => ti σ2 H3 fun b H4 => if b = true then te σ2 H4 fun v H5 => Pv (i + 1) (acc ++ [v]) σ2 H5 else Pv (i + 1) acc σ2 H4)
    (he : ∀ acc σ H, Pv n acc σ H → Q acc H) :
    CompW J g ti te σ H Q := by
  refine ⟨fun i m acc σ H => Pv i acc σ H ∧ m = n + 1 - i, ⟨n + 1, h0, rfl⟩, ?_⟩
  rintro i m acc σ' H' ⟨w, rfl⟩
  refine ⟨hz i acc σ' H' w, ?_⟩
  have hle := hi i acc σ' H' w
  rcases Nat.lt_or_ge i n with hlt | hge
  · refine .inr ⟨go i acc σ' H' hlt w, fun acc' σ2 H2 => Pv (i + 1) acc' σ2 H2, fun acc' σ2 H2 w2 => ⟨n + 1 - (i + 1), ?_, w2, rfl⟩, fun x H2 y => hs i x acc σ' H' H2 hlt w y⟩
    have := hi (i + 1) acc' σ2 H2 w2
    omega
  · have e : i = n := by omega
    subst e
    exact .inl ⟨stop acc σ' H' w, he acc σ' H' w⟩
theorem comp_list {a : Addr} {xs : List V} (Pv : Nat → List V → St → Hp → Prop) (h0 : Pv 0 [] σ H) (hz : ∀ i acc σ H, Pv i acc σ H → acc.length < sizeLine) (hi : ∀ i acc σ H, Pv i acc σ H → i ≤ xs.length)
    (hl : ∀ i acc σ H, Pv i acc σ H → SqL K H a xs)
    (hs : ∀ i x acc σ H, xs[i]? = some x → Pv i acc σ H → g x σ H fun σ2 H3 => ti σ2 H3 fun b H4 => if b = true then te σ2 H4 fun v H5 => Pv (i + 1) (acc ++ [v]) σ2 H5 else Pv (i + 1) acc σ2 H4)
    (he : ∀ acc σ H, Pv xs.length acc σ H → Q acc H) : CompW (Itl K a) g ti te σ H Q := by
  exact comp_by (J := Itl K a) (g := g) (ti := ti) (te := te) (Q := Q) (n := xs.length) Pv h0 hz hi (fun acc σ H w => ⟨xs, hl _ _ _ _ w, Nat.le_refl _⟩)
    (fun i acc σ H hlt w => ⟨xs, xs[i], hl _ _ _ _ w, List.getElem?_eq_getElem hlt⟩) (fun i x acc σ H H2 hlt w y => by obtain ⟨rfl, hx⟩ := y; exact hs i x acc σ H2 (hx xs (hl _ _ _ _ w)) w) he
theorem comp_range {lo : Int} {n : Nat} (Pv : Nat → List V → St → Hp → Prop) (h0 : Pv 0 [] σ H) (hz : ∀ i acc σ H, Pv i acc σ H → acc.length < sizeLine) (hi : ∀ i acc σ H, Pv i acc σ H → i ≤ n)
    (hs : ∀ i acc σ H, i < n → Pv i acc σ H → g (.int (lo + i)) σ H fun σ2 H3 => ti σ2 H3 fun b H4 => if b = true then te σ2 H4 fun v H5 => Pv (i + 1) (acc ++ [v]) σ2 H5 else Pv (i + 1) acc σ2 H4)
    (he : ∀ acc σ H, Pv n acc σ H → Q acc H) : CompW (Itr lo n) g ti te σ H Q := by
  exact comp_by (J := Itr lo n) (g := g) (ti := ti) (te := te) (Q := Q) (n := n) Pv h0 hz hi (fun acc σ H w => Nat.le_refl _) (fun i acc σ H hlt w => hlt) (fun i x acc σ H H2 hlt w y => by obtain ⟨rfl, rfl⟩ := y; exact hs i acc σ H2 hlt w) he
end
end L2
set_option Elab.async false
set_option linter.all false
set_option maxRecDepth 100000
namespace L2
open PySem PySem.Spec PyProof.Rows
structure Cal (P : Program) (w : World) (K : PySem.W.Frag) (mg : Str → Option Value) (base : Heap) (CX : CXT) (k : Nat) (x : Str) (ps : List Str) (sp : Sp) : Prop where
  ex : ∃ (f : Addr) (fd : FuncData), FnOk P w K mg base CX k f fd ps sp ∧ mg x = some (.ref f) ∧ PySem.W.keepIn K (.ref f) = true ∧ Binds K fd ps []
structure NB (mg : Str → Option Value) : Prop where
  len : mg "len" = none
  range : mg "range" = none
  list : mg "list" = none
  tuple : mg "tuple" = none
  isinstance : mg "isinstance" = none
  int : mg "int" = none
  bool : mg "bool" = none
  str : mg "str" = none
  reversed : mg "reversed" = none
  all : mg "all" = none
  enumerate : mg "enumerate" = none
  zip : mg "zip" = none
  sorted : mg "sorted" = none
  set : mg "set" = none
  dict : mg "dict" = none
  min : mg "min" = none
  max : mg "max" = none
  sum : mg "sum" = none
  ValueError : mg "ValueError" = none
section
variable {X : Cx} {CX : CXT} {k : Nat} {x : Str} {ps : List Str} {sp : Sp} {E : XK} {p pos : Pos} {e : Expr} {es : List Expr} {t : TA}
theorem pe_cal (C : Cal X.prog X.w X.K X.mg X.base CX k x ps sp) (hr : Room k X.A) (hg : Gl X x) (hx : Passes CX X E) (ha : PA X (e :: es) t) (hdb : (x == ("__debug__" : Str)) = false := by decide +kernel)
    (hst : starEach (e :: es) X.env = (false, eval e X.env) :: starEach es X.env := by rfl) (hpl : (backTo pos (starEach es X.env)).any (·.1) = false := by rfl) : PE X (.Call (.Name x p) (e :: es) [] pos) (tCall sp [] E t) := by
  obtain ⟨f, fd, F, hm, hk, hb⟩ := C.ex
  exact pe_call F hr hg hm hk hb .nil hx ha hdb hst hpl
end
section
variable {X : Cx} {tg : Expr}
def CDivP (_ j : Int) : Prop := 0 < j ∧ j < 18446744073709551616
theorem op_fdivP : OpR X (binaryOp .FloorDiv) (rI CDivP fun i j => .int (i / j)) := opI fun i j _ _ _ _ _ hc q => by
  have h1 : (0 : Int) < j := hc.1
  have h2 : j < 18446744073709551616 := hc.2
  refine floordiv_int (by omega) (by rw [Int.fdiv_eq_ediv_of_nonneg i (by omega)]; exact q) (.inl (PyProof.noPylong_of_log2 ?_))
  have h64 : j.natAbs.log2 < 64 := (Nat.log2_lt (by omega)).mpr (by omega)
  omega
theorem strsAre_of : ∀ {ys : List Str} {us : List Value}, Vals (ys.map V.str) us → StrsAre us ys
  | [], _, .nil => .nil
  | y :: ys, _, .cons r t => by
    obtain ⟨tk, rfl⟩ := r
    exact .cons y tk (strsAre_of t)
def rJoin (K : PySem.W.Frag) : V → List V → Hp → VK → Prop := fun x xs H Q => ∃ z p ys, x = .str z ∧ xs = [.ref p] ∧ (SqL K H p (ys.map V.str) ∨ SqT K H p (ys.map V.str)) ∧ (ys.map (·.length)).sum + ys.length * z.length ≤ 16777216 ∧ Q (.str (Txt.join z ys)) H
theorem mt_join : MtR X "str.join" (rJoin X.K) := by
  intro pins s σ H x xs v us Q I rx rv h
  obtain ⟨z, p, ys, rfl, rfl, hs, hz, q⟩ := h
  obtain ⟨t, rfl⟩ := rx
  obtain ⟨u, rfl, ru⟩ := rv.one
  cases ru
  rcases hs with hs | hs
  · obtain ⟨its, r, pl, _⟩ := I.list hs
    exact join_list pl.isList (by simpa using strsAre_of r) hz fun t' k => ⟨.str _, H, I.tok k, ⟨t', rfl⟩, q⟩
  · obtain ⟨its, r, pl, _⟩ := I.tuple hs
    exact join_tuple pl (by simpa using strsAre_of r) hz fun t' k => ⟨.str _, H, I.tok k, ⟨t', rfl⟩, q⟩
def Its (x : Str) : It := ⟨fun i _ => i < x.cps.size, fun i H v H' => H' = H ∧ ∃ c, x.cps[i]? = some c ∧ v = .str ⟨#[c]⟩, fun i _ => x.cps.size ≤ i⟩
theorem turn_str {P : Program} {w : World} {K : PySem.W.Frag} {tg : Expr} (x : Str) (t : Tok) (it : Addr) : Turn P w K tg (Its x) [it] it (fun i h => h.IsStrIter it (strIterType x) x t i) where
  mem := by simp
  obj := fun i h st b hb => by
    have e : b = it := by simpa using hb
    subst e
    obtain ⟨o, e, c, d⟩ := st
    exact ⟨o, e, fun v z => by rw [d] at z; cases z⟩
  keep := fun i h h' st k => by
    obtain ⟨o, e, c, d⟩ := st
    exact ⟨o, k it (by simp) o e, c, d⟩
  item := by
    intro X hP hw hK hc i pins s σ H E I hf st hg
    subst hP hw hK
    obtain ⟨f0, f1, f2, f3, f4, f5⟩ := hf it (by simp)
    have hi : i < x.cps.size := hg
    have hx : x.cps[i]? = some x.cps[i] := Array.getElem?_eq_getElem hi
    have fin : ∀ h', h'.IsStrIter it (strIterType x) x t (i + 1) → Heap.SameBut it s.heap h' → ∃ u, (some (Value.str ⟨#[x.cps[i]]⟩ s.toks)) = some u ∧
        wpAny (model X.prog X.w) X.A (letOwnedTupleGo tg (.ref it) u) (fun _ s2 => ∃ v H', Inv X pins σ H' s2 ∧ RelV v u ∧ (Its x).yld i H v H' ∧ s2.heap.IsStrIter it (strIterType x) x t (i + 1) ∧ ∀ b ∈ [it], H' b = none) E { s with heap := h', toks := s.toks + 1 } := fun h' st' sb => by
      have I1 : Inv X pins σ H { s with heap := h', toks := s.toks + 1 } := I.turned (fun b o hb e => (sb.2 b hb).trans e) f0 f1 f3 f4 f5
      obtain ⟨o, e, c, d⟩ := id st'
      refine ⟨_, rfl, go_of (s := { s with heap := h', toks := s.toks + 1 }) e c d ?_ ⟨.str ⟨#[x.cps[i]]⟩, H, I1, ⟨_, rfl⟩, ⟨rfl, _, hx, rfl⟩, st', fun b hb => (hf b hb).1⟩⟩
      unfold strIterType
      split <;> decide
    cases ha : x.cps.all (· < 128) with
    | true =>
      have ety : strIterType x = "str_ascii_iterator" := by unfold strIterType; rw [ha]; rfl
      rw [ety] at st fin ⊢
      exact wpAny_pyNext_ascii_item st hx fin
    | false =>
      have ety : strIterType x = "str_iterator" := by unfold strIterType; rw [ha]; rfl
      rw [ety] at st fin ⊢
      exact wpAny_pyNext_wide_item st hx fin
  done := by
    intro X hP hw hK hc i pins s σ H E I hf st hg
    subst hP hw hK
    obtain ⟨f0, f1, f2, f3, f4, f5⟩ := hf it (by simp)
    have hi : x.cps.size ≤ i := hg
    have hx : x.cps[i]? = none := Array.getElem?_eq_none hi
    cases ha : x.cps.all (· < 128) with
    | true =>
      have ety : strIterType x = "str_ascii_iterator" := by unfold strIterType; rw [ha]; rfl
      rw [ety] at st
      exact wpAny_pyNext_ascii_end (I.ok.hd hc) st hx fun h' eb => ⟨rfl, I.turned (t' := s.toks) (fun b o hb e => eb b o hb e) f0 f1 f3 f4 f5⟩
    | false =>
      have ety : strIterType x = "str_iterator" := by unfold strIterType; rw [ha]; rfl
      rw [ety] at st
      exact wpAny_pyNext_wide_end (I.ok.hd hc) st hx fun h' eb => ⟨rfl, I.turned (t' := s.toks) (fun b o hb e => eb b o hb e) f0 f1 f3 f4 f5⟩
  self := fun A i s Q E st h => by
    cases ha : x.cps.all (· < 128) with
    | true =>
      have ety : strIterType x = "str_ascii_iterator" := by unfold strIterType; rw [ha]; rfl
      rw [ety] at st
      exact wpAny_pyIter_striter_ascii st h
    | false =>
      have ety : strIterType x = "str_iterator" := by unfold strIterType; rw [ha]; rfl
      rw [ety] at st
      exact wpAny_pyIter_striter_wide st h
def iStr (tl : TE) : TI := fun σ H R => tl σ H fun v H1 => ∃ x, v = .str x ∧ R (Its x) H1
theorem pi_str {l : Expr} {tl : TE} (hl : PE X l tl) : PI X tg l (iStr tl) := by
  intro pins s σ H R I h
  refine thn (hl pins s σ H _ I h) fun v s1 ⟨x, H1, I1, r1, q1⟩ => ?_
  obtain ⟨x, rfl, q⟩ := q1
  obtain ⟨t, rfl⟩ := r1
  refine wpAny_pyIter_strU ?_
  refine ⟨s1.heap.objs.size, [s1.heap.objs.size], _, _, H1, rfl, I1.kept (t' := s1.toks) fun b o e => Heap.get?_push_of_some _ e, turn_str x t _, ⟨_, Heap.get?_push_size _ rfl, rfl, rfl⟩, fun b hb => ?_, q⟩
  have e : b = s1.heap.objs.size := by simpa using hb
  subst e
  exact I1.fpOk (Nat.le_refl _) (I1.hok.fresh (Nat.le_refl _))
def Itv (K : PySem.W.Frag) (a : Addr) (n : Nat) : It :=
  ⟨fun i H => ∃ xs x, SqL K H a xs ∧ i < n ∧ xs[n - 1 - i]? = some x, fun i H x H' => H' = H ∧ ∀ xs, SqL K H a xs → xs[n - 1 - i]? = some x, fun i _ => i = n⟩
theorem turn_rev {P : Program} {w : World} {K : PySem.W.Frag} {tg : Expr} (a it : Addr) (n : Nat) : Turn P w K tg (Itv K a n) [it] it (fun i h => h.IsRevIter it a ((n : Int) - 1 - (i : Int))) where
  mem := by simp
  obj := fun i h st b hb => by
    have e : b = it := by simpa using hb
    subst e
    obtain ⟨o, e, c, d⟩ := st
    exact ⟨o, e, fun v z => by rw [d] at z; cases z⟩
  keep := fun i h h' st k => st.at fun o e => k it (by simp) o e
  item := by
    intro X hP hw hK hc i pins s σ H E I hf st hg
    subst hP hw hK
    obtain ⟨xs, x, hq, hi, hx⟩ := hg
    obtain ⟨its, rv, p, hz⟩ := I.list hq
    obtain ⟨u, hu, ru⟩ := rv.get hx
    obtain ⟨f0, f1, f2, f3, f4, f5⟩ := hf it (by simp)
    have e : (n : Int) - 1 - (i : Int) = ((n - 1 - i : Nat) : Int) := by omega
    have st1 := st
    rw [e] at st1
    refine wpAny_pyNext_rev_item st1 p.isList (x := u) (by simpa using hu) fun h' st' sb => ?_
    have e2 : ((n - 1 - i : Nat) : Int) - 1 = (n : Int) - 1 - ((i + 1 : Nat) : Int) := by omega
    rw [e2] at st'
    have I1 : Inv X pins σ H { s with heap := h' } := I.turned (t' := s.toks) (fun b o hb e => (sb.2 b hb).trans e) f0 f1 f3 f4 f5
    obtain ⟨o, e, c, d⟩ := id st'
    exact ⟨u, rfl, go_of (s := { s with heap := h' }) e c d (by decide) ⟨x, H, I1, ru, ⟨rfl, fun ys hy => by rw [I.list_inj hy hq]; exact hx⟩, st', fun b hb => (hf b hb).1⟩⟩
  done := by
    intro X hP hw hK hc i pins s σ H E I hf st hg
    subst hP hw hK
    obtain ⟨f0, f1, f2, f3, f4, f5⟩ := hf it (by simp)
    have hi : i = n := hg
    subst hi
    have e : (i : Int) - 1 - (i : Int) = -1 := by omega
    rw [e] at st
    exact wpAny_pyNext_rev_end (I.ok.hd hc) st fun h' eb => ⟨rfl, I.turned (t' := s.toks) (fun b o hb e => eb b o hb e) f0 f1 f3 f4 f5⟩
  self := fun _ _ _ _ _ st h => wpAny_pyIter_revIter st h
def iRev (K : PySem.W.Frag) (ta : TA) : TI := fun σ H R => ta σ H fun vs H1 => ∃ a xs, vs = [.ref a] ∧ SqL K H1 a xs ∧ R (Itv K a xs.length) H1
theorem pi_rev {a : Expr} {ta : TA} {p pos : Pos} (hg : Gl X "reversed") (hm : X.mg "reversed" = none) (ha : PA X [a] ta) (hs : starEach [a] X.env = [(false, eval a X.env)] := by rfl) : PI X tg (.Call (.Name "reversed" p) [a] [] pos) (iRev X.K ta) := by
  intro pins s σ H R I h
  refine Call_ (ld_blt I hg hm boot_reversed (PyProof.Rows.callWith_type1 (thn (ha pos pins s σ H _ I h) fun us s1 ⟨vs, H1, I1, r1, q1⟩ => ?_) hs rfl))
  obtain ⟨l, xs, rfl, hq, q⟩ := q1
  obtain ⟨u, rfl, ru⟩ := r1.one
  cases ru
  obtain ⟨its, rv, pl, hz⟩ := I1.list hq
  have hlen := rv.length
  refine call_reversed_list pl.isList ?_
  have es : its.toArray.size = xs.length := by rw [List.size_toArray, hlen]
  rw [es]
  have I2 : Inv X pins σ H1 { s1 with heap := s1.heap.push (revObj l ((xs.length : Int) - 1)) } := I1.kept (t' := s1.toks) fun b o e => Heap.get?_push_of_some _ e
  have st : (s1.heap.push (revObj l ((xs.length : Int) - 1))).IsRevIter s1.heap.objs.size l ((xs.length : Int) - 1 - ((0 : Nat) : Int)) := ⟨_, Heap.get?_push_size _ rfl, rfl, by simp [revObj]⟩
  refine wpAny_pyIter_revIter st ?_
  refine ⟨s1.heap.objs.size, [s1.heap.objs.size], _, _, H1, rfl, I2, turn_rev l _ xs.length, st, fun b hb => ?_, q⟩
  have e : b = s1.heap.objs.size := by simpa using hb
  subst e
  exact I1.fpOk (Nat.le_refl _) (I1.hok.fresh (Nat.le_refl _))
def rSlS : V → Option Int → Option Int → Hp → VK → Prop := fun x lo hi H Q => ∃ z, x = .str z ∧ z.length ≤ sizeLine ∧ Q (.str (Txt.slice z lo hi)) H
theorem sl_str : SlR X rSlS := by
  intro pins s σ H x v vl vu lo hi sl Q I rx hs pl pu h
  obtain ⟨z, rfl, hz, q⟩ := h
  obtain ⟨t, rfl⟩ := rx
  have fin : ∀ t' k, EP X pins σ Q (.str (Txt.slice z lo hi) t') { s with toks := k } := fun t' k => ⟨.str _, H, I.tok k, ⟨t', rfl⟩, q⟩
  refine ⟨"str", _, F.slot_str_getitem.lookup, typeIs_str _ _ _, ?_⟩
  cases pl with
  | none =>
    cases pu with
    | none => exact wpAny_getItem_str_slice (l := none) (u := none) (st := none) hs rfl (post_val_or_str ⟨Nat.le_trans (Txt.slice_le z _ _) hz, fin⟩)
    | int j uj => exact wpAny_getItem_str_slice (l := none) (u := some (j, uj)) (st := none) hs rfl (post_val_or_str ⟨Nat.le_trans (Txt.slice_le z _ _) hz, fin⟩)
  | int i ui =>
    cases pu with
    | none => exact wpAny_getItem_str_slice (l := some (i, ui)) (u := none) (st := none) hs rfl (post_val_or_str ⟨Nat.le_trans (Txt.slice_le z _ _) hz, fin⟩)
    | int j uj => exact wpAny_getItem_str_slice (l := some (i, ui)) (u := some (j, uj)) (st := none) hs rfl (post_val_or_str ⟨Nat.le_trans (Txt.slice_le z _ _) hz, fin⟩)
def tJR (sep : Str) (ta : TA) : TE := fun σ H Q => ta σ H fun vs H1 => ∃ x, vs = [.str x] ∧ x.length ≤ 1000 ∧ sep.length ≤ 1000 ∧ Q (.str (Txt.join sep (x.cps.toList.reverse.map fun c => (⟨#[c]⟩ : Str)))) H1
theorem pe_joinrev {e : Expr} {ta : TA} {sep : Str} {j : Nat} {p0 ap p1 p2 cpos : Pos} (hc : X.calm = true) (hg : Gl X "reversed") (hm : X.mg "reversed" = none) (ha : PA X [e] ta)
    (hfew : ((backTo cpos (starEach [.Call (.Name "reversed" p1) [e] [] p2] X.env)).all (fun x => !x.1) && (backToKw cpos (keywordEach [] X.env)).all (fun x => x.1.isSome)
      && decide ([Expr.Call (.Name "reversed" p1) [e] [] p2].length + ([] : List Keyword).length + (if ([] : List Keyword).isEmpty then 0 else 1) < 30)) = true := by rfl)
    (hline : (ap.endLine == cpos.line) = true := by rfl) (hs : starEach [e] X.env = [(false, eval e X.env)] := by rfl) :
    PE X (.Call (.Attribute (.Constant (.str sep) j p0) "join" ap) [.Call (.Name "reversed" p1) [e] [] p2] [] cpos) (tJR sep ta) := by
  intro pins s σ H Q I h
  refine wpAny_Call_method_late rfl hfew hline rfl (thn (pe_str (X := X) pins s σ H (fun v H1 => v = .str sep ∧ H1 = H) I ⟨rfl, rfl⟩) fun v s1 ⟨x, H1, I1, r1, hx⟩ => ?_)
  obtain ⟨rfl, rfl⟩ := hx
  obtain ⟨t0, rfl⟩ := r1
  refine ⟨"str", _, F.plainAttrs_str, F.slot_str_join, F.type_str_join, typeIs_str _ _ _, (fun a z => nomatch z), ?_⟩
  refine Calls.callWith_builtin rfl (Calls.evalArgs_plain ?_)
  show wpAny _ _ (spliced ((false, eval (.Call (.Name "reversed" p1) [e] [] p2) X.env) :: [])) _ _ s1
  refine Calls.spliced_cons ?_
  refine Call_ (ld_blt I1 hg hm boot_reversed (PyProof.Rows.callWith_type1 (thn (ha p2 pins s1 σ H1 _ I1 h) fun us s2 ⟨vs, H2, I2, r2, q2⟩ => ?_) hs rfl))
  obtain ⟨x, rfl, hz, hsp, q⟩ := q2
  obtain ⟨u, rfl, ru⟩ := r2.one
  obtain ⟨t, rfl⟩ := ru
  have hsl : sizeLine = 16777216 := sizeLine_eq
  refine call_reversed_str (by omega) (Calls.spliced_nil ?_)
  have I3 : Inv X pins σ H2 { s2 with heap := s2.heap.push (rvsObj x t ((x.length : Int) - 1)), toks := s2.toks + 1 + 1 } := I2.kept fun b o e => Heap.get?_push_of_some _ e
  have fp := I2.fpOk (b := s2.heap.objs.size) (H' := H2) (Nat.le_refl _) (I2.hok.fresh (Nat.le_refl _))
  obtain ⟨f0, f1, f2, f3, f4, f5⟩ := fp
  refine join_rvs (I3.ok.hd hc) (I := s2.heap.objs.size) (x := x) (t := t) ⟨_, Heap.get?_push_size _ rfl, rfl, rfl⟩ hz hsp fun s' t' k keep eg ed eo => ?_
  obtain ⟨h', g', d', k', o'⟩ := s'
  cases eg
  cases ed
  cases eo
  exact ⟨.str _, H2, I3.turned (t' := k) (fun b o hb e => keep b o hb e) f0 f1 f3 f4 f5, ⟨t', rfl⟩, q⟩
def clsV : V → Value
  | .ty n => .type n
  | .ref a => .ref a
  | _ => .none
def isClsV : V → Bool
  | .ty _ => true
  | .ref _ => true
  | _ => false
theorem clsV_of {c : V} {u : Value} (r : RelV c u) (h : isClsV c = true) : u = clsV c := by
  cases c with
  | ty n => exact r
  | ref a => exact r
  | _ => cases h
def rIsi (K : PySem.W.Frag) : List V → Hp → VK → Prop := fun xs H Q => ∃ x c t b, xs = [x, c] ∧ isClsV c = true ∧ TyOf K H x t ∧ PySem.W.kitOne K t (clsV c) = some b ∧ Q (.bl b) H
theorem call_isinstance : CallR X (.builtin "isinstance") (rIsi X.K) := by
  intro pins s σ H xs us Q I r h
  obtain ⟨x, c, t, b, rfl, hc, ty, e, q⟩ := h
  obtain ⟨u, v, rfl, ru, rv⟩ := r.two
  rw [clsV_of rv hc]
  exact isinst_ok I ru ty e fun tk => ⟨.bl b, H, I.tok tk, rfl, q⟩
inductive Dt where
  | non | bl (b : Bool) | int (i : Int) | str (x : Str) | lst (ds : List Dt) | tup (ds : List Dt)
mutual
def RdD (K : PySem.W.Frag) (H : Hp) : Dt → V → Prop
  | .non, v => v = .non
  | .bl b, v => v = .bl b
  | .int i, v => v = .int i
  | .str x, v => v = .str x
  | .lst ds, v => ∃ a xs, v = .ref a ∧ SqL K H a xs ∧ RdDs K H ds xs
  | .tup ds, v => ∃ a xs, v = .ref a ∧ SqT K H a xs ∧ RdDs K H ds xs
def RdDs (K : PySem.W.Frag) (H : Hp) : List Dt → List V → Prop
  | [], xs => xs = []
  | d :: ds, xs => ∃ x r, xs = x :: r ∧ RdD K H d x ∧ RdDs K H ds r
end
mutual
def Dt.dep : Dt → Nat
  | .lst ds => Dt.deps ds + 1
  | .tup ds => Dt.deps ds + 1
  | _ => 0
def Dt.deps : List Dt → Nat
  | [] => 0
  | d :: ds => max (Dt.dep d) (Dt.deps ds)
end
theorem RdDs.length {K : PySem.W.Frag} {H : Hp} : ∀ {ds : List Dt} {xs : List V}, RdDs K H ds xs → xs.length = ds.length
  | [], _, h => by unfold RdDs at h; rw [h]; rfl
  | d :: ds, xs, h => by
    unfold RdDs at h
    obtain ⟨x, r, rfl, _, h2⟩ := h
    simp [RdDs.length h2]
theorem RdDs.get {K : PySem.W.Frag} {H : Hp} : ∀ {ds : List Dt} {xs : List V} {j : Nat} {x : V}, RdDs K H ds xs → xs[j]? = some x → ∃ d, ds[j]? = some d ∧ RdD K H d x
  | [], _, _, _, h, e => by unfold RdDs at h; rw [h] at e; simp at e
  | d :: ds, xs, j, x, h, e => by
    unfold RdDs at h
    obtain ⟨y, r, rfl, h1, h2⟩ := h
    cases j with
    | zero => simp at e; subst e; exact ⟨d, rfl, h1⟩
    | succ j =>
      obtain ⟨d', e1, e2⟩ := RdDs.get (j := j) h2 (by simpa using e)
      exact ⟨d', by simpa using e1, e2⟩
theorem deps_get : ∀ {ds : List Dt} {j : Nat} {d : Dt}, ds[j]? = some d → d.dep ≤ Dt.deps ds
  | [], _, _, e => by simp at e
  | d' :: ds, 0, d, e => by simp at e; subst e; unfold Dt.deps; omega
  | d' :: ds, j + 1, d, e => by
    have := deps_get (ds := ds) (j := j) (by simpa using e)
    unfold Dt.deps; omega
theorem all_true (n : Nat) : (List.range n).all (fun _ => true) = true := by simp
theorem eqSame {pins : List (Addr × Obj)} {σ : St} {H : Hp} {s : Shared} (I : Inv X pins σ H s) : ∀ (n : Nat) (d : Dt) (A : Around) {v u : V} {vv uu : Value}, d.dep ≤ n → A.units + n < cLine → RdD X.K H d v → RdD X.K H d u → RelV v vv → RelV u uu → SeqAt.EqAt A s vv uu true := by
  intro n
  induction n with
  | zero =>
    intro d A v u vv uu hd hA h1 h2 r1 r2
    cases d with
    | non => unfold RdD at h1 h2; subst h1 h2; have := eqAt_V (A := A) (s := s) r1 r2 rfl rfl; exact this
    | bl b => unfold RdD at h1 h2; subst h1 h2; have := eqAt_V (A := A) (s := s) r1 r2 rfl rfl; simpa [eqV] using this
    | int i => unfold RdD at h1 h2; subst h1 h2; have := eqAt_V (A := A) (s := s) r1 r2 rfl rfl; simpa [eqV] using this
    | str x => unfold RdD at h1 h2; subst h1 h2; have := eqAt_V (A := A) (s := s) r1 r2 rfl rfl; simpa [eqV] using this
    | lst ds => unfold Dt.dep at hd; omega
    | tup ds => unfold Dt.dep at hd; omega
  | succ n ih =>
    intro d A v u vv uu hd hA h1 h2 r1 r2
    cases d with
    | non => unfold RdD at h1 h2; subst h1 h2; have := eqAt_V (A := A) (s := s) r1 r2 rfl rfl; exact this
    | bl b => unfold RdD at h1 h2; subst h1 h2; have := eqAt_V (A := A) (s := s) r1 r2 rfl rfl; simpa [eqV] using this
    | int i => unfold RdD at h1 h2; subst h1 h2; have := eqAt_V (A := A) (s := s) r1 r2 rfl rfl; simpa [eqV] using this
    | str x => unfold RdD at h1 h2; subst h1 h2; have := eqAt_V (A := A) (s := s) r1 r2 rfl rfl; simpa [eqV] using this
    | lst ds =>
      unfold RdD at h1 h2
      obtain ⟨a, xs, rfl, ha, hxs⟩ := h1
      obtain ⟨b, ys, rfl, hb, hys⟩ := h2
      cases r1; cases r2
      by_cases hab : a = b
      · subst hab; exact SeqAt.EqAt.same _
      · unfold Dt.dep at hd
        obtain ⟨its, ra, pa, _⟩ := I.list ha
        obtain ⟨its2, rb, pb, _⟩ := I.list hb
        have l1 := ra.length; have l2 := rb.length; have l3 := hxs.length; have l4 := hys.length
        have hsz : its.toArray.size = its2.toArray.size := by simp; omega
        have q := SeqAt.RcAt.lists (A := A) (s := s) (e := fun _ => true) pa.isList pb.isList hsz (by omega) fun j g1 g2 => by
          have g1' : j < its.length := by simpa using g1
          have g2' : j < its2.length := by simpa using g2
          have x1 : xs[j]? = some xs[j] := List.getElem?_eq_getElem (by omega)
          have y1 : ys[j]? = some ys[j] := List.getElem?_eq_getElem (by omega)
          obtain ⟨d, e1, rd1⟩ := hxs.get x1
          obtain ⟨d', e2, rd2⟩ := hys.get y1
          rw [e1] at e2; cases e2
          obtain ⟨w1, f1, rr1⟩ := ra.get x1
          obtain ⟨w2, f2, rr2⟩ := rb.get y1
          rw [List.getElem?_eq_getElem g1'] at f1
          rw [List.getElem?_eq_getElem g2'] at f2
          cases f1; cases f2
          have hdep := deps_get e1
          simp only [List.getElem_toArray]
          exact ih d A.in1 (by omega) (by show A.units + 1 + n < cLine; omega) rd1 rd2 rr1 rr2
        rw [all_true] at q
        exact SeqAt.EqAt.of_refs hab q
    | tup ds =>
      unfold RdD at h1 h2
      obtain ⟨a, xs, rfl, ha, hxs⟩ := h1
      obtain ⟨b, ys, rfl, hb, hys⟩ := h2
      cases r1; cases r2
      by_cases hab : a = b
      · subst hab; exact SeqAt.EqAt.same _
      · unfold Dt.dep at hd
        obtain ⟨its, ra, pa, _⟩ := I.tuple ha
        obtain ⟨its2, rb, pb, _⟩ := I.tuple hb
        have l1 := ra.length; have l2 := rb.length; have l3 := hxs.length; have l4 := hys.length
        have q := SeqAt.RcAt.tuples (A := A) (s := s) (e := fun _ => true) (show s.heap.IsTuple a its.toArray from pa) (show s.heap.IsTuple b its2.toArray from pb) (by omega) fun j g1 g2 => by
          have g1' : j < its.length := by simpa using g1
          have g2' : j < its2.length := by simpa using g2
          have x1 : xs[j]? = some xs[j] := List.getElem?_eq_getElem (by omega)
          have y1 : ys[j]? = some ys[j] := List.getElem?_eq_getElem (by omega)
          obtain ⟨d, e1, rd1⟩ := hxs.get x1
          obtain ⟨d', e2, rd2⟩ := hys.get y1
          rw [e1] at e2; cases e2
          obtain ⟨w1, f1, rr1⟩ := ra.get x1
          obtain ⟨w2, f2, rr2⟩ := rb.get y1
          rw [List.getElem?_eq_getElem g1'] at f1
          rw [List.getElem?_eq_getElem g2'] at f2
          cases f1; cases f2
          have hdep := deps_get e1
          simp only [List.getElem_toArray]
          exact ih d A.in1 (by omega) (by show A.units + 1 + n < cLine; omega) rd1 rd2 rr1 rr2
        have e0 : ((List.range (min its.toArray.size its2.toArray.size)).all (fun _ => true) && its.toArray.size == its2.toArray.size) = true := by
          rw [all_true, Bool.true_and]; simp; omega
        rw [e0] at q
        exact SeqAt.EqAt.of_refs hab q
def rEqD (K : PySem.W.Frag) (neg : Bool) : R2 := fun x y H Q =>
  (∃ ds, Dt.deps ds ≤ 40 ∧ ((RdD K H (.lst ds) x ∧ RdD K H (.lst ds) y) ∨ (RdD K H (.tup ds) x ∧ RdD K H (.tup ds) y)) ∧ Q (.bl (!neg)) H) ∨
  (∃ a b xs ys, x = .ref a ∧ y = .ref b ∧ SqL K H a xs ∧ SqL K H b ys ∧ xs.length ≠ ys.length ∧ Q (.bl neg) H)
theorem op_neD (hu : X.A.units + 64 < cLine) : OpR X (compareOp .NotEq) (rEqD X.K true) := by
  intro pins s σ H x y v u Q I rx ry h
  rcases h with ⟨ds, hd, h, q⟩ | ⟨a, b, xs, ys, rfl, rfl, ha, hb, hne, q⟩
  · have fin : EP X pins σ Q (.bool false) s := ⟨.bl false, H, I, rfl, q⟩
    have item : ∀ {xs ys : List V} {its its2 : List Value}, RdDs X.K H ds xs → RdDs X.K H ds ys → Vals xs its → Vals ys its2 → ∀ j (h1 : j < its.toArray.size) (h2 : j < its2.toArray.size), SeqAt.EqAt X.A.in1 s its.toArray[j] its2.toArray[j] true := fun {xs ys its its2} hxs hys ra rb j g1 g2 => by
      have l1 := ra.length; have l2 := rb.length; have l3 := hxs.length; have l4 := hys.length
      have g1' : j < its.length := by simpa using g1
      have g2' : j < its2.length := by simpa using g2
      have x1 : xs[j]? = some xs[j] := List.getElem?_eq_getElem (by omega)
      have y1 : ys[j]? = some ys[j] := List.getElem?_eq_getElem (by omega)
      obtain ⟨d, e1, rd1⟩ := hxs.get x1
      obtain ⟨d', e2, rd2⟩ := hys.get y1
      rw [e1] at e2; cases e2
      obtain ⟨w1, f1, rr1⟩ := ra.get x1
      obtain ⟨w2, f2, rr2⟩ := rb.get y1
      rw [List.getElem?_eq_getElem g1'] at f1
      rw [List.getElem?_eq_getElem g2'] at f2
      cases f1; cases f2
      have hdep := deps_get e1
      simp only [List.getElem_toArray]
      exact eqSame I 40 d X.A.in1 (by omega) (by show X.A.units + 1 + 40 < cLine; omega) rd1 rd2 rr1 rr2
    rcases h with ⟨h1, h2⟩ | ⟨h1, h2⟩
    · unfold RdD at h1 h2
      obtain ⟨a, xs, rfl, ha, hxs⟩ := h1
      obtain ⟨b, ys, rfl, hb, hys⟩ := h2
      cases rx; cases ry
      obtain ⟨its, ra, pa, _⟩ := I.list ha
      obtain ⟨its2, rb, pb, _⟩ := I.list hb
      have l1 := ra.length; have l2 := rb.length; have l3 := hxs.length; have l4 := hys.length
      have q := SeqAt.RcNeAt.lists (A := X.A) (s := s) (e := fun _ => true) pa.isList pb.isList (by simp; omega) (by omega) (item hxs hys ra rb)
      rw [all_true] at q
      exact q _ _ _ _ fin
    · unfold RdD at h1 h2
      obtain ⟨a, xs, rfl, ha, hxs⟩ := h1
      obtain ⟨b, ys, rfl, hb, hys⟩ := h2
      cases rx; cases ry
      obtain ⟨its, ra, pa, _⟩ := I.tuple ha
      obtain ⟨its2, rb, pb, _⟩ := I.tuple hb
      have l1 := ra.length; have l2 := rb.length; have l3 := hxs.length; have l4 := hys.length
      have q := SeqAt.RcNeAt.tuples (A := X.A) (s := s) (e := fun _ => true) (show s.heap.IsTuple a its.toArray from pa) (show s.heap.IsTuple b its2.toArray from pb) (by omega) (item hxs hys ra rb)
      have e0 : ((List.range (min its.toArray.size its2.toArray.size)).all (fun _ => true) && its.toArray.size == its2.toArray.size) = true := by
        rw [all_true, Bool.true_and]; simp; omega
      rw [e0] at q
      exact q _ _ _ _ fin
  · cases rx; cases ry
    obtain ⟨its, ra, pa, _⟩ := I.list ha
    obtain ⟨its2, rb, pb, _⟩ := I.list hb
    have l1 := ra.length; have l2 := rb.length
    exact SeqAt.RcNeAt.lists_lengths pa.isList pb.isList (by simp; omega) (by omega) _ _ _ _ ⟨.bl true, H, I, rfl, q⟩
theorem rd_strs {K : PySem.W.Frag} {H : Hp} {ys : List Str} : RdDs K H (ys.map Dt.str) (ys.map V.str) := by
  induction ys with
  | nil => unfold RdDs; rfl
  | cons y ys ih =>
    show RdDs K H (Dt.str y :: ys.map Dt.str) (V.str y :: ys.map V.str)
    unfold RdDs
    exact ⟨_, _, rfl, by unfold RdD; rfl, ih⟩
theorem deps_strs (ys : List Str) : Dt.deps (ys.map Dt.str) = 0 := by
  induction ys with
  | nil => rfl
  | cons y ys ih => show max (Dt.dep (.str y)) (Dt.deps (ys.map Dt.str)) = 0; rw [ih]; rfl
end
end L2
namespace Pic
abbrev Row := List Nat
abbrev Pic := List Row
def rect (p : Pic) (r c : Nat) : Prop := p.length = r ∧ ∀ x ∈ p, x.length = c
def at2 (p : Pic) (i j : Nat) : Nat := (p.getD i []).getD j 0
def mirror (p : Pic) : Pic := p.map List.reverse
def col (p : Pic) (i : Nat) : Row := p.reverse.map fun x => x.getD i 0
def quarter (p : Pic) : Pic := (List.range (p.headD []).length).map (col p)
def quarters : Nat → Pic → Pic
  | 0, p => p
  | n + 1, p => quarters n (quarter p)
def turned (p : Pic) (t : Nat) : Pic := quarters (t % 4) (if 4 ≤ t then mirror p else p)
theorem rect_row {p : Pic} {r c i : Nat} (h : rect p r c) (hi : i < r) : (p.getD i []).length = c := by
  have hl : i < p.length := by rw [h.1]; exact hi
  rw [List.getD_eq_getElem?_getD, List.getElem?_eq_getElem hl]
  exact h.2 _ (List.getElem_mem hl)
theorem rect_head {p : Pic} {r c : Nat} (h : rect p r c) (hr : 0 < r) : (p.headD []).length = c := by
  have := rect_row h hr
  cases p with
  | nil => have := h.1; simp at this; omega
  | cons x p => simpa using this
theorem rect_mirror {p : Pic} {r c : Nat} (h : rect p r c) : rect (mirror p) r c := by
  refine ⟨by simp [mirror, h.1], fun x hx => ?_⟩
  obtain ⟨y, hy, rfl⟩ := List.mem_map.mp hx
  rw [List.length_reverse]; exact h.2 y hy
theorem rect_quarter {p : Pic} {r c : Nat} (h : rect p r c) (hr : 0 < r) : rect (quarter p) c r := by
  refine ⟨by unfold quarter; rw [List.length_map, List.length_range, rect_head h hr], fun x hx => ?_⟩
  obtain ⟨i, _, rfl⟩ := List.mem_map.mp hx
  simp [col, h.1]
theorem at_mirror {p : Pic} {r c i j : Nat} (h : rect p r c) (hi : i < r) (hj : j < c) : at2 (mirror p) i j = at2 p i (c - 1 - j) := by
  have hl : i < p.length := by rw [h.1]; exact hi
  have hc : (p[i]).length = c := h.2 _ (List.getElem_mem hl)
  unfold at2 mirror
  rw [List.getD_eq_getElem?_getD (l := List.map _ _), List.getElem?_map, List.getElem?_eq_getElem hl, List.getD_eq_getElem?_getD (l := p), List.getElem?_eq_getElem hl]
  simp only [Option.map_some, Option.getD_some]
  rw [List.getD_eq_getElem?_getD, List.getElem?_reverse (by rw [hc]; exact hj), hc, List.getD_eq_getElem?_getD]
theorem at_quarter {p : Pic} {r c i j : Nat} (h : rect p r c) (hr : 0 < r) (hi : i < c) (hj : j < r) : at2 (quarter p) i j = at2 p (r - 1 - j) i := by
  unfold at2 quarter
  rw [rect_head h hr, List.getD_eq_getElem?_getD (l := List.map _ _), List.getElem?_map, List.getElem?_range hi]
  simp only [Option.map_some, Option.getD_some]
  unfold col
  rw [List.getD_eq_getElem?_getD, List.getElem?_map, List.getElem?_reverse (by rw [h.1]; exact hj), h.1]
  have hl : r - 1 - j < p.length := by rw [h.1]; omega
  rw [List.getElem?_eq_getElem hl, List.getD_eq_getElem?_getD (l := p), List.getElem?_eq_getElem hl]
  rfl
theorem pic_ext {p q : Pic} {r c : Nat} (hp : rect p r c) (hq : rect q r c) (h : ∀ i j, i < r → j < c → at2 p i j = at2 q i j) : p = q := by
  refine List.ext_getElem (by rw [hp.1, hq.1]) fun i h1 h2 => ?_
  have l1 := hp.2 _ (List.getElem_mem h1)
  have l2 := hq.2 _ (List.getElem_mem h2)
  refine List.ext_getElem (by rw [l1, l2]) fun j g1 g2 => ?_
  have e := h i j (by rw [← hp.1]; exact h1) (by rw [← l1]; exact g1)
  unfold at2 at e
  simpa [List.getD_eq_getElem?_getD, List.getElem?_eq_getElem, h1, h2, g1, g2] using e
theorem mirror2 (p : Pic) : mirror (mirror p) = p := by simp [mirror, List.map_map, Function.comp_def]
theorem quarter4 {p : Pic} {r c : Nat} (h : rect p r c) (hr : 0 < r) (hc : 0 < c) : quarter (quarter (quarter (quarter p))) = p := by
  have h1 := rect_quarter h hr
  have h2 := rect_quarter h1 hc
  have h3 := rect_quarter h2 hr
  have h4 := rect_quarter h3 hc
  refine pic_ext h4 h fun i j hi hj => ?_
  rw [at_quarter h3 hc hi hj, at_quarter h2 hr (by omega) hi, at_quarter h1 hc (by omega) (by omega), at_quarter h hr (by omega) (by omega)]
  congr 1 <;> omega
theorem mirror_quarter {p : Pic} {r c : Nat} (h : rect p r c) (hr : 0 < r) (hc : 0 < c) : mirror (quarter p) = quarter (quarter (quarter (mirror p))) := by
  have m := rect_mirror h
  have h1 := rect_quarter m hr
  have h2 := rect_quarter h1 hc
  have h3 := rect_quarter h2 hr
  have q := rect_quarter h hr
  refine pic_ext (rect_mirror q) h3 fun i j hi hj => ?_
  rw [at_mirror q hi hj, at_quarter h hr hi (by omega), at_quarter h2 hr hi hj, at_quarter h1 hc (by omega) hi, at_quarter m hr (by omega) (by omega), at_mirror h (by omega) (by omega)]
  congr 1 <;> omega
theorem rect_quarters : ∀ (n : Nat) {p : Pic} {r c : Nat}, rect p r c → 0 < r → 0 < c → rect (quarters n p) (if n % 2 = 0 then r else c) (if n % 2 = 0 then c else r)
  | 0, _, _, _, h, _, _ => h
  | n + 1, p, r, c, h, hr, hc => by
    have := rect_quarters n (rect_quarter h hr) hc hr
    show rect (quarters n (quarter p)) _ _
    by_cases e : n % 2 = 0
    · rw [if_pos e, if_pos e] at this
      rw [if_neg (by omega), if_neg (by omega)]; exact this
    · rw [if_neg e, if_neg e] at this
      rw [if_pos (by omega), if_pos (by omega)]; exact this
theorem rect_turned {p : Pic} {r c : Nat} (h : rect p r c) (hr : 0 < r) (hc : 0 < c) (t : Nat) : rect (turned p t) (if t % 2 = 0 then r else c) (if t % 2 = 0 then c else r) := by
  unfold turned
  have e : t % 4 % 2 = t % 2 := by omega
  rw [← e]
  split
  · exact rect_quarters _ (rect_mirror h) hr hc
  · exact rect_quarters _ h hr hc
theorem quarters_add (a b : Nat) (p : Pic) : quarters a (quarters b p) = quarters (b + a) p := by
  induction b generalizing p with
  | zero => rw [Nat.zero_add]; rfl
  | succ b ih => show quarters a (quarters b (quarter p)) = _; rw [ih, Nat.add_right_comm]; rfl
theorem quarters_mod {p : Pic} {r c : Nat} (h : rect p r c) (hr : 0 < r) (hc : 0 < c) (n : Nat) : quarters n p = quarters (n % 4) p := by
  induction n using Nat.strongRecOn generalizing p r c with
  | ind n ih =>
    by_cases hn : n < 4
    · rw [Nat.mod_eq_of_lt hn]
    · obtain ⟨m, rfl⟩ : ∃ m, n = m + 4 := ⟨n - 4, by omega⟩
      have e : quarters (m + 4) p = quarters m (quarter (quarter (quarter (quarter p)))) := rfl
      rw [e, quarter4 h hr hc, ih m (by omega) h hr hc]
      congr 1
      omega
theorem mirror_quarters {p : Pic} {r c : Nat} (h : rect p r c) (hr : 0 < r) (hc : 0 < c) : ∀ n, mirror (quarters n p) = quarters (3 * n) (mirror p) := by
  intro n
  induction n generalizing p r c with
  | zero => rfl
  | succ n ih =>
    show mirror (quarters n (quarter p)) = _
    rw [ih (rect_quarter h hr) hc hr, mirror_quarter h hr hc]
    have e : quarter (quarter (quarter (mirror p))) = quarters 3 (mirror p) := rfl
    rw [e, quarters_add]
    congr 1
    omega
def after (t u : Nat) : Nat := if u < 4 then t / 4 * 4 + (t + u) % 4 else (1 - t / 4) * 4 + (u + 8 - t) % 4
def back (t : Nat) : Nat := if t < 4 then (4 - t) % 4 else t
theorem turned_turned {p : Pic} {r c : Nat} (h : rect p r c) (hr : 0 < r) (hc : 0 < c) {t u : Nat} (ht : t < 8) (hu : u < 8) : turned (turned p t) u = turned p (after t u) := by
  have m := rect_mirror h
  unfold turned after
  by_cases h1 : 4 ≤ t <;> by_cases h2 : 4 ≤ u
  · rw [if_pos h1, if_pos h2, if_neg (by omega), if_neg (by omega)]
    rw [mirror_quarters m hr hc, mirror2, quarters_add, quarters_mod h hr hc]
    congr 1; omega
  · rw [if_pos h1, if_neg h2, if_pos (by omega), if_pos (by omega)]
    rw [quarters_add, quarters_mod m hr hc]
    congr 1; omega
  · rw [if_neg h1, if_pos h2, if_neg (by omega), if_pos (by omega)]
    rw [mirror_quarters h hr hc, quarters_add, quarters_mod m hr hc]
    congr 1; omega
  · rw [if_neg h1, if_neg h2, if_pos (by omega), if_neg (by omega)]
    rw [quarters_add, quarters_mod h hr hc]
    congr 1; omega
theorem after_lt {t u : Nat} (ht : t < 8) (hu : u < 8) : after t u < 8 := by unfold after; split <;> omega
theorem back_lt {t : Nat} (ht : t < 8) : back t < 8 := by unfold back; split <;> omega
theorem after_back {t : Nat} (ht : t < 8) : after t (back t) = 0 := by
  unfold after back
  by_cases h : t < 4
  · rw [if_pos h, if_pos (by omega)]; omega
  · rw [if_neg h, if_neg (by omega)]; omega
end Pic
set_option Elab.async false
set_option linter.all false
set_option maxRecDepth 100000
namespace QL
open PySem L2 Pic
def tx (r : List Nat) : Str := ⟨r.toArray⟩
def rowsV (p : Pic) : List V := p.map fun r => V.str (tx r)
theorem tx_length (r : List Nat) : (tx r).length = r.length := by show r.toArray.size = r.length; simp
theorem tx_list (r : List Nat) : (tx r).cps.toList = r := by show r.toArray.toList = r; simp
theorem rowsV_length (p : Pic) : (rowsV p).length = p.length := by unfold rowsV; simp
theorem rowsV_strs (p : Pic) : rowsV p = (p.map tx).map V.str := by unfold rowsV; rw [List.map_map]; rfl
theorem rowsV_get {p : Pic} {i : Nat} (h : i < p.length) : (rowsV p)[i]? = some (V.str (tx p[i])) := by unfold rowsV; rw [List.getElem?_map, List.getElem?_eq_getElem h]; rfl
theorem rowsV_append (p : Pic) (r : List Nat) : rowsV (p ++ [r]) = rowsV p ++ [V.str (tx r)] := by unfold rowsV; simp
theorem join_nil : ∀ (ys : List (List Nat)), Txt.join (Str.ofString "") (ys.map tx) = tx ys.flatten
  | [] => rfl
  | y :: ys => by
    have key : ∀ (zs : List (List Nat)) (a : List Nat), (zs.map tx).foldl (fun acc (p : Str) => acc ++ (Str.ofString "").cps ++ p.cps) a.toArray = (a ++ zs.flatten).toArray := by
      intro zs
      induction zs with
      | nil => intro a; simp
      | cons z zs ih =>
        intro a
        rw [List.map_cons, List.foldl_cons]
        have e : a.toArray ++ (Str.ofString "").cps ++ (tx z).cps = (a ++ z).toArray := by
          have e0 : (Str.ofString "").cps = #[] := rfl
          rw [e0]
          show a.toArray ++ #[] ++ z.toArray = _
          simp
        rw [e, ih]
        simp
    show (⟨(ys.map tx).foldl (fun acc (p : Str) => acc ++ (Str.ofString "").cps ++ p.cps) (tx y).cps⟩ : Str) = _
    show (⟨(ys.map tx).foldl (fun acc (p : Str) => acc ++ (Str.ofString "").cps ++ p.cps) y.toArray⟩ : Str) = _
    rw [key]
    rfl
theorem join_ones (r : List Nat) : Txt.join (Str.ofString "") (r.map fun c => (⟨#[c]⟩ : Str)) = tx r := by
  have e : (r.map fun c => (⟨#[c]⟩ : Str)) = (r.map fun c => [c]).map tx := by rw [List.map_map]; rfl
  rw [e, join_nil]
  congr 1
  clear e
  induction r with
  | nil => rfl
  | cons c r ih => simp [ih]
def Small (p : Pic) : Prop := p.length ≤ 64 ∧ ∀ r ∈ p, r.length ≤ 64
theorem Small.of {p : Pic} {r c : Nat} (h : rect p r c) (hr : r ≤ 64) (hc : c ≤ 64) : Small p := ⟨by rw [h.1]; exact hr, fun x hx => by rw [h.2 x hx]; exact hc⟩
theorem line_big {n : Nat} (h : n ≤ 1000000) : n < sizeLine := by have := sizeLine_eq; omega
theorem line_le {n : Nat} (h : n ≤ 1000000) : n ≤ sizeLine := by have := sizeLine_eq; omega
theorem same_upd {H : Hp} {l : Addr} {o : HO} (h : H l = none) : Same H (upd H l o) := fun b u e => by rw [upd_ne (ne_of_none e h)]; exact e
theorem same_upd2 {H0 H : Hp} {l : Addr} {o : HO} (s : Same H0 H) (h : H0 l = none) : Same H0 (upd H l o) := fun b u e => by rw [upd_ne (ne_of_none e h)]; exact s b u e
theorem rows_row {p : Pic} {r c i : Nat} (h : rect p r c) (hi : i < r) : ∃ hl : i < p.length, (p[i]).length = c := ⟨by rw [h.1]; exact hi, h.2 _ (List.getElem_mem _)⟩
def GivesPic (H : Hp) (p : Pic) (Q : VK) : Prop := ∀ (l : Addr) (H' : Hp), H l = none → H' l = some (.lst (rowsV p)) → Same H H' → Q (.ref l) H'
theorem atI_in {α : Type} {xs : List α} {i : Int} (h0 : 0 ≤ i) (h1 : i < xs.length) : ∃ v, v ∈ xs ∧ atI xs i = some v := by
  have hb : i.toNat < xs.length := by omega
  obtain ⟨j, hj⟩ : ∃ j : Nat, i = (j : Int) := ⟨i.toNat, by omega⟩
  subst hj
  exact ⟨xs[j]'(by omega), List.getElem_mem _, atI_nat (List.getElem?_eq_getElem (by omega))⟩
def cellAt (ns : List Int) (k : Nat) : Int := ns.getD k 0 / 2147483647 * 2147483647 + (((ns.getD k 0 % 2147483647 + 7919 * (k : Int) + 1) * 48271 % 2147483647) * 69621 + (k : Int)) % 2147483647
end QL
namespace L2
open PySem PySem.Spec PyProof.Rows
section
variable {X : Cx}
theorem call_lenL : CallR X (.builtin "len") (fun xs H Q => ∃ p ys, xs = [.ref p] ∧ SqL X.K H p ys ∧ Q (.int ys.length) H) := fun pins s σ H xs us Q I r ⟨p, ys, e, h, q⟩ => call_len_seq pins s σ H xs us Q I r ⟨p, ys, e, .inl h, q⟩
theorem comp_rev {K : PySem.W.Frag} {g : TG} {ti : TT} {te : TE} {σ : St} {H : Hp} {Q : List V → Hp → Prop} {a : Addr} {xs : List V} (Pv : Nat → List V → St → Hp → Prop) (h0 : Pv 0 [] σ H) (hz : ∀ i acc σ H, Pv i acc σ H → acc.length < sizeLine) (hi : ∀ i acc σ H, Pv i acc σ H → i ≤ xs.length)
    (hl : ∀ i acc σ H, Pv i acc σ H → SqL K H a xs)
    (hs : ∀ i x acc σ H, xs.reverse[i]? = some x → Pv i acc σ H → g x σ H fun σ2 H3 => ti σ2 H3 fun b H4 => if b = true then te σ2 H4 fun v H5 => Pv (i + 1) (acc ++ [v]) σ2 H5 else Pv (i + 1) acc σ2 H4)
    (he : ∀ acc σ H, Pv xs.length acc σ H → Q acc H) : CompW (Itv K a xs.length) g ti te σ H Q := by
  have rv : ∀ {i : Nat} {x : V}, i < xs.length → xs[xs.length - 1 - i]? = some x → xs.reverse[i]? = some x := fun {i x} hi e => by rw [List.getElem?_reverse hi]; exact e
  exact comp_by (J := Itv K a xs.length) (g := g) (ti := ti) (te := te) (Q := Q) (n := xs.length) Pv h0 hz hi (fun acc σ H w => rfl)
    (fun i acc σ H hlt w => ⟨xs, xs[xs.length - 1 - i]'(by omega), hl _ _ _ _ w, hlt, List.getElem?_eq_getElem (by omega)⟩) (fun i x acc σ H H2 hlt w y => by obtain ⟨rfl, hx⟩ := y; exact hs i x acc σ H2 (rv hlt (hx xs (hl _ _ _ _ w))) w) he
theorem scal_ii (i j : Int) : (scal (.int i) (.int j) = true) = True := by simp [scal]
theorem scal_ss (i j : Str) : (scal (.str i) (.str j) = true) = True := by simp [scal]
theorem scal_bb (i j : Bool) : (scal (.bl i) (.bl j) = true) = True := by simp [scal]
theorem pt_tb {a : Expr} {ta : TE} (ha : PE X a ta) (he : ∀ whole, isTrue a X.env whole = (do let v ← whole; standAt a.pos; holding [v] (truthy v))) : PT X a (tTest ta) := by
  intro pins s σ H Q I h
  rw [he]
  refine wpAny_bind (thn (ha pins s σ H _ I h) fun v s1 ⟨x, H1, I1, r1, k, e, q⟩ => ?_)
  subst e
  cases r1
  exact wpAny_bind (wpAny_standAt (wpAny_holding (wpAny_truthy_bool ⟨H1, I1, q⟩)))
def ForW (J : It) (g : TG) (tb : TS) (D : Ends) (σ : St) (H : Hp) : Prop := ∃ W : Nat → Nat → St → Hp → Prop, (∃ m, W 0 m σ H) ∧ ∀ i m σ H, W i m σ H →
  (J.stop i H ∧ D.nx σ H) ∨ (J.go i H ∧ ∃ N : St → Hp → Prop, (∀ σ' H', N σ' H' → ∃ m', m' < m ∧ W (i + 1) m' σ' H') ∧ ∀ x H', J.yld i H x H' → g x σ H' fun σ2 H2 => tb { D with nx := N, ct := N, bk := D.nx } σ2 H2)
def tForw (wi : TI) (g : TG) (tb : TS) : TS := fun D σ H => wi σ H fun J H1 => ForW J g tb D σ H1
theorem ps_forw {tg iter : Expr} {body : List Stmt} {wi : TI} {g : TG} {tb : TS} {pos : Pos} (hp : PassesOwn (model X.prog X.w) X.A X.env X.xe) (hc : X.calm = true) (hi : PI X tg iter wi) (hg : PG X tg g) (hb : PSs X body tb)
    (hs : ∀ x, foldedSetIterable iter X.env x = pure x := by intro _; rfl) : PS X (.For tg iter body [] pos) (tForw wi g tb) := ps_for hp hc hi hg hb hs
section
variable {K : PySem.W.Frag} {g : TG} {tb : TS} {D : Ends} {σ : St} {H : Hp}
theorem forw_list {a : Addr} {xs : List V} (Pv : Nat → St → Hp → Prop) (h0 : Pv 0 σ H) (hl : ∀ i σ H, i ≤ xs.length → Pv i σ H → SqL K H a xs)
    (hs : ∀ i x σ H, xs[i]? = some x → Pv i σ H → g x σ H fun σ2 H2 => tb { D with nx := Pv (i + 1), ct := Pv (i + 1), bk := D.nx } σ2 H2) (hd : ∀ σ H, Pv xs.length σ H → D.nx σ H) : ForW (Itl K a) g tb D σ H := for_list Pv h0 hl hs hd
theorem forw_range {lo : Int} {n : Nat} (Pv : Nat → St → Hp → Prop) (h0 : Pv 0 σ H)
    (hs : ∀ i σ H, i < n → Pv i σ H → g (.int (lo + i)) σ H fun σ2 H2 => tb { D with nx := Pv (i + 1), ct := Pv (i + 1), bk := D.nx } σ2 H2) (hd : ∀ σ H, Pv n σ H → D.nx σ H) : ForW (Itr lo n) g tb D σ H := for_range Pv h0 hs hd
end
end
theorem bt_len : bootBuiltins "len" = some (.builtin "len") := by decide +kernel
theorem bt_list : bootBuiltins "list" = some (.type "list") := by decide +kernel
theorem bt_str : bootBuiltins "str" = some (.type "str") := by decide +kernel
theorem bt_isinstance : bootBuiltins "isinstance" = some (.builtin "isinstance") := by decide +kernel
theorem bt_all : bootBuiltins "all" = some (.builtin "all") := by decide +kernel
end L2
set_option Elab.async false
set_option linter.all false
set_option maxRecDepth 100000
namespace PtM
open PySem PySem.Builtin.Str PySem.StrLaws
end PtM
set_option Elab.async false
set_option linter.all false
set_option maxRecDepth 100000
namespace L2
open PySem PySem.Spec PyProof.Rows
section
variable {X : Cx} {a b c d : Expr} {ta tb tc td : TE} {pos : Pos}
def rAll (K : PySem.W.Frag) : List V → Hp → VK → Prop := fun xs H Q => ∃ (p : Addr) (bs : List Bool), xs = [.ref p] ∧ SqL K H p (bs.map V.bl) ∧ Q (.bl (bs.all id)) H
theorem vals_bl : ∀ {bs : List Bool} {us : List Value} {i : Nat} {u : Value}, Vals (bs.map V.bl) us → us[i]? = some u → ∃ k, bs[i]? = some k ∧ u = .bool k
  | [], _, _, _, .nil, e => by simp at e
  | k :: bs, _, 0, u, .cons r _, e => by simp at e; subst e; exact ⟨k, rfl, r⟩
  | k :: bs, _, i + 1, u, .cons _ t, e => by
    obtain ⟨k', h1, h2⟩ := vals_bl (i := i) t (by simpa using e)
    exact ⟨k', by simpa using h1, h2⟩
theorem all_range (bs : List Bool) : ((List.range bs.length).all fun i => (bs[i]?).getD true) = bs.all id := by
  rw [Bool.eq_iff_iff, List.all_eq_true, List.all_eq_true]
  constructor
  · intro h x hx
    obtain ⟨i, hi, e⟩ := List.getElem_of_mem hx
    have q := h i (List.mem_range.mpr hi)
    rw [List.getElem?_eq_getElem hi, Option.getD_some, e] at q
    exact q
  · intro h i hi
    have hi' := List.mem_range.mp hi
    rw [List.getElem?_eq_getElem hi', Option.getD_some]
    exact h _ (List.getElem_mem hi')
theorem call_all (hc : X.calm = true) : CallR X (.builtin "all") (rAll X.K) := by
  intro pins s σ H xs us Q I r h
  obtain ⟨p, bs, rfl, hs, q⟩ := h
  obtain ⟨u, rfl, ru⟩ := r.one
  cases ru
  obtain ⟨its, rv, pl, _⟩ := I.list hs
  have hlt : p < s.heap.objs.size := by obtain ⟨_, e, _⟩ := pl.isList; exact Heap.lt_size e
  have hlen : its.length = bs.length := by rw [← rv.length, List.length_map]
  refine call_all_walk (wpAny_pyIter_list pl.isList ?_)
  refine ⟨s.heap.objs.size, [s.heap.objs.size, p], [s.heap.objs.size], its.toArray.size, _, _, fun i => (bs[i]?).getD true, rfl, Walks.list (A := X.A.in1) (I.ok.hd hc) _ p (Nat.ne_of_lt hlt) its.toArray,
    ⟨⟨_, Heap.get?_push_size _ rfl, rfl, rfl⟩, pl.isList.push _⟩, fun i v s' Q' E' hP hQ => ?_, fun h' tk hk => ?_⟩
  · obtain ⟨k, e, rfl⟩ := vals_bl (i := i) rv (by simpa using hP)
    dsimp only at hQ
    rw [e, Option.getD_some] at hQ
    exact wpAny_truthy_bool hQ
  · have e : ((List.range its.toArray.size).all fun i => (bs[i]?).getD true) = bs.all id := by rw [List.size_toArray, hlen]; exact all_range bs
    rw [e]
    exact ⟨.bl _, H, I.kept (t' := tk) fun b o eo => hk b o (fun hm => by rw [List.mem_singleton.mp hm] at eo; exact Nat.lt_irrefl _ (Heap.lt_size eo)) (Heap.get?_push_of_some _ eo), rfl, q⟩
def tChain3 (r r' r'' : R2) (ta tb tc td : TE) : TE := fun σ H Q => ta σ H fun x H1 => tb σ H1 fun y H2 => r x y H2 fun z H3 => ∃ k, z = .bl k ∧
  (if k = true then tc σ H3 fun u H4 => r' y u H4 fun z' H5 => ∃ k', z' = .bl k' ∧ (if k' = true then td σ H5 fun v H6 => r'' u v H6 Q else Q (.bl false) H5) else Q (.bl false) H3)
end
section
variable {K : PySem.W.Frag} {g : TG} {ti : TT} {te : TE} {σ : St} {H : Hp} {Q : List V → Hp → Prop}
end
end L2
set_option Elab.async false
set_option linter.all false
set_option maxRecDepth 100000
namespace QL
open PySem L2 Pic PySem.Builtin PySem.Builtin.Str
theorem slice_pick (row : List Nat) (i k : Nat) (h : i + k ≤ row.length) : ((List.range k).map fun m => i + m).filterMap (fun j => row[j]?) = (row.drop i).take k := by
  rw [List.filterMap_map]
  induction k with
  | zero => simp
  | succ k ih =>
    rw [List.range_succ, List.filterMap_append, ih (by omega), List.take_add_one, List.getElem?_drop]
    have e : i + k < row.length := by omega
    simp [List.getElem?_eq_getElem e]
def clipI (n : Nat) (d : Int) : Option Int → Int
  | none => d
  | some i => max 0 (min (if i < 0 then i + (n : Int) else i) (n : Int))
theorem clipI_eq (n d : Nat) (v : Option Int) : clipI n (d : Int) v = ((HT.sIx n d v : Nat) : Int) := by
  cases v with
  | none => rfl
  | some v =>
    show max 0 (min (if v < 0 then v + (n : Int) else v) (n : Int)) = (((if v < 0 then (v + (n : Int)).toNat else min v.toNat n : Nat)) : Int)
    by_cases hv : v < 0
    · rw [if_pos hv, if_pos hv, Int.max_def, Int.min_def]
      split <;> split at * <;> omega
    · rw [if_neg hv, if_neg hv, Int.max_def, Int.min_def]
      split <;> split at * <;> omega
theorem indices_eq (lo hi : Option Int) (n : Nat) : strSliceIndices lo hi 1 n = sliceRange (clipI n ((0 : Nat) : Int) lo) (clipI n (n : Int) hi) 1 := by cases lo <;> cases hi <;> rfl
theorem slice_any (row : List Nat) (lo hi : Option Int) : Txt.slice (tx row) lo hi = tx ((row.drop (HT.sIx row.length 0 lo)).take (HT.sIx row.length row.length hi - HT.sIx row.length 0 lo)) := by
  have hl := HT.sIx_le row.length 0 (Nat.zero_le _) lo
  have hh := HT.sIx_le row.length row.length (Nat.le_refl _) hi
  have key : strSliceIndices lo hi 1 (tx row).length = (List.range (HT.sIx row.length row.length hi - HT.sIx row.length 0 lo)).map fun m => HT.sIx row.length 0 lo + m := by
    rw [tx_length, indices_eq, clipI_eq, clipI_eq]
    generalize HT.sIx row.length 0 lo = a
    generalize HT.sIx row.length row.length hi = b
    unfold sliceRange
    have en : (if (1 : Int) > 0 then (if (a : Int) < (b : Int) then ((b : Int) - (a : Int) + 1 - 1) / 1 else 0) else (if (a : Int) > (b : Int) then ((a : Int) - (b : Int) - 1 - 1) / (-1) else 0)).toNat = b - a := by
      rw [if_pos (by decide)]
      split <;> omega
    show (List.range (if (1 : Int) > 0 then (if (a : Int) < (b : Int) then ((b : Int) - (a : Int) + 1 - 1) / 1 else 0) else (if (a : Int) > (b : Int) then ((a : Int) - (b : Int) - 1 - 1) / (-1) else 0)).toNat).map (fun (k : Nat) => ((a : Int) + 1 * (k : Int)).toNat) = _
    rw [en]
    refine List.map_congr_left fun m _ => ?_
    omega
  unfold Txt.slice
  rw [key]
  generalize HT.sIx row.length 0 lo = a at hl ⊢
  generalize HT.sIx row.length row.length hi = b at hh ⊢
  by_cases hab : a + (b - a) ≤ row.length
  · have e : (((List.range (b - a)).map fun m => a + m).filterMap fun j => (tx row).cps[j]?) = (row.drop a).take (b - a) := by
      rw [← slice_pick row a (b - a) hab]
      congr 1
      funext j
      show row.toArray[j]? = row[j]?
      simp
    rw [e]
    split
    · rename_i hw
      simp at hw
      rw [tx_length] at hw
      have ha0 : a = 0 := by omega
      have hb0 : b - a = row.length := by omega
      rw [ha0, List.drop_zero]
      rw [ha0] at hb0
      rw [hb0, List.take_length]
    · rfl
  · exact absurd hab (by omega)
end QL
namespace L2
open PySem PySem.Spec PyProof.Rows
section
variable {X : Cx} {K : PySem.W.Frag} {tg : Expr}
theorem mt_joinK (hK : X.K = K) : MtR X "str.join" (rJoin K) := hK ▸ mt_join
end
end L2
set_option Elab.async false
set_option linter.all false
set_option maxRecDepth 100000
namespace PySem
open Sem (wp)
def TrD (h base : Heap) (e : Addr) (cls : Value) (od : Option Addr) (fl : Value) : Prop :=
  ∃ oe vs T oT ts, h.get? e = some oe ∧ oe.cls = cls ∧ oe.dict = od ∧ oe.data = .fields vs ∧ vs[1]? = some (.ref T) ∧ base.get? T = none ∧ T ≠ e ∧ h.get? T = some oT ∧ oT.data = .fields ts ∧ ts[3]? = some fl
structure FlyD (base : Heap) (l : List Env) (e : Addr) (cls : Value) (od : Option Addr) (fl : Value) (h : Heap) : Prop where
  st : base.StaysIn h
  new : base.get? e = none
  ff : h.FunFrames base l
  tr : TrD h base e cls od fl
theorem FlyD.there {base h : Heap} {l : List Env} {e : Addr} {cls fl : Value} {od : Option Addr} (x : FlyD base l e cls od fl h) : ∃ oe vs, h.get? e = some oe ∧ oe.cls = cls ∧ oe.dict = od ∧ oe.data = .fields vs := by
  obtain ⟨oe, vs, _, _, _, a, b, c, d, _⟩ := x.tr
  exact ⟨oe, vs, a, b, c, d⟩
theorem dict_mapFields (o : Obj) (f : Array Value → Array Value) : (Obj.mapFields f o).dict = o.dict := by unfold Obj.mapFields; split <;> rfl
section
variable {M : Model} {A : Around} {E : Value → Shared → Prop} {s : Shared} {base : Heap} {env : Env} {outer : List Env} {L e : Addr} {Q : Unit → Shared → Prop}
theorem flightD {cls fl : Value} {od : Option Addr} {l : List Env} (x : FlyD base l e cls od fl s.heap) (h : ∀ h', FlyD base l e cls od .none h' → s.heap.UpToSlots h' → Q () { s with heap := h' }) : wpAny M A (setFlight (.ref e) none) Q E s := by
  obtain ⟨oe, vs, T, oT, ts, he, hc, ho, hd, h1, hnT, hTe, hT, hdT, h3⟩ := x.tr
  have hsz : 3 < ts.size := (Array.getElem?_eq_some_iff.mp h3).1
  have oth : ∀ b, b ≠ T → (s.heap.update T (Obj.mapFields (·.setIfInBounds 3 Value.none))).get? b = s.heap.get? b := fun b hb => Heap.get?_update_other _ _ (Ne.symm hb)
  have nrec : ∀ b o, s.heap.get? b = some o → (∀ vs, o.data ≠ .fields vs) → b ≠ T := fun b o hb hnf q => by rw [q, hT] at hb; injection hb with hb; subst hb; exact hnf ts hdT
  unfold setFlight
  refine wpAny_bind (wpAny_field he hd h1 ?_)
  rw [if_pos (show (Value.ref T != Value.none) = true from by simp)]
  refine wpAny_setField hT hdT hsz (h _ ⟨fun b o hb => (oth b fun q => by rw [q, hnT] at hb; cases hb).trans (x.st b o hb), x.new, x.ff.of_keeps fun b o hb hnf => ⟨o, (oth b (nrec b o hb hnf)).trans hb, rfl⟩, ?_⟩ fun b o hb hnf => ⟨o.slots, (oth b (nrec b o hb hnf)).trans hb⟩)
  exact ⟨oe, vs, T, _, _, (oth e (Ne.symm hTe)).trans he, hc, ho, hd, h1, hnT, hTe, Heap.get?_update_self _ hT (Obj.isFreed_of_fields (Obj.data_mapFields hdT _)), Obj.data_mapFields hdT _, by simp [hsz]⟩
theorem entryD {oe : Obj} {vs : Array Value} {head : Value} {hadNext : Bool} (hfr : A.frames = some (env :: outer)) (hl : s.heap.FunFrames base (env :: outer)) (hf : env.frame = some L)
    (he : s.heap.get? e = some oe) (hkb : base.StaysIn s.heap) (hen : base.get? e = none) (hd : oe.data = .fields vs) (hsz : 1 < vs.size)
    (h : ∀ h', FlyD base (env :: outer) e oe.cls oe.dict (rawInt L) h' → s.heap.UpToSlots h' → Q () { s with heap := h' }) :
    wpAny M A (do let a ← frameOf env; let pl ← entryPlaceOf L hadNext; let b ← EntryCells.newEntry head a .none (rawInt L) .none pl; setField (.ref e) 1 b) Q E s := by
  have hene : e ∉ (env :: outer).filterMap (·.frame) := fun hm => by
    obtain ⟨_, o, ho, hnf⟩ := hl.mem hm
    rw [he] at ho; injection ho with ho; subst ho; exact hnf vs hd
  refine wpAny_bind (wpAny_frameOf_fun hfr hl hf fun h₁ hs₁ => ?_)
  refine wpAny_bind (wpAny_entryPlaceOf fun pl hpl => ?_)
  unfold EntryCells.newEntry newFields
  refine wpAny_bind (wpAny_newObj_type ?_ (hpl.sizeOk5 _ _ _ _ _))
  have he₁ : h₁.get? e = some oe := (hs₁.2.1 e hene).trans he
  have kb₁ : base.StaysIn h₁ := fun b o hb => (hs₁.2.1 b fun hm => by rw [(hl.mem hm).1] at hb; cases hb).trans (hkb b o hb)
  generalize hT0 : ({ cls := .type "traceback", dict := none, data := .fields ([head, .ref L, .none, rawInt L, .none] ++ (if pl.isEmpty then List.replicate 6 Value.none else pl)).toArray } : Obj) = To
  have dTo : To.data = .fields ([head, .ref L, .none, rawInt L, .none] ++ (if pl.isEmpty then List.replicate 6 Value.none else pl)).toArray := by rw [← hT0]
  have he₂ := Heap.get?_push_of_some (h := h₁) To he₁
  have hTe : h₁.objs.size ≠ e := Nat.ne_of_gt (Heap.lt_size he₁)
  have keep : ∀ b o, b ≠ e → h₁.get? b = some o → ((h₁.push To).update e (Obj.mapFields (·.setIfInBounds 1 (Value.ref h₁.objs.size)))).get? b = some o := fun b o hbe hb => by
    rw [Heap.get?_update_other _ _ (Ne.symm hbe)]
    exact Heap.get?_push_of_some _ hb
  have nrec : ∀ b o, s.heap.get? b = some o → (∀ vs, o.data ≠ .fields vs) → b ≠ e := fun b o hb hnf q => by
    rw [q, he] at hb
    injection hb with hb
    subst hb
    exact hnf vs hd
  refine wpAny_setField he₂ hd hsz (h _ ?_ ?_)
  · have hd₃ := Obj.data_mapFields hd (·.setIfInBounds 1 (Value.ref h₁.objs.size))
    refine ⟨fun b o hb => keep b o (fun q => by rw [q, hen] at hb; cases hb) (kb₁ b o hb), hen, hl.of_keeps fun b o hb hnf => ?_, ?_⟩
    · obtain ⟨sl, hs⟩ := hs₁.2.2 b o hb
      exact ⟨_, keep b _ (nrec b o hb hnf) hs, rfl⟩
    · refine ⟨_, _, h₁.objs.size, To, _, Heap.get?_update_self _ he₂ (Obj.isFreed_of_fields hd₃), Obj.cls_mapFields _ _, dict_mapFields _ _, hd₃, by simp [hsz], kb₁.fresh, hTe, ?_, dTo, ?_⟩
      · rw [Heap.get?_update_other _ _ (Ne.symm hTe)]
        refine Heap.get?_push_size _ ?_
        rw [← hT0]; rfl
      · first | (simp; done) | (rcases hpl with rfl | ⟨_, _, _, _, _, _, _, rfl⟩ <;> simp)
  · intro b o hb hnf
    obtain ⟨sl, hs⟩ := hs₁.2.2 b o hb
    exact ⟨sl, keep b _ (nrec b o hb hnf) hs⟩
theorem noteD {cls : Value} {od : Option Addr} (hfr : A.frames = some (env :: outer)) (hf : env.frame = some L) (x : FlyD base (env :: outer) e cls od .none s.heap)
    (h : ∀ h', FlyD base (env :: outer) e cls od (rawInt L) h' → s.heap.UpToSlots h' → Q () { s with heap := h' }) : wpAny M A (noteFrame (.ref e) env) Q E s := by
  obtain ⟨oe, vs, T, oT, ts, he, hc, ho, hd, h1, hnT, hTe, hT, hdT, h3⟩ := x.tr
  subst hc ho
  unfold noteFrame
  simp only [hf]
  refine wpAny_bind (wpAny_field he hd h1 ?_)
  rw [if_pos (show (Value.ref T != Value.none) = true from by simp)]
  refine wpAny_bind (wpAny_field hT hdT h3 ?_)
  rw [if_neg (show ¬ ((Value.none == rawInt L) = true) from by simp [rawInt])]
  refine wpAny_bind (wpAny_setField hT hdT (Array.getElem?_eq_some_iff.mp h3).1 ?_)
  have oth : ∀ b, b ≠ T → (s.heap.update T (Obj.mapFields (·.setIfInBounds 3 Value.none))).get? b = s.heap.get? b := fun b hb => Heap.get?_update_other _ _ (Ne.symm hb)
  have nrec : ∀ b o, s.heap.get? b = some o → (∀ vs, o.data ≠ .fields vs) → b ≠ T := fun b o hb hnf q => by rw [q, hT] at hb; injection hb with hb; subst hb; exact hnf ts hdT
  refine entryD hfr (x.ff.of_keeps fun b o hb hnf => ⟨o, (oth b (nrec b o hb hnf)).trans hb, rfl⟩) hf ((oth e (Ne.symm hTe)).trans he) (fun b o hb => (oth b fun q => by rw [q, hnT] at hb; cases hb).trans (x.st b o hb)) x.new hd (Array.getElem?_eq_some_iff.mp h1).1 fun h' y up => h h' y fun b o hb hnf => up b o ((oth b (nrec b o hb hnf)).trans hb) hnf
theorem noteD0 {oe : Obj} {vs : Array Value} (hfr : A.frames = some (env :: outer)) (hl : s.heap.FunFrames base (env :: outer)) (hf : env.frame = some L) (he : s.heap.get? e = some oe) (hkb : base.StaysIn s.heap) (hen : base.get? e = none) (hd : oe.data = .fields vs) (h1 : vs[1]? = some .none)
    (h : ∀ h', FlyD base (env :: outer) e oe.cls oe.dict (rawInt L) h' → s.heap.UpToSlots h' → Q () { s with heap := h' }) : wpAny M A (noteFrame (.ref e) env) Q E s := by
  unfold noteFrame
  simp only [hf]
  refine wpAny_bind (wpAny_field he hd h1 ?_)
  rw [if_neg (by decide)]
  exact entryD hfr hl hf he hkb hen hd (Array.getElem?_eq_some_iff.mp h1).1 h
theorem FlyD.drop {cls fl : Value} {od : Option Addr} {h : Heap} (x : FlyD base (env :: outer) e cls od fl h) : FlyD base outer e cls od fl h := ⟨x.st, x.new, x.ff.2.2, x.tr⟩
theorem leaveD {cls : Value} {od : Option Addr} (hfr : A.frames = some (env :: outer)) (hf : env.frame = some L) (x : FlyD base (env :: outer) e cls od .none s.heap)
    (h : ∀ h', FlyD base outer e cls od .none h' → s.heap.UpToSlots h' → Q () { s with heap := h' }) : wpAny M A (leaving env (.ref e)) Q E s := by
  unfold leaving
  exact wpAny_bind (noteD hfr hf x fun h1 y1 u1 => flightD y1 fun h2 y2 u2 => h h2 y2.drop (u1.trans u2))
theorem leaveD0 {oe : Obj} {vs : Array Value} (hfr : A.frames = some (env :: outer)) (hl : s.heap.FunFrames base (env :: outer)) (hf : env.frame = some L) (he : s.heap.get? e = some oe) (hkb : base.StaysIn s.heap) (hen : base.get? e = none) (hd : oe.data = .fields vs) (h1 : vs[1]? = some .none)
    (h : ∀ h', FlyD base outer e oe.cls oe.dict .none h' → s.heap.UpToSlots h' → Q () { s with heap := h' }) : wpAny M A (leaving env (.ref e)) Q E s := by
  unfold leaving
  exact wpAny_bind (noteD0 hfr hl hf he hkb hen hd h1 fun h1 y1 u1 => flightD y1 fun h2 y2 u2 => h h2 y2.drop (u1.trans u2))
end
end PySem
set_option Elab.async false
set_option linter.all false
set_option maxRecDepth 100000
namespace L2
open PySem PySem.Spec PyProof.Rows
structure Fly0 (P : Program) (w : World) (outer : List Env) (H : Hp) (s : Shared) (B : Heap) (H' : Hp) (s' : Shared) : Prop where
  st : B.StaysIn s'.heap
  ff : s'.heap.FunFrames B outer
  un : Un (frs outer) [] H H' s.heap s'.heap
  hok : HOk P w H' s'.heap
  cov : ∀ b o, H' b = some o → ∃ ob, B.get? b = some ob
  old : ∀ b o, s.heap.get? b = some o → b ∉ frs outer → ∃ o', B.get? b = some o'
  os : s'.os = s.os
  bare : AllBare s'.gens
structure Fly (P : Program) (w : World) (outer : List Env) (H : Hp) (s : Shared) (B : Heap) (H' : Hp) (s' : Shared) (ea : Addr) (cls : Value) (od : Option Addr) : Prop extends Fly0 P w outer H s B H' s' where
  fl : FlyD B outer ea cls od .none s'.heap
def CX1 (P : Program) (w : World) : CXT := fun outer H s E e s' => ∃ ea cls od B H', e = .ref ea ∧ Fly P w outer H s B H' s' ea cls od ∧ H' ea = none ∧ E cls od H'
theorem passes_E0 {P : Program} {w : World} {X : Cx} : Passes (CX1 P w) X (fun _ _ _ => False) := fun _ _ _ _ _ _ _ h => by
  obtain ⟨_, _, _, _, _, _, _, _, f⟩ := h
  exact f.elim
theorem hok_stays {P : Program} {w : World} {H : Hp} {B h h' : Heap} (ok : HOk P w H h) (cov : ∀ b o, H b = some o → ∃ ob, B.get? b = some ob) (k : B.StaysIn h) (k' : B.StaysIn h') : HOk P w H h' := fun a o e =>
  (ok a o e).stay (fun b u hb q => by
    have hb' : ∃ ob, B.get? b = some ob := by
      rcases hb with rfl | hb
      · exact cov _ _ e
      · exact cov _ _ hb
    obtain ⟨ob, hB⟩ := hb'
    have := k b ob hB
    rw [q] at this
    cases this
    exact k' b _ hB) (fun _ q => q) fun _ _ q => q
theorem ObjOk.there {P : Program} {w : World} {H : Hp} {h : Heap} {a : Addr} {o : HO} (x : ObjOk P w H h a o) : ∃ ob, h.get? a = some ob := by
  cases o with
  | lst xs => obtain ⟨_, _, _, _, e⟩ := x; exact ⟨_, e⟩
  | tup xs => obtain ⟨_, _, _, ob, e, _⟩ := x; exact ⟨_, e⟩
  | dK kvs => obtain ⟨_, _, _, _, o, _, _, e, _⟩ := x; exact ⟨_, e⟩
  | dT kvs => obtain ⟨_, _, _, _, o, _, _, e, _⟩ := x; exact ⟨_, e⟩
  | set S n => obtain ⟨o, _, _, _, e, _⟩ := x; exact ⟨_, e⟩
  | ins C dx fs => obtain ⟨_, _, _, e, _⟩ := x; exact ⟨_, e⟩
  | own y => exact x
  | xd fs => obtain ⟨_, ⟨_, _, _, e, _⟩, _⟩ := x; exact ⟨_, e⟩
  | rng lo hi => obtain ⟨_, _, _, e⟩ := x; exact ⟨_, e⟩
  | frz ob u => obtain ⟨e, _⟩ := x; exact ⟨_, e⟩
  | tbl ps => exact ⟨_, show h.get? a = some _ from x⟩
  | met f y => exact ⟨_, show h.get? a = some _ from x⟩
  | ext φ => obtain ⟨_, e, _⟩ := x; exact e
section
variable {P : Program} {w : World} {K : PySem.W.Frag} {mg : Str → Option Value} {base : Heap} {N : List Str} {qual : Str} {scope : Scope} {f : Addr} {cd : Value} {A : Around} {outer : List Env} {s : Shared} {H : Hp} {E E1 : XK} {CX : CXT}
theorem Fly0.up {X : Cx} {pins : List (Addr × Obj)} {σ : St} {H1 H' : Hp} {s1 s' : Shared} {B h' : Heap} {ea : Addr} {cls : Value} {od : Option Addr} (I : Inv X pins σ H1 s1) (hex : X.ex = []) (hst : X.stack = X.env :: X.outer) (hfr : X.env.frame = some X.env.locals) (hP : X.prog = P) (hw : X.w = w)
    (x : Fly0 P w X.stack H1 s1 B H' s') (fl2 : FlyD B X.outer ea cls od .none h') (up : s'.heap.UpToSlots h') :
    Fly P w X.outer X.H₀ X.s₀ B H' { s' with heap := h' } ea cls od := by
  have nex : ∀ b, b ∉ X.ex := fun b => by rw [hex]; simp
  have nfr : ∀ b o, X.s₀.heap.get? b = some o → b ∉ X.fs → b ∉ frs X.stack := fun b o e hb hm => by
    rw [hst] at hm
    unfold frs at hm
    rw [List.filterMap_cons, hfr] at hm
    rcases List.mem_cons.mp hm with z | z
    · exact absurd (Heap.lt_size e) (by rw [z]; exact Nat.not_lt.mpr I.ok.above)
    · exact hb z
  have sub : ∀ b, b ∈ X.fs → b ∈ frs X.stack := fun b hb => by
    rw [hst]
    unfold frs
    rw [List.filterMap_cons, hfr]
    exact List.mem_cons_of_mem _ hb
  have kB : ∀ b o, X.s₀.heap.get? b = some o → b ∉ X.fs → ∃ o', B.get? b = some o' := fun b o e hb => by
    obtain ⟨o1, e1⟩ := I.base.there b o e (nex b)
    exact x.old b o1 e1 (nfr b o e hb)
  have fr0 : ∀ b ∈ X.fs, X.H₀ b = none := I.ok.frf
  have sl : ∀ b o, X.s₀.heap.get? b = some o → X.H₀ b = none → b ∈ X.fs → ∃ sl, h'.get? b = some { o with slots := sl } := fun b o e hn hb => by
    obtain ⟨sl1, e1⟩ := I.base.slot b o e hn hb (nex b)
    have n1 := I.base.free b o e hn (nex b)
    obtain ⟨sl2, e2⟩ := x.un.slot b _ e1 n1 (sub b hb) (by simp)
    obtain ⟨_, o3, e3, nf⟩ := x.ff.mem (sub b hb)
    rw [e2] at e3
    cases e3
    obtain ⟨sl3, e4⟩ := up b _ e2 nf
    exact ⟨sl3, e4⟩
  refine ⟨⟨fl2.st, fl2.ff, ⟨fun b o e hn hb _ => ?_, fun b o e hn hb _ => sl b o e hn hb, fun b o e hn _ => ?_, fun b o e _ => ?_, fun b xs q => x.un.tups b xs (I.base.tups b xs q), fun b o u q => x.un.frzs b o u (I.base.frzs b o u q), fun b ps q => ?_⟩, hok_stays x.hok x.cov x.st fl2.st, x.cov, kB, x.os.trans I.os, x.bare⟩, fl2⟩
  · have e1 := I.base.keep b o e hn hb (nex b)
    have n1 := I.base.free b o e hn (nex b)
    have e2 := x.un.keep b o e1 n1 (nfr b o e hb) (by simp)
    obtain ⟨o', eB⟩ := kB b o e hb
    have := x.st b o' eB
    rw [e2] at this
    cases this
    exact fl2.st b _ eB
  · obtain ⟨o1, e1⟩ := I.base.there b o e (nex b)
    exact x.un.free b o1 e1 (I.base.free b o e hn (nex b)) (by simp)
  · by_cases hb : b ∈ X.fs
    · obtain ⟨z, ez⟩ := sl b o e (fr0 b hb) hb
      exact ⟨_, ez⟩
    · obtain ⟨o', eB⟩ := kB b o e hb
      exact ⟨_, fl2.st b _ eB⟩
  · obtain ⟨m1, e1⟩ := I.base.tbls b ps q
    obtain ⟨m2, e2⟩ := x.un.tbls b _ e1
    exact ⟨m1 ++ m2, by rw [e2, Array.append_assoc]⟩
theorem passes_up (hE : ∀ c d H', E1 c d H' → E c d H') : Passes (CX1 P w) (cxOf (CX1 P w) P w K mg base N qual scope f cd A outer s H E) E1 := by
  intro pins σ H1 s1 e s' I x
  obtain ⟨ea, cls, od, B, H', rfl, fly, hn, q⟩ := x
  refine leaveD I.ok.frames rfl fly.fl fun h' fl2 up => ?_
  exact ⟨ea, cls, od, B, H', rfl, Fly0.up I rfl rfl rfl rfl rfl fly.toFly0 fl2 up, hn, hE _ _ _ q⟩
def Makes (X : Cx) (E : XK) : Prop := ∀ (pins : List (Addr × Obj)) (σ : St) (H : Hp) (s : Shared) (h' : Heap) (e : Addr) (cls : Value) (vs : List Value), Inv X pins σ H s → Heap.MadeExcOf s.heap h' e cls vs → E cls none H → X.xe (.ref e) { s with heap := h' }
theorem makes_up (hE : ∀ c d H', E1 c d H' → E c d H') : Makes (cxOf (CX1 P w) P w K mg base N qual scope f cd A outer s H E) E1 := by
  intro pins σ H1 s1 h1 e cls vs I x q
  have hin : ∀ env ∈ (cxOf (CX1 P w) P w K mg base N qual scope f cd A outer s H E).stack, ∀ b, env.frame = some b → b ∈ frs (cxOf (CX1 P w) P w K mg base N qual scope f cd A outer s H E).stack := fun env he b hb => List.mem_filterMap.mpr ⟨env, he, hb⟩
  obtain ⟨t0, he0, ht0, htt⟩ := x.there
  have nt : ∀ b, s1.heap.get? b = none → H1 b = none := fun b hb => by
    cases z : H1 b with
    | none => rfl
    | some o =>
      obtain ⟨ob, hob⟩ := (I.hok b o z).there
      rw [hb] at hob
      cases hob
  have hff := PySem.W.funFrames_hide I.stack hin
  have fly0 : Fly0 P w (cxOf (CX1 P w) P w K mg base N qual scope f cd A outer s H E).stack H1 s1 (PySem.W.hideAll s1.heap (frs (cxOf (CX1 P w) P w K mg base N qual scope f cd A outer s H E).stack)) H1 { s1 with heap := h1 } :=
    ⟨fun b o e => x.keeps b o (PySem.W.of_hideAll _ e), hff.of_keeps fun b o e _ => ⟨o, x.keeps b o e, rfl⟩, Un.kept x.keeps, I.hok.kept x.keeps, fun b o z => by
      obtain ⟨ob, hob⟩ := (I.hok b o z).there
      exact ⟨ob, PySem.W.hideAll_get _ hob fun hm => by rw [I.stkFree b hm] at z; cases z⟩, fun b o e hm => ⟨o, PySem.W.hideAll_get _ e hm⟩, rfl, I.bare⟩
  have newB : (PySem.W.hideAll s1.heap (frs (cxOf (CX1 P w) P w K mg base N qual scope f cd A outer s H E).stack)).get? e = none := by
    cases z : (PySem.W.hideAll s1.heap (frs (cxOf (CX1 P w) P w K mg base N qual scope f cd A outer s H E).stack)).get? e with
    | none => rfl
    | some o => have := PySem.W.of_hideAll _ z; rw [x.new] at this; cases this
  refine leaveD0 (s := { s1 with heap := h1 }) I.ok.frames fly0.ff rfl he0 fly0.st newB rfl rfl fun h' fl2 up => ?_
  exact ⟨e, cls, none, _, H1, rfl, Fly0.up I rfl rfl rfl rfl rfl fly0 fl2 up, nt e x.new, hE _ _ _ q⟩
end
end L2
set_option Elab.async false
set_option linter.all false
set_option maxRecDepth 100000
namespace L2
open PySem PySem.Spec PyProof.Rows
structure XCls (K : PySem.W.Frag) (C : Addr) (bmB : List Value) (newId : String) : Prop where
  exc : PySem.W.excIn K C bmB newId = true
theorem XCls.obj {K : PySem.W.Frag} {C : Addr} {bmB : List Value} {newId : String} {h : Heap} (c : XCls K C bmB newId) (X : K.In h) : ∃ bm N nm q bs hdct sn sub ab col dd k0 k1 k2 k3 k5 mN,
    h.get? C = some (excClassObj nm q C N bs bm hdct sn sub ab col dd k0 k1 k2 k3 k5 newId) ∧ h.Ns N mN ∧ mN "__init__" = none ∧ OwnTail h bmB bm ∧ ∃ dd' cd sl, K.lookup C = some ⟨.type "type", dd', .cls cd, sl⟩ ∧ cd.mro = .ref C :: bm := by
  have q := c.exc
  unfold PySem.W.excIn at q
  cases hl : K.lookup C with
  | none => rw [hl] at q; cases q
  | some ob =>
    rw [hl] at q
    split at q
    · rename_i dd cd sl e
      cases e
      split at q
      · rename_i C' bm k0 k1 k2 k3 n k5 hm hs
        simp only [Bool.and_eq_true, beq_iff_eq, Bool.not_eq_true'] at q
        obtain ⟨⟨⟨⟨⟨rfl, rfl⟩, hdel⟩, ht⟩, hok⟩, hni⟩ := q
        have ho := X _ _ hl
        have hsl : sl = #[k0, k1, k2, k3, some (.builtin n), k5] := Array.toList_inj.mp hs
        subst hsl
        obtain ⟨nm, bs, mro, ns, qn, hd, sn, sub, ab, col, del⟩ := cd
        dsimp only at hm hdel hok hni ho
        subst hm hdel
        exact ⟨bm, ns, nm, qn, bs, hd, sn, sub, ab, col, dd, k0, k1, k2, k3, k5, _, ho, .of_isNs (PySem.W.isNs_of_in X hok), PySem.W.nsMap_none_of_in X hok hni, PySem.W.tail_of_in X ht, dd, _, _, rfl, rfl⟩
      · cases q
    · cases q
section
variable {X : Cx} {x : Str} {np cpos pos : Pos} {e₀ : Expr} {rest : List Expr} {t : TA} {C : Addr} {B Bn newId nid initId inN : String} {bm bmN : List Value} {E : XK}
def tRaise (C : Addr) (E : XK) (t : TA) : TS := fun _ σ H => t σ H fun vs H1 => vs.length ≤ sizeLine ∧ E (.ref C) none H1
theorem ps_raise (c : XCls X.K C bm newId) (Fn : ExcBaseFacts Bn newId inN bmN) (hBn : bm.contains (.type Bn) = true) (FB : ExcBaseFacts B nid initId bm) (hc : X.calm = true) (hg : Gl X x) (hm : X.mg x = some (.ref C)) (hx : Makes X E) (ha : PA X (e₀ :: rest) t)
    (hd : (x == ("__debug__" : Str)) = false := by decide +kernel)
    (he : starEach (e₀ :: rest) X.env = (false, eval e₀ X.env) :: starEach rest X.env := by rfl) (hpl : (backTo cpos (starEach rest X.env)).any (·.1) = false := by rfl) :
    PS X (.Raise (some (.Call (.Name x np) (e₀ :: rest) [] cpos)) none pos) (tRaise C E t) := by
  intro pins s σ H D I h
  obtain ⟨tl, N, nm, q, bs, hdct, sn, sub, ab, col, dd, k0, k1, k2, k3, k5, mN, hC, hN, hni, T, _⟩ := c.obj I.mod.kin
  refine wpAny_Raise_call_subU (C := C) (nm := nm) (q := q) (N := N) (bs := bs) (bm := tl) (hdct := hdct) (sn := sn) (sub := sub) (ab := ab) (col := col) (dd := dd) (k0 := k0) (k1 := k1) (k2 := k2) (k3 := k3) (k5 := k5)
    Fn hBn FB (mN := mN) (T.hasType FB.hasBase) (I.ok.hd hc) (by rw [he]; show (false || (backTo cpos (starEach rest X.env)).any (·.1)) = false; rw [hpl]; rfl) hni (ld_glob I hg hm ⟨rfl, ?_⟩ hd)
  rw [he]
  have ha' := ha cpos pins s σ H _ I h
  rw [he] at ha'
  exact Calls.evalArgs_plain (wpAny_mono ha' (fun us s₂ ⟨vs, H1, I1, r1, z, q1⟩ => ⟨rfl, by rw [← r1.length]; exact z, I1.bk _ _ hC, hN.keeps I1.bk, T.keeps I1.bk, fun h' e hx' => hx pins σ H1 s₂ h' e _ _ I1 hx' q1⟩) fun _ _ y => y)
end
abbrev TX := St → Hp → VK → XK → Prop
section
variable {X : Cx} {CX : CXT} {k : Nat} {ps : List Str} {sp : Sp} {x : Str} {p pos : Pos} {e : Expr} {es : List Expr} {t : TA}
def tCallX (sp : Sp) (t : TA) : TX := fun σ H Q E => t σ H fun vs H1 => sp vs H1 Q E
end
theorem Fly0.un2 {P : Program} {w : World} {outer : List Env} {H H' : Hp} {s s' : Shared} {B h6 : Heap} (x : Fly0 P w outer H s B H' s') (k6 : B.StaysIn h6) (up : s'.heap.UpToSlots h6) (fr0 : ∀ b ∈ frs outer, H b = none) : Un (frs outer) [] H H' s.heap h6 := by
  have sl : ∀ b o, s.heap.get? b = some o → H b = none → b ∈ frs outer → ∃ sl, h6.get? b = some { o with slots := sl } := fun b o e hn hb => by
    obtain ⟨sl2, e2⟩ := x.un.slot b _ e hn hb (by simp)
    obtain ⟨_, o3, e3, nf⟩ := x.ff.mem hb
    rw [e2] at e3
    cases e3
    obtain ⟨sl3, e4⟩ := up b _ e2 nf
    exact ⟨sl3, e4⟩
  refine ⟨fun b o e hn hb _ => ?_, fun b o e hn hb _ => sl b o e hn hb, fun b o e hn _ => x.un.free b o e hn (by simp), fun b o e _ => ?_, x.un.tups, x.un.frzs, x.un.tbls⟩
  · obtain ⟨o', eB⟩ := x.old b o e hb
    have := x.st b o' eB
    rw [x.un.keep b o e hn hb (by simp)] at this
    cases this
    exact k6 b _ eB
  · by_cases hb : b ∈ frs outer
    · obtain ⟨z, ez⟩ := sl b o e (fr0 b hb) hb
      exact ⟨_, ez⟩
    · obtain ⟨o', eB⟩ := x.old b o e hb
      exact ⟨_, k6 b _ eB⟩
def ExcAt (ea : Addr) (cls : Value) (od : Option Addr) (h : Heap) : Prop := ∃ o vs, h.get? ea = some o ∧ o.cls = cls ∧ o.dict = od ∧ o.data = .fields vs
abbrev xo (ea : Addr) (cls : Value) (od : Option Addr) : HO := .ext (ExcAt ea cls od)
theorem Inv.caught {X : Cx} {pins : List (Addr × Obj)} {σ : St} {H H' : Hp} {s s' : Shared} {B h6 : Heap} {ea : Addr} {cls : Value} {od : Option Addr} (I : Inv X pins σ H s) (x : Fly0 X.prog X.w X.stack H s B H' s') (fl : FlyD B X.stack ea cls od .none h6) (up : s'.heap.UpToSlots h6) (hn : H' ea = none) :
    Inv X pins σ (upd H' ea (xo ea cls od)) { s' with heap := h6 } := by
  obtain ⟨oe, vs, he, hc, hod, hd⟩ := fl.there
  have newB : B.get? ea = none := fl.new
  have nfr : ea ∉ frs X.stack := fun hm => by
    obtain ⟨_, o, ho, nf⟩ := fl.ff.mem hm
    rw [he] at ho
    cases ho
    exact nf _ hd
  have nold : s.heap.get? ea = none := by
    cases z : s.heap.get? ea with
    | none => rfl
    | some o =>
      obtain ⟨o', eB⟩ := x.old ea o z nfr
      rw [newB] at eB
      cases eB
  have u := x.un2 fl.st up I.stkFree
  have ok6 := hok_stays x.hok x.cov x.st fl.st
  have nq : ∀ b o, H' b = some o → b ≠ ea := fun b o e z => by rw [z, hn] at e; cases e
  refine I.call' (ch := []) x.os ⟨u.keep, u.slot, fun b o e n hx => ?_, u.there, fun b xs q => ?_, fun b o y q => ?_, fun b qs q => ?_⟩ (fun b o e => ?_) x.bare (fun b z => absurd z (by simp))
  · have nb : b ≠ ea := fun z => by rw [z, nold] at e; cases e
    rw [upd_ne nb]
    exact u.free b o e n hx
  · have q' := u.tups b xs q
    rw [upd_ne (nq _ _ q')]
    exact q'
  · have q' := u.frzs b o y q
    rw [upd_ne (nq _ _ q')]
    exact q'
  · obtain ⟨more, q'⟩ := u.tbls b qs q
    exact ⟨more, by rw [upd_ne (nq _ _ q')]; exact q'⟩
  · by_cases hb : b = ea
    · subst hb
      rw [upd_same] at e
      cases e
      exact ⟨⟨oe, vs, he, hc, hod, hd⟩, ⟨oe, he⟩, fun h1 h2 ⟨o, ws, e1, e2, e3, e4⟩ k => ⟨o, ws, k o e1, e2, e3, e4⟩⟩
    · rw [upd_ne hb] at e
      exact (ok6 b o e).stay (fun _ _ _ q => q) (fun c q => by rw [upd_ne (nq _ _ q)]; exact q) fun c xs q => by rw [upd_ne (nq _ _ q)]; exact q
end L2
set_option Elab.async false
set_option linter.all false
set_option maxRecDepth 100000
namespace PySem
open Sem (wp)
section
variable {M : Model} {A : Around} {E : Value → Shared → Prop}
variable {nm q nm' q' : Str} {C N D N' : Addr} {bs bm bs' bm' : List Value} {hdct hdct' : Bool} {sn sn' : List Str} {sub sub' : List Value} {ab ab' : Bool} {col col' : Option Bool} {dd dd' : Option Addr} {k0 k1 k2 k3 k5 k0' k1' k2' k3' k5' : Option Value} {newId newId' : String}
end
end PySem
namespace L2
open PySem PySem.Spec PyProof.Rows
section
variable {X : Cx} {pins : List (Addr × Obj)} {σ : St} {H : Hp} {s : Shared}
abbrev Cx.held (X : Cx) (ea : Addr) : Cx := { X with A := X.A.mark (some (.ref ea)), calm := false, xe := fun _ _ => False }
theorem Inv.held (I : Inv X pins σ H s) (ea : Addr) : Inv (X.held ea) pins σ H s :=
  ⟨⟨I.ok.mod, I.ok.kind, I.ok.glob, I.ok.blt, I.ok.above, I.ok.inj, I.ok.has, I.ok.cab, (fun z => by cases z), I.ok.frames, I.ok.stk, I.ok.exf, I.ok.bs, I.ok.bsz, I.ok.noex, I.ok.exfs, I.ok.funs, I.ok.frf⟩, I.os, I.bare, I.base, I.loc, I.cell, I.free, I.freeC, I.pin, I.hok, I.len⟩
end
def Under (K : PySem.W.Frag) (C D : Addr) : Prop := ∃ dd cd sl, K.lookup C = some ⟨.type "type", dd, .cls cd, sl⟩ ∧ cd.mro.contains (.ref D) = true
section
variable {X : Cx} {P : Program} {w : World} {e tg : Expr} {tx : TX} {g : TG} {i : Nat} {n x : Str} {D : Addr} {bmD : List Value} {nD : String} {b₀ : Stmt} {suite : List Stmt} {apos pos hpos np : Pos} {ts : Addr → TS}
def tTryAs (K : PySem.W.Frag) (D : Addr) (tx : TX) (g : TG) (i : Nat) (ts : Addr → TS) : TS := fun De σ H =>
  tx σ H (fun v H1 => g v σ H1 De.nx) (fun cls od H' => ∃ C bm nid, cls = .ref C ∧ XCls K C bm nid ∧ Under K C D ∧ ∀ ea, H' ea = none →
    ts ea { nx := fun σ2 H2 => De.nx (σ2.set i none) H2, rt := De.rt, bk := fun σ2 H2 => De.bk (σ2.set i none) H2, ct := fun σ2 H2 => De.ct (σ2.set i none) H2 } (σ.set i (some (.ref ea))) (upd H' ea (xo ea (.ref C) od)))
end
end L2
set_option Elab.async false
set_option linter.all false
set_option maxRecDepth 100000
namespace L2
open PySem PySem.Spec PyProof.Rows
section
variable {X : Cx} {pins : List (Addr × Obj)} {σ : St} {H : Hp} {s : Shared}
theorem Inv.moved {ch : List Addr} {h' : Heap} {tk : Nat} (I : Inv X pins σ H s) (hf : ∀ b ∈ ch, FpOk X pins H b) (k : ∀ b o, b ∉ ch → s.heap.get? b = some o → h'.get? b = some o) : Inv X pins σ H { s with heap := h', toks := tk } := by
  have nH : ∀ b o, H b = some o → b ∉ ch := fun b o e z => by rw [(hf b z).1] at e; cases e
  refine I.call' (s' := { s with heap := h', toks := tk }) (ch := ch) rfl ⟨fun b o e _ _ hc => k b o hc e, fun b o e _ _ hc => ⟨o.slots, k b o hc e⟩, fun b o e n hc => n, fun b o e hc => ⟨o, k b o hc e⟩, fun b xs q => q, fun b o y q => q, fun b qs q => ⟨#[], by rw [q]; simp⟩⟩
    (fun b o e => (I.hok b o e).stay (fun c u hc q => k c u (by
      rcases hc with rfl | hc
      · exact nH _ _ e
      · exact nH _ _ hc) q) (fun _ q => q) fun _ _ q => q) I.bare fun b hb => ?_
  obtain ⟨f0, f1, f2, f3, f4, f5⟩ := hf b hb
  exact ⟨f3, f1, f4, f5⟩
theorem Inv.movedT {ch : List Addr} {h' : Heap} {tk : Nat} {T : Addr} {ob : HO} (I : Inv X pins σ H s) (hf : ∀ b ∈ ch, FpOk X pins H b) (k : ∀ b o, b ∉ ch → s.heap.get? b = some o → h'.get? b = some o) (hT : s.heap.objs.size ≤ T) (new : ObjOk X.prog X.w (upd H T ob) h' T ob) :
    Inv X pins σ (upd H T ob) { s with heap := h', toks := tk } := by
  have nH : ∀ b o, H b = some o → b ∉ ch := fun b o e z => by rw [(hf b z).1] at e; cases e
  have hn : H T = none := I.hok.fresh hT
  have nT : ∀ b o, s.heap.get? b = some o → b ≠ T := fun b o e z => by rw [z] at e; exact absurd (Heap.lt_size e) (Nat.not_lt.mpr hT)
  refine I.call' (s' := { s with heap := h', toks := tk }) (ch := ch) rfl ⟨fun b o e _ _ hc => k b o hc e, fun b o e _ _ hc => ⟨o.slots, k b o hc e⟩, fun b o e n hc => by rw [upd_ne (nT b o e)]; exact n, fun b o e hc => ⟨o, k b o hc e⟩, fun b xs q => by rw [upd_ne (ne_of_none q hn)]; exact q, fun b o y q => by rw [upd_ne (ne_of_none q hn)]; exact q, fun b qs q => ⟨#[], by rw [upd_ne (ne_of_none q hn), q]; simp⟩⟩
    (fun b o e => ?_) I.bare fun b hb => ?_
  · by_cases hb : b = T
    · subst hb
      rw [upd_same] at e
      cases e
      exact new
    · rw [upd_ne hb] at e
      exact (I.hok b o e).stay (fun c u hc q => k c u (by
        rcases hc with rfl | hc
        · exact nH _ _ e
        · exact nH _ _ hc) q) (fun c q => by rw [upd_ne (ne_of_none q hn)]; exact q) fun c xs q => by rw [upd_ne (ne_of_none q hn)]; exact q
  · obtain ⟨f0, f1, f2, f3, f4, f5⟩ := hf b hb
    exact ⟨f3, f1, f4, f5⟩
end
def Itz (K : PySem.W.Frag) (a b : Addr) : It :=
  ⟨fun i H => ∃ xs ys x y, SqL K H a xs ∧ SqL K H b ys ∧ xs[i]? = some x ∧ ys[i]? = some y, fun i H v H' => ∃ T x y, v = .ref T ∧ H T = none ∧ H' = upd H T (.tup [x, y]) ∧ (∀ xs, SqL K H a xs → xs[i]? = some x) ∧ ∀ ys, SqL K H b ys → ys[i]? = some y,
    fun i H => ∃ xs ys, SqL K H a xs ∧ SqL K H b ys ∧ (xs.length ≤ i ∨ ys.length ≤ i)⟩
theorem turn_zip {P : Program} {w : World} {K : PySem.W.Frag} {elts : List Expr} {x1 : Nat} {tp : Pos} {z TI TO i1 i2 l1 l2 : Addr} (D : ZipApart z TI TO i1 i2 l1 l2) :
    Turn P w K (.Tuple elts x1 tp) (Itz K l1 l2) [z, TI, TO, i1, i2] z (fun i h => IsZip h z TI TO .none ∧ IsPair h TI (.ref i1) (.ref i2) ∧ (∃ a b, IsPair h TO a b) ∧ h.IsListIter i1 l1 i ∧ h.IsListIter i2 l2 i) where
  mem := by simp
  obj := fun i h st b hb => by
    obtain ⟨hz, hTI, ⟨a, c, hTO⟩, ⟨o1, e1, c1, d1⟩, ⟨o2, e2, c2, d2⟩⟩ := st
    simp only [List.mem_cons, List.not_mem_nil, or_false] at hb
    rcases hb with rfl | rfl | rfl | rfl | rfl
    · exact ⟨_, hz, fun v q => by cases q⟩
    · exact ⟨_, hTI, fun v q => by cases q⟩
    · exact ⟨_, hTO, fun v q => by cases q⟩
    · exact ⟨_, e1, fun v q => by rw [d1] at q; cases q⟩
    · exact ⟨_, e2, fun v q => by rw [d2] at q; cases q⟩
  keep := fun i h h' st hk => by
    obtain ⟨hz, hTI, ⟨a, b, hTO⟩, h1, h2⟩ := st
    exact ⟨hk z (by simp) _ hz, hk TI (by simp) _ hTI, ⟨a, b, hk TO (by simp) _ hTO⟩, h1.at fun o e => hk i1 (by simp) o e, h2.at fun o e => hk i2 (by simp) o e⟩
  item := by
    intro X hP hw hK hc i pins s σ H E I hf st hg
    subst hP hw hK
    obtain ⟨xs, ys, x, y, hq1, hq2, hx, hy⟩ := hg
    obtain ⟨its1, rv1, p1, hz1⟩ := I.list hq1
    obtain ⟨its2, rv2, p2, hz2⟩ := I.list hq2
    obtain ⟨u1, hu1, ru1⟩ := rv1.get hx
    obtain ⟨u2, hu2, ru2⟩ := rv2.get hy
    obtain ⟨hz, hTI, ⟨a, b, hTO⟩, h1, h2⟩ := st
    refine wpAny_pyNext_zip_item D hz hTI hTO h1 h2 p1.isList p2.isList (x := u1) (y := u2) (by simpa using hu1) (by simpa using hu2) fun h' a1 a2 a3 a4 a5 a6 hk => ?_
    refine ⟨_, rfl, wpAny_letOwnedTupleGo_zip a1 fun h2' hz' hs' => ?_⟩
    have hfree : H s.heap.objs.size = none := I.hok.fresh (Nat.le_refl _)
    have lt : ∀ {c o}, s.heap.get? c = some o → s.heap.objs.size ≠ c := fun e => Nat.ne_of_gt (Heap.lt_size e)
    have kk : ∀ c o, c ∉ [z, TI, TO, i1, i2] → s.heap.get? c = some o → h2'.get? c = some o := fun c o hc e =>
      hs'.extBut _ _ (fun q => hc (by simp [q])) (hk c o (fun q => hc (by simp [q])) (fun q => hc (by simp [q])) (fun q => hc (by simp [q])) (fun q => hc (by simp [q])) e)
    have hT : h2'.get? s.heap.objs.size = some { cls := .type "tuple", data := .seq #[u1, u2] } := hs'.extBut _ _ (lt hz) a5
    refine ⟨.ref s.heap.objs.size, upd H s.heap.objs.size (.tup [x, y]), I.movedT (tk := s.toks) hf kk (Nat.le_refl _) ⟨show 2 ≤ sizeLine from by decide +kernel, [u1, u2], .cons ru1 (.cons ru2 .nil), _, hT, rfl, _, rfl⟩, rfl,
      ⟨_, x, y, rfl, hfree, rfl, fun zs hzs => by rw [I.list_inj hzs hq1]; exact hx, fun zs hzs => by rw [I.list_inj hzs hq2]; exact hy⟩,
      ⟨hz', hs'.extBut _ _ D.TIz (hk _ _ D.TIz D.TITO D.TIi1 D.TIi2 hTI), ⟨_, _, hs'.extBut _ _ D.TOz a2⟩, a3.extBut hs'.extBut D.i1z, a4.extBut hs'.extBut D.i2z⟩, fun b hb => ?_⟩
    have hlt : b ≠ s.heap.objs.size := by
      obtain ⟨o1, e1, _⟩ := h1
      obtain ⟨o2, e2, _⟩ := h2
      simp only [List.mem_cons, List.not_mem_nil, or_false] at hb
      rcases hb with rfl | rfl | rfl | rfl | rfl
      · exact (lt hz).symm
      · exact (lt hTI).symm
      · exact (lt hTO).symm
      · exact (lt e1).symm
      · exact (lt e2).symm
    rw [upd_ne hlt]
    exact (hf b hb).1
  done := by
    intro X hP hw hK hc i pins s σ H E I hf st hg
    subst hP hw hK
    obtain ⟨xs, ys, hq1, hq2, hx⟩ := hg
    obtain ⟨its1, rv1, p1, hz1⟩ := I.list hq1
    obtain ⟨its2, rv2, p2, hz2⟩ := I.list hq2
    obtain ⟨hz, hTI, ⟨a, b, hTO⟩, h1, h2⟩ := st
    have l1' := rv1.length
    have l2' := rv2.length
    refine wpAny_pyNext_zip_end (I.ok.hd hc) D hz hTI hTO h1 h2 p1.isList p2.isList ?_ fun h' hk => ⟨rfl, I.moved (tk := s.toks) hf fun c o hc e => hk c o (fun q => hc (by simp [q])) (fun q => hc (by simp [q])) (fun q => hc (by simp [q])) (fun q => hc (by simp [q])) e⟩
    rcases hx with hx | hx
    · exact .inl (by simp; omega)
    · exact .inr (by simp; omega)
  self := fun _ _ _ _ _ st h => wpAny_pyIter_zip st.1 h
theorem zip_apart (n l1 l2 : Nat) (h1 : l1 < n) (h2 : l2 < n) : ZipApart (n + 4) (n + 2) (n + 3) n (n + 1) l1 l2 := by
  constructor <;> exact fun e => absurd (show (_ : Nat) = _ from e) (by omega)
section
variable {X : Cx} {elts : List Expr} {x1 : Nat} {tp : Pos}
def iZip (K : PySem.W.Frag) (ta : TA) : TI := fun σ H R => ta σ H fun vs H1 => ∃ a b xs ys, vs = [.ref a, .ref b] ∧ SqL K H1 a xs ∧ SqL K H1 b ys ∧ R (Itz K a b) H1
theorem pi_zip {a b : Expr} {ta : TA} {p pos : Pos} (hg : Gl X "zip") (hm : X.mg "zip" = none) (ha : PA X [a, b] ta) (hs : starEach [a, b] X.env = [(false, eval a X.env), (false, eval b X.env)] := by rfl) (hs2 : starEach [b] X.env = [(false, eval b X.env)] := by rfl) : PI X (.Tuple elts x1 tp) (.Call (.Name "zip" p) [a, b] [] pos) (iZip X.K ta) := by
  intro pins s σ H R I h
  refine Call_ (ld_blt I hg hm boot_zip (PyProof.Rows.callWith_type1 (thn (ha pos pins s σ H _ I h) fun us s1 ⟨vs, H1, I1, r1, q1⟩ => ?_) (by rw [hs, hs2]) (by rw [hs2]; rfl)))
  obtain ⟨l1, l2, xs, ys, rfl, hq1, hq2, q⟩ := q1
  obtain ⟨u, v, rfl, ru, rv⟩ := r1.two
  cases ru
  cases rv
  obtain ⟨its1, rv1, p1, _⟩ := I1.list hq1
  obtain ⟨its2, rv2, p2, _⟩ := I1.list hq2
  refine call_zip_2 p1.isList p2.isList fun h' z1 z2 z3 z4 z5 z6 hk => ?_
  have lt1 : l1 < s1.heap.objs.size := by obtain ⟨_, e, _⟩ := p1.isList; exact Heap.lt_size e
  have lt2 : l2 < s1.heap.objs.size := by obtain ⟨_, e, _⟩ := p2.isList; exact Heap.lt_size e
  have I2 : Inv X pins σ H1 { s1 with heap := h' } := I1.kept (t' := s1.toks) hk
  refine wpAny_pyIter_zip z1 ?_
  refine ⟨s1.heap.objs.size + 4, [s1.heap.objs.size + 4, s1.heap.objs.size + 2, s1.heap.objs.size + 3, s1.heap.objs.size, s1.heap.objs.size + 1], _, _, H1, rfl, I2, turn_zip (l1 := l1) (l2 := l2) ?_, ⟨z1, z2, ⟨_, _, z3⟩, z4, z5⟩, fun b hb => ?_, q⟩
  · exact zip_apart _ _ _ lt1 lt2
  · have hb' : s1.heap.objs.size ≤ b := by
      simp only [List.mem_cons, List.not_mem_nil, or_false] at hb
      rcases hb with e | e | e | e | e <;> (rw [e]; first | exact Nat.le_refl _ | exact Nat.le_add_right _ _)
    exact I1.fpOk hb' (I1.hok.fresh hb')
end
end L2
set_option Elab.async false
set_option linter.all false
set_option maxRecDepth 100000
namespace PySem.W
open PySem PySem.Spec PySem.Calls PyProof.Rows
section
variable {prog : Program} {w : World} {A : Around} {E : Value → Shared → Prop} {s : Shared} {K : Frag} {x D : Addr} {ox : Obj} {odo : Option Obj} {name : Str}
structure XTy (K : Frag) (D : Addr) : Prop where
  ga : findIn K (.ref D) "__getattribute__" = some (some (.builtin "BaseException.__getattribute__"))
  gh : findIn K (.ref D) "__getattr__" = some none
  mb : mroIn K D (.type "BaseException") = some true
  mo : mroIn K D (.type "object") = some true
  ha : findIn K (.ref D) "__class__" = some (some (.builtin "object.__class__"))
  hn : specialIn K (.builtin "object.__class__") "__get__" = some (some (.builtin "getset_descriptor.__get__"))
  tk : takesIn K (.builtin "object.__class__") = some true
  cl : ∃ dd cd sl, K.lookup D = some ⟨.type "type", dd, .cls cd, sl⟩
end
end PySem.W
namespace L2
open PySem PySem.Spec PyProof.Rows
section
variable {X : Cx}
end
end L2
set_option Elab.async false
set_option linter.all false
set_option maxRecDepth 100000
namespace L2
open PySem PySem.Spec PyProof.Rows
structure XR (K : PySem.W.Frag) (C : Addr) : Prop where
  ex : ∃ (bm bmN : List Value) (newId Bn inN B nid initId : String), XCls K C bm newId ∧ ExcBaseFacts Bn newId inN bmN ∧ bm.contains (.type Bn) = true ∧ ExcBaseFacts B nid initId bm
theorem ps_raiseX {X : Cx} {x : Str} {np cpos pos : Pos} {e₀ : Expr} {rest : List Expr} {t : TA} {C : Addr} {E : XK} (c : XR X.K C) (hc : X.calm = true) (hg : Gl X x) (hm : X.mg x = some (.ref C)) (hx : Makes X E) (ha : PA X (e₀ :: rest) t)
    (hd : (x == ("__debug__" : Str)) = false := by decide +kernel)
    (he : starEach (e₀ :: rest) X.env = (false, eval e₀ X.env) :: starEach rest X.env := by rfl) (hpl : (backTo cpos (starEach rest X.env)).any (·.1) = false := by rfl) :
    PS X (.Raise (some (.Call (.Name x np) (e₀ :: rest) [] cpos)) none pos) (tRaise C E t) := by
  obtain ⟨bm, bmN, newId, Bn, inN, B, nid, initId, c1, c2, c3, c4⟩ := c.ex
  exact ps_raise c1 c2 c3 c4 hc hg hm hx ha hd he hpl
section
variable {P : Program} {w : World} {K : PySem.W.Frag} {mg : Str → Option Value} {base : Heap}
theorem Fun.okX {x qual : Str} {st : Stmt} {f : Addr} {fd : FuncData} {N ps : List Str} {k : Nat} {sp : Sp} (F : Fun K x qual st f fd) (S : FnScope N ps (defScope st)) (len : ∀ vs H Q E, sp vs H Q E → vs.length = ps.length)
    (hbody : ∀ (cdv : Value) (A : Around) (outer : List Env) (s : Shared) (H : Hp) (vs : List V) (Q : VK) (E : XK), Room k (A.deeper (envOfC qual (defScope st) s.heap.objs.size f cdv)) → sp vs H Q E →
      ∃ t, PSs (cxOf (CX1 P w) P w K mg base N qual (defScope st) f cdv A outer s H E) (defBody st) t ∧ t { nx := fun _ H' => Q .non H', rt := Q } (start N vs) H) : FnOk P w K mg base (CX1 P w) (k + 1) f fd ps sp := by
  obtain ⟨oc, od, kV, doc, pm, an, cdv, ct, osl, rfl, lk, hcd⟩ := F.ex
  exact fn_of lk hcd S len fun A outer s H vs Q E hr hsp => hbody cdv A outer s H vs Q E hr hsp
theorem FnOk.lift {CX : CXT} {k : Nat} {f : Addr} {fd : FuncData} {ps : List Str} {sp : Sp} (F : FnOk P w K mg base CX0 k f fd ps sp) : FnOk P w K mg base CX k f fd ps sp :=
  ⟨F.len, fun A outer s H args us vs Q E hr he hb hv hs => codeAny_mono (F.run A outer s H args us vs Q E hr he hb hv hs) fun r s' hq => by
    cases r with
    | error e => exact False.elim hq
    | ok fl => cases fl <;> exact hq⟩
theorem Cal.lift {CX : CXT} {k : Nat} {x : Str} {ps : List Str} {sp : Sp} (c : Cal P w K mg base CX0 k x ps sp) : Cal P w K mg base CX k x ps sp := by
  obtain ⟨f, fd, F, r⟩ := c.ex
  exact ⟨f, fd, F.lift, r⟩
end
theorem pg_tupK {X : Cx} {K : PySem.W.Frag} {es : List Expr} {k : Nat} {t : TGs} {n : Nat} {pos : Pos} (hK : X.K = K) (hc : X.calm = true) (h : PGs X es t)
    (hn : (assignEach es X.env).length = n := by rfl) (hst : (assignEach es X.env).findIdx? (·.1) = none := by rfl) : PG X (.Tuple es k pos) (gTup K n t) := hK ▸ pg_tup hc h hn hst
section
variable {K : PySem.W.Frag} {g : TG} {ti : TT} {te : TE} {σ : St} {H : Hp} {Q : List V → Hp → Prop}
theorem comp_zip {a b : Addr} {xs ys : List V} {n : Nat} (hn : n = min xs.length ys.length) (Pv : Nat → List V → St → Hp → Prop) (h0 : Pv 0 [] σ H) (hz : ∀ i acc σ H, Pv i acc σ H → acc.length < sizeLine) (hi : ∀ i acc σ H, Pv i acc σ H → i ≤ n)
    (hl : ∀ i acc σ H, Pv i acc σ H → SqL K H a xs ∧ SqL K H b ys)
    (hs : ∀ i x y acc σ H T, xs[i]? = some x → ys[i]? = some y → Pv i acc σ H → H T = none → g (.ref T) σ (upd H T (.tup [x, y])) fun σ2 H3 => ti σ2 H3 fun b H4 => if b = true then te σ2 H4 fun v H5 => Pv (i + 1) (acc ++ [v]) σ2 H5 else Pv (i + 1) acc σ2 H4)
    (he : ∀ acc σ H, Pv n acc σ H → Q acc H) : CompW (Itz K a b) g ti te σ H Q := by
  refine comp_by (J := Itz K a b) (g := g) (ti := ti) (te := te) (Q := Q) (n := n) Pv h0 hz hi (fun acc σ H w => ⟨xs, ys, (hl _ _ _ _ w).1, (hl _ _ _ _ w).2, by omega⟩)
    (fun i acc σ H hlt w => ⟨xs, ys, xs[i]'(by omega), ys[i]'(by omega), (hl _ _ _ _ w).1, (hl _ _ _ _ w).2, List.getElem?_eq_getElem (by omega), List.getElem?_eq_getElem (by omega)⟩) (fun i x acc σ H H2 hlt w y => ?_) he
  obtain ⟨T, x, y, rfl, hT, rfl, hx, hy⟩ := y
  exact hs i x y acc σ H T (hx xs (hl _ _ _ _ w).1) (hy ys (hl _ _ _ _ w).2) w hT
end
end L2
namespace QL
open PySem
end QL
set_option Elab.async false
set_option linter.all false
set_option maxRecDepth 100000
namespace L2
open PySem PySem.Spec PyProof.Rows
def Ite (K : PySem.W.Frag) (a : Addr) : It :=
  ⟨fun i H => ∃ xs x, SqL K H a xs ∧ xs[i]? = some x, fun i H v H' => ∃ T x, v = .ref T ∧ H T = none ∧ H' = upd H T (.tup [.int (i : Int), x]) ∧ ∀ xs, SqL K H a xs → xs[i]? = some x, fun i H => ∃ xs, SqL K H a xs ∧ xs.length ≤ i⟩
def Itse (x : Str) : It :=
  ⟨fun i _ => i < x.cps.size, fun i H v H' => ∃ T c, v = .ref T ∧ H T = none ∧ H' = upd H T (.tup [.int (i : Int), .str ⟨#[c]⟩]) ∧ x.cps[i]? = some c, fun i _ => i = x.cps.size⟩
theorem turn_enum {P : Program} {w : World} {K : PySem.W.Frag} {elts : List Expr} {x1 : Nat} {tp : Pos} {e it l : Addr} (hei : e ≠ it) :
    Turn P w K (.Tuple elts x1 tp) (Ite K l) [e, it] e (fun i h => (∃ old, IsEnum h e it i old) ∧ h.IsListIter it l i) where
  mem := by simp
  obj := fun i h st b hb => by
    obtain ⟨⟨old, he⟩, ⟨o1, e1, c1, d1⟩⟩ := st
    simp only [List.mem_cons, List.not_mem_nil, or_false] at hb
    rcases hb with rfl | rfl
    · exact ⟨_, he, fun v q => by cases q⟩
    · exact ⟨_, e1, fun v q => by rw [d1] at q; cases q⟩
  keep := fun i h h' st hk => by
    obtain ⟨⟨old, he⟩, h1⟩ := st
    exact ⟨⟨old, hk e (by simp) _ he⟩, h1.at fun o e' => hk it (by simp) o e'⟩
  item := by
    intro X hP hw hK hc i pins s σ H E I hf st hg
    subst hP hw hK
    obtain ⟨xs, x, hq, hx⟩ := hg
    obtain ⟨its, rv, p, hz⟩ := I.list hq
    obtain ⟨u, hu, ru⟩ := rv.get hx
    obtain ⟨⟨old, he⟩, h1⟩ := st
    obtain ⟨o1, e1, _⟩ := id h1
    refine wpAny_pyNext_enum_item he h1 p.isList (x := u) (by simpa using hu) hei fun h' a1 a2 a3 a4 hk => ?_
    refine ⟨_, rfl, wpAny_letOwnedTupleGo_enum a1 fun h2 he2 hs2 => ?_⟩
    have hfree : H s.heap.objs.size = none := I.hok.fresh (Nat.le_refl _)
    have lt : ∀ {c o}, s.heap.get? c = some o → s.heap.objs.size ≠ c := fun e => Nat.ne_of_gt (Heap.lt_size e)
    have kk : ∀ c o, c ∉ [e, it] → s.heap.get? c = some o → h2.get? c = some o := fun c o hc q =>
      hs2.extBut _ _ (fun z => hc (by simp [z])) (hk c o (fun z => hc (by simp [z])) (fun z => hc (by simp [z])) q)
    have hT : h2.get? s.heap.objs.size = some { cls := .type "tuple", data := .seq #[.int i s.toks, u] } := hs2.extBut _ _ (lt he) a3
    refine ⟨.ref s.heap.objs.size, upd H s.heap.objs.size (.tup [.int i, x]), I.movedT (tk := s.toks + 1) hf kk (Nat.le_refl _) ⟨show 2 ≤ sizeLine from by decide +kernel, [.int i s.toks, u], .cons ⟨_, rfl⟩ (.cons ru .nil), _, hT, rfl, _, rfl⟩, rfl,
      ⟨_, x, rfl, hfree, rfl, fun zs hzs => by rw [I.list_inj hzs hq]; exact hx⟩, ⟨⟨u, by simpa using he2⟩, a2.extBut hs2.extBut (Ne.symm hei)⟩, fun b hb => ?_⟩
    have hlt : b ≠ s.heap.objs.size := by
      simp only [List.mem_cons, List.not_mem_nil, or_false] at hb
      rcases hb with rfl | rfl
      · exact (lt he).symm
      · exact (lt e1).symm
    rw [upd_ne hlt]
    exact (hf b hb).1
  done := by
    intro X hP hw hK hc i pins s σ H E I hf st hg
    subst hP hw hK
    obtain ⟨xs, hq, hx⟩ := hg
    obtain ⟨its, rv, p, hz⟩ := I.list hq
    obtain ⟨⟨old, he⟩, h1⟩ := st
    have l1' := rv.length
    refine wpAny_pyNext_enum_end (I.ok.hd hc) he h1 p.isList (by simp; omega) fun h' hk => ⟨rfl, I.moved (tk := s.toks) hf fun c o hc e => hk c o (fun q => hc (by simp [q])) e⟩
  self := fun _ _ _ _ _ st h => let ⟨⟨_, he⟩, _⟩ := st; wpAny_pyIter_enum he h
section
variable {X : Cx} {elts : List Expr} {x1 : Nat} {tp : Pos}
def iEnum (K : PySem.W.Frag) (ta : TA) : TI := fun σ H R => ta σ H fun vs H1 => ∃ a xs, vs = [.ref a] ∧ SqL K H1 a xs ∧ R (Ite K a) H1
theorem pi_enum {a : Expr} {ta : TA} {p pos : Pos} (hg : Gl X "enumerate") (hm : X.mg "enumerate" = none) (ha : PA X [a] ta) (hs : starEach [a] X.env = [(false, eval a X.env)] := by rfl) : PI X (.Tuple elts x1 tp) (.Call (.Name "enumerate" p) [a] [] pos) (iEnum X.K ta) := by
  intro pins s σ H R I h
  refine Call_ (ld_blt I hg hm boot_enumerate (PyProof.Rows.callWith_type1 (thn (ha pos pins s σ H _ I h) fun us s1 ⟨vs, H1, I1, r1, q1⟩ => ?_) (by rw [hs]; rfl) (by rfl)))
  obtain ⟨l, xs, rfl, hq, q⟩ := q1
  obtain ⟨u, rfl, ru⟩ := r1.one
  cases ru
  obtain ⟨its, rv, p1, _⟩ := I1.list hq
  refine call_enumerate_list p1.isList fun h' z1 z2 z3 hk => ?_
  have I2 : Inv X pins σ H1 { s1 with heap := h' } := I1.kept (t' := s1.toks) hk
  refine wpAny_pyIter_enum z1 ?_
  refine ⟨s1.heap.objs.size + 1, [s1.heap.objs.size + 1, s1.heap.objs.size], _, _, H1, rfl, I2, turn_enum (l := l) (Nat.ne_of_gt (Nat.lt_succ_self _)), ⟨⟨_, z1⟩, z2⟩, fun b hb => ?_, q⟩
  have hb' : s1.heap.objs.size ≤ b := by
    simp only [List.mem_cons, List.not_mem_nil, or_false] at hb
    rcases hb with e | e <;> (rw [e]; first | exact Nat.le_refl _ | exact Nat.le_add_right _ _)
  exact I1.fpOk hb' (I1.hok.fresh hb')
def iEnumS (ta : TA) : TI := fun σ H R => ta σ H fun vs H1 => ∃ x, vs = [.str x] ∧ R (Itse x) H1
end
section
variable {K : PySem.W.Frag} {g : TG} {tb : TS} {D : Ends} {σ : St} {H : Hp}
theorem forw_enum {a : Addr} {xs : List V} (Pv : Nat → St → Hp → Prop) (h0 : Pv 0 σ H) (hl : ∀ i σ H, i ≤ xs.length → Pv i σ H → SqL K H a xs)
    (hs : ∀ (i : Nat) x σ H T, xs[i]? = some x → Pv i σ H → H T = none → g (.ref T) σ (upd H T (.tup [.int (i : Int), x])) fun σ2 H2 => tb { D with nx := Pv (i + 1), ct := Pv (i + 1), bk := D.nx } σ2 H2) (hd : ∀ σ H, Pv xs.length σ H → D.nx σ H) : ForW (Ite K a) g tb D σ H := by
  refine ⟨fun i m σ H => m = xs.length - i ∧ i ≤ xs.length ∧ Pv i σ H, ⟨xs.length, by simp, Nat.zero_le _, h0⟩, ?_⟩
  rintro i m σ H ⟨rfl, hi, p⟩
  have q := hl i σ H hi p
  by_cases hlt : i < xs.length
  · refine .inr ⟨⟨xs, xs[i], q, by simp [hlt]⟩, Pv (i + 1), fun σ' H' p' => ⟨xs.length - (i + 1), by omega, rfl, hlt, p'⟩, fun x H' y => ?_⟩
    obtain ⟨T, x, rfl, hT, rfl, y⟩ := y
    exact hs i x σ _ T (y xs q) p hT
  · have e : i = xs.length := by omega
    subst e
    exact .inl ⟨⟨xs, q, Nat.le_refl _⟩, hd σ H p⟩
end
end L2
set_option Elab.async false
set_option linter.all false
set_option maxRecDepth 100000
namespace PySem
open Sem (wp)
section
variable {M : Model} {A : Around} {E : Value → Shared → Prop} {env : Env}
variable {nm q : Str} {C N : Addr} {bs bm : List Value} {hdct : Bool} {sn : List Str} {sub : List Value} {ab : Bool} {col : Option Bool} {dd : Option Addr} {k0 k1 k2 k3 k5 : Option Value} {newId : String}
theorem raiseStmt_exc {s : Shared} {x : Sem Value} {Q : Flow → Shared → Prop} (hbase : bm.contains (.type "BaseException") = true) (hh : A.handled = none)
    (h : wpAny M A x (fun v s₁ => ∃ e oe vs, v = .ref e ∧ s₁.heap.get? C = some (excClassObj nm q C N bs bm hdct sn sub ab col dd k0 k1 k2 k3 k5 newId) ∧ s₁.heap.get? e = some oe ∧ oe.cls = .ref C ∧ oe.data = .fields vs ∧ vs[1]? = some .none ∧ E (.ref e) s₁) E s) :
    wpAny M A (raiseStmt env (some x) none) Q E s := by
  have hcB : (Value.ref C :: bm).contains (.type "BaseException") = true := by rw [List.contains_cons, hbase, Bool.or_true]
  unfold raiseStmt
  refine wpAny_bind (wpAny_mono h (fun v s₁ h₁ => ?_) fun _ _ x => x)
  obtain ⟨e, ⟨oc, od, dt, sl⟩, vs, rfl, hC, he, hc, hd, hv, hE⟩ := h₁
  dsimp only at hc hd
  subst hc hd
  obtain ⟨hp, g, d, tk, os⟩ := s₁
  repeat (first | with_reducible refine wpAny_loadPart_at he ?_ | with_reducible refine wpAny_loadPart_at hC ?_ | (with_reducible refine wpAny_isSubtype_exc hC ?_; rw [hcB]) | wp_step)
  rw [hv]
  refine wpAny_pure ?_
  rw [if_neg (by decide)]
  exact wpAny_pure (wpAny_raiseNew_none hh hE)
end
section
variable {prog : Program} {w : World} {A : Around} {E : Value → Shared → Prop} {h : Heap} {g : Array GenState} {d : Drawn} {t : Nat} {os : OsState}
variable {nm q : Str} {C N : Addr} {bs bm bmB : List Value} {hdct : Bool} {sn : List Str} {sub : List Value} {ab : Bool} {col : Option Bool} {dd : Option Addr} {k0 k1 k2 k3 k5 : Option Value} {B Bn newId nid initId inN : String} {bmN : List Value} {K : PySem.W.Frag}
theorem type_call_exc_initU (Fn : ExcBaseFacts Bn newId inN bmN) (hBn : bmB.contains (.type Bn) = true) (F : ExcBaseFacts B nid initId bmB) (T : OwnTail h bmB bm) (X : K.In h) {rest : List Value} {fI : Addr} {Q : Fin → Shared → Prop}
    (hC : h.get? C = some (excClassObj nm q C N bs bm hdct sn sub ab col dd k0 k1 k2 k3 k5 newId)) (hi : PySem.W.findIn K (.ref C) "__init__" = some (some (.ref fI))) (hf : PySem.W.typeIn K (.ref fI) = some (.type "function"))
    (hq : ∀ h' e, Heap.MadeExcOf h h' e (.ref C) rest →
      wpAny (model prog w) A (call (.ref fI) (.ref e :: rest)) (fun r s' => r = .none ∧ Q (.done (.ret (.ref e))) s') E ⟨h', g, d, t, os⟩) (hrest : rest.length ≤ sizeLine) :
    wpAny (model prog w) A (Builtin.«type.__call__» ⟨.ref C :: rest, []⟩) Q E ⟨h, g, d, t, os⟩ := by
  repeat (first | with_reducible refine wpAny_loadPart_at hC ?_ | with_reducible refine wpAny_madeBy_exc hC ?_ | wp_step)
  refine codeAny_call_builtin_code (Code.quiet_builtin _ Fn.quiet) (wpAny_check_new_subU Fn hBn T hC ?_)
  refine codeAny_exc_new_subU Fn hBn F T hC ?_ hrest
  show wpAny _ _ _ _ _ _
  have hC₁ := Heap.get?_push_of_some { cls := .ref C, data := .fields #[.ref h.objs.size, .none, .none, .none, .bool false, .none] }
    (Heap.get?_push_of_some { cls := .type "tuple", data := .seq rest.toArray } hC)
  have hget : ((h.push { cls := .type "tuple", data := .seq rest.toArray }).push
      { cls := .ref C, data := .fields #[.ref h.objs.size, .none, .none, .none, .bool false, .none] }).get? (h.objs.size + 1) = some
      { cls := .ref C, data := .fields #[.ref h.objs.size, .none, .none, .none, .bool false, .none] } := by heap_get
  have hcC : (Value.ref C :: bm).contains (.ref C) = true := by simp
  have X₁ : K.In ((h.push { cls := .type "tuple", data := .seq rest.toArray }).push { cls := .ref C, data := .fields #[.ref h.objs.size, .none, .none, .none, .bool false, .none] }) :=
    X.keeps fun b o e => Heap.get?_push_of_some _ (Heap.get?_push_of_some _ e)
  unfold isInstance
  repeat (first | with_reducible refine wpAny_loadPart_at hget ?_ | (with_reducible refine wpAny_isSubtype_exc hC₁ ?_; rw [hcC]) | wp_step)
  show wpAny _ _ (typeLookup (.ref C) _) _ _ _
  refine (PySem.W.looks_findIn X₁ hi).at ?_
  refine wpAny_holding (wpAny_bind ((PySem.W.bind_fn X₁ _ hf).at ?_))
  refine wpAny_bind (wpAny_mono (hq _ (h.objs.size + 1) ⟨fun b o hb => Heap.get?_push_of_some _ (Heap.get?_push_of_some _ hb), Heap.get?_none_of_le (Nat.le_succ _), h.objs.size, hget, Heap.get?_none_of_le (Nat.le_refl _), ?_⟩) (fun r s' hr => ?_) fun _ _ x => x)
  · exact Heap.get?_push_of_some _ (Heap.get?_push_at rfl rfl)
  · obtain ⟨rfl, hQ⟩ := hr
    wp_walk
    exact hQ
theorem call_exc_initU (Fn : ExcBaseFacts Bn newId inN bmN) (hBn : bmB.contains (.type Bn) = true) (F : ExcBaseFacts B nid initId bmB) (T : OwnTail h bmB bm) (X : K.In h) {rest : List Value} {fI : Addr} {Q : Value → Shared → Prop}
    (hC : h.get? C = some (excClassObj nm q C N bs bm hdct sn sub ab col dd k0 k1 k2 k3 k5 newId)) (hi : PySem.W.findIn K (.ref C) "__init__" = some (some (.ref fI))) (hf : PySem.W.typeIn K (.ref fI) = some (.type "function"))
    (hq : ∀ h' e, Heap.MadeExcOf h h' e (.ref C) rest →
      wpAny (model prog w) (A.under (.builtin "type.__call__" ⟨.ref C :: rest, []⟩)) (call (.ref fI) (.ref e :: rest)) (fun r s' => r = .none ∧ Q (.ref e) s') E ⟨h', g, d, t, os⟩) (hrest : rest.length ≤ sizeLine) :
    wpAny (model prog w) A (call (.ref C) rest) Q E ⟨h, g, d, t, os⟩ := by
  have f1 := tc_lookup
  have f2 := tc_bind (.ref C)
  have hT : (⟨h, g, d, t, os⟩ : Shared).TypeIs (.ref C) "type" := ⟨_, hC, rfl⟩
  refine wpAny_call (codeAny_of_tree ?_)
  show wpAny _ _ (callAny (.ref C) _) _ _ _
  repeat (any_goals (first | assumption | with_reducible refine wpAny_loadPart_at hC ?_ | wp_step))
  refine ⟨rfl, ?_⟩
  refine codeAny_call_builtin_at (Code.quiet_builtin _ (by decide +kernel)) entry_typeCall (wpAny_check_type_call_sub hC (type_call_exc_initU (hrest := hrest) Fn hBn F T X hC hi hf fun h' e hm => ?_))
  exact hq h' e hm
end
section
variable {prog : Program} {w : World} {A : Around} {E : Value → Shared → Prop} {s : Shared} {env : Env}
variable {nm q : Str} {C N : Addr} {bs bm bmB : List Value} {hdct : Bool} {sn : List Str} {sub : List Value} {ab : Bool} {col : Option Bool} {dd : Option Addr} {k0 k1 k2 k3 k5 : Option Value} {B Bn newId nid initId inN : String} {bmN : List Value} {K : PySem.W.Frag}
theorem Raise_call_initU (Fn : ExcBaseFacts Bn newId inN bmN) (hBn : bmB.contains (.type Bn) = true) (F : ExcBaseFacts B nid initId bmB) {x : Str} {np cpos pos : Pos} {args : List Expr} {fI : Addr} {Q : Flow → Shared → Prop}
    (hbase : bm.contains (.type "BaseException") = true) (hh : A.handled = none) (hplain : (backTo cpos (starEach args env)).any (·.1) = false) (hi : PySem.W.findIn K (.ref C) "__init__" = some (some (.ref fI))) (hf : PySem.W.typeIn K (.ref fI) = some (.type "function"))
    (h : wpAny (model prog w) A (eval (.Name x np) env) (fun f s₁ => f = .ref C ∧ wpAny (model prog w) A (evalArgs (.ref C) true (backTo cpos (starEach args env)) [])
      (fun a s₂ => a.kw = [] ∧ a.pos.length ≤ sizeLine ∧ s₂.heap.get? C = some (excClassObj nm q C N bs bm hdct sn sub ab col dd k0 k1 k2 k3 k5 newId) ∧ K.In s₂.heap ∧ OwnTail s₂.heap bmB bm ∧
        ∀ h' e, Heap.MadeExcOf s₂.heap h' e (.ref C) a.pos → wpAny (model prog w) (A.under (.builtin "type.__call__" ⟨.ref C :: a.pos, []⟩)) (call (.ref fI) (.ref e :: a.pos))
          (fun r s' => r = .none ∧ ∃ oe vs, s'.heap.get? C = some (excClassObj nm q C N bs bm hdct sn sub ab col dd k0 k1 k2 k3 k5 newId) ∧ s'.heap.get? e = some oe ∧ oe.cls = .ref C ∧ oe.data = .fields vs ∧ vs[1]? = some .none ∧ E (.ref e) s') E { s₂ with heap := h' }) E s₁) E s) :
    wpAny (model prog w) A (exec (.Raise (some (.Call (.Name x np) args [] cpos)) none pos) env) Q E s := by
  rw [arm_exec_Raise]
  simp only [evalOpt, Option.map]
  refine wpAny_bind (wpAny_standAt (raiseStmt_exc (C := C) (nm := nm) (q := q) (N := N) (bs := bs) (bm := bm) (hdct := hdct) (sn := sn) (sub := sub) (ab := ab) (col := col) (dd := dd) (k0 := k0) (k1 := k1) (k2 := k2) (k3 := k3) (k5 := k5) (newId := newId) hbase hh (wpAny_bind (wpAny_mono (wpAny_Call_ofName (wpAny_mono h (fun f s₁ h₁ => ?_) fun _ _ x => x)) (fun v s₃ h₃ => wpAny_bind (wpAny_standAt (wpAny_pure h₃))) fun _ _ x => x))))
  obtain ⟨rfl, h₁⟩ := h₁
  unfold callWith
  refine wpAny_bind (wpAny_holding (wpAny_mono h₁ (fun a s₂ h₂ => wpAny_bind (wpAny_standAt ?_)) fun _ _ x => x))
  obtain ⟨apos, akw⟩ := a
  obtain ⟨hkw, hlen, hC, hX, T, h₂⟩ := h₂
  obtain rfl : akw = [] := hkw
  obtain ⟨hp, g, d, tk, os⟩ := s₂
  simp only [hplain]
  refine wpAny_bind (wpAny_keeperOf_exc hC ?_)
  refine wpAny_bind (call_exc_initU (hrest := hlen) Fn hBn F T hX hC hi hf fun h' e hm => wpAny_mono (h₂ h' e hm) (fun r s' hr => ⟨hr.1, wpAny_bind (wpAny_holding (wpAny_point (wpAny_pure ?_)))⟩) fun _ _ x => x)
  obtain ⟨_, oe, vs, a1, a2, a3, a4, a5, a6⟩ := hr
  exact ⟨e, oe, vs, rfl, a1, a2, a3, a4, a5, a6⟩
end
end PySem
namespace PySem.W
open PySem PySem.Spec PySem.Calls PyProof.Rows
open Builtin Builtin.ObjectAttr
def excOut (K : Frag) (C : Addr) (bmB : List Value) (newId : String) : Bool := match K.lookup C with
  | some ⟨.type "type", _, .cls cd, sl⟩ => (match cd.mro, sl.toList with
    | .ref C' :: bm, [_, _, _, _, some (.builtin n), _] => C' == C && n == newId && !cd.hasDel && tailIn K bmB bm && nsOkIn K cd.ns
    | _, _ => false)
  | _ => false
def strip : List Value → List Value
  | .ref _ :: r => strip r
  | l => l
theorem refuse_strip (self : Value) : ∀ {l bm : List Value}, strip l = bm → refuseLoop self "__setattr__" bm = pure () → refuseLoop self "__setattr__" l = pure ()
  | [], _, e, h => by rw [show ([] : List Value) = _ from e]; exact h
  | .ref c :: r, _, e, h => by rw [refuseLoop_ref]; exact refuse_strip self (l := r) e h
  | .type n :: r, _, e, h => by rw [show (Value.type n :: r) = _ from e]; exact h
  | .none :: r, _, e, h => by rw [show (Value.none :: r) = _ from e]; exact h
  | .bool b :: r, _, e, h => by rw [show (Value.bool b :: r) = _ from e]; exact h
  | .int i t :: r, _, e, h => by rw [show (Value.int i t :: r) = _ from e]; exact h
  | .float i t :: r, _, e, h => by rw [show (Value.float i t :: r) = _ from e]; exact h
  | .str i t :: r, _, e, h => by rw [show (Value.str i t :: r) = _ from e]; exact h
  | .bytes i t :: r, _, e, h => by rw [show (Value.bytes i t :: r) = _ from e]; exact h
  | .builtin n :: r, _, e, h => by rw [show (Value.builtin n :: r) = _ from e]; exact h
  | .ellipsis :: r, _, e, h => by rw [show (Value.ellipsis :: r) = _ from e]; exact h
  | .notImplemented :: r, _, e, h => by rw [show (Value.notImplemented :: r) = _ from e]; exact h
structure XSt (K : Frag) (C : Addr) (f : Str) : Prop where
  sa : findIn K (.ref C) "__setattr__" = some (some (.builtin "object.__setattr__"))
  st : ∃ cd, clsIn K C = some cd ∧ strip cd.mro = [.type "ValueError", .type "Exception", .type "BaseException", .type "object"] ∧ cd.hasDict = true ∧ cd.mro.contains (.type "object") = true ∧ cd.mro.isEmpty = false
  no : findIn K (.ref C) f = some none
section
variable {prog : Program} {w : World} {A : Around} {E : Value → Shared → Prop} {s : Shared} {K : Frag} {x C : Addr} {ox : Obj} {vs : Array Value} {name : Str} {v : Value}
theorem set_new {Q : Unit → Shared → Prop} (X : K.In s.heap) (c : XSt K C name) (hx : s.heap.get? x = some ox) (hcl : ox.cls = .ref C) (hdn : ox.dict = none) (hdt : ox.data = .fields vs)
    (h : ∀ h' t', (∀ b o, b ≠ x → s.heap.get? b = some o → h'.get? b = some o) → h'.get? x = some { ox with dict := some s.heap.objs.size } → h'.Ns1 s.heap.objs.size (fun y => if y = name then some v else none) → Q () { s with heap := h', toks := t' }) :
    wpAny (model prog w) A (setAttr (.ref x) name v) Q E s := by
  obtain ⟨cd, hc, hst, hhd, hob, hne⟩ := c.st
  obtain ⟨oc, od, dt, sl⟩ := ox
  dsimp only at hcl hdn hdt
  subst hcl hdn hdt
  have J : InstAt s.heap x ⟨.ref C, none, .fields vs, sl⟩ C none := ⟨hx, rfl, rfl, trivial⟩
  obtain ⟨hh, g, d, t, os⟩ := s
  have SF := PySem.F.store_object
  refine set_plain X J c.sa ?_
  have sub : Looks (model prog w) hh (isInstance (.ref x) (.type "object")) true := J.type.andThen (looks_mroIn X (by unfold mroIn; rw [hc, Option.bind_some, if_neg (by rw [hne]; decide), hob]))
  refine codeAny_call_builtin SF.slot.plain SF.entry (@check_slot (model prog w) _ _ _ "object.__setattr__" "object" "__setattr__" (.ref x) [.str name t, v] [] _ SF.kind SF.split sub (SF.args (.ref x) (.str name t) v) ?_)
  have hm : Looks (model prog w) hh (mroOf (.ref C)) cd.mro := (looks_clsIn X hc).andThen .now
  rw [osa_eq, refuse_eq]
  refine wpAny_bind (wpAny_bind (J.type.at (wpAny_bind (hm.at ?_))))
  rw [refuse_strip _ hst (PySem.F.store_ValueError.passes _)]
  refine wpAny_pure (wpAny_bind (J.type.at (wpAny_bind ((looks_findIn X c.no).at (wpAny_bind (wpAny_pure ?_))))))
  have hx₁ : (hh.push { cls := .type "dict", data := .dict #[] }).get? x = some ⟨.ref C, none, .fields vs, sl⟩ := Heap.get?_push_of_some _ hx
  have hxs : x ≠ hh.objs.size := Nat.ne_of_lt (Heap.lt_size hx)
  show wpAny _ _ (storeInOwnDict (.ref x) (.ref C) (.str name t) name v false) _ _ _
  refine wpAny_bind (wpAny_pure (wpAny_bind (wpAny_bind (wpAny_loadPart hx ?_))))
  refine wpAny_bind ((looks_clsIn X hc).at ?_)
  rw [if_neg (by rw [hhd]; decide)]
  dsimp only
  rw [if_neg (by simp [typeHasDict])]
  refine wpAny_bind (wpAny_alloc' ?_)
  refine wpAny_bind (wpAny_update' hx₁ ?_)
  refine wpAny_pure ?_
  have hgd : ((hh.push { cls := .type "dict", data := .dict #[] }).update x fun o => { cls := o.cls, dict := some hh.objs.size, data := o.data, slots := o.slots }).get? hh.objs.size
      = some { cls := .type "dict", data := .dict #[] } :=
    (Heap.get?_update_ne _ _ _ _ hxs.symm).trans (Heap.get?_push_at rfl rfl)
  have hnd : ((hh.push { cls := .type "dict", data := .dict #[] }).update x fun o => { cls := o.cls, dict := some hh.objs.size, data := o.data, slots := o.slots }).Ns hh.objs.size (fun _ => none) :=
    ⟨_, #[], _, hgd, rfl, fun e he => absurd he (by simp), fun _ => rfl⟩
  show wpAny _ _ (storeInDict hh.objs.size (.str name t) name v) _ _ _
  unfold storeInDict newKeyGuard
  refine wpAny_bind (wpAny_pure (wpAny_bind (wpAny_nsSet1 (Heap.Ns1.of_empty hnd) fun h' hn' hs => ?_)))
  obtain ⟨oD, esD, epD, hoD, hdD, hcD⟩ := hn'.count (Within.cons name v Within.nil)
  refine wpAny_bind (wpAny_lookBehind hoD (by rw [hdD]; exact pastItsLine_dict (Nat.le_trans hcD (by rw [List.length_cons, List.length_nil, sizeLine_eq]; omega))) ?_)
  refine wpAny_pure (h h' _ (fun b o hb e => (hs.2 b (Nat.ne_of_lt (Heap.lt_size e))).trans ((Heap.get?_update_ne _ _ _ _ hb).trans (Heap.get?_push_of_some _ e))) ?_ hn')
  exact (hs.2 x hxs).trans (Heap.get?_update_self _ hx₁ rfl)
end
end PySem.W
set_option Elab.async false
set_option linter.all false
set_option maxRecDepth 100000
namespace L2
open PySem PySem.Spec PyProof.Rows
structure XOut (K : PySem.W.Frag) (C : Addr) (bmB : List Value) (newId : String) : Prop where
  exc : PySem.W.excOut K C bmB newId = true
theorem XOut.obj {K : PySem.W.Frag} {C : Addr} {bmB : List Value} {newId : String} {h : Heap} (c : XOut K C bmB newId) (X : K.In h) : ∃ bm N nm q bs hdct sn sub ab col dd k0 k1 k2 k3 k5,
    h.get? C = some (excClassObj nm q C N bs bm hdct sn sub ab col dd k0 k1 k2 k3 k5 newId) ∧ OwnTail h bmB bm ∧ ∃ dd' cd sl, K.lookup C = some ⟨.type "type", dd', .cls cd, sl⟩ ∧ cd.mro = .ref C :: bm := by
  have q := c.exc
  unfold PySem.W.excOut at q
  cases hl : K.lookup C with
  | none => rw [hl] at q; cases q
  | some ob =>
    rw [hl] at q
    split at q
    · rename_i dd cd sl e
      cases e
      split at q
      · rename_i C' bm k0 k1 k2 k3 n k5 hm hs
        simp only [Bool.and_eq_true, beq_iff_eq, Bool.not_eq_true'] at q
        obtain ⟨⟨⟨⟨rfl, rfl⟩, hdel⟩, ht⟩, hok⟩ := q
        have ho := X _ _ hl
        have hsl : sl = #[k0, k1, k2, k3, some (.builtin n), k5] := Array.toList_inj.mp hs
        subst hsl
        obtain ⟨nm, bs, mro, ns, qn, hd, sn, sub, ab, col, del⟩ := cd
        dsimp only at hm hdel hok ho
        subst hm hdel
        exact ⟨bm, ns, nm, qn, bs, hd, sn, sub, ab, col, dd, k0, k1, k2, k3, k5, ho, PySem.W.tail_of_in X ht, dd, _, _, rfl, rfl⟩
      · cases q
    · cases q
def FrAt (ea : Addr) (cls : Value) (od : Option Addr) (h : Heap) : Prop := ∃ o vs, h.get? ea = some o ∧ o.cls = cls ∧ o.dict = od ∧ o.data = .fields vs ∧ vs[1]? = some .none
abbrev xn (ea : Addr) (cls : Value) (od : Option Addr) : HO := .ext (FrAt ea cls od)
theorem frAt_stay {ea : Addr} {cls : Value} {od : Option Addr} : ∀ h1 h2 : Heap, FrAt ea cls od h1 → (∀ o, h1.get? ea = some o → h2.get? ea = some o) → FrAt ea cls od h2 :=
  fun h1 h2 ⟨o, ws, e1, e2, e3, e4, e5⟩ k => ⟨o, ws, k o e1, e2, e3, e4, e5⟩
section
variable {X : Cx} {o value : Expr} {f : Str} {pos pos' : Pos} {ta tv : TE}
def sXSet (K : PySem.W.Frag) (ta tv : TE) (f : Str) : TS := fun D σ H => tv σ H fun y H1 => ta σ H1 fun x H2 => ∃ a C, x = .ref a ∧ H2 a = some (xn a (.ref C) none) ∧ PySem.W.XSt K C f ∧
  ∀ d, H2 d = none → D.nx σ (upd (upd H2 d (.xd [(f, y)])) a (xn a (.ref C) (some d)))
theorem ps_xset (ha : PE X o ta) (hv : PE X value tv) (hs : swapsWith value (some (.Attribute o f pos')) pos.line X.env = pure false) : PS X (.Assign [.Attribute o f pos'] value pos) (sXSet X.K ta tv f) := by
  intro pins s σ H D I h
  refine plainObj_wpAny_Assign_Attribute (thn (hv pins s σ H _ I h) fun u s1 ⟨y, H1, I1, ry, q⟩ => thn (ha pins s1 σ H1 _ I1 q) fun ov s2 ⟨x, H2, I2, rx, a, C, ex, ea, c, q2⟩ => ?_) hs
  subst ex
  obtain rfl : ov = Value.ref a := rx
  obtain ⟨⟨ob, ws, e1, e2, e3, e4, e5⟩, _, _⟩ := (show ObjOk X.prog X.w H2 s2.heap a (xn a (.ref C) none) from I2.hok a _ ea)
  refine PySem.W.set_new I2.kIn c e1 e2 e3 e4 fun h' t' hk hx hn => ?_
  have hfr : H2 s2.heap.objs.size = none := I2.hok.fresh (Nat.le_refl _)
  have hne : s2.heap.objs.size ≠ a := Nat.ne_of_gt (Heap.lt_size e1)
  have oa : (h'.update a fun _ => ob).get? a = some ob := Heap.get?_update_self _ hx (Obj.isFreed_of_fields e4)
  have oo : ∀ b, b ≠ a → (h'.update a fun _ => ob).get? b = h'.get? b := fun b hb => Heap.get?_update_other _ _ (Ne.symm hb)
  have I3 : Inv X pins σ (upd H2 s2.heap.objs.size (.xd [(f, y)])) { s2 with heap := h'.update a fun _ => ob, toks := t' } := I2.laid (fun b u z => by
      by_cases hb : b = a
      · subst hb; rw [e1] at z; cases z; exact oa
      · rw [oo b hb]; exact hk b u hb z) (Nat.le_refl _) ⟨_, hn.at fun o z => (oo _ hne).trans z, fun g => ?_⟩
  · have I4 := I3.write (x := a) (e := a) (o := xn a (.ref C) (some s2.heap.objs.size)) (h' := h') (t' := t') (by rw [upd_ne (Ne.symm hne), ea]; exact True.intro) (.inl rfl) (fun b u hb z => by rw [← oo b hb]; exact z) ⟨_, hx⟩ ⟨⟨_, ws, hx, e2, rfl, e4, e5⟩, ⟨_, hx⟩, frAt_stay⟩
    exact ⟨σ, _, I4, q2 _ hfr⟩
  · show RelO (List.lookup g [(f, y)]) (if g = f then some u else none)
    by_cases z : g = f
    · have hb : (g == f) = true := beq_iff_eq.mpr z
      simp only [List.lookup, hb, if_pos z]
      exact ry
    · have hb : (g == f) = false := beq_eq_false_iff_ne.mpr z
      simp only [List.lookup, hb, if_neg z]
      exact True.intro
end
def sp_init (C : Addr) (fn : Str) : Sp := fun vs H Q _ => ∃ a v, vs = [.ref a, v] ∧ H a = some (xn a (.ref C) none) ∧ ∀ d, H d = none → Q .non (upd (upd H d (.xd [(fn, v)])) a (xn a (.ref C) (some d)))
def delH (H : Hp) (e : Addr) : Hp := fun b => if b = e then none else H b
theorem delH_ne {H : Hp} {e b : Addr} (h : b ≠ e) : delH H e b = H b := by unfold delH; rw [if_neg h]
theorem delH_same {H : Hp} {e : Addr} : delH H e e = none := by unfold delH; rw [if_pos rfl]
def MakesI (X : Cx) (E : XK) : Prop := ∀ (pins : List (Addr × Obj)) (σ : St) (H2 : Hp) (s2 : Shared) (hm : Heap) (H3 : Hp) (s3 : Shared) (e C : Addr) (od : Option Addr), Inv X pins σ H2 s2 → Inv X pins σ H3 s3 → s2.heap.get? e = none →
  (∀ b o, s2.heap.get? b = some o → hm.get? b = some o) → Un (frs X.stack) [] (upd H2 e (xn e (.ref C) none)) H3 hm s3.heap → s3.os = s2.os → H3 e = some (xn e (.ref C) od) → E (.ref C) od (delH H3 e) → X.xe (.ref e) s3
section
variable {P : Program} {w : World} {K : PySem.W.Frag} {mg : Str → Option Value} {base : Heap} {N : List Str} {qual : Str} {scope : Scope} {f : Addr} {cd : Value} {A : Around} {outer : List Env} {s : Shared} {H : Hp} {E E1 : XK}
theorem makesI_up (hE : ∀ c d H', E1 c d H' → E c d H') : MakesI (cxOf (CX1 P w) P w K mg base N qual scope f cd A outer s H E) E1 := by
  intro pins σ H2 s2 hm H3 s3 e C od I2 I3 new keep un os3 he3 q
  obtain ⟨⟨oe, vs, g1, g2, g3, g4, g5⟩, _, _⟩ := (show ObjOk P w H3 s3.heap e (xn e (.ref C) od) from I3.hok e _ he3)
  have ne : ∀ b o, s2.heap.get? b = some o → b ≠ e := fun b o z y => by rw [y, new] at z; cases z
  have h2e : H2 e = none := by
    cases z : H2 e with
    | none => rfl
    | some o =>
      obtain ⟨ob, hob⟩ := (I2.hok e o z).there
      rw [new] at hob
      cases hob
  have hin : ∀ env ∈ (cxOf (CX1 P w) P w K mg base N qual scope f cd A outer s H E).stack, ∀ b, env.frame = some b → b ∈ e :: frs (cxOf (CX1 P w) P w K mg base N qual scope f cd A outer s H E).stack := fun env he b hb => .tail _ (List.mem_filterMap.mpr ⟨env, he, hb⟩)
  have hff := PySem.W.funFrames_hide I3.stack hin
  have u0 : ∀ b, b ≠ e → H2 b = none → upd H2 e (xn e (.ref C) none) b = none := fun b hb n => by rw [upd_ne hb]; exact n
  have fly0 : Fly0 P w (cxOf (CX1 P w) P w K mg base N qual scope f cd A outer s H E).stack H2 s2 (PySem.W.hideAll s3.heap (e :: frs (cxOf (CX1 P w) P w K mg base N qual scope f cd A outer s H E).stack)) (delH H3 e) s3 := by
    refine ⟨fun b o z => PySem.W.of_hideAll _ z, hff, ⟨fun b o z n hb _ => un.keep b o (keep b o z) (u0 b (ne b o z) n) hb (by simp), fun b o z n hb _ => un.slot b o (keep b o z) (u0 b (ne b o z) n) hb (by simp), fun b o z n _ => ?_, fun b o z _ => un.there b o (keep b o z) (by simp), fun b xs z => ?_, fun b o y z => ?_, fun b ps z => ?_⟩, fun b o z => ?_, fun b o z => ?_, fun b o z hb => ?_, os3, I3.bare⟩
    · rw [delH_ne (ne b o z)]
      exact un.free b o (keep b o z) (u0 b (ne b o z) n) (by simp)
    · have hb : b ≠ e := ne_of_none z h2e
      rw [delH_ne hb]
      exact un.tups b xs (by rw [upd_ne hb]; exact z)
    · have hb : b ≠ e := ne_of_none z h2e
      rw [delH_ne hb]
      exact un.frzs b o y (by rw [upd_ne hb]; exact z)
    · have hb : b ≠ e := ne_of_none z h2e
      rw [delH_ne hb]
      exact un.tbls b ps (by rw [upd_ne hb]; exact z)
    · have hb : b ≠ e := fun y => by rw [y, delH_same] at z; cases z
      rw [delH_ne hb] at z
      exact (I3.hok b o z).stay (fun _ _ _ y => y) (fun c y => by rw [delH_ne (fun x => by rw [x, he3] at y; cases y)]; exact y) fun c xs y => by rw [delH_ne (fun x => by rw [x, he3] at y; cases y)]; exact y
    · have hb : b ≠ e := fun y => by rw [y, delH_same] at z; cases z
      rw [delH_ne hb] at z
      obtain ⟨ob, hob⟩ := (I3.hok b o z).there
      refine ⟨ob, PySem.W.hideAll_get _ hob fun hm => ?_⟩
      rcases List.mem_cons.mp hm with y | y
      · exact hb y
      · rw [I3.stkFree b y] at z; cases z
    · obtain ⟨o', z'⟩ := un.there b o (keep b o z) (by simp)
      refine ⟨o', PySem.W.hideAll_get _ z' fun hm => ?_⟩
      rcases List.mem_cons.mp hm with y | y
      · exact ne b o z y
      · exact hb y
  have newB : (PySem.W.hideAll s3.heap (e :: frs (cxOf (CX1 P w) P w K mg base N qual scope f cd A outer s H E).stack)).get? e = none := PySem.W.hideAll_none _ (List.mem_cons_self ..)
  refine leaveD0 (s := s3) I3.ok.frames fly0.ff rfl g1 fly0.st newB g4 g5 fun h' fl2 up => ?_
  rw [g2, g3] at fl2
  exact ⟨e, .ref C, od, _, delH H3 e, rfl, Fly0.up I2 rfl rfl rfl rfl rfl fly0 fl2 up, delH_same, hE _ _ _ q⟩
end
structure XI (P : Program) (w : World) (K : PySem.W.Frag) (mg : Str → Option Value) (base : Heap) (k : Nat) (C : Addr) (fn : Str) : Prop where
  ex : ∃ (bm bmN : List Value) (newId Bn inN B nid initId : String) (fI : Addr) (fd : FuncData) (ps : List Str), XOut K C bm newId ∧ ExcBaseFacts Bn newId inN bmN ∧ bm.contains (.type Bn) = true ∧ ExcBaseFacts B nid initId bm ∧
    PySem.W.findIn K (.ref C) "__init__" = some (some (.ref fI)) ∧ PySem.W.typeIn K (.ref fI) = some (.type "function") ∧ FnOk P w K mg base CX0 k fI fd ps (sp_init C fn) ∧ Binds K fd ps []
section
variable {X : Cx} {x : Str} {np cpos pos : Pos} {e₀ : Expr} {t : TA} {C : Addr} {fn : Str} {k : Nat} {E : XK}
def tRaiseI (C : Addr) (fn : Str) (E : XK) (t : TA) : TS := fun _ σ H => t σ H fun vs H1 => vs.length ≤ sizeLine ∧ ∃ v, vs = [v] ∧ ∀ d, H1 d = none → E (.ref C) (some d) (upd H1 d (.xd [(fn, v)]))
theorem ps_raiseI (c : XI X.prog X.w X.K X.mg X.base k C fn) (hr : Room (k + 1) X.A) (hc : X.calm = true) (hg : Gl X x) (hm : X.mg x = some (.ref C)) (hx : MakesI X E) (ha : PA X [e₀] t)
    (hd : (x == ("__debug__" : Str)) = false := by decide +kernel) (he : starEach [e₀] X.env = (false, eval e₀ X.env) :: starEach [] X.env := by rfl) (hpl : (backTo cpos (starEach [] X.env)).any (·.1) = false := by rfl) :
    PS X (.Raise (some (.Call (.Name x np) [e₀] [] cpos)) none pos) (tRaiseI C fn E t) := by
  obtain ⟨bmB, bmN, newId, Bn, inN, B, nid, initId, fI, fd, ps, c1, c2, c3, c4, hi, hf, F, hb⟩ := c.ex
  intro pins s σ H D I h
  obtain ⟨tl, N, nm, q, bs, hdct, sn, sub, ab, col, dd, k0, k1, k2, k3, k5, hC, T, _⟩ := c1.obj I.mod.kin
  refine Raise_call_initU (K := X.K) (fI := fI) (C := C) (nm := nm) (q := q) (N := N) (bs := bs) (bm := tl) (hdct := hdct) (sn := sn) (sub := sub) (ab := ab) (col := col) (dd := dd) (k0 := k0) (k1 := k1) (k2 := k2) (k3 := k3) (k5 := k5)
    c2 c3 c4 (T.hasType c4.hasBase) (I.ok.hd hc) (by rw [he]; show (false || (backTo cpos (starEach [] X.env)).any (·.1)) = false; rw [hpl]; rfl) hi hf (ld_glob I hg hm ⟨rfl, ?_⟩ hd)
  rw [he]
  have ha' := ha cpos pins s σ H _ I h
  rw [he] at ha'
  refine Calls.evalArgs_plain (wpAny_mono ha' (fun us s₂ ⟨vs, H1, I1, r1, z, v, ev, q1⟩ => ⟨rfl, by rw [← r1.length]; exact z, I1.bk _ _ hC, I1.kIn, T.keeps I1.bk, fun h' e hx' => ?_⟩) fun _ _ y => y)
  subst ev
  obtain ⟨u, rfl, ru⟩ := r1.one
  obtain ⟨t0, he0, ht0, htt⟩ := hx'.there
  have ne : ∀ b o, s₂.heap.get? b = some o → b ≠ e := fun b o z y => by rw [y, hx'.new] at z; cases z
  have h1e : H1 e = none := by
    cases z : H1 e with
    | none => rfl
    | some o =>
      obtain ⟨ob, hob⟩ := (I1.hok e o z).there
      rw [hx'.new] at hob
      cases hob
  have Im : Inv X pins σ (upd H1 e (xn e (.ref C) none)) { s₂ with heap := h' } := by
    refine I1.call' (s' := { s₂ with heap := h' }) (ch := []) rfl ⟨fun b o z _ _ _ => hx'.keeps b o z, fun b o z _ _ _ => ⟨o.slots, hx'.keeps b o z⟩, fun b o z n _ => by rw [upd_ne (ne b o z)]; exact n, fun b o z _ => ⟨o, hx'.keeps b o z⟩, fun b xs z => by rw [upd_ne (ne_of_none z h1e)]; exact z, fun b o y z => by rw [upd_ne (ne_of_none z h1e)]; exact z, fun b ps z => ⟨#[], by rw [upd_ne (ne_of_none z h1e), z]; simp⟩⟩ (fun b o z => ?_) I1.bare (fun b z => absurd z (by simp))
    by_cases hb : b = e
    · subst hb
      rw [upd_same] at z
      cases z
      exact ⟨⟨_, _, he0, rfl, rfl, rfl, rfl⟩, ⟨_, he0⟩, frAt_stay⟩
    · rw [upd_ne hb] at z
      exact (I1.hok b o z).stay (fun c u _ y => hx'.keeps c u y) (fun c y => by rw [upd_ne (ne_of_none y h1e)]; exact y) fun c xs y => by rw [upd_ne (ne_of_none y h1e)]; exact y
  have hsp : sp_init C fn [.ref e, v] (upd H1 e (xn e (.ref C) none)) (fun r H3 => r = .non ∧ ∃ d, H3 e = some (xn e (.ref C) (some d)) ∧ E (.ref C) (some d) (delH H3 e)) (fun _ _ _ => False) := by
    refine ⟨e, v, rfl, upd_same, fun d hd' => ⟨rfl, d, upd_same, ?_⟩⟩
    have hde : d ≠ e := fun y => by rw [y, upd_same] at hd'; cases hd'
    rw [upd_ne hde] at hd'
    have ee : delH (upd (upd (upd H1 e (xn e (.ref C) none)) d (.xd [(fn, v)])) e (xn e (.ref C) (some d))) e = upd H1 d (.xd [(fn, v)]) := by
      funext b
      by_cases hb : b = e
      · rw [hb, delH_same, upd_ne (Ne.symm hde)]; exact h1e.symm
      · rw [delH_ne hb, upd_ne hb]
        by_cases hbd : b = d
        · rw [hbd, upd_same, upd_same]
        · rw [upd_ne hbd, upd_ne hb, upd_ne hbd]
    rw [ee]
    exact q1 d hd'
  have hl : ([Value.ref e, u] ++ []).length = ps.length := (F.len _ _ _ _ hsp : [V.ref e, v].length = ps.length)
  have r2 : Vals [V.ref e, v] [Value.ref e, u] := .cons rfl (.cons ru .nil)
  refine wpAny_call (codeAny_mono (F.run _ X.stack _ _ ⟨[.ref e, u], []⟩ [.ref e, u] _ _ _ (hr.make C [u] []) (Im.env0.make C [u] []) (hb _ [Value.ref e, u] Im.kIn hl) r2 hsp) fun r s' hq' => ?_)
  cases r with
  | error ev => exact False.elim hq'
  | ok fl =>
    cases fl with
    | ret u' =>
      obtain ⟨v', H3, os3, bare3, un3, hok3, rv, ev, d, he3, qE⟩ := hq'
      subst ev
      have I3 := Im.call' (ch := []) os3 un3 hok3 bare3 (fun b z => absurd z (by simp))
      obtain ⟨⟨oe, ws, g1, g2, g3, g4, g5⟩, _, _⟩ := (show ObjOk X.prog X.w H3 s'.heap e (xn e (.ref C) (some d)) from I3.hok e _ he3)
      exact ⟨rv, oe, ws, I3.bk _ _ hC, g1, g2, g4, g5, hx pins σ H1 s₂ h' H3 s' e C (some d) I1 I3 hx'.new hx'.keeps un3 os3 he3 qE⟩
    | next => exact False.elim hq'
    | brk => exact False.elim hq'
    | cont => exact False.elim hq'
end
section
variable {X : Cx} {P : Program} {w : World} {e tg : Expr} {tx : TX} {g : TG} {i : Nat} {n x : Str} {D : Addr} {bmD : List Value} {nD : String} {b₀ : Stmt} {suite : List Stmt} {apos pos hpos np : Pos} {ts : Addr → TS}
def tTryAsO (K : PySem.W.Frag) (D : Addr) (tx : TX) (g : TG) (i : Nat) (ts : Addr → TS) : TS := fun De σ H =>
  tx σ H (fun v H1 => g v σ H1 De.nx) (fun cls od H' => ∃ C bm nid, cls = .ref C ∧ XOut K C bm nid ∧ Under K C D ∧ ∀ ea, H' ea = none →
    ts ea { nx := fun σ2 H2 => De.nx (σ2.set i none) H2, rt := De.rt, bk := fun σ2 H2 => De.bk (σ2.set i none) H2, ct := fun σ2 H2 => De.ct (σ2.set i none) H2 } (σ.set i (some (.ref ea))) (upd H' ea (xo ea (.ref C) od)))
end
section
variable {X : Cx} {pins : List (Addr × Obj)} {σ : St} {H : Hp} {s : Shared}
end
end L2
namespace PySem.W
open PySem PySem.Spec PySem.Calls PyProof.Rows
section
variable {prog : Program} {w : World} {A : Around} {E : Value → Shared → Prop} {s : Shared} {K : Frag} {x D : Addr} {ox : Obj} {odo : Option Obj} {name : Str}
end
end PySem.W
namespace L2
open PySem PySem.Spec PyProof.Rows
section
variable {X : Cx} {e : Expr} {ta : TE} {f : Str} {pos : Pos}
def tXFld (K : PySem.W.Frag) (ta : TE) (f : Str) : TE := fun σ H Q => ta σ H fun x H1 => ∃ a C d fs v, x = .ref a ∧ H1 a = some (xo a (.ref C) (some d)) ∧ H1 d = some (.xd fs) ∧ fs.lookup f = some v ∧ PySem.W.XTy K C ∧ PySem.W.hasDictIn K C = true ∧ NoAttr K C f ∧ Q v H1
end
end L2
set_option Elab.async false
set_option linter.all false
set_option maxRecDepth 100000
namespace SpM
open PySem
def step (c : Nat) (rows : List (List Nat)) (d : Nat) : List (List Nat) := if d = c then rows ++ [[]] else rows.dropLast ++ [rows.getLastD [] ++ [d]]
def parts (c : Nat) (x : List Nat) : List (List Nat) := x.foldl (step c) [[]]
end SpM
set_option Elab.async false
set_option linter.all false
namespace SpM
end SpM
set_option Elab.async false
set_option linter.all false
set_option maxRecDepth 100000
namespace PyProof.Rows
open PySem PySem.Spec PySem.Builtin PySem.Builtin.Str
section
variable {prog : Program} {w : World} {A : Around} {E : Value → Shared → Prop} {s : Shared} {x y : Str} {t u : Tok} {Q : Value → Shared → Prop}
end
end PyProof.Rows
namespace L2
open PySem PySem.Spec PyProof.Rows QL
section
variable {X : Cx}
def rSplit : V → List V → Hp → VK → Prop := fun x xs H Q => ∃ z c, x = .str (tx z) ∧ xs = [.str ⟨#[c]⟩] ∧ z.length ≤ 1000 ∧ ∀ p, H p = none → Q (.ref p) (upd H p (.lst (rowsV (SpM.parts c z))))
end
end L2
set_option Elab.async false
set_option linter.all false
set_option maxRecDepth 100000
namespace L2
open PySem PySem.Spec PyProof.Rows
structure ClsFn (K : PySem.W.Frag) (C : Addr) (m : Str) (f : Addr) : Prop where
  sp : PySem.W.specialIn K (.ref C) "__getattribute__" = some (some (.builtin "type.__getattribute__"))
  rd : PySem.W.readsIn K C (.type "type") = true
  fi : PySem.W.findCls K (.ref C) (.type "type") m = some (.val (.ref f))
  kp : PySem.W.keepIn K (.ref f) = true
section
variable {X : Cx} {CX : CXT} {k : Nat} {f C : Addr} {fd : FuncData} {ps : List Str} {sp : Sp} {E : XK} {x m : Str} {p pos apos : Pos} {e : Expr} {es : List Expr} {t : TA}
theorem pe_clsfn {pl : Sem Bool} (c : ClsFn X.K C m f) (F : FnOk X.prog X.w X.K X.mg X.base CX k f fd ps sp) (hr : Room k X.A) (hg : Gl X x) (hm : X.mg x = some (.ref C)) (hb : Binds X.K fd ps []) (hx : Passes CX X E) (ha : PA X (e :: es) t)
    (hdb : (x == ("__debug__" : Str)) = false := by decide +kernel) (hst : starEach (e :: es) X.env = (false, eval e X.env) :: starEach es X.env := by rfl) (hpl : (backTo pos (starEach es X.env)).any (·.1) = false := by rfl)
    (ht : eval (.Call (.Attribute (.Name x p) m apos) (e :: es) [] pos) X.env = (do
      let ov ← eval (.Name x p) X.env
      standAt apos.atName
      let (f, first) ← holding [ov] (getMethod ov m pl)
      callWith pos f first (backTo pos (starEach (e :: es) X.env)) (backToKw pos (keywordEach [] X.env))) := by rfl) :
    PE X (.Call (.Attribute (.Name x p) m apos) (e :: es) [] pos) (tCall sp [] E t) := by
  intro pins s σ H Q I h
  refine PySem.W.methodCall_KW (pl := pl) (ld_glob I hg hm ?_ hdb) ht
  refine PySem.W.method_cls I.kIn c.sp (PySem.W.cls_value I.kIn c.rd c.fi rfl ?_)
  have I1 := I.tok (s.toks + 1)
  refine PySem.W.callWith_K (first := []) (h₀ := X.base) I.ok.mod.kin c.kp (thn (ha pos pins _ σ H _ I1 h) fun us s2 ⟨vs, H2, I2, r, q2⟩ => ⟨I2.kIn, ?_⟩) hst hpl
  exact run_fn F hr hb .nil hx I2 r q2
end
end L2
set_option Elab.async false
set_option linter.all false
set_option maxRecDepth 100000
namespace L2
open PySem PySem.Spec PyProof.Rows
section
variable (P : Program) (w : World) (K : PySem.W.Frag) (mg : Str → Option Value) (base : Heap) (CX : CXT)
structure CalC (k : Nat) (x m : Str) (ps : List Str) (sp : Sp) : Prop where
  ex : ∃ (C f : Addr) (fd : FuncData), FnOk P w K mg base CX k f fd ps sp ∧ mg x = some (.ref C) ∧ ClsFn K C m f ∧ Binds K fd ps []
structure CalK (k : Nat) (x : Str) (C : Addr) (ps : List Str) (sp : Sp) : Prop where
  ex : ∃ (f : Addr) (fd : FuncData), FnOk P w K mg base CX k f fd ps sp ∧ mg x = some (.ref C) ∧ Mk K C f ∧ Binds K fd ps []
structure CalM (k : Nat) (C : Addr) (m : Str) (ps : List Str) (sp : Sp) : Prop where
  ex : ∃ (f : Addr) (fd : FuncData), FnOk P w K mg base CX k f fd ps sp ∧ Cls K C ∧ Meth K C m f ∧ Binds K fd ps []
end
section
variable {X : Cx} {CX : CXT} {k : Nat} {C : Addr} {ps : List Str} {sp : Sp} {E : XK} {x m : Str} {p pos apos : Pos} {e o : Expr} {es : List Expr} {t : TA} {ta : TE}
theorem pe_calC {pl : Sem Bool} (c : CalC X.prog X.w X.K X.mg X.base CX k x m ps sp) (hr : Room k X.A) (hg : Gl X x) (hx : Passes CX X E) (ha : PA X (e :: es) t)
    (hdb : (x == ("__debug__" : Str)) = false := by decide +kernel) (hst : starEach (e :: es) X.env = (false, eval e X.env) :: starEach es X.env := by rfl) (hpl : (backTo pos (starEach es X.env)).any (·.1) = false := by rfl)
    (ht : eval (.Call (.Attribute (.Name x p) m apos) (e :: es) [] pos) X.env = (do
      let ov ← eval (.Name x p) X.env
      standAt apos.atName
      let (f, first) ← holding [ov] (getMethod ov m pl)
      callWith pos f first (backTo pos (starEach (e :: es) X.env)) (backToKw pos (keywordEach [] X.env))) := by rfl) :
    PE X (.Call (.Attribute (.Name x p) m apos) (e :: es) [] pos) (tCall sp [] E t) := by
  obtain ⟨C, f, fd, F, hm, cf, hb⟩ := c.ex
  exact pe_clsfn cf F hr hg hm hb hx ha hdb hst hpl ht
theorem pe_calK (c : CalK X.prog X.w X.K X.mg X.base CX k x C ps sp) (hr : Room (k + 1) X.A) (hg : Gl X x) (hx : Passes CX X E) (ha : PA X (e :: es) t)
    (hdb : (x == ("__debug__" : Str)) = false := by decide +kernel) (hst : starEach (e :: es) X.env = (false, eval e X.env) :: starEach es X.env := by rfl) (hpl : (backTo pos (starEach es X.env)).any (·.1) = false := by rfl) :
    PE X (.Call (.Name x p) (e :: es) [] pos) (tMake C sp [] E t) := by
  obtain ⟨f, fd, F, hm, M, hb⟩ := c.ex
  exact pe_make M F hr hg hm hb .nil hx ha hdb hst hpl
theorem pe_calM0 {pl : Sem Bool} (c : CalM X.prog X.w X.K X.mg X.base CX k C m ps sp) (hr : Room k X.A) (hx : Passes CX X E) (he : PE X o ta)
    (ht : eval (.Call (.Attribute o m apos) [] [] pos) X.env = (do
      let ov ← eval o X.env
      standAt apos.atName
      let (f, first) ← holding [ov] (getMethod ov m pl)
      callWith pos f first (backTo pos (starEach [] X.env)) (backToKw pos (keywordEach [] X.env))) := by rfl) :
    PE X (.Call (.Attribute o m apos) [] [] pos) (tMeth C m sp [] E ta tNil) := by
  obtain ⟨f, fd, F, cl, hm, hb⟩ := c.ex
  exact pe_meth0 he cl hm F hr hb .nil hx ht
end
end L2
set_option Elab.async false
set_option linter.all false
set_option maxRecDepth 100000
namespace L2
open PySem PySem.Spec PyProof.Rows
section
variable {g : TG} {ti : TT} {te : TE} {σ : St} {H : Hp} {Q : List V → Hp → Prop}
theorem comp_str {x : Str} (Pv : Nat → List V → St → Hp → Prop) (h0 : Pv 0 [] σ H) (hz : ∀ i acc σ H, Pv i acc σ H → acc.length < sizeLine) (hi : ∀ i acc σ H, Pv i acc σ H → i ≤ x.cps.size)
    (hs : ∀ i c acc σ H, x.cps[i]? = some c → Pv i acc σ H → g (.str ⟨#[c]⟩) σ H fun σ2 H3 => ti σ2 H3 fun b H4 => if b = true then te σ2 H4 fun v H5 => Pv (i + 1) (acc ++ [v]) σ2 H5 else Pv (i + 1) acc σ2 H4)
    (he : ∀ acc σ H, Pv x.cps.size acc σ H → Q acc H) : CompW (Its x) g ti te σ H Q := by
  exact comp_by (J := Its x) (g := g) (ti := ti) (te := te) (Q := Q) (n := x.cps.size) Pv h0 hz hi (fun acc σ H w => Nat.le_refl _) (fun i acc σ H hlt w => hlt)
    (fun i v acc σ H H2 hlt w y => by obtain ⟨rfl, c, hc, rfl⟩ := y; exact hs i c acc σ H2 hc w) he
end
section
variable {X : Cx} {e : Expr} {tx : TX} {i : Nat} {n x : Str} {D : Addr} {bmD : List Value} {nD : String} {b₀ : Stmt} {suite : List Stmt} {epos pos hpos np : Pos} {ts : Addr → TS}
def tTryEx (K : PySem.W.Frag) (D : Addr) (tx : TX) (i : Nat) (ts : Addr → TS) : TS := fun De σ H =>
  tx σ H (fun _ H1 => De.nx σ H1) (fun cls od H' => ∃ C bm nid, cls = .ref C ∧ XCls K C bm nid ∧ Under K C D ∧ ∀ ea, H' ea = none →
    ts ea { nx := fun σ2 H2 => De.nx (σ2.set i none) H2, rt := De.rt, bk := fun σ2 H2 => De.bk (σ2.set i none) H2, ct := fun σ2 H2 => De.ct (σ2.set i none) H2 } (σ.set i (some (.ref ea))) (upd H' ea (xo ea (.ref C) od)))
end
end L2
set_option Elab.async false
set_option linter.all false
set_option maxRecDepth 100000
namespace L2
open PySem PySem.Spec PyProof.Rows
section
variable (P : Program) (w : World) (K : PySem.W.Frag) (mg : Str → Option Value) (base : Heap) (CX : CXT)
structure CalP (k : Nat) (m : Str) (os : List (Addr × Sp)) : Prop where
  ex : ∀ o ∈ os, ∃ ps, CalM P w K mg base CX k o.1 m ps o.2
end
def tMethP (m : Str) (os : List (Addr × Sp)) (E : XK) (ta : TE) (t : TA) : TE := fun σ H Q => ta σ H fun x H1 => ∃ o ∈ os, ∃ a dx fs, x = .ref a ∧ H1 a = some (.ins o.1 dx fs) ∧ fs.lookup m = none ∧
  t σ H1 fun vs H2 => o.2 (x :: (vs ++ [])) H2 Q E
section
variable {X : Cx} {CX : CXT} {k : Nat} {os : List (Addr × Sp)} {E : XK} {m : Str} {pos apos : Pos} {e o : Expr} {es : List Expr} {t : TA} {ta : TE}
theorem pe_calP {pl : Sem Bool} (c : CalP X.prog X.w X.K X.mg X.base CX k m os) (hr : Room k X.A) (hx : Passes CX X E) (he : PE X o ta) (ha : PA X (e :: es) t)
    (hst : starEach (e :: es) X.env = (false, eval e X.env) :: starEach es X.env := by rfl) (hpl : (backTo pos (starEach es X.env)).any (·.1) = false := by rfl)
    (ht : eval (.Call (.Attribute o m apos) (e :: es) [] pos) X.env = (do
      let ov ← eval o X.env
      standAt apos.atName
      let (f, first) ← holding [ov] (getMethod ov m pl)
      callWith pos f first (backTo pos (starEach (e :: es) X.env)) (backToKw pos (keywordEach [] X.env))) := by rfl) :
    PE X (.Call (.Attribute o m apos) (e :: es) [] pos) (tMethP m os E ta t) := by
  intro pins s σ H Q I h
  refine PySem.W.methodCall_KW (pl := pl) (thn (he pins s σ H _ I h) fun u s1 ⟨x, H1, I1, rx, oc, ho, a, dx, fs, ex, ea, l, q⟩ => ?_) ht
  subst ex
  obtain rfl : u = Value.ref a := rx
  obtain ⟨ps, cm⟩ := c.ex oc ho
  obtain ⟨f, fd, F, cl, hm, hb⟩ := cm.ex
  refine getmeth_ok I1 ea cl hm l ?_
  refine PySem.W.callWith_K (first := [.ref a]) (h₀ := X.base) I.ok.mod.kin hm.kp (thn (ha pos pins s1 σ H1 _ I1 q) fun us s2 ⟨vs, H2, I2, r, q2⟩ => ⟨I2.kIn, ?_⟩) hst hpl
  exact run_fn (us := .ref a :: us) (vs := .ref a :: vs) F hr hb .nil hx I2 (.cons rfl r) q2
theorem pe_calP0 {pl : Sem Bool} (c : CalP X.prog X.w X.K X.mg X.base CX k m os) (hr : Room k X.A) (hx : Passes CX X E) (he : PE X o ta)
    (ht : eval (.Call (.Attribute o m apos) [] [] pos) X.env = (do
      let ov ← eval o X.env
      standAt apos.atName
      let (f, first) ← holding [ov] (getMethod ov m pl)
      callWith pos f first (backTo pos (starEach [] X.env)) (backToKw pos (keywordEach [] X.env))) := by rfl) :
    PE X (.Call (.Attribute o m apos) [] [] pos) (tMethP m os E ta tNil) := by
  intro pins s σ H Q I h
  refine PySem.W.methodCall_KW (pl := pl) (thn (he pins s σ H _ I h) fun u s1 ⟨x, H1, I1, rx, oc, ho, a, dx, fs, ex, ea, l, q⟩ => ?_) ht
  subst ex
  obtain rfl : u = Value.ref a := rx
  obtain ⟨ps, cm⟩ := c.ex oc ho
  obtain ⟨f, fd, F, cl, hm, hb⟩ := cm.ex
  refine getmeth_ok I1 ea cl hm l ?_
  exact PySem.W.callWith_K0 (first := [.ref a]) I1.kIn hm.kp (run_fn (us := [.ref a]) (vs := [.ref a]) F hr hb .nil hx I1 (.cons rfl .nil) q)
end
structure ICls (K : PySem.W.Frag) (C : Addr) : Prop where
  cl : Cls K C
  ha : PySem.W.findIn K (.ref C) "__class__" = some (some (.builtin "object.__class__"))
  hn : PySem.W.specialIn K (.builtin "object.__class__") "__get__" = some (some (.builtin "getset_descriptor.__get__"))
  htk : PySem.W.takesIn K (.builtin "object.__class__") = some true
  hm : PySem.W.mroIn K C (.type "object") = some true
theorem ICls.ty {K : PySem.W.Frag} {C a dx : Addr} {H : Hp} {fs : List (Str × V)} (i : ICls K C) (e : H a = some (.ins C dx fs)) : TyOf K H (.ref a) (.ref C) := .ins e i.cl i.ha i.hn i.htk i.hm
def tMethX (m : Str) (os : List (Addr × Sp)) (ta : TE) (t : TA) : TX := fun σ H Q E => ta σ H fun x H1 => ∃ o ∈ os, ∃ a dx fs, x = .ref a ∧ H1 a = some (.ins o.1 dx fs) ∧ fs.lookup m = none ∧
  t σ H1 fun vs H2 => o.2 (x :: vs) H2 Q E
section
variable {X : Cx} {CX : CXT} {k : Nat} {os : List (Addr × Sp)} {m : Str} {pos apos : Pos} {e o : Expr} {es : List Expr} {t : TA} {ta : TE}
end
section
variable {X : Cx} {es : List Expr} {t : TA}
theorem pa_consS {x j p} (hr : PA X es t) : PA X (.Constant (.str x) j p :: es) (tCons (tC (.str x)) t) := pa_cons pe_str hr rfl
theorem pa_consI {x j p} (hr : PA X es t) : PA X (.Constant (.int x) j p :: es) (tCons (tC (.int x)) t) := pa_cons pe_int hr rfl
end
end L2
set_option Elab.async false
set_option linter.all false
set_option maxRecDepth 100000
namespace PyProof.Rows
open PySem PySem.Spec PySem.Builtin PySem.Builtin.Str
section
variable {prog : Program} {w : World} {A : Around} {E : Value → Shared → Prop} {s : Shared} {x y : Str} {t u : Tok} {Q : Value → Shared → Prop}
end
end PyProof.Rows
namespace L2
open PySem PySem.Spec PyProof.Rows QL
section
variable {X : Cx}
def rPart : V → List V → Hp → VK → Prop := fun x xs H Q => ∃ z y, x = .str z ∧ xs = [.str y] ∧ (y.length == 0) = false ∧ z.length ≤ sizeLine ∧ ∀ p, H p = none → Q (.ref p) (upd H p (.tup [.str (Txt.partition z y).1, .str (Txt.partition z y).2.1, .str (Txt.partition z y).2.2]))
def rStarts : V → List V → Hp → VK → Prop := fun x xs H Q => ∃ z y, x = .str z ∧ xs = [.str y] ∧ Q (.bl (Txt.startswith z y)) H
def rEnds : V → List V → Hp → VK → Prop := fun x xs H Q => ∃ z y, x = .str z ∧ xs = [.str y] ∧ Q (.bl (Txt.endswith z y)) H
end
theorem vals_of : ∀ (xs : List V) (us : List Value), xs.length = us.length → (∀ (j : Nat) (x : V) (u : Value), xs[j]? = some x → us[j]? = some u → RelV x u) → Vals xs us
  | [], [], _, _ => .nil
  | x :: xs, u :: us, hl, h => .cons (h 0 x u rfl rfl) (vals_of xs us (by simpa using hl) fun j y v e1 e2 => h (j + 1) y v (by simpa using e1) (by simpa using e2))
section
variable {X : Cx}
def rIntT : List V → Hp → VK → Prop := fun xs H Q => ∃ z n, xs = [.str z] ∧ PySem.intText? z = some n ∧ z.length ≤ 640 ∧ Q (.int n) H
def rListS : List V → Hp → VK → Prop := fun xs H Q => ∃ z, xs = [.str z] ∧ z.length ≤ sizeLine ∧ ∀ l, H l = none → Q (.ref l) (upd H l (.lst (z.cps.toList.map fun c => V.str ⟨#[c]⟩)))
end
end L2
set_option Elab.async false
set_option linter.all false
set_option maxRecDepth 100000
namespace L2
open PySem PySem.Spec PyProof.Rows
section
variable {X : Cx} {pins : List (Addr × Obj)} {σ : St} {H : Hp} {s : Shared} {a : Addr} {kvs : List (Key × V)} {k : Key} {u r : Value} {d : V} {A : Around} {E : Value → Shared → Prop}
theorem d_setdef {Q : Value → Shared → Prop} (I : Inv X pins σ H s) (e : H a = some (.dK kvs)) (ry : RelV (kV k) u) (rd : RelV d r) (hl : kvs.length < sizeLine)
    (h1 : ∀ v w' s', valV kvs k = some v → Inv X pins σ H s' → RelV v w' → Q w' s') (h2 : valV kvs k = none → ∀ s', Inv X pins σ (upd H a (.dK (putK kvs k d))) s' → Q r s') :
    wpAny (model X.prog X.w) A (call (.builtin "dict.setdefault") [.ref a, u, r]) Q E s := by
  obtain ⟨z, hd, vs, rel, dd⟩ := dk_of I.hok e
  have hz : vs.length ≤ sizeLine := by rw [← rel.length]; exact z
  have hl' : (putK kvs k d).length ≤ sizeLine := by have := length_putK kvs k d; omega
  refine call_meetsIn PySem.F.slot_dict_setdefault dd.typeIs PySem.F.entry_dict_setdefault (PySem.F.args_dict_setdefault_3 _ _ _) (kt_meets_setdefault (mixKind X.prog X.w) a (kV_is ry) hd r) ⟨vs, dd, hz, fun v hv => ?_, fun hn h' dd' hs => ?_⟩
  · have q := rel.val k
    rw [hv] at q
    cases hvv : valV kvs k with
    | none => rw [hvv] at q; exact False.elim q
    | some v0 => rw [hvv] at q; exact h1 v0 v _ hvv (I.tok _) q
  · have q := rel.val k
    rw [hn] at q
    have hvv : valV kvs k = none := by
      cases hvv : valV kvs k with
      | none => rfl
      | some v0 => rw [hvv] at q; exact False.elim q
    have he : ∃ q, h'.get? a = some q := let ⟨q, _, _, hq, _⟩ := dd'; ⟨q, hq⟩
    exact h2 hvv _ (d_write I (by rw [e]; exact True.intro) hs he (dk_new hl' hd (rel.put k rd) dd'))
end
def tDSetdef (td ty tx : TE) : TE := fun σ H Q => td σ H fun x H1 => ∃ a, x = .ref a ∧ IsD H1 a ∧ ty σ H1 fun y H2 => tx σ H2 fun z H3 => ∃ kvs k, H3 a = some (.dK kvs) ∧ y = kV k ∧ kvs.length < sizeLine ∧
  (∀ v, valV kvs k = some v → Q v H3) ∧ (valV kvs k = none → Q z (upd H3 a (.dK (putK kvs k z))))
section
variable {X : Cx} {o e f : Expr} {apos cpos : Pos} {td ty tx : TE}
theorem pe_dsetdef (ho : PE X o td) (he : PE X e ty) (hf : PE X f tx) (m : M2 X o "setdefault" apos e f cpos) : PE X (.Call (.Attribute o "setdefault" apos) [e, f] [] cpos) (tDSetdef td ty tx) := by
  intro pins s σ H Q I h
  refine wpAny_Call_method m.base m.few m.line PySem.F.plainAttrs_dict PySem.F.slot_dict_setdefault PySem.F.type_dict_setdefault (thn (ho pins s σ H _ I h) fun u s1 ⟨x, H1, I1, rx, a, ex, d, q1⟩ => ?_)
  subst ex
  obtain rfl : u = Value.ref a := rx
  obtain ⟨t1, t2, _⟩ := isD_at I1 d
  refine ⟨t1, t2, ?_⟩
  rw [m.trees]
  refine Calls.callWith_builtin rfl (Calls.evalArgs_plain (Calls.spliced_cons (thn (he pins s1 σ H1 _ I1 q1) fun iv s2 ⟨y, H2, I2, ry, q2⟩ =>
    Calls.spliced_cons (thn (hf pins s2 σ H2 _ I2 q2) fun fv s3 ⟨z, H3, I3, rz, kvs, k, hH, ey, hlen, g1, g2⟩ => Calls.spliced_nil ?_))))
  subst ey
  exact d_setdef I3 hH ry rz hlen (fun v w' s4 hv I4 rv => ⟨v, H3, I4, rv, g1 v hv⟩) fun hn s4 I4 => ⟨z, _, I4, rz, g2 hn⟩
end
end L2
set_option Elab.async false
set_option linter.all false
set_option maxRecDepth 100000
namespace L2
open PySem PySem.Spec PyProof.Rows
theorem is_kV {P : Program} {w : World} {k : Key} {u : Value} (h : (mixKind P w).is k u = true) : RelV (kV k) u := by
  rcases keyIs_shape (show keyIs k u = true from h) with ⟨i, t, rfl, rfl⟩ | ⟨x, t, rfl, rfl⟩ <;> exact ⟨_, rfl⟩
section
variable {X : Cx}
def rListD : List V → Hp → VK → Prop := fun xs H Q => ∃ a kvs, xs = [.ref a] ∧ H a = some (.dK kvs) ∧ ∀ l, H l = none → Q (.ref l) (upd H l (.lst (kvs.map fun kv => kV kv.1)))
theorem call_listD (hc : X.calm = true) : CallR X (.type "list") rListD := by
  intro pins s σ H xs us Q I r h
  obtain ⟨a, kvs, rfl, e, q⟩ := h
  obtain ⟨u, rfl, ru⟩ := vals1 r
  obtain rfl : u = Value.ref a := ru
  obtain ⟨z, hd, vs, rel, dd⟩ := dk_of I.hok e
  obtain ⟨ep, da⟩ := dd.dictAt
  have hz : vs.length ≤ sizeLine := by rw [← rel.length]; exact z
  refine PySem.W.kdl_call (PySem.W.kdl_dict hd) (I.ok.hd hc) da hz fun h' tk acc' c' hk hS hacc => ?_
  have hv : Vals (kvs.map fun kv => kV kv.1) acc'.toList := by
    refine vals_of _ _ (by rw [List.length_map]; simp [hacc.1, rel.length]) fun j x u e1 e2 => ?_
    obtain ⟨k, w, hc2, hi⟩ := hacc.2 j u (by simpa using e2)
    have hm : (kvs.map fun kv => kV kv.1) = (vs.map (·.1)).map kV := by rw [← rel.keys, List.map_map]; rfl
    rw [hm, List.getElem?_map, List.getElem?_map, hc2] at e1
    cases e1
    exact is_kV hi
  exact ⟨.ref s.heap.objs.size, upd H s.heap.objs.size (.lst (kvs.map fun kv => kV kv.1)), I.laid (t' := tk) hk (Nat.le_refl _) ⟨by rw [List.length_map]; exact z, acc'.toList, c', hv, by simpa using hS⟩, rfl, q _ (I.hok.fresh (Nat.le_refl _))⟩
end
end L2
set_option Elab.async false
set_option linter.all false
set_option maxRecDepth 100000
namespace L2
open PySem PySem.Spec PyProof.Rows
section
variable {K : Type} [DecidableEq K]
def metStep (σ : List K) (v : K) : List K := if v ∈ σ then σ else σ ++ [v]
def met (l : List K) : List K := l.foldl metStep []
theorem metStep_mem (σ : List K) (v k : K) : decide (k ∈ metStep σ v) = (decide (k ∈ σ) || decide (k = v)) := by
  unfold metStep
  by_cases h : v ∈ σ
  · rw [if_pos h]
    by_cases e : k = v
    · subst e; simp [h]
    · simp [e]
  · rw [if_neg h]
    simp [List.mem_append]
theorem metStep_len (σ : List K) (v : K) : (metStep σ v).length = if decide (v ∈ σ) then σ.length else σ.length + 1 := by
  unfold metStep
  by_cases h : v ∈ σ <;> simp [h]
theorem met_snoc (l : List K) (v : K) : met (l ++ [v]) = metStep (met l) v := by unfold met; rw [List.foldl_append]; rfl
theorem fold_le : ∀ (l σ : List K), (l.foldl metStep σ).length ≤ σ.length + l.length
  | [], σ => Nat.le_refl _
  | v :: l, σ => by
    have h := fold_le l (metStep σ v)
    have e := metStep_len σ v
    rw [List.foldl_cons, List.length_cons]
    split at e <;> omega
theorem met_le (n : Nat) (l : List K) (h : l.length = n) : (met l).length ≤ n := by
  have := fold_le l []
  rw [← h]; unfold met; simpa using this
end
section
variable {prog : Program} {w : World} {K : Type} [DecidableEq K] {knd : KeyKind prog w K} {A : Around} {R : Result → Shared → Prop} {I : Addr} {fp wr : List Addr} {G : Array GenState → Array GenState → Prop} {n : Nat} {P : Nat → Value → Prop} {St : Nat → Shared → Prop}
theorem setLoop (W : WalksS prog w A.in1 I fp wr G n P St) (S : Addr) (hSf : S ∉ fp) (l : List K) (hl : l.length = n)
    (hval : ∀ i v, P i v → ∃ k, l[i]? = some k ∧ knd.is k v = true ∧ v.scannable = true) (hb : n + 1 < scanBound) :
    ∀ (k i : Nat) (s : Shared), n - i = k → i ≤ n → St i s →
      s.heap.SetOf knd S (fun k' => decide (k' ∈ met (l.take i))) (met (l.take i)).length →
      (∀ s', Moved (S :: wr) G s s' → s'.heap.SetOf knd S (fun k' => decide (k' ∈ met l)) (met l).length → R (.ok (.ret .none)) s') →
      codeAny (model prog w) A (.builtin "set.update.loop" ⟨[.ref S, .ref I], []⟩) R s := by
  have hSw : S ∉ wr := fun h => hSf (W.sub _ h)
  have hsub : ∀ b ∈ wr, b ∈ S :: wr := fun b hb => List.mem_cons_of_mem _ hb
  intro k
  induction k with
  | zero =>
    intro i s hk hi hst hS hR
    have hin : i = n := by omega
    subst hin
    rw [← hl, List.take_length] at hS
    refine codeAny_builtin F.entry_set_update_loop ?_
    rw [Around.under_plainId F.plain_set_update_loop _]
    show wpAny _ A.in1 (pyNext (.ref I) >>= _) _ _ s
    refine wpAny_bind (W.done s _ _ hst fun s' hm => ?_)
    show wpAny _ A.in1 (ret Value.none) _ _ s'
    refine wpAny_pure (hR s' (hm.mono hsub) ?_)
    obtain ⟨o, es, ep, t, ho, rest⟩ := hS
    exact ⟨o, es, ep, t, hm.heap S _ hSw ho, rest⟩
  | succ k ih =>
    intro i s hk hi hst hS hR
    have hlt : i < n := by omega
    refine codeAny_builtin F.entry_set_update_loop ?_
    rw [Around.under_plainId F.plain_set_update_loop _]
    show wpAny _ A.in1 (pyNext (.ref I) >>= _) _ _ s
    refine wpAny_bind (W.item i s _ _ hlt hst fun v s' hP hst' hm => ?_)
    obtain ⟨key, hkey, his, hsc⟩ := hval i v hP
    have hS' : s'.heap.SetOf knd S (fun k' => decide (k' ∈ met (l.take i))) (met (l.take i)).length := by
      obtain ⟨o, es, ep, tb, ho, rest⟩ := hS
      exact ⟨o, es, ep, tb, hm.heap S _ hSw ho, rest⟩
    show wpAny _ A.in1 (holding [v] (setAdd S v) >>= _) _ _ s'
    refine wpAny_bind (wpAny_holding ?_)
    unfold setAdd
    refine wpAny_holding ?_
    refine wpAny_bind (knd.pyHash (k := key) his ?_)
    have hroom : (met (l.take i)).length + 1 < scanBound := by have := met_le i (l.take i) (by rw [List.length_take]; omega); omega
    refine wpAny_setAddHashed_of (knd := knd) (s := { s' with toks := s'.toks + 1 }) his hsc hS' hroom fun h' hsb hS2 => ?_
    have ht : l.take (i + 1) = l.take i ++ [key] := by rw [List.take_add_one, hkey]; rfl
    have hSi : h'.SetOf knd S (fun k' => decide (k' ∈ met (l.take (i + 1)))) (met (l.take (i + 1))).length :=
      SetOf_congr hS2 (fun k' => by rw [ht, met_snoc, metStep_mem]) (by rw [ht, met_snoc, metStep_len])
    refine wpAny_pure ⟨plainId_quiet F.plain_set_update_loop _, ih (i + 1) _ (by omega) hlt (W.frame _ s' _ _ hst' (Nat.le_succ _) fun b hb o e => ?_) hSi fun s'' hm'' hS'' => ?_⟩
    · rw [hsb.2 b (fun h : b = S => hSf (by rw [← h]; exact hb))]; exact e
    · refine hR s'' (Moved.trans W.gtrans ((hm.mono hsub).then_heap (Nat.le_succ _) fun b o hb e => ?_) hm'') hS''
      rw [hsb.2 b (fun h : b = S => hb (by rw [h]; exact List.mem_cons_self))]; exact e
end
end L2
set_option Elab.async false
set_option linter.all false
set_option maxRecDepth 100000
namespace L2
open PySem PySem.Spec PyProof.Rows
def signsOf (z : Str) : List Str := z.cps.toList.map fun c => (⟨#[c]⟩ : Str)
section
variable {prog : Program} {w : World} {A : Around} {E : Value → Shared → Prop} {s : Shared}
set_option maxHeartbeats 3200000 in
theorem call_set_text {x : Str} {t : Tok} {Q : Value → Shared → Prop} (hh : A.handled = none) (hb : x.cps.size + 1 < scanBound)
    (h : ∀ (h' : Heap) (tk : Nat), h'.SetOf (strKind prog w) s.heap.objs.size (fun k' => decide (k' ∈ met (signsOf x))) (met (signsOf x)).length →
      (∀ b o, s.heap.get? b = some o → h'.get? b = some o) → Q (.ref s.heap.objs.size) { s with heap := h', toks := tk }) :
    wpAny (model prog w) A (call (.type "set") [.str x t]) Q E s := by
  obtain ⟨c, tl, hmro⟩ := PySem.F.called_set.mro
  have hmade := PySem.F.called_set.made
  have hsub := PySem.F.called_set.sub
  refine wpAny_call (codeAny_of_tree ?_)
  show wpAny _ _ (callAny (.type "set") _) _ _ _
  refine wpAny_pure ⟨Code.quiet_builtin _ (by decide +kernel), codeAny_builtin PySem.F.entry_type_call ?_⟩
  rw [Around.under_plain (weight_type_call_type "set" [.str x t] []) rfl]
  have h1 := PySem.F.called_set.notType
  have h2 := PySem.F.called_set.canCreate
  have hct := PySem.F.typeCall_set_1 (.str x t)
  repeat (any_goals (first | assumption | wp_step))
  refine codeAny_mono (code_set_new_1 (.str x t) (E := E) (Q₁ := fun obj s₁ => ∃ led : Bool, obj = .ref s.heap.objs.size ∧ s₁ = { s with heap := s.heap.push { cls := .type "set", dict := none, data := .set #[] 0 (.fresh 0 0 led) } }) fun led => ⟨led, rfl, rfl⟩) fun r s₁ hr => ?_
  cases r with
  | error e => exact hr
  | ok fl =>
    cases fl with
    | ret obj =>
      obtain ⟨led, rfl, rfl⟩ := hr
      have hS : (s.heap.push { cls := .type "set", dict := none, data := .set #[] 0 (.fresh 0 0 led) }).get? s.heap.objs.size = some { cls := .type "set", dict := none, data := .set #[] 0 (.fresh 0 0 led) } := Heap.get?_push_size _ rfl
      have hT : Shared.TypeIs { s with heap := s.heap.push { cls := .type "set", dict := none, data := .set #[] 0 (.fresh 0 0 led) } } (.ref s.heap.objs.size) "set" := ⟨_, hS, rfl⟩
      have hli := PySem.F.called_set.init.lookup
      have hbi := PySem.F.called_set.init.bind (.ref s.heap.objs.size)
      repeat (any_goals (first | assumption | wp_step))
      refine codeAny_mono (codeAny_call_builtin (R := wants (fun r s₂ => r = .none ∧ ∃ h' tk, s₂ = { s with heap := h', toks := tk } ∧
          h'.SetOf (strKind prog w) s.heap.objs.size (fun k' => decide (k' ∈ met (signsOf x))) (met (signsOf x)).length ∧
          (∀ b o, s.heap.get? b = some o → h'.get? b = some o)) E) PySem.F.called_set.init.plain PySem.F.entry_set_init (check_set_init_1 hT ?_)) fun r₂ s₂ hr₂ => ?_
      · have hsls := PySem.F.sub_str_set
        have hslf := PySem.F.sub_str_frozenset
        have hne : (Value.type "str" == Value.type "dict") = false := by decide
        unfold Builtin.«set.__init__» noKeywords Builtin.Frozenset.updateFrom
        generalize hPI : pyIter = PI
        wp_walk
        subst hPI
        refine wpAny_pyIter_str fun o St W hst => ?_
        refine wpAny_bind (wpAny_runValue ?_)
        have hSf : s.heap.objs.size ∉ [(s.heap.push { cls := .type "set", dict := none, data := .set #[] 0 (.fresh 0 0 led) }).objs.size] := by
          rw [Heap.size_push]; simp only [List.mem_singleton]
          exact Nat.ne_of_lt (Nat.lt_succ_self _)
        refine setLoop (knd := strKind prog w) ((W _ (by simp [hh])).toS) s.heap.objs.size hSf (signsOf x) (by simp [signsOf])
          (fun i v ⟨c, u, hc, hv⟩ => ⟨⟨#[c]⟩, by unfold signsOf; rw [List.getElem?_map, Array.getElem?_toList, hc]; rfl, by rw [hv]; exact strKind_is _ _ _ _, by rw [hv]; rfl⟩) hb (x.cps.size - 0) 0 _ (by omega) (Nat.zero_le _) hst ?hS0 ?hR
        case hS0 =>
          exact SetOf_congr ((setObjOf_fresh (knd := strKind prog w) led).setOf (Heap.get?_push_of_some _ hS) (by unfold scanBound; omega)) (fun _ => rfl) rfl
        case hR =>
          intro s' hm hS'
          obtain ⟨h', g', d', tk', os'⟩ := s'
          have eg : g' = s.gens := hm.gens
          have ed : d' = s.drawn := hm.drawn
          have eo : os' = s.os := hm.os
          subst eg; subst ed; subst eo
          show wpAny _ _ _ _ _ _
          refine wpAny_pure ?_
          show wpAny _ _ (ret Value.none) _ _ _
          refine wpAny_pure ⟨rfl, h', tk', rfl, hS', fun b o' e => ?_⟩
          have hb := Heap.lt_size e
          refine hm.heap b o' ?_ (Heap.get?_push_of_some _ (Heap.get?_push_of_some _ e))
          simp only [List.mem_cons, List.not_mem_nil, or_false, not_or, Heap.size_push]
          exact ⟨Nat.ne_of_lt hb, Nat.ne_of_lt (Nat.lt_succ_of_lt hb)⟩
      · cases r₂ with
        | error e => exact hr₂
        | ok fl₂ =>
          cases fl₂ with
          | ret r =>
            obtain ⟨rfl, h', tk, rfl, hS', hk'⟩ := hr₂
            repeat (any_goals (first | assumption | wp_step))
            exact h _ _ hS' hk'
          | _ => exact hr₂.elim
    | _ => exact hr.elim
end
def tLenSet (t : TE) : TE := fun σ H Q => t σ H fun x H1 => ∃ z, x = .str z ∧ z.cps.size + 1 < scanBound ∧ Q (.int (met (signsOf z)).length) H1
section
variable {X : Cx} {e : Expr} {t : TE} {p p2 pos pos2 : Pos}
theorem pe_lenset (hc : X.calm = true) (ha : PE X e t) (g1 : Gl X "len") (m1 : X.mg "len" = none) (g2 : Gl X "set") (m2 : X.mg "set" = none)
    (he1 : starEach [.Call (.Name "set" p2) [e] [] pos2] X.env = [(false, eval (.Call (.Name "set" p2) [e] [] pos2) X.env)] := by rfl)
    (he2 : starEach [e] X.env = [(false, eval e X.env)] := by rfl) :
    PE X (.Call (.Name "len" p) [.Call (.Name "set" p2) [e] [] pos2] [] pos) (tLenSet t) := by
  intro pins s σ H Q I h
  have hl : bootBuiltins "len" = some (.builtin "len") := by decide +kernel
  have hs : bootBuiltins "set" = some (.type "set") := by decide +kernel
  refine wpAny_Call_Name_kw (ld_blt I g1 m1 hl ?_)
  refine PyProof.Rows.callWith_builtin1 ?_ he1 rfl
  rw [he1]
  show wpAny _ _ (spliced [(false, eval (.Call (.Name "set" p2) [e] [] pos2) X.env)]) _ _ _
  refine Calls.spliced_cons ?_
  refine wpAny_Call_Name_kw (ld_blt (I.tok _) g2 m2 hs ?_)
  refine PyProof.Rows.callWith_type1 ?_ he2 rfl
  rw [he2]
  show wpAny _ _ (spliced [(false, eval e X.env)]) _ _ _
  refine Calls.spliced_cons (thn (ha pins _ σ H _ (I.tok _) h) fun u s1 ⟨x, H1, I1, rx, z, ex, hz, q⟩ => Calls.spliced_nil ?_)
  subst ex
  obtain ⟨tk, rfl⟩ := rx
  refine call_set_text (I.ok.hd hc) hz fun h' tk' hS hk => Calls.spliced_nil ?_
  obtain ⟨o, ho, hex, es, ep, tb, hd, _, _, hn, hf⟩ := hS.objOf
  have hle := met_le z.cps.size (signsOf z) (by simp [signsOf])
  have hb : z.cps.size < 4096 := by unfold scanBound at hz; omega
  refine call_len_set ho hex hd hf (by rw [hn]; have : ((4096:Nat):Int) < 2^63 := by decide
                                       omega) ?_
  rw [hn]
  exact ⟨.int _, H1, (I1.kept (t' := _) hk), ⟨_, rfl⟩, q⟩
end
end L2
set_option Elab.async false
set_option linter.all false
set_option maxRecDepth 100000
namespace L2
open PySem PySem.Spec PyProof.Rows
abbrev NT := List (Str × Addr × List Nat)
def ntK (t : NT) : List (Key × V) := t.map fun x => (Sum.inr x.1, V.ref x.2.1)
def ntI (ns : List Nat) : List V := ns.map fun (n : Nat) => V.int (n : Int)
structure NumsAt (H : Hp) (p : Addr) (t : NT) : Prop where
  dict : H p = some (.dK (ntK t))
  list : ∀ x ∈ t, H x.2.1 = some (.lst (ntI x.2.2))
  apart : (t.map (·.2.1)).Nodup
theorem NumsAt.grow {H H' : Hp} {p : Addr} {t : NT} (N : NumsAt H p t) (k : ∀ a o, H a = some o → H' a = some o) : NumsAt H' p t := ⟨k _ _ N.dict, fun x hx => k _ _ (N.list x hx), N.apart⟩
theorem nt_val (z : Str) : ∀ t : NT, valV (ntK t) (.inr z) = (t.find? fun x => decide (x.1 = z)).map fun x => V.ref x.2.1
  | [] => rfl
  | x :: t => by
    have ih := nt_val z t
    unfold ntK at ih ⊢
    rw [List.map_cons, List.find?_cons]
    by_cases e : x.1 = z
    · rw [valV_pos (by rw [e])]; simp [e]
    · rw [valV_neg (fun h => e (Sum.inr.inj h)), ih]; simp [e]
theorem NumsAt.new {H : Hp} {p l : Addr} {t : NT} {z : Str} (N : NumsAt H p t) (hl : H l = none) (hz : valV (ntK t) (.inr z) = none) :
    NumsAt (upd (upd H l (.lst [])) p (.dK (putK (ntK t) (.inr z) (.ref l)))) p (t ++ [(z, l, [])]) := by
  have hpl : p ≠ l := fun e => by have := N.dict; rw [e, hl] at this; exact nomatch this
  have hx : ∀ x ∈ t, x.2.1 ≠ l ∧ x.2.1 ≠ p := fun x hx => by
    have q := N.list x hx
    constructor
    · intro e; rw [e, hl] at q; exact nomatch q
    · intro e; rw [e, N.dict] at q; exact nomatch q
  refine ⟨?_, fun x h => ?_, ?_⟩
  · rw [upd_same, putK_new _ hz]; unfold ntK; rw [List.map_append]; rfl
  · rcases List.mem_append.mp h with h | h
    · rw [upd_ne (hx x h).2, upd_ne (hx x h).1]; exact N.list x h
    · rw [List.mem_singleton.mp h, upd_ne (Ne.symm hpl), upd_same]; rfl
  · rw [List.map_append]
    refine List.nodup_append.mpr ⟨N.apart, by simp, fun a ha b hb => ?_⟩
    obtain ⟨x, h1, rfl⟩ := List.mem_map.mp ha
    rw [List.map_singleton] at hb
    rw [List.mem_singleton.mp hb]
    exact (hx x h1).1
theorem NumsAt.put {H : Hp} {p : Addr} {t : NT} {i k : Nat} {x : Str × Addr × List Nat} (N : NumsAt H p t) (hi : t[i]? = some x) :
    NumsAt (upd H x.2.1 (.lst (ntI (x.2.2 ++ [k])))) p (t.set i (x.1, x.2.1, x.2.2 ++ [k])) := by
  have hm : x ∈ t := List.mem_of_getElem? hi
  have hp : p ≠ x.2.1 := fun e => by have := N.list x hm; rw [← e, N.dict] at this; exact nomatch this
  have hlt : i < t.length := (List.getElem?_eq_some_iff.mp hi).1
  have hk : ntK (t.set i (x.1, x.2.1, x.2.2 ++ [k])) = ntK t := by
    unfold ntK
    apply List.ext_getElem?
    intro j
    rw [List.getElem?_map, List.getElem?_map, List.getElem?_set]
    by_cases e : i = j
    · subst e; rw [if_pos rfl, if_pos hlt, hi]; rfl
    · rw [if_neg e]
  have ha : (t.set i (x.1, x.2.1, x.2.2 ++ [k])).map (·.2.1) = t.map (·.2.1) := by
    apply List.ext_getElem?
    intro j
    rw [List.getElem?_map, List.getElem?_map, List.getElem?_set]
    by_cases e : i = j
    · subst e; rw [if_pos rfl, if_pos hlt, hi]; rfl
    · rw [if_neg e]
  refine ⟨by rw [upd_ne hp, hk]; exact N.dict, fun y hy => ?_, by rw [ha]; exact N.apart⟩
  obtain ⟨j, hj⟩ := List.mem_iff_getElem?.mp hy
  rw [List.getElem?_set] at hj
  by_cases e : i = j
  · rw [if_pos e, if_pos hlt] at hj
    cases hj
    exact upd_same
  · rw [if_neg e] at hj
    have hne : y.2.1 ≠ x.2.1 := by
      intro q
      have h1 : (t.map (·.2.1))[i]? = some x.2.1 := by rw [List.getElem?_map, hi]; rfl
      have h2 : (t.map (·.2.1))[j]? = some x.2.1 := by rw [List.getElem?_map, hj]; simp [q]
      exact e ((List.getElem?_inj (List.getElem?_eq_some_iff.mp h1).1 N.apart).mp (h1.trans h2.symm))
    rw [upd_ne hne]
    exact N.list y (List.mem_of_getElem? hj)
end L2
set_option Elab.async false
set_option linter.all false
set_option maxRecDepth 100000
namespace L2
open PySem PySem.Spec PyProof.Rows
def ntM (t : NT) : List (Str × List Nat) := t.map fun x => (x.1, x.2.2)
def ntName (m : List (Str × List Nat)) (z : Str) : List (Str × List Nat) := if z ∈ m.map (·.1) then m else m ++ [(z, [])]
theorem nt_there {t : NT} {z : Str} {v : V} (h : valV (ntK t) (.inr z) = some v) : ∃ (i : Nat) (x : Str × Addr × List Nat), t[i]? = some x ∧ x.1 = z ∧ v = .ref x.2.1 := by
  rw [nt_val] at h
  cases hf : t.find? (fun x => decide (x.1 = z)) with
  | none => rw [hf] at h; exact nomatch h
  | some x =>
    rw [hf] at h
    have hv : V.ref x.2.1 = v := Option.some.inj h
    obtain ⟨i, hi⟩ := List.mem_iff_getElem?.mp (List.mem_of_find?_eq_some hf)
    have hz := List.find?_some hf
    exact ⟨i, x, hi, of_decide_eq_true hz, hv.symm⟩
theorem nt_keys (t : NT) : (ntM t).map (·.1) = t.map (·.1) := by unfold ntM; rw [List.map_map]; rfl
theorem nt_not {t : NT} {z : Str} (h : valV (ntK t) (.inr z) = none) : ¬ z ∈ (ntM t).map (·.1) := by
  intro m
  rw [nt_keys] at m
  obtain ⟨x, hx, e⟩ := List.mem_map.mp m
  refine valV_not h (List.mem_map.mpr ⟨(.inr x.1, .ref x.2.1), List.mem_map.mpr ⟨x, hx, rfl⟩, ?_⟩)
  show (Sum.inr x.1 : Key) = Sum.inr z
  rw [e]
theorem NumsAt.setdef {H : Hp} {p l : Addr} {t : NT} {z : Str} {Q : VK} (N : NumsAt H p t) (hl : H l = none) (hn : t.length < sizeLine)
    (h : ∀ (H' : Hp) (t' : NT) (i : Nat) (x : Str × Addr × List Nat), NumsAt H' p t' → t'[i]? = some x → x.1 = z → ntM t' = ntName (ntM t) z → (∀ y ∈ t', y ∈ t ∨ y.2.1 = l) → (∀ a o, a ≠ p → H a = some o → H' a = some o) → Q (.ref x.2.1) H') :
    ∃ kvs k, upd H l (.lst []) p = some (.dK kvs) ∧ V.str z = kV k ∧ kvs.length < sizeLine ∧ (∀ v, valV kvs k = some v → Q v (upd H l (.lst []))) ∧
      (valV kvs k = none → Q (.ref l) (upd (upd H l (.lst [])) p (.dK (putK kvs k (.ref l))))) := by
  have hpl : p ≠ l := fun e => by have := N.dict; rw [e, hl] at this; exact nomatch this
  have gr : ∀ a o, H a = some o → upd H l (.lst []) a = some o := fun a o e => by
    rw [upd_ne (fun q => by rw [q, hl] at e; exact nomatch e)]; exact e
  refine ⟨ntK t, .inr z, gr _ _ N.dict, rfl, by unfold ntK; rw [List.length_map]; exact hn, fun v hv => ?_, fun hz => ?_⟩
  · obtain ⟨i, x, hi, hx, rfl⟩ := nt_there hv
    refine h _ t i x (N.grow gr) hi hx ?_ (fun y hy => .inl hy) fun a o _ e => gr a o e
    have hm : z ∈ (ntM t).map (·.1) := by rw [nt_keys]; exact List.mem_map.mpr ⟨x, List.mem_of_getElem? hi, hx⟩
    unfold ntName; rw [if_pos hm]
  · refine h _ (t ++ [(z, l, [])]) t.length (z, l, []) (N.new hl hz) (by simp) rfl ?_ (fun y hy => (List.mem_append.mp hy).imp id fun q => by rw [List.mem_singleton.mp q]) fun a o ha e => by rw [upd_ne ha]; exact gr a o e
    unfold ntName; rw [if_neg (nt_not hz)]; unfold ntM; rw [List.map_append]; rfl
theorem ntM_set {t : NT} {i : Nat} {x : Str × Addr × List Nat} (k : Nat) : ntM (t.set i (x.1, x.2.1, x.2.2 ++ [k])) = (ntM t).set i (x.1, x.2.2 ++ [k]) := by
  unfold ntM; rw [List.map_set]
theorem ntName_nodup {m : List (Str × List Nat)} {z : Str} (h : (m.map (·.1)).Nodup) : ((ntName m z).map (·.1)).Nodup := by
  unfold ntName
  by_cases e : z ∈ m.map (·.1)
  · rw [if_pos e]; exact h
  · rw [if_neg e, List.map_append]
    refine List.nodup_append.mpr ⟨h, by simp, fun a ha b hb => ?_⟩
    rw [List.map_singleton] at hb
    rw [List.mem_singleton.mp hb]
    exact fun q => e ((show a = z from q) ▸ ha)
end L2
set_option Elab.async false
set_option linter.all false
set_option maxRecDepth 100000
namespace L2
open PySem PySem.Spec PyProof.Rows
section
variable {X : Cx} {K : PySem.W.Frag} {tg : Expr}
theorem pe_bmK {o e : Expr} {es : List Expr} {to : TE} {t : TA} {name : Str} {apos cpos : Pos} {T id : String} {r : V → List V → Hp → VK → Prop} (hK : X.K = K) (pa : PlainAttrs T) (slot : Slot T name id) (hty : typeOf (.builtin id) = pure (.type "method_descriptor")) (hm : MtR X id r) (ho : PE X o to) (ha : PA X (e :: es) t)
    (hbase : attributeBase o name X.env (eval o X.env) = eval o X.env := by rfl)
    (hfew : ((backTo cpos (starEach (e :: es) X.env)).all (fun x => !x.1) && (backToKw cpos (keywordEach [] X.env)).all (fun x => x.1.isSome)
      && decide ((e :: es).length + ([] : List Keyword).length + (if ([] : List Keyword).isEmpty then 0 else 1) < 30)) = true := by rfl)
    (hline : (apos.endLine == cpos.line) = true := by rfl) (hs : starEach (e :: es) X.env = (false, eval e X.env) :: starEach es X.env := by rfl) (hplain : (backTo cpos (starEach es X.env)).any (·.1) = false := by rfl) :
    PE X (.Call (.Attribute o name apos) (e :: es) [] cpos) (tBM K T r to t) := hK ▸ pe_bm pa slot hty hm ho ha hbase hfew hline hs hplain
theorem pi_revK {a : Expr} {ta : TA} {p pos : Pos} (hK : X.K = K) (hg : Gl X "reversed") (hm : X.mg "reversed" = none) (ha : PA X [a] ta) (hs : starEach [a] X.env = [(false, eval a X.env)] := by rfl) : PI X tg (.Call (.Name "reversed" p) [a] [] pos) (iRev K ta) := hK ▸ pi_rev hg hm ha hs
end
end L2
namespace QL
open PySem PySem.Spec PyProof.Rows
end QL
set_option Elab.async false
set_option linter.all false
set_option maxRecDepth 100000
namespace L2
open PySem PySem.Spec PyProof.Rows
section
variable {X : Cx} {CX : CXT} {k : Nat} {C : Addr} {ps : List Str} {sp : Sp} {x : Str} {p pos : Pos} {e : Expr} {es : List Expr} {t : TA}
def tMakeX (C : Addr) (sp : Sp) (t : TA) : TX := fun σ H Q E => t σ H fun vs H1 => ∀ x dx, H1 x = none → H1 dx = none → dx ≠ x → sp (.ref x :: vs) (upd (upd H1 dx (.own x)) x (.ins C dx [])) (fun v H2 => v = .non ∧ Q (.ref x) H2) E
end
theorem XCls.out {K : PySem.W.Frag} {C : Addr} {bm : List Value} {nid : String} (c : XCls K C bm nid) : XOut K C bm nid := by
  refine ⟨?_⟩
  have q := c.exc
  unfold PySem.W.excIn at q
  unfold PySem.W.excOut
  revert q
  cases K.lookup C with
  | none => exact fun q => q
  | some ob =>
    obtain ⟨ty, dd, data, sl⟩ := ob
    intro q
    split at q
    · rename_i e
      cases e
      split at q
      · rename_i hm hs
        simp only [hm, hs]
        simp only [Bool.and_eq_true] at q ⊢
        obtain ⟨⟨⟨⟨⟨a1, a2⟩, a3⟩, a4⟩, a5⟩, _⟩ := q
        exact ⟨⟨⟨⟨a1, a2⟩, a3⟩, a4⟩, a5⟩
      · cases q
    · cases q
section
variable {X : Cx} {e : Expr} {tx : TX} {i : Nat} {n x : Str} {D : Addr} {bmD : List Value} {nD : String} {b₀ : Stmt} {suite : List Stmt} {epos pos hpos np : Pos} {ts : Addr → TS}
def tTryExO (K : PySem.W.Frag) (D : Addr) (tx : TX) (i : Nat) (ts : Addr → TS) : TS := fun De σ H =>
  tx σ H (fun _ H1 => De.nx σ H1) (fun cls od H' => ∃ C bm nid, cls = .ref C ∧ XOut K C bm nid ∧ Under K C D ∧ ∀ ea, H' ea = none →
    ts ea { nx := fun σ2 H2 => De.nx (σ2.set i none) H2, rt := De.rt, bk := fun σ2 H2 => De.bk (σ2.set i none) H2, ct := fun σ2 H2 => De.ct (σ2.set i none) H2 } (σ.set i (some (.ref ea))) (upd H' ea (xo ea (.ref C) od)))
def tTryEx0 (K : PySem.W.Frag) (D : Addr) (tx : TX) (ts : Addr → TS) : TS := fun De σ H =>
  tx σ H (fun _ H1 => De.nx σ H1) (fun cls od H' => ∃ C bm nid, cls = .ref C ∧ XOut K C bm nid ∧ Under K C D ∧ ∀ ea, H' ea = none → ts ea De σ (upd H' ea (xo ea (.ref C) od)))
end
section
variable {X : Cx} {CX : CXT} {k : Nat} {C : Addr} {ps : List Str} {sp : Sp} {m : Str} {pos apos : Pos} {e o : Expr} {es : List Expr} {t : TA} {ta : TE}
end
section
variable {X : Cx}
def rCount : V → List V → Hp → VK → Prop := fun x xs H Q => ∃ z y, x = .str z ∧ xs = [.str y] ∧ Q (.int (Txt.count z y)) H
end
end L2
namespace CtM
open PySem PySem.Builtin PySem.Builtin.Str QL SpM
end CtM
set_option Elab.async false
set_option linter.all false
set_option maxRecDepth 100000
namespace L2
open PySem PySem.Spec PyProof.Rows QL
section
variable {K : PySem.W.Frag} {g : TG} {ti : TT} {te : TE} {σ : St} {H : Hp} {Q : List V → Hp → Prop} {α : Type}
theorem fm_some {as : List α} (f : α → V) : as.filterMap (fun x => some (f x)) = as.map f := by induction as with | nil => rfl | cons x xs ih => simp
theorem comp_rangeF {n : Nat} {f : Nat → Option V} (S : St → Prop) (h0 : S σ) (hn : n ≤ 1000000)
    (hs : ∀ i, i < n → ∀ σ H' (N1 : V → St → Hp → Prop) (N0 : St → Hp → Prop), S σ → Same H H' → (∀ v σ2 H2, f i = some v → Same H H2 → S σ2 → N1 v σ2 H2) → (∀ σ2 H2, f i = none → Same H H2 → S σ2 → N0 σ2 H2) →
      g (.int (0 + (i : Int))) σ H' fun σ2 H3 => ti σ2 H3 fun b H4 => if b = true then te σ2 H4 fun v H5 => N1 v σ2 H5 else N0 σ2 H4)
    (he : ∀ H', Same H H' → Q ((List.range n).filterMap f) H') : CompW (Itr 0 n) g ti te σ H Q := by
  refine comp_range (lo := 0) (n := n) (fun i acc σ H' => Same H H' ∧ acc = (List.range i).filterMap f ∧ i ≤ n ∧ S σ) ⟨fun _ _ e => e, rfl, Nat.zero_le _, h0⟩ ?_ ?_ ?_ ?_
  · rintro i acc σ H' ⟨_, rfl, hi, _⟩
    have := List.length_filterMap_le f (List.range i)
    rw [List.length_range] at this
    exact line_big (by omega)
  · rintro i acc σ H' ⟨_, _, h, _⟩
    exact h
  · rintro i acc σ H' hi ⟨sm, rfl, _, hS⟩
    refine hs i hi σ H' (fun v σ2 H5 => _) (fun σ2 H4 => _) hS sm (fun v σ2 H2 hf s2 hS2 => ⟨s2, ?_, hi, hS2⟩) (fun σ2 H2 hf s2 hS2 => ⟨s2, ?_, hi, hS2⟩)
    · rw [List.range_succ, List.filterMap_append]; simp [hf]
    · rw [List.range_succ, List.filterMap_append]; simp [hf]
  · rintro acc σ H' ⟨sm, rfl, _⟩
    exact he _ sm
end
end L2
set_option Elab.async false
set_option linter.all false
set_option maxRecDepth 100000
namespace L2
open PySem PySem.Spec PyProof.Rows QL
section
variable {X : Cx}
end
end L2
namespace ThM
open PySem L2
def addNew (ks : List Str) (z : Str) : List Str := if z ∈ ks then ks else ks ++ [z]
theorem mem_addNew {ks : List Str} {z y : Str} : y ∈ addNew ks z ↔ y ∈ ks ∨ y = z := by
  unfold addNew
  split
  · rename_i h
    exact ⟨.inl, fun q => q.elim id fun e => e ▸ h⟩
  · rw [List.mem_append, List.mem_singleton]
section
variable {α : Type} (f : List α → List α)
def rep : Nat → List α → List α
  | 0, s => s
  | n + 1, s => f (rep n s)
variable {f}
end
abbrev NR := Str × List Str
def useStep (ks : List Str) (r : NR) : List Str := if (∀ z ∈ r.2, z ∈ ks) then addNew ks r.1 else ks
def useRound (rs : List NR) (ks : List Str) : List Str := rs.foldl useStep ks
theorem nd_len {ks ms : List Str} (hn : ks.Nodup) (h : ∀ z ∈ ks, z ∈ ms) : ks.length ≤ ms.length := by
  induction ks generalizing ms with
  | nil => exact Nat.zero_le _
  | cons k ks ih =>
    rw [List.nodup_cons] at hn
    have hk := h k List.mem_cons_self
    have h1 := ih (ms := ms.erase k) hn.2 fun z hz => by
      have hne : z ≠ k := fun e => hn.1 (e ▸ hz)
      exact (List.mem_erase_of_ne hne).mpr (h z (List.mem_cons_of_mem _ hz))
    have h2 := List.length_erase_of_mem hk
    have h3 := List.length_pos_of_mem hk
    rw [List.length_cons]
    omega
def useful (rs : List NR) : List Str := rep (useRound rs) rs.length []
end ThM
set_option Elab.async false
set_option linter.all false
set_option maxRecDepth 100000
namespace L2
open PySem PySem.Spec PyProof.Rows QL
section
variable {X : Cx}
end
end L2
set_option Elab.async false
set_option linter.all false
set_option maxRecDepth 100000
namespace ThM
open PySem L2
section
variable {α : Type} {f : List α → List α} (μ : List α → Nat)
end
theorem fold_mem {y : Str} : ∀ (zs ks : List Str), y ∈ zs.foldl addNew ks ↔ y ∈ ks ∨ y ∈ zs
  | [], ks => by simp
  | z :: zs, ks => by
    rw [List.foldl_cons, fold_mem zs, mem_addNew, List.mem_cons]
    exact ⟨fun h => h.elim (fun h => h.elim .inl fun e => .inr (.inl e)) fun h => .inr (.inr h), fun h => h.elim (fun h => .inl (.inl h)) fun h => h.elim (fun e => .inl (.inr e)) .inr⟩
def comeStep (ks : List Str) (r : NR) : List Str := if r.1 ∈ ks then r.2.foldl addNew ks else ks
def comeRound (rs : List NR) (ks : List Str) : List Str := rs.foldl comeStep ks
def Done (ks : List Str) (r : NR) : Prop := r.1 ∈ ks ∧ ∀ z ∈ r.2, z ∈ ks
instance (ks : List Str) (r : NR) : Decidable (Done ks r) := by unfold Done; infer_instance
def comeTo (st : Str) (rs : List NR) : List Str := rep (comeRound rs) rs.length [st]
def ofUse (rs : List NR) (r : NR) : Bool := decide (∀ z ∈ r.2, z ∈ useful rs)
def uses (rs : List NR) : List NR := rs.filter (ofUse rs)
def came (st : Str) (rs : List NR) : List Str := comeTo st (uses rs)
def keep (st : Str) (rs : List NR) (r : NR) : Bool := decide (r.1 ∈ came st rs) && ofUse rs r
end ThM
set_option Elab.async false
set_option linter.all false
set_option maxRecDepth 100000
namespace L2
open PySem PySem.Spec PyProof.Rows
section
variable {X : Cx} {body : List Stmt} {h₀ : ExceptHandler} {hs : List ExceptHandler} {tb : TS} {pos : Pos}
end
end L2
set_option Elab.async false
set_option linter.all false
set_option maxRecDepth 100000
namespace L2
open PySem PySem.Spec PyProof.Rows
section
variable {X : Cx} {es : List Expr} {t : TA} {te : TE}
structure WA (X : Cx) (es : List Expr) (t : TA) : Prop where
  out : PA X es t
structure WE (X : Cx) (e : Expr) (t : TE) : Prop where
  out : PE X e t
structure WB (X : Cx) (b : List Stmt) (t : TS) : Prop where
  out : PSs X b t
structure WS (X : Cx) (s : Stmt) (t : TS) : Prop where
  out : PS X s t
end
end L2
set_option Elab.async false
set_option linter.all false
set_option maxRecDepth 100000
namespace L2
open PySem PySem.Spec PyProof.Rows QL
section
variable {X : Cx}
def rDictC : List V → Hp → VK → Prop := fun xs H Q => ∃ a kvs, xs = [.ref a] ∧ H a = some (.dK kvs) ∧ ∀ l, H l = none → Q (.ref l) (upd H l (.dK kvs))
def rNeM : R2 := fun x y H Q => ∃ a b kvs, x = .ref a ∧ y = .ref b ∧ H a = some (.dK kvs) ∧ H b = some (.dK kvs) ∧ (∀ kv ∈ kvs, flatV kv.2 = true ∧ valV kvs kv.1 = some kv.2) ∧ Q (.bl false) H
end
end L2
set_option linter.all false
namespace Pic
def putB (sb : Bool) (p q : Pic) : Pic := if sb = true then (p.zip q).map fun x => x.1 ++ x.2 else p ++ q
theorem at2_of {p : Pic} {i j : Nat} (hi : i < p.length) (hj : j < (p[i]).length) : at2 p i j = (p[i])[j] := by
  unfold at2
  rw [List.getD_eq_getElem?_getD (l := p), List.getElem?_eq_getElem hi, Option.getD_some, List.getD_eq_getElem?_getD, List.getElem?_eq_getElem hj]
  rfl
theorem rect_beside {p q : Pic} {r c c' : Nat} (hp : rect p r c) (hq : rect q r c') : rect (putB true p q) r (c + c') := by
  unfold putB
  rw [if_pos rfl]
  refine ⟨by rw [List.length_map, List.length_zip, hp.1, hq.1, Nat.min_self], fun x hx => ?_⟩
  obtain ⟨⟨u, v⟩, huv, rfl⟩ := List.mem_map.mp hx
  have := List.of_mem_zip huv
  rw [List.length_append, hp.2 u this.1, hq.2 v this.2]
theorem rect_above {p q : Pic} {r r' c : Nat} (hp : rect p r c) (hq : rect q r' c) : rect (putB false p q) (r + r') c := by
  unfold putB
  rw [if_neg (by decide)]
  refine ⟨by rw [List.length_append, hp.1, hq.1], fun x hx => ?_⟩
  rcases List.mem_append.mp hx with h | h
  · exact hp.2 x h
  · exact hq.2 x h
theorem at_beside {p q : Pic} {r c c' i j : Nat} (hp : rect p r c) (hq : rect q r c') (hi : i < r) (hj : j < c + c') : at2 (putB true p q) i j = if j < c then at2 p i j else at2 q i (j - c) := by
  have hip : i < p.length := by rw [hp.1]; exact hi
  have hiq : i < q.length := by rw [hq.1]; exact hi
  have lp : (p[i]).length = c := hp.2 _ (List.getElem_mem hip)
  have lq : (q[i]).length = c' := hq.2 _ (List.getElem_mem hiq)
  have hm : i < (putB true p q).length := by rw [(rect_beside hp hq).1]; exact hi
  have e : (putB true p q)[i] = p[i] ++ q[i] := by
    unfold putB
    simp
  have hl : j < ((putB true p q)[i]).length := by rw [e, List.length_append, lp, lq]; exact hj
  rw [at2_of hm hl]
  by_cases h : j < c
  · rw [if_pos h, at2_of hip (by rw [lp]; exact h)]
    simp only [e]
    rw [List.getElem_append_left]
  · rw [if_neg h, at2_of hiq (by rw [lq]; omega)]
    simp only [e]
    rw [List.getElem_append_right (by omega)]
    simp only [lp]
theorem at_above {p q : Pic} {r r' c i j : Nat} (hp : rect p r c) (hq : rect q r' c) (hi : i < r + r') (hj : j < c) : at2 (putB false p q) i j = if i < r then at2 p i j else at2 q (i - r) j := by
  unfold putB
  rw [if_neg (by decide)]
  unfold at2
  by_cases h : i < r
  · rw [if_pos h, List.getD_eq_getElem?_getD (l := p ++ q), List.getElem?_append_left (by rw [hp.1]; exact h), ← List.getD_eq_getElem?_getD]
  · rw [if_neg h, List.getD_eq_getElem?_getD (l := p ++ q), List.getElem?_append_right (by rw [hp.1]; omega), ← List.getD_eq_getElem?_getD, hp.1]
theorem mirror_beside {p q : Pic} {r c c' : Nat} (hp : rect p r c) (hq : rect q r c') : mirror (putB true p q) = putB true (mirror q) (mirror p) := by
  have h1 := rect_mirror (rect_beside hp hq)
  have h2 := rect_beside (rect_mirror hq) (rect_mirror hp)
  rw [Nat.add_comm c' c] at h2
  refine pic_ext h1 h2 fun i j hi hj => ?_
  rw [at_mirror (rect_beside hp hq) hi hj, at_beside hp hq hi (by omega), at_beside (rect_mirror hq) (rect_mirror hp) hi (by omega)]
  by_cases h : j < c'
  · rw [if_neg (by omega), if_pos h, at_mirror hq hi h]
    congr 1; omega
  · rw [if_pos (by omega), if_neg h, at_mirror hp hi (by omega)]
    congr 1; omega
theorem mirror_above (p q : Pic) : mirror (putB false p q) = putB false (mirror p) (mirror q) := by
  unfold putB mirror
  simp
theorem quarter_beside {p q : Pic} {r c c' : Nat} (hp : rect p r c) (hq : rect q r c') (hr : 0 < r) : quarter (putB true p q) = putB false (quarter p) (quarter q) := by
  have hb := rect_beside hp hq
  have h1 := rect_quarter hb hr
  have h2 := rect_above (rect_quarter hp hr) (rect_quarter hq hr)
  refine pic_ext h1 h2 fun i j hi hj => ?_
  rw [at_quarter hb hr hi hj, at_beside hp hq (by omega) hi, at_above (rect_quarter hp hr) (rect_quarter hq hr) hi hj]
  by_cases h : i < c
  · rw [if_pos h, if_pos h, at_quarter hp hr h hj]
  · rw [if_neg h, if_neg h, at_quarter hq hr (by omega) hj]
theorem quarter_above {p q : Pic} {r r' c : Nat} (hp : rect p r c) (hq : rect q r' c) (hr : 0 < r) (hr' : 0 < r') : quarter (putB false p q) = putB true (quarter q) (quarter p) := by
  have hb := rect_above hp hq
  have h1 := rect_quarter hb (by omega)
  have h2 := rect_beside (rect_quarter hq hr') (rect_quarter hp hr)
  rw [Nat.add_comm r' r] at h2
  refine pic_ext h1 h2 fun i j hi hj => ?_
  rw [at_quarter hb (by omega) hi hj, at_above hp hq (by omega) hi, at_beside (rect_quarter hq hr') (rect_quarter hp hr) hi (by omega)]
  by_cases h : j < r'
  · rw [if_neg (by omega), if_pos h, at_quarter hq hr' hi h]
    congr 1; omega
  · rw [if_pos (by omega), if_neg h, at_quarter hp hr hi (by omega)]
    congr 1; omega
def FitB (sb : Bool) (p q : Pic) : Prop := ∃ r c r' c', rect p r c ∧ rect q r' c' ∧ 0 < r ∧ 0 < c ∧ 0 < r' ∧ 0 < c' ∧ (if sb = true then r = r' else c = c')
def qT : Nat → Bool × Bool → Bool × Bool
  | 0, s => s
  | n + 1, s => qT n (!s.1, if s.1 = true then s.2 else !s.2)
def swapP (sw : Bool) (p q : Pic) : Pic × Pic := if sw = true then (q, p) else (p, q)
def putS (s : Bool × Bool) (p q : Pic) : Pic := putB s.1 (swapP s.2 p q).1 (swapP s.2 p q).2
theorem quarters_put : ∀ (n : Nat) (s : Bool × Bool) (p q : Pic), FitB s.1 (swapP s.2 p q).1 (swapP s.2 p q).2 → quarters n (putS s p q) = putS (qT n s) (quarters n p) (quarters n q) ∧ FitB (qT n s).1 (swapP (qT n s).2 (quarters n p) (quarters n q)).1 (swapP (qT n s).2 (quarters n p) (quarters n q)).2
  | 0, s, p, q, h => ⟨rfl, h⟩
  | n + 1, (sb, sw), p, q, h => by
    show quarters n (quarter (putS (sb, sw) p q)) = putS (qT n (!sb, if sb = true then sw else !sw)) (quarters n (quarter p)) (quarters n (quarter q)) ∧ _
    have key : quarter (putS (sb, sw) p q) = putS (!sb, if sb = true then sw else !sw) (quarter p) (quarter q) ∧ FitB (!sb) (swapP (if sb = true then sw else !sw) (quarter p) (quarter q)).1 (swapP (if sb = true then sw else !sw) (quarter p) (quarter q)).2 := by
      obtain ⟨r, c, r', c', h1, h2, a1, a2, a3, a4, h3⟩ := h
      cases sb with
      | true =>
        rw [if_pos rfl] at h3
        subst h3
        rw [if_pos rfl]
        refine ⟨?_, ?_⟩
        · unfold putS
          show quarter (putB true _ _) = putB false _ _
          rw [quarter_beside h1 h2 a1]
          cases sw <;> rfl
        · have e1 := rect_quarter h1 a1
          have e2 := rect_quarter h2 a1
          cases sw with
          | true => exact ⟨_, _, _, _, e1, e2, a2, a1, a4, a1, by rw [if_neg (by decide)]⟩
          | false => exact ⟨_, _, _, _, e1, e2, a2, a1, a4, a1, by rw [if_neg (by decide)]⟩
      | false =>
        rw [if_neg (show ¬ (false = true) by decide)] at h3
        subst h3
        rw [if_neg (by decide)]
        refine ⟨?_, ?_⟩
        · unfold putS
          show quarter (putB false _ _) = putB true _ _
          rw [quarter_above h1 h2 a1 a3]
          cases sw <;> rfl
        · have e1 := rect_quarter h1 a1
          have e2 := rect_quarter h2 a3
          cases sw with
          | true => exact ⟨_, _, _, _, e2, e1, a2, a3, a2, a1, by rw [if_pos (by decide)]⟩
          | false => exact ⟨_, _, _, _, e2, e1, a2, a3, a2, a1, by rw [if_pos (by decide)]⟩
    rw [key.1]
    exact quarters_put n _ _ _ key.2
def pairT (sb : Bool) (t : Nat) : Bool × Bool := qT (t % 4) (sb, sb && decide (4 ≤ t))
theorem turned_put {sb : Bool} {p q : Pic} (h : FitB sb p q) (t : Nat) : turned (putB sb p q) t = putS (pairT sb t) (turned p t) (turned q t) := by
  unfold turned pairT
  by_cases h4 : 4 ≤ t
  · rw [if_pos h4, if_pos h4, if_pos h4, decide_eq_true h4, Bool.and_true]
    obtain ⟨r, c, r', c', h1, h2, a1, a2, a3, a4, h3⟩ := h
    cases sb with
    | true =>
      rw [if_pos rfl] at h3
      subst h3
      rw [mirror_beside h1 h2]
      exact (quarters_put (t % 4) (true, true) (mirror p) (mirror q) ⟨_, _, _, _, rect_mirror h2, rect_mirror h1, a1, a4, a1, a2, by rw [if_pos rfl]⟩).1
    | false =>
      rw [mirror_above]
      exact (quarters_put (t % 4) (false, false) (mirror p) (mirror q) ⟨_, _, _, _, rect_mirror h1, rect_mirror h2, a1, a2, a3, a4, h3⟩).1
  · rw [if_neg h4, if_neg h4, if_neg h4, decide_eq_false h4, Bool.and_false]
    exact (quarters_put (t % 4) (sb, false) p q h).1
end Pic
set_option Elab.async false
set_option linter.all false
set_option maxRecDepth 100000
set_option maxHeartbeats 4000000
namespace Q43
open PySem L2 Pic QL
local macro_rules | `(tactic| walk_at "wp") => `(tactic| simp only [tSeq, tB, tNext, tDrop, tRet, tRetN, tIfS, tBreak, tCont, tAsg, gName, gSub, gTup, gCons, gNil, tC, tVar, tOp, tUn, tTest, tNot, tAnd, tOr, tAndV, tOrV, tNotV, tChain, tChain3, tRaise, tTryAs, tRaiseI, tTryAsO, tTryEx, tTryExO, tTryEx0, tMakeX, rCount, rClear, rReverse, rExtend, tBM0, sDPut, tDNewK, tDGet2, sFld, tFld, tMake, tMeth, tMethP, tMethX, iEnum, iEnumS, tXFld, sXSet, tCallX, iZip, rSlT, rSplit, rPart, rStarts, rEnds, rIntT, rListS, rListD, rDictC, rNeM, tLenSet, tDisp, tPairs, tDGet, tDIn, tDNotIn, rCat, rAll, rLtT, tCB, tCons, tNil, tCall, tPar, tIf, tLst, tTup, rI0, rI, rU, rEq, rNe, rIxL, rIxT, rIxS, tSl, tNoPart, tPart, rSlL, rSlS, tBM, tJR, rJoin, rAppend, rIsi, rSetL, iRng1, iRng2, iList, iTup, iRev, iStr, tComp, tForw, blkSt, tNoIf,
  L2.start, List.map_cons, List.map_nil, List.length_cons, List.length_nil, List.replicate, List.cons_append, List.nil_append, List.append_nil, Nat.reduceAdd, Nat.reduceSub, List.getElem?_cons_zero, List.getElem?_cons_succ, List.set_cons_zero, List.set_cons_succ, Option.some.injEq, V.int.injEq, V.str.injEq, V.ref.injEq, V.bl.injEq, List.cons.injEq, and_true, true_and, exists_and_left, exists_eq_left', exists_eq_left, decide_eq_true_eq, Bool.not_eq_true', decide_eq_false_iff_not, cxOf, Cx.blk, scal_ii, scal_ss, scal_bb, isClsV, clsV, Option.join_some, Nat.succ_eq_add_one, Nat.zero_add, exists_const, and_assoc, exists_eq, exists_eq', CMul, CDivP, Int.reducePow, Int.reduceNeg, Int.reduceLT, or_true, true_or, reduceCtorEq, Int.zero_add, ↓reduceIte, Bool.false_eq_true, Bool.not_true, Bool.not_false, Cx.wish, Cx.nox])
def top (i : Nat) : Stmt := PySem.Challenge.pw_quiltlaw_k43_grammar_turned.main.body.getD i (.Pass ⟨0, 0, 0, 0⟩)
def clsBody : Stmt → List Stmt
  | .ClassDef (body := b) .. => b
  | _ => []
def meth (i j : Nat) : Stmt := (clsBody (top i)).getD j (.Pass ⟨0, 0, 0, 0⟩)
section
variable {P : Program} {w : World} {K : W.Frag} {mg : Str → Option Value} {base : Heap}
abbrev inT (z : Str) (c : Nat) : Bool := !(Builtin.Str.occurrences z ⟨#[c]⟩ 0 z.length 1).isEmpty
abbrev s_only_of : Stmt := top 21
def onlyB (r : List Nat) (z : Str) : Bool := r.all (inT z)
def sp_only_of : Sp := fun vs H Q _ => ∃ (r : List Nat) (z : Str), vs = [.str (tx r), .str z] ∧ r.length ≤ 100000 ∧ ∀ H', Same H H' → Q (.bl (onlyB r z)) H'
theorem sc_only_of : FnScope ["text", "letters"] ["text", "letters"] (defScope s_only_of) := ⟨rfl, rfl, rfl, by decide +kernel, rfl, by decide +kernel, by decide +kernel⟩
theorem txg {r : List Nat} {i c : Nat} (h : (tx r).cps[i]? = some c) : r[i]? = some c := by
  rw [← h]
  show r[i]? = r.toArray[i]?
  simp
theorem txs (r : List Nat) : (tx r).cps.size = r.length := by show r.toArray.size = _; simp
theorem ok_only_of {f : Addr} {fd : FuncData} (F : Fun K "only_of" "only_of" s_only_of f fd) (nb : NB mg) : FnOk P w K mg base CX0 1 f fd ["text", "letters"] sp_only_of := by
  have sc := sc_only_of
  refine F.ok sc (fun vs H Q E h => ?_) (fun cdv A outer s H vs Q E hr h => ?_)
  · obtain ⟨r, z, rfl, _⟩ := h; rfl
  · obtain ⟨r, z, rfl, hr', q⟩ := h
    refine ⟨_, (pss_one (ps_ret (pe_callB (call_all rfl) rfl nb.all bt_all (pa_cons (pe_comp ["sign"] [1] rfl (CompOk.of (by kernel_rfl)) (by kernel_rfl) (pi_str (pv 0))
        (fun _ _ _ _ => (pg_name (i := 0) (by show (["sign", "letters"] : List Str).Nodup; decide +kernel) rfl (Or.inl rfl))) (fun _ _ _ _ => pif_nil) (fun _ _ _ _ => (pe_cmpR op_in_str (pv 0) (pv 1) (by with_unfolding_all rfl)))) pa_nil)))), ?_⟩
    walk_at "wp"
    refine comp_str (x := tx r) (fun i acc σ H' => H' = H ∧ acc = ((r.take i).map (inT z)).map V.bl ∧ i ≤ r.length ∧ ∃ x, σ = [x, some (.str z)]) ⟨rfl, rfl, Nat.zero_le _, _, rfl⟩ ?_ ?_ ?_ ?_
    · rintro i acc σ H' ⟨_, rfl, hi, _⟩
      rw [List.length_map, List.length_map, List.length_take]; exact line_big (by omega)
    · rintro i acc σ H' ⟨_, _, h, _⟩
      rw [txs]; exact h
    · rintro i c acc σ H' hc ⟨rfl, rfl, hi, y, rfl⟩
      have hc' := txg hc
      have hi' := (List.getElem?_eq_some_iff.mp hc').1
      walk_at "wp"
      refine ⟨?_, hi'⟩
      rw [List.take_add_one, hc']
      simp
    · rintro acc σ H' ⟨rfl, rfl, _⟩ l hl
      refine ⟨_, SqL.of upd_same, ?_⟩
      rw [txs, List.take_length]
      have e : (r.map (inT z)).all id = onlyB r z := by unfold onlyB; rw [List.all_map]; rfl
      rw [e]
      exact q _ (same_upd hl)
abbrev s_is_name : Stmt := top 22
abbrev CAPS : Str := "ABCDEFGHIJKLMNOPQRSTUVWXYZ"
def nameB (r : List Nat) : Bool := decide (1 ≤ r.length) && decide (r.length ≤ 4) && onlyB r CAPS
def sp_is_name : Sp := fun vs H Q _ => ∃ (r : List Nat), vs = [.str (tx r)] ∧ r.length ≤ 100000 ∧ ∀ H', Same H H' → Q (.bl (nameB r)) H'
theorem sc_is_name : FnScope ["text"] ["text"] (defScope s_is_name) := ⟨rfl, rfl, rfl, by decide +kernel, rfl, by decide +kernel, by decide +kernel⟩
theorem ok_is_name {f : Addr} {fd : FuncData} {t1 t2 : Tok} (F : Fun K "is_name" "is_name" s_is_name f fd) (nb : NB mg) (m_LONGEST_NAME : mg "LONGEST_NAME" = some (.int 4 t1)) (m_CAPITALS : mg "CAPITALS" = some (.str "ABCDEFGHIJKLMNOPQRSTUVWXYZ" t2)) (c_only_of : Cal P w K mg base CX0 1 "only_of" ["text", "letters"] sp_only_of) : FnOk P w K mg base CX0 2 f fd ["text"] sp_is_name := by
  have sc := sc_is_name
  refine F.ok sc (fun vs H Q E h => ?_) (fun cdv A outer s H vs Q E hr h => ?_)
  · obtain ⟨r, rfl, _⟩ := h; rfl
  · obtain ⟨r, rfl, hr', q⟩ := h
    refine ⟨_, (pss_one (ps_ret (pe_and (pe_chain op_le op_le pe_int (pe_callB call_len_str rfl nb.len bt_len (pa_cons (pv 0) pa_nil)) (pe_glob (v := .int 4) rfl m_LONGEST_NAME ⟨_, rfl⟩)) (pe_one (pe_cal c_only_of (hr.mono (by decide)) rfl pass0 (pa_cons (pv 0) (pa_cons (pe_glob (v := .str "ABCDEFGHIJKLMNOPQRSTUVWXYZ") rfl m_CAPITALS ⟨_, rfl⟩) pa_nil))))))), ?_⟩
    walk_at "wp"
    refine ⟨by rw [tx_length]; exact line_le (by omega), ?_⟩
    rw [tx_length]
    unfold nameB at q
    by_cases h1 : 1 ≤ r.length
    · rw [if_pos (by omega)]
      by_cases h2 : r.length ≤ 4
      · rw [if_pos (by omega)]
        refine ⟨r, _, rfl, hr', fun H' sm => ?_⟩
        have z := q H' sm
        rw [decide_eq_true h1, decide_eq_true h2] at z
        exact z
      · rw [if_neg (by omega)]
        have z := q H (fun _ _ e => e)
        rw [decide_eq_true h1, decide_eq_false h2] at z
        exact z
    · rw [if_neg (by omega)]
      have z := q H (fun _ _ e => e)
      rw [decide_eq_false h1] at z
      exact z
abbrev s_rule_init : Stmt := meth 23 0
def sp_rule_init (K : W.Frag) (CF : Addr) : Sp := fun vs H Q E => ∃ (a C dx l : Addr) (n : List Nat) (c : Int) (ps : Pic), vs = [.ref a, .str (tx n), .int c, .ref l] ∧ H a = some (.ins C dx []) ∧ Cls K C ∧ NoAttr K C "name" ∧ NoAttr K C "cost" ∧ NoAttr K C "part_names" ∧ H l = some (.lst (rowsV ps)) ∧
  ps.length ≤ 1000 ∧ (∀ r ∈ n :: ps, r.length ≤ 100000) ∧
  ((∀ r ∈ n :: ps, nameB r = true) ∧ 1 ≤ c ∧ c ≤ 9 → ∀ H', Same H H' → Q .non (upd H' a (.ins C dx [("name", .str (tx n)), ("cost", .int c), ("part_names", .ref l)]))) ∧
  (¬ ((∀ r ∈ n :: ps, nameB r = true) ∧ 1 ≤ c ∧ c ≤ 9) → ∀ H', Same H H' → E (.ref CF) none H')
theorem sc_rule_init : FnScope ["self", "name", "cost", "part_names", "text"] ["self", "name", "cost", "part_names"] (defScope s_rule_init) := ⟨rfl, rfl, rfl, by decide +kernel, rfl, by decide +kernel, by decide +kernel⟩
theorem ok_rule_init {f zga : Addr} {fd : FuncData} (F : Fun K "__init__" "Rule.__init__" s_rule_init f fd) (nb : NB mg) (zRa : mg "NoRule" = some (.ref zga)) (zBa : XR K zga) (c_is_name : Cal P w K mg base CX0 2 "is_name" ["text"] sp_is_name) : FnOk P w K mg base (CX1 P w) 3 f fd ["self", "name", "cost", "part_names"] (sp_rule_init K zga) := by
  have sc := sc_rule_init
  refine F.okX sc (fun vs H Q E h => ?_) (fun cdv A outer s H vs Q E hr h => ?_)
  · obtain ⟨a, C, dx, l, n, c, ps, rfl, _⟩ := h; rfl
  · obtain ⟨a, C, dx, l, n, c, ps, rfl, ha, cl, n1, n2, n3, hl, hpl, hrl, good, bad⟩ := h
    refine ⟨_, (pss_cons (ps_forw PassesOwn.leaving rfl (pi_list (pe_op op_cat (pe_lst (pa_cons (pv 1) pa_nil)) (pv 3))) (pg_name (i := 4) sc.nd rfl (Or.inl rfl))
      (pss_one (ps_if (pt_not (pt_tb (pe_cal (CX := CX1 P w) c_is_name.lift (hr.mono (by decide)) rfl passes_E0 (pa_cons (pv 4) pa_nil)) fun _ => rfl))
      (pss_one (ps_raiseX zBa rfl rfl zRa (makes_up fun _ _ _ h => h) (pa_consS pa_nil)))
      pss_nil)))
      (pss_cons (ps_if (PW.pt (pw_or (pt_cmpR op_lt (pv 2) pe_int (nomark _)) (pw_or1 (pt_cmpR op_gt (pv 2) pe_int (nomark _)))))
      (pss_one (ps_raiseX zBa rfl rfl zRa (makes_up fun _ _ _ h => h) (pa_consS pa_nil)))
      pss_nil)
      (pss_cons (ps_fld (pv 0) (pv 1) rfl)
      (pss_cons (ps_fld (pv 0) (pv 2) rfl)
      (pss_one (ps_fld (pv 0) (pv 3) rfl)))))), ?_⟩
    walk_at "wp"
    refine ⟨line_le (by omega), fun p hp => ?_⟩
    have m1 : Same H (upd H p (.lst [V.str (tx n)])) := same_upd hp
    have e1 : upd H p (.lst [V.str (tx n)]) p = some (.lst [V.str (tx n)]) := upd_same
    generalize upd H p (.lst [V.str (tx n)]) = H1 at m1 e1 ⊢
    refine ⟨_, e1, _, m1 _ _ hl, by rw [rowsV_length]; exact line_le (by simp; omega), fun p2 hp2 => ?_⟩
    have e12 : [V.str (tx n)] ++ rowsV ps = rowsV (n :: ps) := rfl
    rw [e12]
    have m2 : Same H1 (upd H1 p2 (.lst (rowsV (n :: ps)))) := same_upd hp2
    have e2 : upd H1 p2 (.lst (rowsV (n :: ps))) p2 = some (.lst (rowsV (n :: ps))) := upd_same
    generalize upd H1 p2 (.lst (rowsV (n :: ps))) = H2 at m2 e2 ⊢
    generalize hqs : n :: ps = qs at hrl good bad e2 ⊢
    have m02 := m1.trans m2
    refine ⟨⟨_, SqL.of e2⟩, forw_list (xs := rowsV qs) (fun i σ H' => Same H2 H' ∧ (∀ r ∈ qs.take i, nameB r = true) ∧ ∃ x, σ = [some (.ref a), some (.str (tx n)), some (.int c), some (.ref l), x]) ⟨fun _ _ e => e, by simp, _, rfl⟩ (fun i σ H' _ h => SqL.of (h.1 _ _ e2)) ?_ ?_⟩
    · rintro i v σ H' hv ⟨sm, hok, x, rfl⟩
      have hi : i < qs.length := by have := (List.getElem?_eq_some_iff.mp hv).1; rwa [rowsV_length] at this
      rw [rowsV_get hi] at hv
      cases hv
      walk_at "wp"
      refine ⟨_, rfl, hrl _ (List.getElem_mem hi), fun H3 sm3 => ⟨_, rfl, ?_⟩⟩
      by_cases hb : nameB qs[i] = true
      · rw [if_neg (by rw [hb]; decide)]
        refine ⟨sm.trans sm3, fun r hr => ?_⟩
        rw [List.take_add_one, List.getElem?_eq_getElem hi] at hr
        rcases List.mem_append.mp hr with h | h
        · exact hok r h
        · rw [show r = qs[i] by simpa using h]; exact hb
      · rw [if_pos (by simpa using hb)]
        exact ⟨line_le (by omega), bad (fun h => hb (h.1 _ (List.getElem_mem hi))) _ ((m02.trans sm).trans sm3)⟩
    · rintro σ H' ⟨sm, hok, x, rfl⟩
      rw [rowsV_length, List.take_length] at hok
      have smH := m02.trans sm
      walk_at "wp"
      by_cases c1 : c < 1
      · rw [if_pos c1]
        exact ⟨line_le (by omega), bad (fun h => by omega) _ smH⟩
      · rw [if_neg c1]
        by_cases c9 : 9 < c
        · rw [if_pos c9]
          exact ⟨line_le (by omega), bad (fun h => by omega) _ smH⟩
        · rw [if_neg c9]
          have g := good ⟨hok, by omega, by omega⟩ H' smH
          have l1 : (putF "name" (V.str (tx n)) []).length ≤ 1 := length_putF _ _ _
          have l2 : (putF "cost" (V.int c) (putF "name" (V.str (tx n)) [])).length ≤ 2 := Nat.le_trans (length_putF _ _ _) (by omega)
          have d1 : ¬ (("name" : Str) = "cost") := by decide +kernel
          have d2 : ¬ (("name" : Str) = "part_names") := by decide +kernel
          have d3 : ¬ (("cost" : Str) = "part_names") := by decide +kernel
          have e : putF "part_names" (V.ref l) (putF "cost" (V.int c) (putF "name" (V.str (tx n)) [])) = [(("name" : Str), V.str (tx n)), (("cost" : Str), V.int c), (("part_names" : Str), V.ref l)] := by
            simp only [putF, if_neg d1, if_neg d2, if_neg d3]
          refine ⟨C, dx, [], smH _ _ ha, cl, n1, by simp, C, dx, _, upd_same, cl, n2, by omega, C, dx, _, upd_same, cl, n3, by omega, ?_⟩
          rw [upd_upd, upd_upd, e]
          exact g
def SameX (a : Addr) (H H' : Hp) : Prop := ∀ b o, b ≠ a → H b = some o → H' b = some o
theorem SameX.of {a : Addr} {H H' : Hp} (s : Same H H') : SameX a H H' := fun b o _ e => s b o e
theorem SameX.put {a : Addr} {H H' : Hp} {o : HO} (s : SameX a H H') : SameX a H (upd H' a o) := fun b u hb e => by rw [upd_ne hb]; exact s b u hb e
theorem SameX.then {a : Addr} {H H' H2 : Hp} (s : SameX a H H') (t : Same H' H2) : SameX a H H2 := fun b u hb e => t b u (s b u hb e)
theorem SameX.trans {a : Addr} {H H' H2 : Hp} (s : SameX a H H') (t : SameX a H' H2) : SameX a H H2 := fun b u hb e => t b u hb (s b u hb e)
abbrev SMLS : Str := "abcdefghijklmnopqrstuvwxyz"
def signB (r : List Nat) : Bool := decide (r.length = 1) && onlyB r SMLS
def ruleOk (n : List Nat) (ps : Pic) (c : Int) : Prop := (∀ r ∈ n :: ps, nameB r = true) ∧ 1 ≤ c ∧ c ≤ 9
abbrev s_cell_init : Stmt := meth 24 0
def sp_cell_init (K : W.Frag) (CF : Addr) : Sp := fun vs H Q E => ∃ (a C dx : Addr) (n sg : List Nat) (c : Int), vs = [.ref a, .str (tx n), .int c, .str (tx sg)] ∧ H a = some (.ins C dx []) ∧ Cls K C ∧ (NoAttr K C "name" ∧ NoAttr K C "cost" ∧ NoAttr K C "part_names" ∧ NoAttr K C "sign") ∧ n.length ≤ 100000 ∧ sg.length ≤ 100000 ∧
  (ruleOk n [] c ∧ signB sg = true → ∀ (l : Addr) (H' : Hp), SameX a H H' → H l = none → H' l = some (.lst []) → H' a = some (.ins C dx [("name", .str (tx n)), ("cost", .int c), ("part_names", .ref l), ("sign", .str (tx sg))]) → Q .non H') ∧
  (¬ (ruleOk n [] c ∧ signB sg = true) → ∀ H', SameX a H H' → E (.ref CF) none H')
theorem sc_cell_init : FnScope ["self", "name", "cost", "sign"] ["self", "name", "cost", "sign"] (defScope s_cell_init) := ⟨rfl, rfl, rfl, by decide +kernel, rfl, by decide +kernel, by decide +kernel⟩
theorem ok_cell_init {f zga : Addr} {fd : FuncData} {t3 : Tok} (F : Fun K "__init__" "CellRule.__init__" s_cell_init f fd) (nb : NB mg) (m_SMALLS : mg "SMALLS" = some (.str "abcdefghijklmnopqrstuvwxyz" t3)) (zRa : mg "NoRule" = some (.ref zga)) (zBa : XR K zga)
    (c_only_of : Cal P w K mg base CX0 1 "only_of" ["text", "letters"] sp_only_of) (zia : CalC P w K mg base (CX1 P w) 3 "Rule" "__init__" ["self", "name", "cost", "part_names"] (sp_rule_init K zga)) : FnOk P w K mg base (CX1 P w) 4 f fd ["self", "name", "cost", "sign"] (sp_cell_init K zga) := by
  have sc := sc_cell_init
  refine F.okX sc (fun vs H Q E h => ?_) (fun cdv A outer s H vs Q E hr h => ?_)
  · obtain ⟨a, C, dx, n, sg, c, rfl, _⟩ := h; rfl
  · obtain ⟨a, C, dx, n, sg, c, rfl, ha, cl, ⟨n1, n2, n3, n4⟩, hn, hsg, good, bad⟩ := h
    refine ⟨_, (pss_cons (ps_expr (pe_calC (E := E) zia (hr.mono (by decide)) rfl (passes_up fun _ _ _ h => h) (pa_cons (pv 0) (pa_cons (pv 1) (pa_cons (pv 2) (pa_cons (pe_lst pa_nil) pa_nil))))))
      (pss_cons (ps_if (PW.pt (pw_or (pt_cmpR op_ne (pe_callB call_len_str rfl nb.len bt_len (pa_cons (pv 3) pa_nil)) pe_int (nomark _)) (pw_or1 (pt_not (pt_tb (pe_cal (CX := CX1 P w) c_only_of.lift (hr.mono (by decide)) rfl passes_E0 (pa_cons (pv 3) (pa_cons (pe_glob (v := .str "abcdefghijklmnopqrstuvwxyz") rfl m_SMALLS ⟨_, rfl⟩) pa_nil))) fun _ => rfl)))))
      (pss_one (ps_raiseX zBa rfl rfl zRa (makes_up fun _ _ _ h => h) (pa_consS pa_nil)))
      pss_nil)
      (pss_one (ps_fld (pv 0) (pv 3) rfl)))), ?_⟩
    walk_at "wp"
    refine ⟨Nat.zero_le _, fun l hl => ?_⟩
    have m1 : Same H (upd H l (.lst [])) := same_upd hl
    have e1 : upd H l (.lst []) l = some (.lst []) := upd_same
    generalize upd H l (.lst []) = H1 at m1 e1 ⊢
    have hla : l ≠ a := fun e => by rw [e, ha] at hl; cases hl
    refine ⟨a, C, dx, l, n, c, [], rfl, m1 _ _ ha, cl, n1, n2, n3, e1, by simp, fun r hr => by rw [show r = n by simpa using hr]; exact hn, fun ok H2 sm2 => ?_, fun nok H2 sm2 => bad (fun h => nok h.1) _ (.of (m1.trans sm2))⟩
    have sx : SameX a H (upd H2 a (.ins C dx [("name", .str (tx n)), ("cost", .int c), ("part_names", .ref l)])) := (SameX.of (m1.trans sm2)).put
    have ea : upd H2 a (.ins C dx [("name", .str (tx n)), ("cost", .int c), ("part_names", .ref l)]) a = some (.ins C dx [("name", .str (tx n)), ("cost", .int c), ("part_names", .ref l)]) := upd_same
    have el : upd H2 a (.ins C dx [("name", .str (tx n)), ("cost", .int c), ("part_names", .ref l)]) l = some (.lst []) := by rw [upd_ne hla]; exact sm2 _ _ e1
    generalize upd H2 a (.ins C dx [("name", .str (tx n)), ("cost", .int c), ("part_names", .ref l)]) = H3 at sx ea el ⊢
    dsimp only
    have sgl : signB sg = true → sg.length = 1 ∧ onlyB sg SMLS = true := fun h => by
      unfold signB at h
      rw [Bool.and_eq_true, decide_eq_true_eq] at h
      exact h
    refine ⟨by rw [tx_length]; exact line_le (by omega), ?_⟩
    rw [tx_length]
    by_cases h1 : (sg.length : Int) = 1
    · rw [if_neg (fun h => h h1)]
      refine ⟨sg, _, rfl, hsg, fun H4 sm4 => ⟨_, rfl, ?_⟩⟩
      by_cases hb : onlyB sg SMLS = true
      · rw [if_neg (by rw [hb]; decide)]
        have d1 : ¬ (("name" : Str) = "sign") := by decide +kernel
        have d2 : ¬ (("cost" : Str) = "sign") := by decide +kernel
        have d3 : ¬ (("part_names" : Str) = "sign") := by decide +kernel
        have e : putF "sign" (V.str (tx sg)) [(("name" : Str), V.str (tx n)), (("cost" : Str), V.int c), (("part_names" : Str), V.ref l)] = [(("name" : Str), V.str (tx n)), (("cost" : Str), V.int c), (("part_names" : Str), V.ref l), (("sign" : Str), V.str (tx sg))] := by
          simp only [putF, if_neg d1, if_neg d2, if_neg d3]
        refine ⟨C, dx, _, sm4 _ _ ea, cl, n4, by simp, ?_⟩
        rw [e]
        exact good ⟨ok, by unfold signB; rw [decide_eq_true (by omega), hb]; rfl⟩ l _ (sx.then sm4).put hl (by rw [upd_ne hla]; exact sm4 _ _ el) upd_same
      · rw [if_pos (by simpa using hb)]
        exact ⟨line_le (by omega), bad (fun h => hb (sgl h.2).2) _ (sx.then sm4)⟩
    · rw [if_pos h1]
      exact ⟨line_le (by omega), bad (fun h => h1 (by have := (sgl h.2).1; omega)) _ sx⟩
def sp_pair_init (K : W.Frag) (CF : Addr) : Sp := fun vs H Q E => ∃ (a C dx : Addr) (n o1 o2 : List Nat) (c : Int), vs = [.ref a, .str (tx n), .int c, .str (tx o1), .str (tx o2)] ∧ H a = some (.ins C dx []) ∧ Cls K C ∧ (NoAttr K C "name" ∧ NoAttr K C "cost" ∧ NoAttr K C "part_names" ∧ NoAttr K C "one" ∧ NoAttr K C "other") ∧ n.length ≤ 100000 ∧ o1.length ≤ 100000 ∧ o2.length ≤ 100000 ∧
  (ruleOk n [o1, o2] c → ∀ (l : Addr) (H' : Hp), SameX a H H' → H l = none → H' l = some (.lst (rowsV [o1, o2])) → H' a = some (.ins C dx [("name", .str (tx n)), ("cost", .int c), ("part_names", .ref l), ("one", .str (tx o1)), ("other", .str (tx o2))]) → Q .non H') ∧
  (¬ ruleOk n [o1, o2] c → ∀ H', SameX a H H' → E (.ref CF) none H')
theorem pair_put {n o1 o2 : List Nat} {c : Int} {l : Addr} : putF "other" (V.str (tx o2)) (putF "one" (V.str (tx o1)) [(("name" : Str), V.str (tx n)), (("cost" : Str), V.int c), (("part_names" : Str), V.ref l)]) = [(("name" : Str), V.str (tx n)), (("cost" : Str), V.int c), (("part_names" : Str), V.ref l), (("one" : Str), V.str (tx o1)), (("other" : Str), V.str (tx o2))] := by
  have d1 : ¬ (("name" : Str) = "one") := by decide +kernel
  have d2 : ¬ (("cost" : Str) = "one") := by decide +kernel
  have d3 : ¬ (("part_names" : Str) = "one") := by decide +kernel
  have d4 : ¬ (("name" : Str) = "other") := by decide +kernel
  have d5 : ¬ (("cost" : Str) = "other") := by decide +kernel
  have d6 : ¬ (("part_names" : Str) = "other") := by decide +kernel
  have d7 : ¬ (("one" : Str) = "other") := by decide +kernel
  simp only [putF, if_neg d1, if_neg d2, if_neg d3, if_neg d4, if_neg d5, if_neg d6, if_neg d7]
abbrev s_beside_init : Stmt := meth 25 0
theorem sc_beside_init : FnScope ["self", "name", "cost", "one", "other"] ["self", "name", "cost", "one", "other"] (defScope s_beside_init) := ⟨rfl, rfl, rfl, by decide +kernel, rfl, by decide +kernel, by decide +kernel⟩
theorem ok_beside_init {f zga : Addr} {fd : FuncData} (F : Fun K "__init__" "BesideRule.__init__" s_beside_init f fd) (nb : NB mg)
    (zia : CalC P w K mg base (CX1 P w) 3 "Rule" "__init__" ["self", "name", "cost", "part_names"] (sp_rule_init K zga)) : FnOk P w K mg base (CX1 P w) 4 f fd ["self", "name", "cost", "one", "other"] (sp_pair_init K zga) := by
  have sc := sc_beside_init
  refine F.okX sc (fun vs H Q E h => ?_) (fun cdv A outer s H vs Q E hr h => ?_)
  · obtain ⟨a, C, dx, n, o1, o2, c, rfl, _⟩ := h; rfl
  · obtain ⟨a, C, dx, n, o1, o2, c, rfl, ha, cl, ⟨n1, n2, n3, n4, n5⟩, hn, ho1, ho2, good, bad⟩ := h
    refine ⟨_, (pss_cons (ps_expr (pe_calC (E := E) zia (hr.mono (by decide)) rfl (passes_up fun _ _ _ h => h) (pa_cons (pv 0) (pa_cons (pv 1) (pa_cons (pv 2) (pa_cons (pe_lst (pa_cons (pv 3) (pa_cons (pv 4) pa_nil))) pa_nil))))))
      (pss_cons (ps_fld (pv 0) (pv 3) rfl)
      (pss_one (ps_fld (pv 0) (pv 4) rfl)))), ?_⟩
    walk_at "wp"
    refine ⟨line_le (by omega), fun l hl => ?_⟩
    have m1 : Same H (upd H l (.lst [V.str (tx o1), V.str (tx o2)])) := same_upd hl
    have e1 : upd H l (.lst [V.str (tx o1), V.str (tx o2)]) l = some (.lst (rowsV [o1, o2])) := upd_same
    generalize upd H l (.lst [V.str (tx o1), V.str (tx o2)]) = H1 at m1 e1 ⊢
    have hla : l ≠ a := fun e => by rw [e, ha] at hl; cases hl
    refine ⟨a, C, dx, l, n, c, [o1, o2], rfl, m1 _ _ ha, cl, n1, n2, n3, e1, by simp, fun r hr => ?_, fun ok H2 sm2 => ?_, fun nok H2 sm2 => bad (fun h => nok h) _ (.of (m1.trans sm2))⟩
    · have h3 : r = n ∨ r = o1 ∨ r = o2 := by simpa using hr
      rcases h3 with rfl | rfl | rfl
      · exact hn
      · exact ho1
      · exact ho2
    · have sx : SameX a H (upd H2 a (.ins C dx [("name", .str (tx n)), ("cost", .int c), ("part_names", .ref l)])) := (SameX.of (m1.trans sm2)).put
      have ea : upd H2 a (.ins C dx [("name", .str (tx n)), ("cost", .int c), ("part_names", .ref l)]) a = some (.ins C dx [("name", .str (tx n)), ("cost", .int c), ("part_names", .ref l)]) := upd_same
      have el : upd H2 a (.ins C dx [("name", .str (tx n)), ("cost", .int c), ("part_names", .ref l)]) l = some (.lst (rowsV [o1, o2])) := by rw [upd_ne hla]; exact sm2 _ _ e1
      generalize upd H2 a (.ins C dx [("name", .str (tx n)), ("cost", .int c), ("part_names", .ref l)]) = H3 at sx ea el ⊢
      dsimp only
      refine ⟨C, dx, _, ea, cl, n4, by simp, C, dx, _, upd_same, cl, n5, ?_, ?_⟩
      · exact Nat.lt_of_le_of_lt (length_putF _ _ _) (by simp)
      · rw [upd_upd, pair_put]
        exact good ok l _ sx.put hl (by rw [upd_ne hla]; exact el) upd_same
abbrev s_above_init : Stmt := meth 26 0
theorem sc_above_init : FnScope ["self", "name", "cost", "one", "other"] ["self", "name", "cost", "one", "other"] (defScope s_above_init) := ⟨rfl, rfl, rfl, by decide +kernel, rfl, by decide +kernel, by decide +kernel⟩
theorem ok_above_init {f zga : Addr} {fd : FuncData} (F : Fun K "__init__" "AboveRule.__init__" s_above_init f fd) (nb : NB mg)
    (zia : CalC P w K mg base (CX1 P w) 3 "Rule" "__init__" ["self", "name", "cost", "part_names"] (sp_rule_init K zga)) : FnOk P w K mg base (CX1 P w) 4 f fd ["self", "name", "cost", "one", "other"] (sp_pair_init K zga) := by
  have sc := sc_above_init
  refine F.okX sc (fun vs H Q E h => ?_) (fun cdv A outer s H vs Q E hr h => ?_)
  · obtain ⟨a, C, dx, n, o1, o2, c, rfl, _⟩ := h; rfl
  · obtain ⟨a, C, dx, n, o1, o2, c, rfl, ha, cl, ⟨n1, n2, n3, n4, n5⟩, hn, ho1, ho2, good, bad⟩ := h
    refine ⟨_, (pss_cons (ps_expr (pe_calC (E := E) zia (hr.mono (by decide)) rfl (passes_up fun _ _ _ h => h) (pa_cons (pv 0) (pa_cons (pv 1) (pa_cons (pv 2) (pa_cons (pe_lst (pa_cons (pv 3) (pa_cons (pv 4) pa_nil))) pa_nil))))))
      (pss_cons (ps_fld (pv 0) (pv 3) rfl)
      (pss_one (ps_fld (pv 0) (pv 4) rfl)))), ?_⟩
    walk_at "wp"
    refine ⟨line_le (by omega), fun l hl => ?_⟩
    have m1 : Same H (upd H l (.lst [V.str (tx o1), V.str (tx o2)])) := same_upd hl
    have e1 : upd H l (.lst [V.str (tx o1), V.str (tx o2)]) l = some (.lst (rowsV [o1, o2])) := upd_same
    generalize upd H l (.lst [V.str (tx o1), V.str (tx o2)]) = H1 at m1 e1 ⊢
    have hla : l ≠ a := fun e => by rw [e, ha] at hl; cases hl
    refine ⟨a, C, dx, l, n, c, [o1, o2], rfl, m1 _ _ ha, cl, n1, n2, n3, e1, by simp, fun r hr => ?_, fun ok H2 sm2 => ?_, fun nok H2 sm2 => bad (fun h => nok h) _ (.of (m1.trans sm2))⟩
    · have h3 : r = n ∨ r = o1 ∨ r = o2 := by simpa using hr
      rcases h3 with rfl | rfl | rfl
      · exact hn
      · exact ho1
      · exact ho2
    · have sx : SameX a H (upd H2 a (.ins C dx [("name", .str (tx n)), ("cost", .int c), ("part_names", .ref l)])) := (SameX.of (m1.trans sm2)).put
      have ea : upd H2 a (.ins C dx [("name", .str (tx n)), ("cost", .int c), ("part_names", .ref l)]) a = some (.ins C dx [("name", .str (tx n)), ("cost", .int c), ("part_names", .ref l)]) := upd_same
      have el : upd H2 a (.ins C dx [("name", .str (tx n)), ("cost", .int c), ("part_names", .ref l)]) l = some (.lst (rowsV [o1, o2])) := by rw [upd_ne hla]; exact sm2 _ _ e1
      generalize upd H2 a (.ins C dx [("name", .str (tx n)), ("cost", .int c), ("part_names", .ref l)]) = H3 at sx ea el ⊢
      dsimp only
      refine ⟨C, dx, _, ea, cl, n4, by simp, C, dx, _, upd_same, cl, n5, ?_, ?_⟩
      · exact Nat.lt_of_le_of_lt (length_putF _ _ _) (by simp)
      · rw [upd_upd, pair_put]
        exact good ok l _ sx.put hl (by rw [upd_ne hla]; exact el) upd_same
def sp_turn_init (K : W.Frag) (CF : Addr) : Sp := fun vs H Q E => ∃ (a C dx : Addr) (n o1 : List Nat) (c t : Int), vs = [.ref a, .str (tx n), .int c, .str (tx o1), .int t] ∧ H a = some (.ins C dx []) ∧ Cls K C ∧ (NoAttr K C "name" ∧ NoAttr K C "cost" ∧ NoAttr K C "part_names" ∧ NoAttr K C "part" ∧ NoAttr K C "turning") ∧ n.length ≤ 100000 ∧ o1.length ≤ 100000 ∧
  (ruleOk n [o1] c ∧ 0 ≤ t ∧ t ≤ 7 → ∀ (l : Addr) (H' : Hp), SameX a H H' → H l = none → H' l = some (.lst (rowsV [o1])) → H' a = some (.ins C dx [("name", .str (tx n)), ("cost", .int c), ("part_names", .ref l), ("part", .str (tx o1)), ("turning", .int t)]) → Q .non H') ∧
  (¬ (ruleOk n [o1] c ∧ 0 ≤ t ∧ t ≤ 7) → ∀ H', SameX a H H' → E (.ref CF) none H')
theorem turn_put {n o1 : List Nat} {c t : Int} {l : Addr} : putF "turning" (V.int t) (putF "part" (V.str (tx o1)) [(("name" : Str), V.str (tx n)), (("cost" : Str), V.int c), (("part_names" : Str), V.ref l)]) = [(("name" : Str), V.str (tx n)), (("cost" : Str), V.int c), (("part_names" : Str), V.ref l), (("part" : Str), V.str (tx o1)), (("turning" : Str), V.int t)] := by
  have d1 : ¬ (("name" : Str) = "part") := by decide +kernel
  have d2 : ¬ (("cost" : Str) = "part") := by decide +kernel
  have d3 : ¬ (("part_names" : Str) = "part") := by decide +kernel
  have d4 : ¬ (("name" : Str) = "turning") := by decide +kernel
  have d5 : ¬ (("cost" : Str) = "turning") := by decide +kernel
  have d6 : ¬ (("part_names" : Str) = "turning") := by decide +kernel
  have d7 : ¬ (("part" : Str) = "turning") := by decide +kernel
  simp only [putF, if_neg d1, if_neg d2, if_neg d3, if_neg d4, if_neg d5, if_neg d6, if_neg d7]
abbrev s_turn_init : Stmt := meth 27 0
theorem sc_turn_init : FnScope ["self", "name", "cost", "part", "turning"] ["self", "name", "cost", "part", "turning"] (defScope s_turn_init) := ⟨rfl, rfl, rfl, by decide +kernel, rfl, by decide +kernel, by decide +kernel⟩
theorem ok_turn_init {f zga : Addr} {fd : FuncData} (F : Fun K "__init__" "TurnRule.__init__" s_turn_init f fd) (nb : NB mg) (zRa : mg "NoRule" = some (.ref zga)) (zBa : XR K zga)
    (zia : CalC P w K mg base (CX1 P w) 3 "Rule" "__init__" ["self", "name", "cost", "part_names"] (sp_rule_init K zga)) : FnOk P w K mg base (CX1 P w) 4 f fd ["self", "name", "cost", "part", "turning"] (sp_turn_init K zga) := by
  have sc := sc_turn_init
  refine F.okX sc (fun vs H Q E h => ?_) (fun cdv A outer s H vs Q E hr h => ?_)
  · obtain ⟨a, C, dx, n, o1, c, t, rfl, _⟩ := h; rfl
  · obtain ⟨a, C, dx, n, o1, c, t, rfl, ha, cl, ⟨n1, n2, n3, n4, n5⟩, hn, ho1, good, bad⟩ := h
    refine ⟨_, (pss_cons (ps_expr (pe_calC (E := E) zia (hr.mono (by decide)) rfl (passes_up fun _ _ _ h => h) (pa_cons (pv 0) (pa_cons (pv 1) (pa_cons (pv 2) (pa_cons (pe_lst (pa_cons (pv 3) pa_nil)) pa_nil))))))
      (pss_cons (ps_if (PW.pt (pw_or (pt_cmpR op_lt (pv 4) pe_int (nomark _)) (pw_or1 (pt_cmpR op_gt (pv 4) pe_int (nomark _)))))
      (pss_one (ps_raiseX zBa rfl rfl zRa (makes_up fun _ _ _ h => h) (pa_consS pa_nil)))
      pss_nil)
      (pss_cons (ps_fld (pv 0) (pv 3) rfl)
      (pss_one (ps_fld (pv 0) (pv 4) rfl))))), ?_⟩
    walk_at "wp"
    refine ⟨line_le (by omega), fun l hl => ?_⟩
    have m1 : Same H (upd H l (.lst [V.str (tx o1)])) := same_upd hl
    have e1 : upd H l (.lst [V.str (tx o1)]) l = some (.lst (rowsV [o1])) := upd_same
    generalize upd H l (.lst [V.str (tx o1)]) = H1 at m1 e1 ⊢
    have hla : l ≠ a := fun e => by rw [e, ha] at hl; cases hl
    refine ⟨a, C, dx, l, n, c, [o1], rfl, m1 _ _ ha, cl, n1, n2, n3, e1, by simp, fun r hr => ?_, fun ok H2 sm2 => ?_, fun nok H2 sm2 => bad (fun h => nok h.1) _ (.of (m1.trans sm2))⟩
    · have h3 : r = n ∨ r = o1 := by simpa using hr
      rcases h3 with rfl | rfl
      · exact hn
      · exact ho1
    · have sx : SameX a H (upd H2 a (.ins C dx [("name", .str (tx n)), ("cost", .int c), ("part_names", .ref l)])) := (SameX.of (m1.trans sm2)).put
      have ea : upd H2 a (.ins C dx [("name", .str (tx n)), ("cost", .int c), ("part_names", .ref l)]) a = some (.ins C dx [("name", .str (tx n)), ("cost", .int c), ("part_names", .ref l)]) := upd_same
      have el : upd H2 a (.ins C dx [("name", .str (tx n)), ("cost", .int c), ("part_names", .ref l)]) l = some (.lst (rowsV [o1])) := by rw [upd_ne hla]; exact sm2 _ _ e1
      generalize upd H2 a (.ins C dx [("name", .str (tx n)), ("cost", .int c), ("part_names", .ref l)]) = H3 at sx ea el ⊢
      dsimp only
      by_cases t0 : t < 0
      · rw [if_pos t0]
        exact ⟨line_le (by omega), bad (fun h => by omega) _ sx⟩
      · rw [if_neg t0]
        by_cases t7 : 7 < t
        · rw [if_pos t7]
          exact ⟨line_le (by omega), bad (fun h => by omega) _ sx⟩
        · rw [if_neg t7]
          refine ⟨C, dx, _, ea, cl, n4, by simp, C, dx, _, upd_same, cl, n5, ?_, ?_⟩
          · exact Nat.lt_of_le_of_lt (length_putF _ _ _) (by simp)
          · rw [upd_upd, turn_put]
            exact good ⟨ok, by omega, by omega⟩ l _ sx.put hl (by rw [upd_ne hla]; exact el) upd_same
abbrev s_rule_parts : Stmt := meth 23 1
def sp_rule_parts (K : W.Frag) : Sp := fun vs H Q _ => ∃ (a C dx l : Addr) (fs : List (Str × V)) (ps : Pic), vs = [.ref a] ∧ H a = some (.ins C dx fs) ∧ Cls K C ∧ NoAttr K C "part_names" ∧ fs.lookup ("part_names" : Str) = some (V.ref l) ∧ H l = some (.lst (rowsV ps)) ∧ GivesPic H ps Q
theorem sc_rule_parts : FnScope ["self"] ["self"] (defScope s_rule_parts) := ⟨rfl, rfl, rfl, by decide +kernel, rfl, by decide +kernel, by decide +kernel⟩
theorem ok_rule_parts {f : Addr} {fd : FuncData} (F : Fun K "parts" "Rule.parts" s_rule_parts f fd) (nb : NB mg) : FnOk P w K mg base CX0 1 f fd ["self"] (sp_rule_parts K) := by
  have sc := sc_rule_parts
  refine F.ok sc (fun vs H Q E h => ?_) (fun cdv A outer s H vs Q E hr h => ?_)
  · obtain ⟨a, C, dx, l, fs, ps, rfl, _⟩ := h; rfl
  · obtain ⟨a, C, dx, l, fs, ps, rfl, ha, cl, n1, lk, hl, q⟩ := h
    refine ⟨_, (pss_one (ps_ret (pe_callTy call_list_of rfl nb.list bt_list (pa_cons (pe_fld (pv 0) rfl) pa_nil)))), ?_⟩
    walk_at "wp"
    refine ⟨C, dx, fs, ha, cl, n1, V.ref l, lk, l, rfl, _, .inl (SqL.of hl), fun l' hl' => q l' _ hl' upd_same (same_upd hl')⟩
abbrev s_rule_head : Stmt := meth 23 2
def headS (n : List Nat) (c : Int) : Str := tx n ++ (" " : Str) ++ (toString c : String) ++ (": " : Str)
def sp_rule_head (K : W.Frag) : Sp := fun vs H Q _ => ∃ (a C dx : Addr) (fs : List (Str × V)) (n : List Nat) (c : Int), vs = [.ref a] ∧ H a = some (.ins C dx fs) ∧ Cls K C ∧ NoAttr K C "name" ∧ NoAttr K C "cost" ∧ fs.lookup ("name" : Str) = some (V.str (tx n)) ∧ fs.lookup ("cost" : Str) = some (V.int c) ∧ n.length ≤ 1000 ∧ 1 ≤ c ∧ c ≤ 9 ∧ Q (.str (headS n c)) H
theorem sc_rule_head : FnScope ["self"] ["self"] (defScope s_rule_head) := ⟨rfl, rfl, rfl, by decide +kernel, rfl, by decide +kernel, by decide +kernel⟩
theorem ok_rule_head {f : Addr} {fd : FuncData} (F : Fun K "head" "Rule.head" s_rule_head f fd) (nb : NB mg) : FnOk P w K mg base CX0 1 f fd ["self"] (sp_rule_head K) := by
  have sc := sc_rule_head
  refine F.ok sc (fun vs H Q E h => ?_) (fun cdv A outer s H vs Q E hr h => ?_)
  · obtain ⟨a, C, dx, fs, n, c, rfl, _⟩ := h; rfl
  · obtain ⟨a, C, dx, fs, n, c, rfl, ha, cl, n1, n2, l1, l2, hn, c1, c9, q⟩ := h
    refine ⟨_, (pss_one (ps_ret (pe_op op_add_str (pe_op op_add_str (pe_op op_add_str (pe_fld (pv 0) rfl) pe_str) (pe_callTy call_str_int rfl nb.str bt_str (pa_cons (pe_fld (pv 0) rfl) pa_nil))) pe_str))), ?_⟩
    walk_at "wp"
    have la : ∀ x y : Str, (x ++ y).length = x.length + y.length := fun x y => by show (x.cps ++ y.cps).size = x.cps.size + y.cps.size; simp
    have hc : c = 1 ∨ c = 2 ∨ c = 3 ∨ c = 4 ∨ c = 5 ∨ c = 6 ∨ c = 7 ∨ c = 8 ∨ c = 9 := by omega
    have hd : (Str.ofString (toString c)).length ≤ 10 ∧ c.natAbs.log2 < 1920 := by
      rcases hc with rfl | rfl | rfl | rfl | rfl | rfl | rfl | rfl | rfl <;> decide +kernel
    have s1 : (Str.ofString " ").length = 1 := rfl
    have s2 : (Str.ofString ": ").length = 2 := rfl
    refine ⟨C, dx, fs, ha, cl, n1, _, l1, _, rfl, by rw [tx_length, s1]; exact line_le (by omega), C, dx, fs, ha, cl, n2, _, l2, c, rfl, hd.2, ?_, ?_, q⟩
    · rw [la, tx_length, s1]; exact line_le (by omega)
    · rw [la, la, tx_length, s1, s2]; exact line_le (by omega)
abbrev cellF (n : List Nat) (c : Int) (l : Addr) (sg : List Nat) : List (Str × V) := [("name", .str (tx n)), ("cost", .int c), ("part_names", .ref l), ("sign", .str (tx sg))]
abbrev pairF (n : List Nat) (c : Int) (l : Addr) (o1 o2 : List Nat) : List (Str × V) := [("name", .str (tx n)), ("cost", .int c), ("part_names", .ref l), ("one", .str (tx o1)), ("other", .str (tx o2))]
abbrev turnF (n : List Nat) (c : Int) (l : Addr) (o1 : List Nat) (t : Int) : List (Str × V) := [("name", .str (tx n)), ("cost", .int c), ("part_names", .ref l), ("part", .str (tx o1)), ("turning", .int t)]
theorem str_la (x y : Str) : (x ++ y).length = x.length + y.length := by show (x.cps ++ y.cps).size = x.cps.size + y.cps.size; simp
theorem dig1 {c : Int} (h0 : 0 ≤ c) (h9 : c ≤ 9) : (Str.ofString (toString c)).length = 1 ∧ c.natAbs.log2 < 1920 := by
  have hc : c = 0 ∨ c = 1 ∨ c = 2 ∨ c = 3 ∨ c = 4 ∨ c = 5 ∨ c = 6 ∨ c = 7 ∨ c = 8 ∨ c = 9 := by omega
  rcases hc with rfl | rfl | rfl | rfl | rfl | rfl | rfl | rfl | rfl | rfl <;> decide +kernel
theorem headS_len {n : List Nat} {c : Int} (h0 : 0 ≤ c) (h9 : c ≤ 9) : (headS n c).length = n.length + 4 := by
  unfold headS
  rw [str_la, str_la, str_la, tx_length, (dig1 h0 h9).1]
  rfl
abbrev s_cell_told : Stmt := meth 24 6
def sp_cell_told (C : Addr) : Sp := fun vs H Q _ => ∃ (a dx l : Addr) (n sg : List Nat) (c : Int), vs = [.ref a] ∧ H a = some (.ins C dx (cellF n c l sg)) ∧ n.length ≤ 1000 ∧ sg.length ≤ 1000 ∧ 1 ≤ c ∧ c ≤ 9 ∧ Q (.str (headS n c ++ tx sg)) H
theorem sc_cell_told : FnScope ["self"] ["self"] (defScope s_cell_told) := ⟨rfl, rfl, rfl, by decide +kernel, rfl, by decide +kernel, by decide +kernel⟩
theorem ok_cell_told {f C : Addr} {fd : FuncData} (F : Fun K "told" "CellRule.told" s_cell_told f fd) (cl : Cls K C) (na : NoAttr K C "name" ∧ NoAttr K C "cost" ∧ NoAttr K C "part_names" ∧ NoAttr K C "sign")
    (cm_head : CalM P w K mg base CX0 1 C "head" ["self"] (sp_rule_head K)) : FnOk P w K mg base CX0 2 f fd ["self"] (sp_cell_told C) := by
  have sc := sc_cell_told
  refine F.ok sc (fun vs H Q E h => ?_) (fun cdv A outer s H vs Q E hr h => ?_)
  · obtain ⟨a, dx, l, n, sg, c, rfl, _⟩ := h; rfl
  · obtain ⟨a, dx, l, n, sg, c, rfl, ha, hn, hs, c1, c9, q⟩ := h
    refine ⟨_, (pss_one (ps_ret (pe_op op_add_str (pe_calM0 cm_head (hr.mono (by decide)) pass0 (pv 0)) (pe_fld (pv 0) rfl)))), ?_⟩
    walk_at "wp"
    refine ⟨dx, _, ha, rfl, a, C, dx, _, n, c, rfl, ha, cl, na.1, na.2.1, rfl, rfl, hn, c1, c9, ?_⟩
    dsimp only
    refine ⟨C, dx, _, ha, cl, na.2.2.2, _, rfl, _, rfl, _, rfl, ?_, q⟩
    rw [headS_len (by omega) c9, tx_length]; exact line_le (by omega)
theorem str_bar : (Str.ofString " | ").length = 3 := rfl
theorem str_slash : (Str.ofString " / ").length = 3 := rfl
theorem str_turned : (Str.ofString " turned ").length = 8 := rfl
def sp_pair_told (C : Addr) (z : Str) : Sp := fun vs H Q _ => ∃ (a dx l : Addr) (n o1 o2 : List Nat) (c : Int), vs = [.ref a] ∧ H a = some (.ins C dx (pairF n c l o1 o2)) ∧ n.length ≤ 1000 ∧ o1.length ≤ 1000 ∧ o2.length ≤ 1000 ∧ 1 ≤ c ∧ c ≤ 9 ∧ Q (.str (headS n c ++ tx o1 ++ z ++ tx o2)) H
abbrev s_beside_told : Stmt := meth 25 6
theorem sc_beside_told : FnScope ["self"] ["self"] (defScope s_beside_told) := ⟨rfl, rfl, rfl, by decide +kernel, rfl, by decide +kernel, by decide +kernel⟩
theorem ok_beside_told {f C : Addr} {fd : FuncData} (F : Fun K "told" "BesideRule.told" s_beside_told f fd) (cl : Cls K C) (na : NoAttr K C "name" ∧ NoAttr K C "cost" ∧ NoAttr K C "part_names" ∧ NoAttr K C "one" ∧ NoAttr K C "other")
    (cm_head : CalM P w K mg base CX0 1 C "head" ["self"] (sp_rule_head K)) : FnOk P w K mg base CX0 2 f fd ["self"] (sp_pair_told C " | ") := by
  have sc := sc_beside_told
  refine F.ok sc (fun vs H Q E h => ?_) (fun cdv A outer s H vs Q E hr h => ?_)
  · obtain ⟨a, dx, l, n, o1, o2, c, rfl, _⟩ := h; rfl
  · obtain ⟨a, dx, l, n, o1, o2, c, rfl, ha, hn, h1, h2, c1, c9, q⟩ := h
    refine ⟨_, (pss_one (ps_ret (pe_op op_add_str (pe_op op_add_str (pe_op op_add_str (pe_calM0 cm_head (hr.mono (by decide)) pass0 (pv 0)) (pe_fld (pv 0) rfl)) pe_str) (pe_fld (pv 0) rfl)))), ?_⟩
    walk_at "wp"
    refine ⟨dx, _, ha, rfl, a, C, dx, _, n, c, rfl, ha, cl, na.1, na.2.1, rfl, rfl, hn, c1, c9, ?_⟩
    dsimp only
    refine ⟨C, dx, _, ha, cl, na.2.2.2.1, _, rfl, _, rfl, _, rfl, ?_, ?_, C, dx, _, ha, cl, na.2.2.2.2, _, rfl, _, rfl, ?_, q⟩
    · rw [headS_len (by omega) c9, tx_length]; exact line_le (by omega)
    · rw [str_la, headS_len (by omega) c9, tx_length, str_bar]; exact line_le (by omega)
    · rw [str_la, str_la, headS_len (by omega) c9, tx_length, tx_length, str_bar]; exact line_le (by omega)
abbrev s_above_told : Stmt := meth 26 6
theorem sc_above_told : FnScope ["self"] ["self"] (defScope s_above_told) := ⟨rfl, rfl, rfl, by decide +kernel, rfl, by decide +kernel, by decide +kernel⟩
theorem ok_above_told {f C : Addr} {fd : FuncData} (F : Fun K "told" "AboveRule.told" s_above_told f fd) (cl : Cls K C) (na : NoAttr K C "name" ∧ NoAttr K C "cost" ∧ NoAttr K C "part_names" ∧ NoAttr K C "one" ∧ NoAttr K C "other")
    (cm_head : CalM P w K mg base CX0 1 C "head" ["self"] (sp_rule_head K)) : FnOk P w K mg base CX0 2 f fd ["self"] (sp_pair_told C " / ") := by
  have sc := sc_above_told
  refine F.ok sc (fun vs H Q E h => ?_) (fun cdv A outer s H vs Q E hr h => ?_)
  · obtain ⟨a, dx, l, n, o1, o2, c, rfl, _⟩ := h; rfl
  · obtain ⟨a, dx, l, n, o1, o2, c, rfl, ha, hn, h1, h2, c1, c9, q⟩ := h
    refine ⟨_, (pss_one (ps_ret (pe_op op_add_str (pe_op op_add_str (pe_op op_add_str (pe_calM0 cm_head (hr.mono (by decide)) pass0 (pv 0)) (pe_fld (pv 0) rfl)) pe_str) (pe_fld (pv 0) rfl)))), ?_⟩
    walk_at "wp"
    refine ⟨dx, _, ha, rfl, a, C, dx, _, n, c, rfl, ha, cl, na.1, na.2.1, rfl, rfl, hn, c1, c9, ?_⟩
    dsimp only
    refine ⟨C, dx, _, ha, cl, na.2.2.2.1, _, rfl, _, rfl, _, rfl, ?_, ?_, C, dx, _, ha, cl, na.2.2.2.2, _, rfl, _, rfl, ?_, q⟩
    · rw [headS_len (by omega) c9, tx_length]; exact line_le (by omega)
    · rw [str_la, headS_len (by omega) c9, tx_length, str_slash]; exact line_le (by omega)
    · rw [str_la, str_la, headS_len (by omega) c9, tx_length, tx_length, str_slash]; exact line_le (by omega)
def sp_turn_told (C : Addr) : Sp := fun vs H Q _ => ∃ (a dx l : Addr) (n o1 : List Nat) (c t : Int), vs = [.ref a] ∧ H a = some (.ins C dx (turnF n c l o1 t)) ∧ n.length ≤ 1000 ∧ o1.length ≤ 1000 ∧ 1 ≤ c ∧ c ≤ 9 ∧ 0 ≤ t ∧ t ≤ 7 ∧ Q (.str (headS n c ++ tx o1 ++ " turned " ++ (toString t : String))) H
abbrev s_turn_told : Stmt := meth 27 6
theorem sc_turn_told : FnScope ["self"] ["self"] (defScope s_turn_told) := ⟨rfl, rfl, rfl, by decide +kernel, rfl, by decide +kernel, by decide +kernel⟩
theorem ok_turn_told {f C : Addr} {fd : FuncData} (F : Fun K "told" "TurnRule.told" s_turn_told f fd) (nb : NB mg) (cl : Cls K C) (na : NoAttr K C "name" ∧ NoAttr K C "cost" ∧ NoAttr K C "part_names" ∧ NoAttr K C "part" ∧ NoAttr K C "turning")
    (cm_head : CalM P w K mg base CX0 1 C "head" ["self"] (sp_rule_head K)) : FnOk P w K mg base CX0 2 f fd ["self"] (sp_turn_told C) := by
  have sc := sc_turn_told
  refine F.ok sc (fun vs H Q E h => ?_) (fun cdv A outer s H vs Q E hr h => ?_)
  · obtain ⟨a, dx, l, n, o1, c, t, rfl, _⟩ := h; rfl
  · obtain ⟨a, dx, l, n, o1, c, t, rfl, ha, hn, h1, c1, c9, t0, t7, q⟩ := h
    refine ⟨_, (pss_one (ps_ret (pe_op op_add_str (pe_op op_add_str (pe_op op_add_str (pe_calM0 cm_head (hr.mono (by decide)) pass0 (pv 0)) (pe_fld (pv 0) rfl)) pe_str) (pe_callTy call_str_int rfl nb.str bt_str (pa_cons (pe_fld (pv 0) rfl) pa_nil))))), ?_⟩
    walk_at "wp"
    refine ⟨dx, _, ha, rfl, a, C, dx, _, n, c, rfl, ha, cl, na.1, na.2.1, rfl, rfl, hn, c1, c9, ?_⟩
    dsimp only
    have d1 := dig1 t0 (show t ≤ 9 by omega)
    refine ⟨C, dx, _, ha, cl, na.2.2.2.1, _, rfl, _, rfl, _, rfl, ?_, ?_, C, dx, _, ha, cl, na.2.2.2.2, _, rfl, t, rfl, d1.2, ?_, q⟩
    · rw [headS_len (by omega) c9, tx_length]; exact line_le (by omega)
    · rw [str_la, headS_len (by omega) c9, tx_length, str_turned]; exact line_le (by omega)
    · rw [str_la, str_la, headS_len (by omega) c9, tx_length, d1.1, str_turned]; exact line_le (by omega)
theorem nameB_len {r : List Nat} (h : nameB r = true) : 1 ≤ r.length ∧ r.length ≤ 4 := by
  unfold nameB at h
  rw [Bool.and_eq_true, Bool.and_eq_true, decide_eq_true_eq, decide_eq_true_eq] at h
  exact h.1
theorem signB_len {r : List Nat} (h : signB r = true) : r.length = 1 := by
  unfold signB at h
  rw [Bool.and_eq_true, decide_eq_true_eq] at h
  exact h.1
abbrev s_l_mix : Stmt := top 40
def mixAt (x : Int) (k : Nat) : Int := x / 2147483647 * 2147483647 + (((x % 2147483647 + 7919 * (k : Int) + 1) * 48271 % 2147483647) * 69621 + (k : Int)) % 2147483647
def sp_l_mix : Sp := fun vs H Q _ => ∃ (x : Int) (k : Nat), vs = [.int x, .int (k : Int)] ∧ Q (.int (mixAt x k)) H
theorem sc_l_mix : FnScope ["_law_cell_here", "_law_k", "_law_mixed_here"] ["_law_cell_here", "_law_k"] (defScope s_l_mix) := ⟨rfl, rfl, rfl, by decide +kernel, rfl, by decide +kernel, by decide +kernel⟩
theorem ok_l_mix {f : Addr} {fd : FuncData} (F : Fun K "_law_mix" "_law_mix" s_l_mix f fd) (nb : NB mg) : FnOk P w K mg base CX0 1 f fd ["_law_cell_here", "_law_k"] sp_l_mix := by
  have sc := sc_l_mix
  refine F.ok sc (fun vs H Q E h => ?_) (fun cdv A outer s H vs Q E hr h => ?_)
  · obtain ⟨x, k, rfl, _⟩ := h; rfl
  · obtain ⟨x, k, rfl, q⟩ := h
    refine ⟨_, (pss_cons (ps_set (i := 2) sc.nd rfl (Or.inl rfl) (pe_op op_mod (pe_op op_mul (pe_op op_add (pe_op op_add (pe_op op_mod (pv 0) pe_int) (pe_op op_mul pe_int (pv 1))) pe_int) pe_int) pe_int))
      (pss_one (ps_ret (pe_op op_add (pe_op op_mul (pe_op op_fdivP (pv 0) pe_int) pe_int) (pe_op op_mod (pe_op op_add (pe_op op_mul (pv 2) pe_int) (pv 1)) pe_int))))), ?_⟩
    walk_at "wp"
    exact q
abbrev s_l_cell : Stmt := top 41
def sp_l_cell (K : W.Frag) : Sp := fun vs H Q _ => ∃ (a : Addr) (ns : List Int) (k : Nat), vs = [.ref a, .int (k : Int)] ∧ SqL K H a (ns.map V.int) ∧ k ≤ 1000 ∧ Q (.int (cellAt ns k)) H
theorem sc_l_cell : FnScope ["_law_script", "_law_k"] ["_law_script", "_law_k"] (defScope s_l_cell) := ⟨rfl, rfl, rfl, by decide +kernel, rfl, by decide +kernel, by decide +kernel⟩
theorem ok_l_cell {f : Addr} {fd : FuncData} (F : Fun K "_law_cell" "_law_cell" s_l_cell f fd) (nb : NB mg) (zEb : Cal P w K mg base CX0 1 "_law_mix" ["_law_cell_here", "_law_k"] sp_l_mix) : FnOk P w K mg base CX0 2 f fd ["_law_script", "_law_k"] (sp_l_cell K) := by
  have sc := sc_l_cell
  refine F.ok sc (fun vs H Q E h => ?_) (fun cdv A outer s H vs Q E hr h => ?_)
  · obtain ⟨a, ns, k, rfl, _⟩ := h; rfl
  · obtain ⟨a, ns, k, rfl, hS, hk, q⟩ := h
    refine ⟨_, (pss_cons (ps_if (pt_cmpR op_lt (pv 1) (pe_callB call_lenL rfl nb.len bt_len (pa_cons (pv 0) pa_nil)) (nomark _))
      (pss_one (ps_ret (pe_cal zEb (hr.mono (by decide)) rfl pass0 (pa_cons (pe_ix ix_list (pv 0) (pv 1) (fun _ _ => rfl)) (pa_cons (pv 1) pa_nil)))))
      pss_nil)
      (pss_one (ps_ret (pe_cal zEb (hr.mono (by decide)) rfl pass0 (pa_consI (pa_cons (pv 1) pa_nil)))))), ?_⟩
    have ec : cellAt ns k = mixAt (ns.getD k 0) k := rfl
    rw [ec] at q
    walk_at "wp"
    refine ⟨_, hS, ?_⟩
    rw [List.length_map]
    split
    · rename_i hlt
      have hlt' : k < ns.length := by omega
      rw [List.getD_eq_getElem?_getD, List.getElem?_eq_getElem hlt', Option.getD_some] at q
      exact ⟨_, hS, V.int ns[k], atI_nat (by rw [List.getElem?_map, List.getElem?_eq_getElem hlt']; rfl), ns[k], k, rfl, q⟩
    · rename_i hlt
      rw [List.getD_eq_getElem?_getD, List.getElem?_eq_none (by omega), Option.getD_none] at q
      exact ⟨0, k, rfl, q⟩
theorem seq_cut {a b : TS} {D : Ends} {σ : St} {H : Hp} (h : ∀ N : St → Hp → Prop, (∀ σ2 H2, b D σ2 H2 → N σ2 H2) → a { D with nx := N } σ H) : tSeq a b D σ H := h (b D) fun _ _ z => z
theorem tx_add (r s : List Nat) : tx r ++ tx s = tx (r ++ s) := by
  show (⟨_ ++ _⟩ : Str) = ⟨_⟩
  simp [tx]
theorem onlyB_sub {a b : List Nat} {z : Str} (h : ∀ c ∈ a, c ∈ b) (hb : onlyB b z = true) : onlyB a z = true := by
  unfold onlyB at *
  rw [List.all_eq_true] at *
  exact fun c hc => hb c (h c hc)
theorem caps_all : ∀ c ∈ (Str.ofString "ABCDEFGHIJKLMNOPQRSTUVWXYZ").cps.toList, inT CAPS c = true := by decide +kernel
theorem name_mk {a b : List Nat} {c : Nat} (ha : onlyB a CAPS = true) (hb : onlyB b CAPS = true) (hc : inT CAPS c = true) (hl : a.length + b.length ≤ 3) : nameB (a ++ [c] ++ b) = true := by
  unfold nameB
  have e : onlyB (a ++ [c] ++ b) CAPS = true := by
    unfold onlyB at *
    rw [List.all_append, List.all_append, ha, hb, List.all_cons, List.all_nil, hc]
    rfl
  rw [e, Bool.and_true, Bool.and_eq_true, decide_eq_true_eq, decide_eq_true_eq]
  simp
  omega
abbrev s_l_pool : Stmt := top 42
def sp_l_pool : Sp := fun vs H Q _ => ∃ (c : Int) (m : Nat), vs = [.int c, .int (m : Int)] ∧ m ≤ 64 ∧ ∀ p : Pic, p.length = m → (∀ r ∈ p, nameB r = true) → GivesPic H p Q
theorem sc_l_pool : FnScope ["_law_cell_here", "_law_many", "_law_letters", "_law_size", "_law_base", "_law_at", "_law_step"] ["_law_cell_here", "_law_many"] (defScope s_l_pool) := ⟨rfl, rfl, rfl, by decide +kernel, rfl, by decide +kernel, by decide +kernel⟩
theorem ok_l_pool {f : Addr} {fd : FuncData} (F : Fun K "_law_pool" "_law_pool" s_l_pool f fd) (nb : NB mg) : FnOk P w K mg base CX0 1 f fd ["_law_cell_here", "_law_many"] sp_l_pool := by
  have sc := sc_l_pool
  refine F.ok sc (fun vs H Q E h => ?_) (fun cdv A outer s H vs Q E hr h => ?_)
  · obtain ⟨c, m, rfl, _⟩ := h; rfl
  · obtain ⟨c, m, rfl, hm, q⟩ := h
    refine ⟨_, (pss_cons (ps_set (i := 2) sc.nd rfl (Or.inr rfl) pe_str)
      (pss_cons (ps_set (i := 0) sc.nd rfl (Or.inr rfl) (pe_op op_mod (pv 0) (pe_op op_pow pe_int pe_int)))
      (pss_cons (ps_set (i := 3) sc.nd rfl (Or.inl rfl) (pe_op op_mod (pv 0) pe_int))
      (pss_cons (ps_set (i := 4) sc.nd rfl (Or.inr rfl) (pe_op op_add_str (pe_ix ix_str (pv 2) (pe_op op_mod (pe_op op_fdivP (pv 0) pe_int) pe_int) (fun _ _ => rfl)) (pe_ix ix_str (pv 2) (pe_op op_mod (pe_op op_fdivP (pv 0) pe_int) pe_int) (fun _ _ => rfl))))
      (pss_cons (ps_set (i := 4) sc.nd rfl (Or.inr rfl) (pe_op op_add_str (pv 4) (pe_ix ix_str (pv 2) (pe_op op_mod (pe_op op_fdivP (pv 0) pe_int) pe_int) (fun _ _ => rfl))))
      (pss_cons (ps_set (i := 4) sc.nd rfl (Or.inr rfl) (pe_slice sl_str (pv 4) po_none (po_some (pv 3))))
      (pss_cons (ps_set (i := 5) sc.nd rfl (Or.inr rfl) (pe_op op_mod (pe_op op_fdivP (pv 0) pe_int) (pe_op op_add (pv 3) pe_int)))
      (pss_cons (ps_set (i := 6) sc.nd rfl (Or.inr rfl) (pe_op op_add pe_int (pe_op op_mul pe_int (pe_op op_mod (pe_op op_fdivP (pv 0) pe_int) pe_int))))
      (pss_one (ps_ret (pe_comp ["_law_k"] [4, 5, 2, 0, 6] rfl (CompOk.of (by kernel_rfl)) (by kernel_rfl) (pi_range1 rfl nb.range (pa_cons (pv 1) pa_nil))
        (fun _ _ _ _ => (pg_name (i := 0) (by show (["_law_k", "_law_base", "_law_at", "_law_letters", "_law_cell_here", "_law_step"] : List Str).Nodup; decide +kernel) rfl (Or.inl rfl))) (fun _ _ _ _ => pif_nil) (fun _ _ _ _ => (pe_op op_add_str (pe_op op_add_str (pe_slice sl_str (pv 1) po_none (po_some (pv 2))) (pe_ix ix_str (pv 3) (pe_op op_mod (pe_op op_add (pe_op op_fdivP (pv 4) pe_int) (pe_op op_mul (pv 0) (pv 5))) pe_int) (fun _ _ => rfl))) (pe_slice sl_str (pv 1) (po_some (pv 2)) po_none)))))))))))))), ?_⟩
    refine seq_cut fun N1 h1 => ?_
    walk_at "wp"
    refine h1 _ _ ?_
    clear h1
    refine seq_cut fun N2 h2 => ?_
    walk_at "wp"
    have e12 : (10 : Int) ^ Int.toNat 12 = 1000000000000 := by decide
    refine ⟨⟨by decide, by decide, by decide⟩, by rw [e12]; decide, ?_⟩
    rw [e12]
    generalize c % 1000000000000 = d
    refine h2 _ _ ?_
    clear h2
    refine seq_cut fun N3 h3 => ?_
    walk_at "wp"
    obtain ⟨z, hz⟩ : ∃ z : Nat, d % 4 = (z : Int) := ⟨_, (Int.toNat_of_nonneg (Int.emod_nonneg _ (by omega))).symm⟩
    have hz3 : z ≤ 3 := by have := Int.emod_lt_of_pos d (b := 4) (by omega); omega
    rw [hz]
    refine h3 _ _ ?_
    clear h3
    have pick : ∀ i : Int, 0 ≤ i → i < 26 → ∃ ch, inT CAPS ch = true ∧ atI (Str.ofString "ABCDEFGHIJKLMNOPQRSTUVWXYZ").cps.toList i = some ch := fun i h0 h1 => by
      obtain ⟨ch, hm, hc⟩ := atI_in (xs := (Str.ofString "ABCDEFGHIJKLMNOPQRSTUVWXYZ").cps.toList) h0 (by show _ < (26 : Int); exact h1)
      exact ⟨ch, caps_all ch hm, hc⟩
    have pk : ∀ x : Int, ∃ ch, inT CAPS ch = true ∧ atI (Str.ofString "ABCDEFGHIJKLMNOPQRSTUVWXYZ").cps.toList (x % 26) = some ch := fun x => pick _ (Int.emod_nonneg _ (by omega)) (Int.emod_lt_of_pos _ (by omega))
    obtain ⟨c1, g1, a1⟩ := pk (d / 4)
    obtain ⟨c2, g2, a2⟩ := pk (d / 104)
    obtain ⟨c3, g3, a3⟩ := pk (d / 2704)
    have sz : (Str.ofString "ABCDEFGHIJKLMNOPQRSTUVWXYZ").length ≤ sizeLine := by decide
    refine seq_cut fun N4 h4 => ?_
    walk_at "wp"
    refine ⟨sz, c1, a1, sz, c2, a2, line_le (show 1 + 1 ≤ 1000000 by omega), h4 _ _ ?_⟩
    clear h4
    refine seq_cut fun N5 h5 => ?_
    walk_at "wp"
    refine ⟨sz, c3, a3, line_le (show 2 + 1 ≤ 1000000 by omega), h5 _ _ ?_⟩
    clear h5
    have eb : ((⟨#[c1]⟩ : Str) ++ (⟨#[c2]⟩ : Str) ++ (⟨#[c3]⟩ : Str)) = tx [c1, c2, c3] := rfl
    rw [eb]
    refine seq_cut fun N6 h6 => ?_
    walk_at "wp"
    refine ⟨line_le (show 3 ≤ 1000000 by omega), h6 _ _ ?_⟩
    clear h6
    rw [slice_any, HT.sIx_none, HT.sIx_nat]
    obtain ⟨b, hb⟩ : ∃ b, (([c1, c2, c3] : List Nat).drop 0).take (min z ([c1, c2, c3] : List Nat).length - 0) = b := ⟨_, rfl⟩
    have hbl : b.length ≤ 3 := by rw [← hb, List.length_take]; show min _ 3 ≤ 3; omega
    have hbo : onlyB b CAPS = true := by
      refine onlyB_sub (b := [c1, c2, c3]) (fun c hc => ?_) ?_
      · rw [← hb] at hc; exact List.mem_of_mem_drop (List.mem_of_mem_take hc)
      · unfold onlyB; simp [g1, g2, g3]
    rw [hb]
    refine seq_cut fun N7 h7 => ?_
    walk_at "wp"
    refine ⟨by omega, ?_⟩
    obtain ⟨k0, hk0⟩ : ∃ k0 : Nat, d / 70304 % ((z : Int) + 1) = (k0 : Int) := ⟨_, (Int.toNat_of_nonneg (Int.emod_nonneg _ (by omega))).symm⟩
    rw [hk0]
    refine h7 _ _ ?_
    clear h7
    refine seq_cut fun N8 h8 => ?_
    walk_at "wp"
    refine h8 _ _ ?_
    clear h8
    have hst : -20 ≤ 1 + 2 * (d / 281216 % 6) ∧ 1 + 2 * (d / 281216 % 6) ≤ 20 := by have := Int.emod_nonneg (d / 281216) (b := 6) (by omega); have := Int.emod_lt_of_pos (d / 281216) (b := 6) (by omega); omega
    generalize 1 + 2 * (d / 281216 % 6) = st at hst ⊢
    walk_at "wp"
    refine ⟨by omega, by omega, ?_⟩
    rw [Int.toNat_natCast]
    refine comp_range (lo := 0) (n := m) (fun i acc σ H' => H' = H ∧ (∃ p : Pic, acc = rowsV p ∧ p.length = i ∧ ∀ r ∈ p, nameB r = true) ∧ i ≤ m ∧ ∃ x, σ = [x, some (.str (tx b)), some (.int (k0 : Int)), some (.str "ABCDEFGHIJKLMNOPQRSTUVWXYZ"), some (.int d), some (.int st)]) ⟨rfl, ⟨[], rfl, rfl, fun x hx => nomatch hx⟩, Nat.zero_le _, _, rfl⟩ ?_ ?_ ?_ ?_
    · rintro i acc σ H' ⟨_, ⟨p, rfl, hp, _⟩, hi, _⟩
      rw [rowsV_length, hp]; exact line_big (by omega)
    · rintro i acc σ H' ⟨_, _, h, _⟩
      exact h
    · rintro i acc σ H' hi ⟨rfl, ⟨p, rfl, hp, hn⟩, _, y, rfl⟩
      walk_at "wp"
      obtain ⟨ch, hg, hch⟩ := pk (d / 7 + (i : Int) * st)
      have hbz : (tx b).length ≤ sizeLine := by rw [tx_length]; exact line_le (by omega)
      rw [slice_any, slice_any, HT.sIx_none, HT.sIx_none, HT.sIx_nat, HT.sIx_nat]
      generalize hA : (b.drop 0).take (min k0 b.length - 0) = A1
      generalize hB : (b.drop (min k0 b.length)).take (b.length - min k0 b.length) = B1
      have lA : A1.length + B1.length ≤ 3 := by rw [← hA, ← hB, List.length_take, List.length_take, List.length_drop, List.length_drop]; omega
      have oA : onlyB A1 CAPS = true := onlyB_sub (fun c hc => by rw [← hA] at hc; exact List.mem_of_mem_drop (List.mem_of_mem_take hc)) hbo
      have oB : onlyB B1 CAPS = true := onlyB_sub (fun c hc => by rw [← hB] at hc; exact List.mem_of_mem_drop (List.mem_of_mem_take hc)) hbo
      have e1 : tx A1 ++ (⟨#[ch]⟩ : Str) ++ tx B1 = tx (A1 ++ [ch] ++ B1) := by rw [show (⟨#[ch]⟩ : Str) = tx [ch] from rfl, tx_add, tx_add]
      refine ⟨hbz, by omega, sz, ch, hch, ?_, hbz, ?_, ?_⟩
      · rw [tx_length]; exact line_le (by show _ + 1 ≤ _; omega)
      · rw [show (⟨#[ch]⟩ : Str) = tx [ch] from rfl, tx_add, tx_length, tx_length, List.length_append]; exact line_le (by show _ + 1 + _ ≤ _; omega)
      · rw [e1]
        refine ⟨⟨p ++ [A1 ++ [ch] ++ B1], (rowsV_append _ _).symm, by rw [List.length_append, hp]; rfl, fun r hr => ?_⟩, hi⟩
        rcases List.mem_append.mp hr with h | h
        · exact hn r h
        · rw [List.mem_singleton.mp h]; exact name_mk oA oB hg lA
    · rintro acc σ H' ⟨rfl, ⟨p, rfl, hp, hn⟩, _⟩ l hl
      exact q p hp hn l _ hl upd_same (same_upd hl)
structure RV where
  n : List Nat
  c : Int
  o1 : List Nat
  o2 : List Nat
  sg : List Nat
  t : Int
structure RC where
  rr : Addr
  cc : Addr
  cb : Addr
  ca : Addr
  ct : Addr
def RC.at (R : RC) (k : Nat) : Addr := match k with | 0 => R.cc | 1 => R.cb | 2 => R.ca | _ => R.ct
def fldK (k : Nat) (l : Addr) (v : RV) : List (Str × V) := match k with | 0 => cellF v.n v.c l v.sg | 1 => pairF v.n v.c l v.o1 v.o2 | 2 => pairF v.n v.c l v.o1 v.o2 | _ => turnF v.n v.c l v.o1 v.t
def partsK (k : Nat) (v : RV) : Pic := match k with | 0 => [] | 1 => [v.o1, v.o2] | 2 => [v.o1, v.o2] | _ => [v.o1]
def okR (k : Nat) (v : RV) : Prop := match k with | 0 => ruleOk v.n [] v.c ∧ signB v.sg = true | 1 => ruleOk v.n [v.o1, v.o2] v.c | 2 => ruleOk v.n [v.o1, v.o2] v.c | _ => ruleOk v.n [v.o1] v.c ∧ 0 ≤ v.t ∧ v.t ≤ 7
structure RV.small (v : RV) : Prop where
  n : v.n.length ≤ 1000
  o1 : v.o1.length ≤ 1000
  o2 : v.o2.length ≤ 1000
  sg : v.sg.length ≤ 1000
structure RV.good (v : RV) : Prop where
  n : nameB v.n = true
  c1 : 1 ≤ v.c
  c9 : v.c ≤ 9
  o1 : nameB v.o1 = true
  o2 : nameB v.o2 = true
  sg : signB v.sg = true
  t0 : 0 ≤ v.t
  t7 : v.t ≤ 7
theorem RV.good.small {v : RV} (g : v.good) : v.small := ⟨by have := nameB_len g.n; omega, by have := nameB_len g.o1; omega, by have := nameB_len g.o2; omega, by have := signB_len g.sg; omega⟩
theorem RV.good.ok {v : RV} (g : v.good) : ∀ k, okR k v
  | 0 => ⟨⟨fun r hr => by rw [show r = v.n by simpa using hr]; exact g.n, g.c1, g.c9⟩, g.sg⟩
  | 1 => ⟨fun r hr => by rcases (show r = v.n ∨ r = v.o1 ∨ r = v.o2 by simpa using hr) with rfl | rfl | rfl <;> first | exact g.n | exact g.o1 | exact g.o2, g.c1, g.c9⟩
  | 2 => ⟨fun r hr => by rcases (show r = v.n ∨ r = v.o1 ∨ r = v.o2 by simpa using hr) with rfl | rfl | rfl <;> first | exact g.n | exact g.o1 | exact g.o2, g.c1, g.c9⟩
  | _ + 3 => ⟨⟨fun r hr => by rcases (show r = v.n ∨ r = v.o1 by simpa using hr) with rfl | rfl <;> first | exact g.n | exact g.o1, g.c1, g.c9⟩, g.t0, g.t7⟩
def RuleAt (R : RC) (H : Hp) (k : Nat) (a : Addr) (v : RV) : Prop := ∃ dx l, H a = some (.ins (R.at k) dx (fldK k l v)) ∧ H l = some (.lst (rowsV (partsK k v)))
theorem RuleAt.up {R : RC} {H H' : Hp} {k : Nat} {a : Addr} {v : RV} (r : RuleAt R H k a v) (s : Same H H') : RuleAt R H' k a v := by
  obtain ⟨dx, l, h1, h2⟩ := r
  exact ⟨dx, l, s _ _ h1, s _ _ h2⟩
structure RKit (K : W.Frag) (R : RC) : Prop where
  i0 : ICls K R.cc
  i1 : ICls K R.cb
  i2 : ICls K R.ca
  i3 : ICls K R.ct
  a0 : NoAttr K R.cc "name" ∧ NoAttr K R.cc "cost" ∧ NoAttr K R.cc "part_names" ∧ NoAttr K R.cc "sign"
  a1 : NoAttr K R.cb "name" ∧ NoAttr K R.cb "cost" ∧ NoAttr K R.cb "part_names" ∧ NoAttr K R.cb "one" ∧ NoAttr K R.cb "other"
  a2 : NoAttr K R.ca "name" ∧ NoAttr K R.ca "cost" ∧ NoAttr K R.ca "part_names" ∧ NoAttr K R.ca "one" ∧ NoAttr K R.ca "other"
  a3 : NoAttr K R.ct "name" ∧ NoAttr K R.ct "cost" ∧ NoAttr K R.ct "part_names" ∧ NoAttr K R.ct "part" ∧ NoAttr K R.ct "turning"
  r0 : W.kitOne K (.ref R.cc) (.ref R.rr) = some true
  r1 : W.kitOne K (.ref R.cb) (.ref R.rr) = some true
  r2 : W.kitOne K (.ref R.ca) (.ref R.rr) = some true
  r3 : W.kitOne K (.ref R.ct) (.ref R.rr) = some true
  s0 : W.kitOne K (.ref R.cc) (.ref R.cc) = some true
  s1 : W.kitOne K (.ref R.cb) (.ref R.cb) = some true
  s2 : W.kitOne K (.ref R.ca) (.ref R.ca) = some true
  s3 : W.kitOne K (.ref R.ct) (.ref R.ct) = some true
theorem RKit.icls {R : RC} (rk : RKit K R) : ∀ k, ICls K (R.at k)
  | 0 => rk.i0
  | 1 => rk.i1
  | 2 => rk.i2
  | _ + 3 => rk.i3
theorem RKit.rule {R : RC} (rk : RKit K R) : ∀ k, W.kitOne K (.ref (R.at k)) (.ref R.rr) = some true
  | 0 => rk.r0
  | 1 => rk.r1
  | 2 => rk.r2
  | _ + 3 => rk.r3
theorem RKit.name {R : RC} (rk : RKit K R) : ∀ k, NoAttr K (R.at k) "name" ∧ NoAttr K (R.at k) "cost" ∧ NoAttr K (R.at k) "part_names"
  | 0 => ⟨rk.a0.1, rk.a0.2.1, rk.a0.2.2.1⟩
  | 1 => ⟨rk.a1.1, rk.a1.2.1, rk.a1.2.2.1⟩
  | 2 => ⟨rk.a2.1, rk.a2.2.1, rk.a2.2.2.1⟩
  | _ + 3 => ⟨rk.a3.1, rk.a3.2.1, rk.a3.2.2.1⟩
theorem fldK_lk (l : Addr) (v : RV) : ∀ k, (fldK k l v).lookup ("name" : Str) = some (V.str (tx v.n)) ∧ (fldK k l v).lookup ("cost" : Str) = some (V.int v.c) ∧ (fldK k l v).lookup ("part_names" : Str) = some (V.ref l) ∧ (fldK k l v).lookup ("parts" : Str) = none ∧ (fldK k l v).lookup ("told" : Str) = none
  | 0 => ⟨rfl, rfl, rfl, rfl, rfl⟩
  | 1 => ⟨rfl, rfl, rfl, rfl, rfl⟩
  | 2 => ⟨rfl, rfl, rfl, rfl, rfl⟩
  | _ + 3 => ⟨rfl, rfl, rfl, rfl, rfl⟩
theorem sameX_new {H1 H2 : Hp} {x dx : Addr} {o o' : HO} (hx : H1 x = none) (hd : H1 dx = none) (s : SameX x (upd (upd H1 dx o) x o') H2) : Same H1 H2 :=
  fun b u e => s b u (ne_of_none e hx) (by rw [upd_ne (ne_of_none e hx), upd_ne (ne_of_none e hd)]; exact e)
theorem calP4 {CX : CXT} {k : Nat} {m : Str} {C0 C1 C2 C3 : Addr} {s0 s1 s2 s3 : Sp} (h0 : ∃ ps, CalM P w K mg base CX k C0 m ps s0) (h1 : ∃ ps, CalM P w K mg base CX k C1 m ps s1) (h2 : ∃ ps, CalM P w K mg base CX k C2 m ps s2) (h3 : ∃ ps, CalM P w K mg base CX k C3 m ps s3) :
    CalP P w K mg base CX k m [(C0, s0), (C1, s1), (C2, s2), (C3, s3)] := ⟨fun o ho => by
  simp only [List.mem_cons, List.not_mem_nil, or_false] at ho
  rcases ho with rfl | rfl | rfl | rfl
  · exact h0
  · exact h1
  · exact h2
  · exact h3⟩
def toldS (k : Nat) (v : RV) : Str := match k with
  | 0 => headS v.n v.c ++ tx v.sg
  | 1 => headS v.n v.c ++ tx v.o1 ++ " | " ++ tx v.o2
  | 2 => headS v.n v.c ++ tx v.o1 ++ " / " ++ tx v.o2
  | _ => headS v.n v.c ++ tx v.o1 ++ " turned " ++ (toString v.t : String)
def oTold (R : RC) : List (Addr × Sp) := [(R.cc, sp_cell_told R.cc), (R.cb, sp_pair_told R.cb " | "), (R.ca, sp_pair_told R.ca " / "), (R.ct, sp_turn_told R.ct)]
theorem told_any {R : RC} {H : Hp} {k a} {v : RV} {Q : VK} {E : XK} (r : RuleAt R H k a v) (ok : okR k v) (sm : v.small) (q : Q (.str (toldS k v)) H) :
    ∃ o ∈ oTold R, ∃ dx fs, H a = some (.ins o.1 dx fs) ∧ fs.lookup ("told" : Str) = none ∧ o.2 [.ref a] H Q E := by
  obtain ⟨dx, l, h1, _⟩ := r
  match k, ok, h1, q with
  | 0, ok, h1, q => exact ⟨(R.cc, sp_cell_told R.cc), by simp [oTold], dx, _, h1, rfl, a, dx, l, v.n, v.sg, v.c, rfl, h1, sm.n, sm.sg, ok.1.2.1, ok.1.2.2, q⟩
  | 1, ok, h1, q => exact ⟨(R.cb, sp_pair_told R.cb " | "), by simp [oTold], dx, _, h1, rfl, a, dx, l, v.n, v.o1, v.o2, v.c, rfl, h1, sm.n, sm.o1, sm.o2, ok.2.1, ok.2.2, q⟩
  | 2, ok, h1, q => exact ⟨(R.ca, sp_pair_told R.ca " / "), by simp [oTold], dx, _, h1, rfl, a, dx, l, v.n, v.o1, v.o2, v.c, rfl, h1, sm.n, sm.o1, sm.o2, ok.2.1, ok.2.2, q⟩
  | _ + 3, ok, h1, q => exact ⟨(R.ct, sp_turn_told R.ct), by simp [oTold], dx, _, h1, rfl, a, dx, l, v.n, v.o1, v.c, v.t, rfl, h1, sm.n, sm.o1, ok.1.2.1, ok.1.2.2, ok.2.1, ok.2.2, q⟩
def oParts (K : W.Frag) (R : RC) : List (Addr × Sp) := [(R.cc, sp_rule_parts K), (R.cb, sp_rule_parts K), (R.ca, sp_rule_parts K), (R.ct, sp_rule_parts K)]
theorem parts_any {R : RC} {H : Hp} {k a} {v : RV} {Q : VK} {E : XK} (rk : RKit K R) (r : RuleAt R H k a v) (q : GivesPic H (partsK k v) Q) :
    ∃ o ∈ oParts K R, ∃ dx fs, H a = some (.ins o.1 dx fs) ∧ fs.lookup ("parts" : Str) = none ∧ o.2 [.ref a] H Q E := by
  obtain ⟨dx, l, h1, h2⟩ := r
  have key : sp_rule_parts K [.ref a] H Q E := ⟨a, R.at k, dx, l, _, _, rfl, h1, (rk.icls k).cl, (rk.name k).2.2, (fldK_lk l v k).2.2.1, h2, q⟩
  have mem : (R.at k, sp_rule_parts K) ∈ oParts K R := by
    unfold oParts
    match k with
    | 0 => simp [RC.at]
    | 1 => simp [RC.at]
    | 2 => simp [RC.at]
    | _ + 3 => simp [RC.at]
  exact ⟨_, mem, dx, _, h1, (fldK_lk l v k).2.2.2.1, key⟩
abbrev s_are_signs : Stmt := top 35
abbrev SMALLS11 : Str := "abcdefghijklmnopqrstuvwxyz"
def signsB (r : List Nat) : Bool := decide (1 ≤ r.length) && decide (r.length ≤ 4) && onlyB r SMALLS11 && decide ((met (signsOf (tx r))).length = r.length)
def sp_are_signs : Sp := fun vs H Q _ => ∃ (r : List Nat), vs = [.str (tx r)] ∧ r.length ≤ 1000 ∧ ∀ H', Same H H' → Q (.bl (signsB r)) H'
theorem sc_are_signs : FnScope ["text"] ["text"] (defScope s_are_signs) := ⟨rfl, rfl, rfl, by decide +kernel, rfl, by decide +kernel, by decide +kernel⟩
theorem ok_are_signs {f : Addr} {fd : FuncData} {t1 t2 : Tok} (F : Fun K "are_signs" "are_signs" s_are_signs f fd) (nb : NB mg) (m_MOST_SIGNS : mg "MOST_SIGNS" = some (.int 4 t1)) (m_SMALLS : mg "SMALLS" = some (.str "abcdefghijklmnopqrstuvwxyz" t2)) (c_only_of : Cal P w K mg base CX0 1 "only_of" ["text", "letters"] sp_only_of) : FnOk P w K mg base CX0 2 f fd ["text"] sp_are_signs := by
  have sc := sc_are_signs
  refine F.ok sc (fun vs H Q E h => ?_) (fun cdv A outer s H vs Q E hr h => ?_)
  · obtain ⟨r, rfl, _⟩ := h; rfl
  · obtain ⟨r, rfl, hr', q⟩ := h
    refine ⟨_, (pss_one (ps_ret (pe_and (pe_chain op_le op_le pe_int (pe_callB call_len_str rfl nb.len bt_len (pa_cons (pv 0) pa_nil)) (pe_glob (v := .int 4) rfl m_MOST_SIGNS ⟨_, rfl⟩)) (pe_and (pe_cal c_only_of (hr.mono (by decide)) rfl pass0 (pa_cons (pv 0) (pa_cons (pe_glob (v := .str "abcdefghijklmnopqrstuvwxyz") rfl m_SMALLS ⟨_, rfl⟩) pa_nil))) (pe_one (pe_cmpR op_eq (pe_lenset rfl (pv 0) rfl nb.len rfl nb.set) (pe_callB call_len_str rfl nb.len bt_len (pa_cons (pv 0) pa_nil)) (nomark _))))))), ?_⟩
    walk_at "wp"
    refine ⟨by rw [tx_length]; exact line_le (by omega), ?_⟩
    rw [tx_length]
    unfold signsB at q
    by_cases h1 : 1 ≤ r.length
    · rw [if_pos (by omega)]
      by_cases h2 : r.length ≤ 4
      · rw [if_pos (by omega)]
        refine ⟨r, _, rfl, by omega, fun H' sm => ⟨_, rfl, ?_⟩⟩
        have z := q H' sm
        rw [decide_eq_true h1, decide_eq_true h2] at z
        cases ho : onlyB r SMALLS11 with
        | false =>
          rw [ho] at z
          rw [if_neg (by simp)]
          exact z
        | true =>
          rw [ho] at z
          rw [if_pos rfl]
          refine ⟨by rw [txs]; unfold scanBound; omega, by exact line_le (by omega), ?_⟩
          have e : decide (((met (signsOf (tx r))).length : Int) = (r.length : Int)) = decide ((met (signsOf (tx r))).length = r.length) := by
            apply decide_eq_decide.mpr
            constructor <;> intro h <;> omega
          rw [e]
          exact z
      · rw [if_neg (by omega)]
        have z := q H (fun _ _ e => e)
        rw [decide_eq_true h1, decide_eq_false h2] at z
        exact z
    · rw [if_neg (by omega)]
      have z := q H (fun _ _ e => e)
      rw [decide_eq_false h1] at z
      exact z
def wyV (y : Str × List Int) : List V := .str y.1 :: y.2.map V.int
theorem drop_get {α : Type} {l : List α} {i : Nat} {x : α} (h : l[i]? = some x) : l.drop i = x :: l.drop (i + 1) := by
  obtain ⟨hi, e⟩ := List.getElem?_eq_some_iff.mp h
  rw [List.drop_eq_getElem_cons hi, e]
def Faulty (C : Addr) (H : Hp) (y : Str × List Int) (E : XK) : Prop := ∀ (t d : Addr) (H' : Hp), Same H H' → H' t = some (.tup (wyV y)) → H' d = some (.xd [("why", .ref t)]) → E (.ref C) (some d) H'
theorem Faulty.made {C : Addr} {H H' : Hp} {y : Str × List Int} {E : XK} (b : Faulty C H y E) (sm : Same H H') {p d : Addr} (hp : H' p = none) (hd : upd H' p (.tup (wyV y)) d = none) : E (.ref C) (some d) (upd (upd H' p (.tup (wyV y))) d (.xd [("why", .ref p)])) := by
  have hdp : p ≠ d := fun x => by rw [← x, upd_same] at hd; cases hd
  exact b p d _ ((sm.trans (same_upd hp)).trans (same_upd hd)) (by rw [upd_ne hdp, upd_same]) upd_same
structure RKit4 (K : W.Frag) (R : RC) : Prop where
  kit : ∀ i j, i < 4 → j < 4 → W.kitOne K (.ref (R.at i)) (.ref (R.at j)) = some (decide (i = j))
abbrev s_ginit : Stmt := meth 5 0
theorem sc_ginit : FnScope ["self", "why"] ["self", "why"] (defScope s_ginit) := ⟨rfl, rfl, rfl, by decide +kernel, rfl, by decide +kernel, by decide +kernel⟩
theorem ok_ginit {f C : Addr} {fd : FuncData} (F : Fun K "__init__" "NoGrammar.__init__" s_ginit f fd) (xs : W.XSt K C "why") : FnOk P w K mg base CX0 1 f fd ["self", "why"] (sp_init C "why") := by
  have sc := sc_ginit
  refine F.ok sc (fun vs H Q E h => ?_) (fun cdv A outer s H vs Q E hr h => ?_)
  · obtain ⟨a, v, rfl, _⟩ := h; rfl
  · obtain ⟨a, v, rfl, ha, q⟩ := h
    refine ⟨_, (pss_one (ps_xset (pv 0) (pv 1) rfl)), ?_⟩
    walk_at "wp"
    exact ⟨C, ha, xs, fun d hd => q d hd⟩
abbrev inS (z x : Str) : Bool := !(Builtin.Str.occurrences z x 0 z.length 1).isEmpty
def badSign (sg : Str) : List (Nat × RV) → Nat → Option Nat
  | [], _ => none
  | r :: rs, j => if r.1 = 0 ∧ inS sg (tx r.2.sg) = false then some j else badSign sg rs (j + 1)
def gFault0 (sg st : List Nat) (rs : List (Nat × RV)) : Option (Str × List Int) :=
  if signsB sg = false then some ("signs", []) else if nameB st = false then some ("start", []) else if 24 < rs.length then some ("rules", [(rs.length : Int)]) else
    match badSign (tx sg) rs 0 with
    | some k => some ("sign", [(k : Int)])
    | none => none
abbrev s_check_made_of : Stmt := top 34
def RulesAt (R : RC) (H : Hp) (as : List Addr) (rs : List (Nat × RV)) : Prop := as.length = rs.length ∧ ∀ (i : Nat) a r, as[i]? = some a → rs[i]? = some r → RuleAt R H r.1 a r.2
theorem RulesAt.up {R : RC} {H H' : Hp} {as : List Addr} {rs : List (Nat × RV)} (h : RulesAt R H as rs) (s : Same H H') : RulesAt R H' as rs := ⟨h.1, fun i a r e1 e2 => (h.2 i a r e1 e2).up s⟩
def sp_check_made_of (R : RC) (C : Addr) : Sp := fun vs H Q E => ∃ (sg st : List Nat) (a : Addr) (as : List Addr) (rs : List (Nat × RV)), vs = [.str (tx sg), .str (tx st), .ref a] ∧ sg.length ≤ 1000 ∧ st.length ≤ 1000 ∧ H a = some (.lst (as.map V.ref)) ∧ RulesAt R H as rs ∧ (∀ r ∈ rs, r.1 < 4) ∧ rs.length ≤ 100 ∧
  (gFault0 sg st rs = none → ∀ H', Same H H' → Q .non H') ∧ ∀ y, gFault0 sg st rs = some y → Faulty C H y E
theorem sc_check_made_of : FnScope ["signs", "start", "rules", "k", "rule"] ["signs", "start", "rules"] (defScope s_check_made_of) := ⟨rfl, rfl, rfl, by decide +kernel, rfl, by decide +kernel, by decide +kernel⟩
theorem ok_check_made_of {R : RC} {f zca : Addr} {fd : FuncData} {t1 : Tok} (F : Fun K "check_made_of" "check_made_of" s_check_made_of f fd) (nb : NB mg) (rk : RKit K R) (rk4 : RKit4 K R) (m_MOST_RULES : mg "MOST_RULES" = some (.int 24 t1)) (zWa : mg "CellRule" = some (.ref R.cc))
    (zwa : mg "NoGrammar" = some (.ref zca)) (zra : XI P w K mg base 1 zca "why") (c_are_signs : Cal P w K mg base CX0 2 "are_signs" ["text"] sp_are_signs) (c_is_name : Cal P w K mg base CX0 2 "is_name" ["text"] sp_is_name) : FnOk P w K mg base (CX1 P w) 3 f fd ["signs", "start", "rules"] (sp_check_made_of R zca) := by
  have sc := sc_check_made_of
  refine F.okX sc (fun vs H Q E h => ?_) (fun cdv A outer s H vs Q E hr h => ?_)
  · obtain ⟨sg, st, a, as, rs, rfl, _⟩ := h; rfl
  · obtain ⟨sg, st, a, as, rs, rfl, hsg, hst, ha, hrs, hk4, hn, good, bad⟩ := h
    refine ⟨_, (pss_cons (ps_if (pt_not (pt_tb (pe_cal (CX := CX1 P w) c_are_signs.lift (hr.mono (by decide)) rfl passes_E0 (pa_cons (pv 0) pa_nil)) fun _ => rfl))
      (pss_one (ps_raiseI zra (hr.mono (by decide)) rfl rfl zwa (makesI_up fun _ _ _ h => h) (pa_cons (pe_tup (pa_consS pa_nil)) pa_nil)))
      pss_nil)
      (pss_cons (ps_if (pt_not (pt_tb (pe_cal (CX := CX1 P w) c_is_name.lift (hr.mono (by decide)) rfl passes_E0 (pa_cons (pv 1) pa_nil)) fun _ => rfl))
      (pss_one (ps_raiseI zra (hr.mono (by decide)) rfl rfl zwa (makesI_up fun _ _ _ h => h) (pa_cons (pe_tup (pa_consS pa_nil)) pa_nil)))
      pss_nil)
      (pss_cons (ps_if (pt_cmpR op_gt (pe_callB call_lenL rfl nb.len bt_len (pa_cons (pv 2) pa_nil)) (pe_glob (v := .int 24) rfl m_MOST_RULES ⟨_, rfl⟩) (nomark _))
      (pss_one (ps_raiseI zra (hr.mono (by decide)) rfl rfl zwa (makesI_up fun _ _ _ h => h) (pa_cons (pe_tup (pa_consS (pa_cons (pe_callB call_lenL rfl nb.len bt_len (pa_cons (pv 2) pa_nil)) pa_nil))) pa_nil)))
      pss_nil)
      (pss_one (ps_forw PassesOwn.leaving rfl (pi_enum rfl nb.enumerate (pa_cons (pv 2) pa_nil)) (pg_tup (n := 2) rfl (pgs_cons (pg_name (i := 3) sc.nd rfl (Or.inl rfl)) (pgs_cons (pg_name (i := 4) sc.nd rfl (Or.inl rfl)) pgs_nil)))
      (pss_one (ps_if (PW.pt (pw_and (pt_tb (pe_callB call_isinstance rfl nb.isinstance bt_isinstance (pa_cons (pv 4) (pa_cons (pe_glob (v := .ref _) rfl zWa rfl) pa_nil))) fun _ => rfl) (pw_and1 (pt_cmpR op_notin_str (pe_fld (pv 4) rfl) (pv 0) (by with_unfolding_all rfl)))))
      (pss_one (ps_raiseI zra (hr.mono (by decide)) rfl rfl zwa (makesI_up fun _ _ _ h => h) (pa_cons (pe_tup (pa_consS (pa_cons (pv 3) pa_nil))) pa_nil)))
      pss_nil))))))), ?_⟩
    have tupw : ∀ (H' : Hp) (y : Str × List Int), Same H H' → gFault0 sg st rs = some y → ∀ p, H' p = none → 1 ≤ sizeLine ∧ ∀ d, upd H' p (.tup (wyV y)) d = none → E (.ref zca) (some d) (upd (upd H' p (.tup (wyV y))) d (.xd [("why", .ref p)])) :=
      fun H' y sm hy p hp => ⟨line_le (by omega), fun d hd => (bad y hy).made sm hp hd⟩
    refine seq_cut fun N1 h1 => ?_
    walk_at "wp"
    refine ⟨sg, rfl, hsg, fun H1 sm1 => ⟨_, rfl, ?_⟩⟩
    unfold gFault0 at good tupw
    cases e1 : signsB sg with
    | false =>
      rw [if_pos rfl]
      rw [if_pos e1] at tupw
      exact ⟨line_le (by omega), tupw H1 _ sm1 rfl⟩
    | true =>
    rw [if_neg (by decide)]
    rw [if_neg (by rw [e1]; decide)] at good tupw
    refine h1 _ _ ?_
    clear h1
    refine seq_cut fun N2 h2 => ?_
    walk_at "wp"
    refine ⟨st, rfl, by omega, fun H2 sm2 => ⟨_, rfl, ?_⟩⟩
    have sm12 := sm1.trans sm2
    cases e2 : nameB st with
    | false =>
      rw [if_pos rfl]
      rw [if_pos e2] at tupw
      exact ⟨line_le (by omega), tupw H2 _ sm12 rfl⟩
    | true =>
    rw [if_neg (by decide)]
    rw [if_neg (by rw [e2]; decide)] at good tupw
    refine h2 _ _ ?_
    clear h2
    have ha2 := sm12 _ _ ha
    have hal : (as.map V.ref).length = rs.length := by rw [List.length_map]; exact hrs.1
    refine seq_cut fun N3 h3 => ?_
    walk_at "wp"
    refine ⟨_, SqL.of ha2, ?_⟩
    rw [hal]
    by_cases h24 : 24 < rs.length
    · rw [if_pos (by omega)]
      rw [if_pos h24] at tupw
      refine ⟨_, SqL.of ha2, line_le (by omega), ?_⟩
      rw [hal]
      exact tupw H2 _ sm12 rfl
    rw [if_neg (by omega)]
    rw [if_neg h24] at good tupw
    refine h3 _ _ ?_
    clear h3
    walk_at "wp"
    refine ⟨_, SqL.of ha2, ?_⟩
    refine forw_enum (xs := as.map V.ref) (fun i σ H' => Same H H' ∧ badSign (tx sg) (rs.drop i) i = badSign (tx sg) rs 0 ∧ ∃ x y, σ = [some (.str (tx sg)), some (.str (tx st)), some (.ref a), x, y]) ⟨sm12, rfl, _, _, rfl⟩ ?_ ?_ ?_
    · rintro i σ H' _ ⟨sm, _⟩
      exact SqL.of (sm _ _ ha)
    · rintro i x σ H3 T hx ⟨sm, hb, x1, y1, rfl⟩ hT
      have hlt : i < rs.length := by have := (List.getElem?_eq_some_iff.mp hx).1; rw [hal] at this; exact this
      obtain ⟨ra, hra, rfl⟩ : ∃ ra, as[i]? = some ra ∧ V.ref ra = x := by
        rw [List.getElem?_map] at hx
        cases e : as[i]? with
        | none => rw [e] at hx; cases hx
        | some ra => rw [e] at hx; exact ⟨ra, rfl, Option.some.inj hx⟩
      have hrr : rs[i]? = some rs[i] := List.getElem?_eq_getElem hlt
      have hr4 := hk4 _ (List.getElem_mem hlt)
      generalize rs[i] = r at hrr hr4
      rw [drop_get hrr] at hb
      have smT : Same H (upd H3 T (.tup [V.int (i : Int), V.ref ra])) := sm.trans (same_upd hT)
      have eT : upd H3 T (.tup [V.int (i : Int), V.ref ra]) T = some (.tup [V.int (i : Int), V.ref ra]) := upd_same
      generalize upd H3 T (.tup [V.int (i : Int), V.ref ra]) = H4 at smT eT ⊢
      have rr := (hrs.2 i ra r hra hrr).up smT
      obtain ⟨dx, pl, hra4, _⟩ := id rr
      walk_at "wp"
      refine ⟨_, SqT.of eT, rfl, _, _, rfl, _, _, rfl, rfl, ?_⟩
      refine ⟨_, (rk.icls r.1).ty hra4, _, rk4.kit r.1 0 hr4 (by decide), ?_⟩
      have hb' : (if r.1 = 0 ∧ inS (tx sg) (tx r.2.sg) = false then some i else badSign (tx sg) (rs.drop (i + 1)) (i + 1)) = badSign (tx sg) rs 0 := hb
      by_cases e0 : r.1 = 0
      · rw [if_pos (by simp [e0])]
        obtain ⟨r0, v⟩ := r
        have e0' : r0 = 0 := e0
        subst e0'
        refine ⟨ra, rfl, _, _, _, hra4, rk.i0.cl, rk.a0.2.2.2, _, rfl, _, rfl, ?_⟩
        cases hin : inS (tx sg) (tx v.sg) with
        | false =>
          rw [if_pos hin]
          rw [if_pos ⟨rfl, hin⟩] at hb'
          rw [← hb'] at tupw
          exact ⟨line_le (by omega), tupw H4 _ smT rfl⟩
        | true =>
          rw [if_neg (by rw [show (!(Builtin.Str.occurrences (tx sg) (tx v.sg) 0 (tx sg).length 1).isEmpty) = true from hin]; decide)]
          rw [if_neg (fun z => by rw [hin] at z; exact absurd z.2 (by decide))] at hb'
          exact ⟨smT, hb'⟩
      · rw [if_neg (by simp [e0])]
        rw [if_neg (fun z => e0 z.1)] at hb'
        exact ⟨smT, hb'⟩
    · rintro σ H' ⟨sm, hb, x, y, rfl⟩
      walk_at "wp"
      rw [hal, List.drop_of_length_le (Nat.le_refl _)] at hb
      refine good ?_ H' sm
      rw [← hb]; rfl
def ntPut (m : List (Str × List Nat)) (z : Str) (i : Nat) : List (Str × List Nat) := m.map fun q => if q.1 = z then (q.1, q.2 ++ [i]) else q
structure NumI (H0 : Hp) (p : Addr) (t : NT) (H : Hp) : Prop where
  same : Same H0 H
  at_ : NumsAt H p t
  fresh : ∀ x ∈ t, H0 x.2.1 = none
  nodup : ((ntM t).map (·.1)).Nodup
theorem ntM_length (t : NT) : (ntM t).length = t.length := by unfold ntM; rw [List.length_map]
theorem ntName_length (m : List (Str × List Nat)) (z : Str) : (ntName m z).length ≤ m.length + 1 := by
  unfold ntName; split
  · omega
  · rw [List.length_append]; simp
theorem ntPut_keys (m : List (Str × List Nat)) (z : Str) (i : Nat) : (ntPut m z i).map (·.1) = m.map (·.1) := by
  unfold ntPut; rw [List.map_map]
  apply List.map_congr_left
  intro q _
  simp only [Function.comp]
  split <;> rfl
theorem ntPut_set {m : List (Str × List Nat)} {j i : Nat} {q : Str × List Nat} (nd : (m.map (·.1)).Nodup) (hj : m[j]? = some q) : m.set j (q.1, q.2 ++ [i]) = ntPut m q.1 i := by
  unfold ntPut
  apply List.ext_getElem?
  intro k
  rw [List.getElem?_map, List.getElem?_set]
  have hlt : j < m.length := (List.getElem?_eq_some_iff.mp hj).1
  by_cases e : j = k
  · subst e
    rw [if_pos rfl, if_pos hlt, hj]
    simp
  · rw [if_neg e]
    cases hk : m[k]? with
    | none => rfl
    | some y =>
      have hne : y.1 ≠ q.1 := by
        intro h
        have h1 : (m.map (·.1))[j]? = some q.1 := by rw [List.getElem?_map, hj]; rfl
        have h2 : (m.map (·.1))[k]? = some q.1 := by rw [List.getElem?_map, hk]; simp [h]
        exact e ((List.getElem?_inj (List.getElem?_eq_some_iff.mp h1).1 nd).mp (h1.trans h2.symm))
      simp [hne]
theorem NumI.free {H0 H : Hp} {p : Addr} {t : NT} (N : NumI H0 p t H) {l : Addr} (h : H l = none) : H0 l = none := N.same.free h
theorem setdef_nums {te : TE} {σ : St} {H0 H : Hp} {p : Addr} {t : NT} {z : Str} {i : Nat} {Q : VK} (hp : H0 p = none) (hv : σ[i]? = some (some (.ref p))) (hte : ∀ R : VK, R (.str z) H → te σ H R) (N : NumI H0 p t H) (hn : t.length < sizeLine)
    (h : ∀ (H' : Hp) (t' : NT) (j : Nat) (x : Str × Addr × List Nat), NumI H0 p t' H' → t'[j]? = some x → x.1 = z → ntM t' = ntName (ntM t) z → t'.length ≤ t.length + 1 → (∀ a o, a ≠ p → H a = some o → H' a = some o) → Q (.ref x.2.1) H') : tDSetdef (tVar i) te (tLst tNil) σ H Q := by
  refine ⟨.ref p, hv, p, rfl, .inl ⟨_, .inl N.at_.dict⟩, hte _ ⟨Nat.zero_le _, fun l hl => ?_⟩⟩
  have hl0 := N.free hl
  refine N.at_.setdef hl hn fun H' t' j x N' hj hx hm hy hk => h H' t' j x ⟨fun b o e => hk b o (fun q => by rw [q, hp] at e; exact nomatch e) (N.same b o e), N', fun y hyy => ?_, ?_⟩ hj hx hm ?_ hk
  · rcases hy y hyy with q | q
    · exact N.fresh y q
    · rw [q]; exact hl0
  · rw [hm]; exact ntName_nodup N.nodup
  · have := ntName_length (ntM t) z
    rw [← hm, ntM_length, ntM_length] at this
    exact this
theorem NumI.put {H0 H : Hp} {p : Addr} {t : NT} {j k : Nat} {x : Str × Addr × List Nat} (N : NumI H0 p t H) (hj : t[j]? = some x) :
    NumI H0 p (t.set j (x.1, x.2.1, x.2.2 ++ [k])) (upd H x.2.1 (.lst (ntI (x.2.2 ++ [k])))) ∧ ntM (t.set j (x.1, x.2.1, x.2.2 ++ [k])) = ntPut (ntM t) x.1 k := by
  have hm := List.mem_of_getElem? hj
  have e : ntM (t.set j (x.1, x.2.1, x.2.2 ++ [k])) = ntPut (ntM t) x.1 k := by
    rw [ntM_set]
    exact ntPut_set (q := (x.1, x.2.2)) N.nodup (by unfold ntM; rw [List.getElem?_map, hj]; rfl)
  refine ⟨⟨same_upd2 N.same (N.fresh x hm), N.at_.put hj, fun y hy => ?_, ?_⟩, e⟩
  · rcases List.mem_or_eq_of_mem_set hy with q | q
    · exact N.fresh y q
    · rw [q]; exact N.fresh x hm
  · rw [e, ntPut_keys]; exact N.nodup
abbrev s_numbers_by_name : Stmt := top 36
theorem sc_numbers_by_name : FnScope ["start", "rules", "numbers", "k", "rule", "part"] ["start", "rules"] (defScope s_numbers_by_name) := ⟨rfl, rfl, rfl, by decide +kernel, rfl, by decide +kernel, by decide +kernel⟩
def numStep (m : List (Str × List Nat)) (i : Nat) (r : Nat × RV) : List (Str × List Nat) := ((partsK r.1 r.2).map tx).foldl ntName (ntPut (ntName m (tx r.2.n)) (tx r.2.n) i)
def numsGo : Nat → List (Nat × RV) → List (Str × List Nat) → List (Str × List Nat)
  | _, [], m => m
  | i, r :: rs, m => numsGo (i + 1) rs (numStep m i r)
theorem ntName_few {m : List (Str × List Nat)} {z : Str} {n : Nat} (h : ∀ q ∈ m, q.2.length ≤ n) : ∀ q ∈ ntName m z, q.2.length ≤ n := by
  unfold ntName; split
  · exact h
  · intro q hq
    rcases List.mem_append.mp hq with z1 | z1
    · exact h q z1
    · rw [List.mem_singleton.mp z1]; exact Nat.zero_le _
theorem ntNames_few : ∀ {zs : List Str} {m : List (Str × List Nat)} {n : Nat}, (∀ q ∈ m, q.2.length ≤ n) → ∀ q ∈ zs.foldl ntName m, q.2.length ≤ n
  | [], _, _, h => h
  | z :: zs, _, _, h => ntNames_few (zs := zs) (ntName_few h)
theorem numStep_few {m : List (Str × List Nat)} {i n : Nat} {r : Nat × RV} (h : ∀ q ∈ m, q.2.length ≤ n) : ∀ q ∈ numStep m i r, q.2.length ≤ n + 1 := by
  unfold numStep
  refine ntNames_few fun q hq => ?_
  unfold ntPut at hq
  obtain ⟨q0, hq0, rfl⟩ := List.mem_map.mp hq
  have := ntName_few h q0 hq0
  split
  · rw [List.length_append]; simp; exact this
  · omega
theorem numsGo_few : ∀ {rs : List (Nat × RV)} {i n : Nat} {m : List (Str × List Nat)}, (∀ q ∈ m, q.2.length ≤ n) → ∀ q ∈ numsGo i rs m, q.2.length ≤ n + rs.length
  | [], _, _, _, h => h
  | r :: rs, i, n, m, h => fun q hq => by
    have := numsGo_few (rs := rs) (i := i + 1) (numStep_few (i := i) (r := r) h) q hq
    rw [List.length_cons]; omega
theorem numsGo_snoc : ∀ {rs : List (Nat × RV)} {i : Nat} {m : List (Str × List Nat)} {r : Nat × RV}, numsGo i (rs ++ [r]) m = numStep (numsGo i rs m) (i + rs.length) r
  | [], i, m, r => rfl
  | r0 :: rs, i, m, r => by
    show numsGo (i + 1) (rs ++ [r]) (numStep m i r0) = numStep (numsGo (i + 1) rs (numStep m i r0)) (i + (rs.length + 1)) r
    rw [numsGo_snoc, show i + 1 + rs.length = i + (rs.length + 1) by omega]
theorem partsK_few (k : Nat) (v : RV) : (partsK k v).length ≤ 2 := by
  match k with
  | 0 => simp [partsK]
  | 1 => simp [partsK]
  | 2 => simp [partsK]
  | _ + 3 => simp [partsK]
def numsOf (z : Str) (rs : List (Nat × RV)) : List (Str × List Nat) := numsGo 0 rs [(z, [])]
def sp_numbers_by_name (K : W.Frag) (R : RC) : Sp := fun vs H Q _ => ∃ (z : Str) (a : Addr) (as : List Addr) (rs : List (Nat × RV)), vs = [.str z, .ref a] ∧ H a = some (.lst (as.map V.ref)) ∧ RulesAt R H as rs ∧ rs.length ≤ 100 ∧
  ∀ p H' t, H p = none → NumsAt H' p t → ntM t = numsOf z rs → (∀ x ∈ t, H x.2.1 = none) → Same H H' → Q (.ref p) H'
theorem ok_numbers_by_name {R : RC} {f : Addr} {fd : FuncData} (F : Fun K "numbers_by_name" "numbers_by_name" s_numbers_by_name f fd) (nb : NB mg) (rk : RKit K R) (cp_parts : CalP P w K mg base CX0 1 "parts" (oParts K R)) : FnOk P w K mg base CX0 2 f fd ["start", "rules"] (sp_numbers_by_name K R) := by
  have sc := sc_numbers_by_name
  refine F.ok sc (fun vs H Q E h => ?_) (fun cdv A outer s H vs Q E hr h => ?_)
  · obtain ⟨r, a, _, _, rfl, _⟩ := h; rfl
  · obtain ⟨z, a, as, rs, rfl, ha, hrs, hn, q⟩ := h
    refine ⟨_, (pss_cons (ps_set (i := 2) sc.nd rfl (Or.inl rfl) (pe_disp (pps_cons (pv 0) (pe_lst pa_nil) pps_nil) rfl rfl (by simp) (by decide)))
      (pss_cons (ps_forw PassesOwn.never rfl (pi_enum rfl nb.enumerate (pa_cons (pv 1) pa_nil)) (pg_tup (n := 2) rfl (pgs_cons (pg_name (i := 3) sc.nd rfl (Or.inl rfl)) (pgs_cons (pg_name (i := 4) sc.nd rfl (Or.inl rfl)) pgs_nil)))
      (pss_cons (ps_expr (pe_bm PySem.F.plainAttrs_list PySem.F.slot_list_append PySem.F.type_list_append mt_append (pe_dsetdef (pv 2) (pe_fld (pv 4) rfl) (pe_lst pa_nil) ⟨rfl, rfl, rfl, rfl⟩) (pa_cons (pv 3) pa_nil)))
      (pss_one (ps_forw PassesOwn.never rfl (pi_list (pe_calP0 cp_parts (hr.mono (by decide)) pass0 (pv 4))) (pg_name (i := 5) sc.nd rfl (Or.inl rfl))
      (pss_one (ps_expr (pe_dsetdef (pv 2) (pv 5) (pe_lst pa_nil) ⟨rfl, rfl, rfl, rfl⟩)))))))
      (pss_one (ps_ret (pv 2))))), ?_⟩
    walk_at "wp"
    intro p hp
    refine ⟨Nat.zero_le _, fun l hl => ?_⟩
    have hlp : l ≠ p := fun e => by rw [e, upd_same] at hl; exact nomatch hl
    have hl0 : H l = none := by rw [upd_ne hlp] at hl; exact hl
    have hap : a ≠ p := fun e => by rw [e, hp] at ha; exact nomatch ha
    have hal : a ≠ l := fun e => by rw [e, hl0] at ha; exact nomatch ha
    refine ⟨by rw [upd_ne (Ne.symm hlp), upd_same], [(.inr z, .ref l)], rfl, by simp, as.map V.ref, SqL.of (by rw [upd_ne hap, upd_ne hal, upd_ne hap]; exact ha), ?_⟩
    refine forw_enum (xs := as.map V.ref) (fun i σ H' => Same H H' ∧ ∃ t, NumsAt H' p t ∧ (∀ x ∈ t, H x.2.1 = none) ∧ ((ntM t).map (·.1)).Nodup ∧ ntM t = numsGo 0 (rs.take i) [(z, [])] ∧ t.length ≤ 1 + 3 * i ∧ ∃ x y u, σ = [some (.str z), some (.ref a), some (.ref p), x, y, u]) ?_ ?_ ?_ ?_
    · refine ⟨fun b o e => ?_, [(z, l, [])], ⟨by rw [upd_same]; rfl, fun x hx => ?_, by simp⟩, fun x hx => ?_, by simp [ntM], rfl, by simp, _, _, _, rfl⟩
      · have h1 : b ≠ p := fun q => by rw [q, hp] at e; exact nomatch e
        have h2 : b ≠ l := fun q => by rw [q, hl0] at e; exact nomatch e
        rw [upd_ne h1, upd_ne h2, upd_ne h1]; exact e
      · rw [List.mem_singleton.mp hx, upd_ne hlp, upd_same]; rfl
      · rw [List.mem_singleton.mp hx]; exact hl0
    · rintro i σ H' _ ⟨sm, _⟩
      exact SqL.of (sm _ _ ha)
    · rintro i x σ H1 T hx ⟨sm, t, N, fr, nd, em, hlen, x1, y1, u1, rfl⟩ hT
      have hlt : i < rs.length := by have := (List.getElem?_eq_some_iff.mp hx).1; rw [List.length_map, hrs.1] at this; exact this
      obtain ⟨ra, hra, rfl⟩ : ∃ ra, as[i]? = some ra ∧ V.ref ra = x := by
        rw [List.getElem?_map] at hx
        cases e : as[i]? with
        | none => rw [e] at hx; cases hx
        | some ra => rw [e] at hx; exact ⟨ra, rfl, Option.some.inj hx⟩
      have hrr : rs[i]? = some rs[i] := List.getElem?_eq_getElem hlt
      generalize rs[i] = r at hrr
      have rr := hrs.2 i ra r hra hrr
      have smT : Same H (upd H1 T (.tup [V.int (i : Int), V.ref ra])) := sm.trans (same_upd hT)
      have gT : ∀ b o, H1 b = some o → upd H1 T (.tup [V.int (i : Int), V.ref ra]) b = some o := same_upd hT
      have eT : SqT K (upd H1 T (.tup [V.int (i : Int), V.ref ra])) T [V.int (i : Int), V.ref ra] := SqT.of upd_same
      have N2 := N.grow gT
      generalize upd H1 T (.tup [V.int (i : Int), V.ref ra]) = H2 at smT gT eT N2 ⊢
      clear gT N hT sm H1
      simp only [gTup, gCons, gName, gNil]
      refine ⟨_, _, rfl, eT, rfl, _, _, rfl, _, _, rfl, rfl, ?_⟩
      refine seq_cut fun N1 h1 => ?_
      have rr2 := rr.up smT
      have NI : NumI H p t H2 := ⟨smT, N2, fr, nd⟩
      have hz : sizeLine > 1000 := line_big (by decide)
      obtain ⟨dx, pl, hra2, _⟩ := id rr2
      walk_at "wp"
      refine setdef_nums (z := tx r.2.n) hp rfl (fun S hS => ⟨_, rfl, ra, _, dx, _, _, rfl, hra2, (rk.icls r.1).cl, (rk.name r.1).1, (fldK_lk pl r.2 r.1).1, hS⟩) NI (by omega) fun H3 t3 j x N3 hj hx hm hl3 hk => ?_
      have hxl := N3.at_.list x (List.mem_of_getElem? hj)
      refine ⟨.inl ⟨rfl, _, SqL.of hxl⟩, _, rfl, _, hxl, ?_, h1 _ _ ?_⟩
      · have h2 : (x.1, x.2.2) ∈ ntName (ntM t) (tx r.2.n) := by rw [← hm]; exact List.mem_map.mpr ⟨x, List.mem_of_getElem? hj, rfl⟩
        have h3 := ntName_few (numsGo_few (rs := rs.take i) (i := 0) (n := 0) (m := [(z, [])]) (fun q hq => by rw [List.mem_singleton.mp hq]; exact Nat.zero_le _)) (z := tx r.2.n) (x.1, x.2.2) (by rw [← em]; exact h2)
        rw [List.length_take] at h3
        unfold ntI
        rw [List.length_map]
        have h4 : x.2.2.length ≤ 100 := by simp at h3; omega
        omega
      clear h1
      obtain ⟨N4, hm4⟩ := N3.put (k := i) hj
      have hl4 : (t3.set j (x.1, x.2.1, x.2.2 ++ [i])).length ≤ t.length + 1 := by rw [List.length_set]; exact hl3
      have hm4 : ntM (t3.set j (x.1, x.2.1, x.2.2 ++ [i])) = ntPut (ntName (ntM t) (tx r.2.n)) (tx r.2.n) i := by rw [hm4, hm, hx]
      have eI : ntI (x.2.2 ++ [i]) = ntI x.2.2 ++ [V.int (i : Int)] := by unfold ntI; rw [List.map_append]; rfl
      rw [eI] at N4
      generalize t3.set j (x.1, x.2.1, x.2.2 ++ [i]) = t4 at N4 hm4 hl4
      generalize upd H3 x.2.1 (.lst (ntI x.2.2 ++ [V.int (i : Int)])) = H4 at N4 ⊢
      clear hk hxl hj N3 hm hl3 hx NI N2 hra2 rr2
      have rr4 := rr.up N4.same
      have hpk := partsK_few r.1 r.2
      walk_at "wp"
      refine parts_any rk rr4 fun lp H5 hlp hH5 sm5 => ⟨lp, rfl, ⟨_, SqL.of hH5⟩, ?_⟩
      have hpp : lp ≠ p := fun e => by rw [e, N4.at_.dict] at hlp; exact nomatch hlp
      refine forw_list (xs := rowsV (partsK r.1 r.2)) (fun n σ H' => n ≤ (partsK r.1 r.2).length ∧ ∃ t', NumI H p t' H' ∧ ntM t' = (((partsK r.1 r.2).take n).map tx).foldl ntName (ntPut (ntName (ntM t) (tx r.2.n)) (tx r.2.n) i) ∧ t'.length ≤ t.length + 1 + n ∧ H' lp = some (.lst (rowsV (partsK r.1 r.2))) ∧ ∃ u, σ = [some (.str z), some (.ref a), some (.ref p), some (.int (i : Int)), some (.ref ra), u])
        ⟨Nat.zero_le _, t4, ⟨N4.same.trans sm5, N4.at_.grow sm5, N4.fresh, N4.nodup⟩, hm4, hl4, hH5, _, rfl⟩ ?_ ?_ ?_
      · rintro n σ H' _ ⟨_, t', _, _, _, hH', _⟩
        exact SqL.of hH'
      · rintro n v σ H' hv ⟨hn1, t', N', hm', hl', hH', u, rfl⟩
        have hnl : n < (partsK r.1 r.2).length := by have := (List.getElem?_eq_some_iff.mp hv).1; rwa [rowsV_length] at this
        rw [rowsV_get hnl] at hv
        cases hv
        walk_at "wp"
        refine setdef_nums (z := tx (partsK r.1 r.2)[n]) hp rfl (fun S hS => ⟨_, rfl, hS⟩) N' (by omega) fun H6 t6 j x N6 hj hx hm6 hl6 hk => ?_
        refine ⟨hnl, t6, N6, ?_, by omega, hk _ _ hpp hH'⟩
        rw [hm6, hm', List.take_add_one, List.getElem?_eq_getElem hnl, List.map_append, List.foldl_append]
        rfl
      · rintro σ H' ⟨_, t', N', hm', hl', hH', u, rfl⟩
        rw [rowsV_length, List.take_length] at hm'
        refine ⟨N'.same, t', N'.at_, N'.fresh, N'.nodup, ?_, ?_, _, _, _, rfl⟩
        · rw [hm', List.take_add_one, hrr, em]
          show _ = numsGo 0 (rs.take i ++ [r]) _
          rw [numsGo_snoc, List.length_take, Nat.min_eq_left (Nat.le_of_lt hlt), Nat.zero_add]
          rfl
        · rw [rowsV_length] at hl'; omega
    · rintro σ H' ⟨sm, t, N, fr, _, em, _, x, y, u, rfl⟩
      walk_at "wp"
      refine q p H' t hp N ?_ fr sm
      rw [em, List.length_map, hrs.1, List.take_length]; rfl
def gFault (sg st : List Nat) (rs : List (Nat × RV)) : Option (Str × List Int) :=
  match gFault0 sg st rs with
  | some y => some y
  | none => if 8 < (numsOf (tx st) rs).length then some ("names", [((numsOf (tx st) rs).length : Int)]) else none
def gramFs (sg st : List Nat) (lk pn : Addr) : List (Str × V) := [("signs", .str (tx sg)), ("start", .str (tx st)), ("kept", .ref lk), ("numbers", .ref pn)]
def GramF (R : RC) (H : Hp) (C dx a : Addr) (sg st : List Nat) (as : List Addr) (rs : List (Nat × RV)) : Prop :=
  ∃ lk pn t, H a = some (.ins C dx (gramFs sg st lk pn)) ∧ H lk = some (.lst (as.map V.ref)) ∧ RulesAt R H as rs ∧ NumsAt H pn t ∧ ntM t = numsOf (tx st) rs
def GramAt (R : RC) (H : Hp) (C dx a : Addr) (sg st : List Nat) (as : List Addr) (rs : List (Nat × RV)) (lk pn : Addr) (t : NT) : Prop :=
  H a = some (.ins C dx (gramFs sg st lk pn)) ∧ H lk = some (.lst (as.map V.ref)) ∧ RulesAt R H as rs ∧ NumsAt H pn t ∧ ntM t = numsOf (tx st) rs
theorem GramAt.f {R : RC} {H : Hp} {C dx a : Addr} {sg st : List Nat} {as : List Addr} {rs : List (Nat × RV)} {lk pn : Addr} {t : NT} (g : GramAt R H C dx a sg st as rs lk pn t) : GramF R H C dx a sg st as rs := ⟨lk, pn, t, g⟩
theorem GramAt.up {R : RC} {H H' : Hp} {C dx a : Addr} {sg st : List Nat} {as : List Addr} {rs : List (Nat × RV)} {lk pn : Addr} {t : NT} (g : GramAt R H C dx a sg st as rs lk pn t) (s : Same H H') : GramAt R H' C dx a sg st as rs lk pn t :=
  ⟨s _ _ g.1, s _ _ g.2.1, g.2.2.1.up s, g.2.2.2.1.grow s, g.2.2.2.2⟩
theorem GramF.up {R : RC} {H H' : Hp} {C dx a : Addr} {sg st : List Nat} {as : List Addr} {rs : List (Nat × RV)} (g : GramF R H C dx a sg st as rs) (s : Same H H') : GramF R H' C dx a sg st as rs := by
  obtain ⟨lk, pn, t, h1, h2, h3, h4, h5⟩ := g
  exact ⟨lk, pn, t, s _ _ h1, s _ _ h2, h3.up s, h4.grow s, h5⟩
def FaultyX (a C : Addr) (H : Hp) (y : Str × List Int) (E : XK) : Prop := ∀ (t d : Addr) (H' : Hp), SameX a H H' → H' t = some (.tup (wyV y)) → H' d = some (.xd [("why", .ref t)]) → E (.ref C) (some d) H'
theorem fldK_ne (k : Nat) (l : Addr) (v : RV) : fldK k l v ≠ [] := fun e => by
  have := (fldK_lk l v k).1
  rw [e] at this
  exact nomatch this
theorem RulesAt.upX {R : RC} {H H' : Hp} {a C dx : Addr} {as : List Addr} {rs : List (Nat × RV)} (h : RulesAt R H as rs) (ha : H a = some (.ins C dx [])) (s : SameX a H H') : RulesAt R H' as rs := by
  refine ⟨h.1, fun i b r e1 e2 => ?_⟩
  obtain ⟨d, l, h1, h2⟩ := h.2 i b r e1 e2
  refine ⟨d, l, s _ _ (fun e => ?_) h1, s _ _ (fun e => ?_) h2⟩
  · rw [e, ha] at h1
    have := Option.some.inj h1
    exact absurd (HO.ins.inj this).2.2.symm (fldK_ne _ _ _)
  · rw [e, ha] at h2; cases h2
abbrev s_gram_init : Stmt := meth 33 0
def sp_gram_init (K : W.Frag) (R : RC) (CF : Addr) : Sp := fun vs H Q E => ∃ (a C dx l : Addr) (sg st : List Nat) (as : List Addr) (rs : List (Nat × RV)), vs = [.ref a, .str (tx sg), .str (tx st), .ref l] ∧ H a = some (.ins C dx []) ∧ Cls K C ∧ (NoAttr K C "signs" ∧ NoAttr K C "start" ∧ NoAttr K C "kept" ∧ NoAttr K C "numbers") ∧
  sg.length ≤ 1000 ∧ st.length ≤ 1000 ∧ H l = some (.lst (as.map V.ref)) ∧ RulesAt R H as rs ∧ (∀ r ∈ rs, r.1 < 4) ∧ rs.length ≤ 100 ∧
  (gFault sg st rs = none → ∀ H' lk pn t, SameX a H H' → GramAt R H' C dx a sg st as rs lk pn t → H lk = none → H pn = none → (∀ x ∈ t, H x.2.1 = none) → Q .non H') ∧ ∀ y, gFault sg st rs = some y → FaultyX a CF H y E
theorem sc_gram_init : FnScope ["self", "signs", "start", "rules"] ["self", "signs", "start", "rules"] (defScope s_gram_init) := ⟨rfl, rfl, rfl, by decide +kernel, rfl, by decide +kernel, by decide +kernel⟩
theorem ok_gram_init {R : RC} {f zca : Addr} {fd : FuncData} {t1 : Tok} (F : Fun K "__init__" "Grammar.__init__" s_gram_init f fd) (nb : NB mg) (m_MOST_NAMES : mg "MOST_NAMES" = some (.int 8 t1))
    (zwa : mg "NoGrammar" = some (.ref zca)) (zra : XI P w K mg base 1 zca "why") (c_check_made_of : Cal P w K mg base (CX1 P w) 3 "check_made_of" ["signs", "start", "rules"] (sp_check_made_of R zca)) (c_numbers_by_name : Cal P w K mg base CX0 2 "numbers_by_name" ["start", "rules"] (sp_numbers_by_name K R)) :
    FnOk P w K mg base (CX1 P w) 4 f fd ["self", "signs", "start", "rules"] (sp_gram_init K R zca) := by
  have sc := sc_gram_init
  refine F.okX sc (fun vs H Q E h => ?_) (fun cdv A outer s H vs Q E hr h => ?_)
  · obtain ⟨a, C, dx, l, sg, st, as, rs, rfl, _⟩ := h; rfl
  · obtain ⟨a, C, dx, l, sg, st, as, rs, rfl, ha, cl, ⟨n1, n2, n3, n4⟩, hsg, hst, hl, hrs, hk4, hn, good, bad⟩ := h
    refine ⟨_, (pss_cons (ps_expr (pe_cal (E := E) c_check_made_of (hr.mono (by decide)) rfl (passes_up fun _ _ _ h => h) (pa_cons (pv 1) (pa_cons (pv 2) (pa_cons (pv 3) pa_nil)))))
      (pss_cons (ps_fld (pv 0) (pv 1) rfl)
      (pss_cons (ps_fld (pv 0) (pv 2) rfl)
      (pss_cons (ps_fld (pv 0) (pe_callTy call_list_of rfl nb.list bt_list (pa_cons (pv 3) pa_nil)) rfl)
      (pss_cons (ps_fld (pv 0) (pe_cal (CX := CX1 P w) c_numbers_by_name.lift (hr.mono (by decide)) rfl passes_E0 (pa_cons (pv 2) (pa_cons (pv 3) pa_nil))) rfl)
      (pss_one (ps_if (pt_cmpR op_gt (pe_callB call_lenD rfl nb.len bt_len (pa_cons (pe_fld (pv 0) rfl) pa_nil)) (pe_glob (v := .int 8) rfl m_MOST_NAMES ⟨_, rfl⟩) (nomark _))
      (pss_one (ps_raiseI zra (hr.mono (by decide)) rfl rfl zwa (makesI_up fun _ _ _ h => h) (pa_cons (pe_tup (pa_consS (pa_cons (pe_callB call_lenD rfl nb.len bt_len (pa_cons (pe_fld (pv 0) rfl) pa_nil)) pa_nil))) pa_nil)))
      pss_nil))))))), ?_⟩
    refine seq_cut fun N1 h1 => ?_
    walk_at "wp"
    refine ⟨sg, st, l, as, rs, rfl, hsg, hst, hl, hrs, hk4, hn, fun g0 H1 sm1 => h1 _ _ ?_, fun y hy t d H' sm ht hd => bad y (by unfold gFault; rw [hy]) t d H' (.of sm) ht hd⟩
    clear h1
    have ha1 := sm1 _ _ ha
    have hla : l ≠ a := fun e => by rw [e, ha] at hl; cases hl
    refine seq_cut fun N2 h2 => ?_
    walk_at "wp"
    refine ⟨C, dx, _, ha1, cl, n1, by simp, h2 _ _ ?_⟩
    clear h2
    have sx2 : SameX a H (upd H1 a (.ins C dx [("signs", .str (tx sg))])) := (SameX.of sm1).put
    have ea2 : upd H1 a (.ins C dx [("signs", .str (tx sg))]) a = some (.ins C dx [("signs", .str (tx sg))]) := upd_same
    show _
    change tSeq _ _ _ _ (upd H1 a (.ins C dx [("signs", .str (tx sg))]))
    generalize upd H1 a (.ins C dx [("signs", .str (tx sg))]) = H2 at sx2 ea2 ⊢
    clear sm1 ha1
    refine seq_cut fun N3 h3 => ?_
    walk_at "wp"
    have d1 : ¬ (("signs" : Str) = "start") := by decide +kernel
    have e3 : putF "start" (V.str (tx st)) [(("signs" : Str), V.str (tx sg))] = [(("signs" : Str), V.str (tx sg)), (("start" : Str), V.str (tx st))] := by simp only [putF, if_neg d1]
    refine ⟨C, dx, _, ea2, cl, n2, by simp, ?_⟩
    rw [e3]
    refine h3 _ _ ?_
    clear h3
    have sx3 : SameX a H (upd H2 a (.ins C dx [(("signs" : Str), V.str (tx sg)), (("start" : Str), V.str (tx st))])) := sx2.put
    have ea3 : upd H2 a (.ins C dx [(("signs" : Str), V.str (tx sg)), (("start" : Str), V.str (tx st))]) a = some (.ins C dx [(("signs" : Str), V.str (tx sg)), (("start" : Str), V.str (tx st))]) := upd_same
    generalize upd H2 a (.ins C dx [(("signs" : Str), V.str (tx sg)), (("start" : Str), V.str (tx st))]) = H3 at sx3 ea3 ⊢
    clear sx2 ea2
    have hl3 := sx3 _ _ hla hl
    refine seq_cut fun N4 h4 => ?_
    walk_at "wp"
    refine ⟨_, .inl (SqL.of hl3), fun lk hlk => ?_⟩
    have hka : lk ≠ a := fun e => by rw [e, ea3] at hlk; cases hlk
    have hlk0 : lk ≠ l := fun e => by rw [e, hl3] at hlk; cases hlk
    have sk : Same H3 (upd H3 lk (.lst (as.map V.ref))) := same_upd hlk
    have ek : upd H3 lk (.lst (as.map V.ref)) lk = some (.lst (as.map V.ref)) := upd_same
    have fr1 : H lk = none := by
      cases e : H lk with
      | none => rfl
      | some u => rw [sx3 _ _ hka e] at hlk; cases hlk
    generalize upd H3 lk (.lst (as.map V.ref)) = H4 at sk ek ⊢
    have d2 : ¬ (("signs" : Str) = "kept") := by decide +kernel
    have d3 : ¬ (("start" : Str) = "kept") := by decide +kernel
    have e4 : putF "kept" (V.ref lk) [(("signs" : Str), V.str (tx sg)), (("start" : Str), V.str (tx st))] = [(("signs" : Str), V.str (tx sg)), (("start" : Str), V.str (tx st)), (("kept" : Str), V.ref lk)] := by simp only [putF, if_neg d2, if_neg d3]
    refine ⟨C, dx, _, sk _ _ ea3, cl, n3, by simp, ?_⟩
    rw [e4]
    refine h4 _ _ ?_
    clear h4
    have sx5 : SameX a H (upd H4 a (.ins C dx [(("signs" : Str), V.str (tx sg)), (("start" : Str), V.str (tx st)), (("kept" : Str), V.ref lk)])) := (sx3.then sk).put
    have ea5 : upd H4 a (.ins C dx [(("signs" : Str), V.str (tx sg)), (("start" : Str), V.str (tx st)), (("kept" : Str), V.ref lk)]) a = some (.ins C dx [(("signs" : Str), V.str (tx sg)), (("start" : Str), V.str (tx st)), (("kept" : Str), V.ref lk)]) := upd_same
    have ek5 : upd H4 a (.ins C dx [(("signs" : Str), V.str (tx sg)), (("start" : Str), V.str (tx st)), (("kept" : Str), V.ref lk)]) lk = some (.lst (as.map V.ref)) := by rw [upd_ne hka]; exact ek
    generalize upd H4 a (.ins C dx [(("signs" : Str), V.str (tx sg)), (("start" : Str), V.str (tx st)), (("kept" : Str), V.ref lk)]) = H5 at sx5 ea5 ek5 ⊢
    refine seq_cut fun N5 h5 => ?_
    walk_at "wp"
    refine ⟨tx st, l, as, rs, rfl, sx5 _ _ hla hl, hrs.upX ha sx5, hn, fun pn H6 t hpn hN hm hfr sm6 => ?_⟩
    have hpa : pn ≠ a := fun e => by rw [e, ea5] at hpn; cases hpn
    have hpk : pn ≠ lk := fun e => by rw [e, ek5] at hpn; cases hpn
    have fr2 : H pn = none := by
      cases e : H pn with
      | none => rfl
      | some u => rw [sx5 _ _ hpa e] at hpn; cases hpn
    have fr3 : ∀ x ∈ t, H x.2.1 = none := fun x hx => by
      have h5x := hfr x hx
      cases e : H x.2.1 with
      | none => rfl
      | some u => rw [sx5 _ _ (fun z => by rw [z, ea5] at h5x; cases h5x) e] at h5x; cases h5x
    have d4 : ¬ (("signs" : Str) = "numbers") := by decide +kernel
    have d5 : ¬ (("start" : Str) = "numbers") := by decide +kernel
    have d6 : ¬ (("kept" : Str) = "numbers") := by decide +kernel
    have e6 : putF "numbers" (V.ref pn) [(("signs" : Str), V.str (tx sg)), (("start" : Str), V.str (tx st)), (("kept" : Str), V.ref lk)] = gramFs sg st lk pn := by unfold gramFs; simp only [putF, if_neg d4, if_neg d5, if_neg d6]
    have ea6 := sm6 _ _ ea5
    refine ⟨C, dx, _, ea6, cl, n4, by simp, ?_⟩
    rw [e6]
    refine h5 _ _ ?_
    clear h5
    have sx7 : SameX a H (upd H6 a (.ins C dx (gramFs sg st lk pn))) := (sx5.then sm6).put
    have gf : GramAt R (upd H6 a (.ins C dx (gramFs sg st lk pn))) C dx a sg st as rs lk pn t := by
      refine ⟨upd_same, by rw [upd_ne hka]; exact sm6 _ _ ek5, hrs.upX ha sx7, ⟨by rw [upd_ne hpa]; exact hN.dict, fun x hx => ?_, hN.apart⟩, hm⟩
      have hq := hN.list x hx
      rw [upd_ne (fun e => by rw [e, ea6] at hq; cases hq)]
      exact hq
    have ea7 : upd H6 a (.ins C dx (gramFs sg st lk pn)) a = some (.ins C dx (gramFs sg st lk pn)) := upd_same
    have ed7 : upd H6 a (.ins C dx (gramFs sg st lk pn)) pn = some (.dK (ntK t)) := by rw [upd_ne hpa]; exact hN.dict
    generalize upd H6 a (.ins C dx (gramFs sg st lk pn)) = H7 at sx7 gf ea7 ed7 ⊢
    have hlen : (ntK t).length = (numsOf (tx st) rs).length := by rw [← hm]; unfold ntK ntM; rw [List.length_map, List.length_map]
    walk_at "wp"
    refine ⟨C, dx, _, ea7, cl, n4, _, rfl, pn, rfl, _, ed7, ?_⟩
    rw [hlen]
    by_cases h8 : 8 < (numsOf (tx st) rs).length
    · rw [if_pos (by omega)]
      refine ⟨C, dx, _, ea7, cl, n4, _, rfl, pn, rfl, _, ed7, line_le (by omega), fun p hp => ⟨line_le (by omega), fun d hd => ?_⟩⟩
      rw [hlen] at hd ⊢
      have hdp : p ≠ d := fun x => by rw [← x, upd_same] at hd; cases hd
      refine bad ("names", [((numsOf (tx st) rs).length : Int)]) (by unfold gFault; rw [g0]; simp only []; rw [if_pos h8]) p d _ (((sx7.then (same_upd hp))).then (same_upd hd)) (by rw [upd_ne hdp, upd_same]; rfl) upd_same
    · rw [if_neg (by omega)]
      exact good (by unfold gFault; rw [g0]; simp only []; rw [if_neg h8]) H7 lk pn t sx7 gf fr1 fr2 fr3
abbrev s_gram_rules : Stmt := meth 33 1
def sp_gram_rules (R : RC) (C : Addr) : Sp := fun vs H Q _ => ∃ (a dx : Addr) (sg st : List Nat) (as : List Addr) (rs : List (Nat × RV)), vs = [.ref a] ∧ GramF R H C dx a sg st as rs ∧ ∀ l H', H l = none → H' l = some (.lst (as.map V.ref)) → Same H H' → Q (.ref l) H'
theorem sc_gram_rules : FnScope ["self"] ["self"] (defScope s_gram_rules) := ⟨rfl, rfl, rfl, by decide +kernel, rfl, by decide +kernel, by decide +kernel⟩
theorem ok_gram_rules {R : RC} {f C : Addr} {fd : FuncData} (F : Fun K "rules" "Grammar.rules" s_gram_rules f fd) (nb : NB mg) (cl : Cls K C) (na : NoAttr K C "signs" ∧ NoAttr K C "start" ∧ NoAttr K C "kept" ∧ NoAttr K C "numbers") : FnOk P w K mg base CX0 1 f fd ["self"] (sp_gram_rules R C) := by
  have sc := sc_gram_rules
  refine F.ok sc (fun vs H Q E h => ?_) (fun cdv A outer s H vs Q E hr h => ?_)
  · obtain ⟨a, dx, sg, st, as, rs, rfl, _⟩ := h; rfl
  · obtain ⟨a, dx, sg, st, as, rs, rfl, g, q⟩ := h
    obtain ⟨lk, pn, t, ha, hk, hrs, hN, hm⟩ := id g
    have hu := hr.units
    refine ⟨_, (pss_one (ps_ret (pe_callTy call_list_of rfl nb.list bt_list (pa_cons (pe_fld (pv 0) rfl) pa_nil)))), ?_⟩
    walk_at "wp"
    exact ⟨C, dx, _, ha, cl, na.2.2.1, _, rfl, lk, rfl, _, .inl (SqL.of hk), fun l' hl' => q l' _ hl' upd_same (same_upd hl')⟩
abbrev s_gram_rule : Stmt := meth 33 2
def sp_gram_rule (R : RC) (C : Addr) : Sp := fun vs H Q _ => ∃ (a dx : Addr) (sg st : List Nat) (as : List Addr) (rs : List (Nat × RV)) (k : Nat) (b : Addr), vs = [.ref a, .int (k : Int)] ∧ GramF R H C dx a sg st as rs ∧ as[k]? = some b ∧ Q (.ref b) H
theorem sc_gram_rule : FnScope ["self", "k"] ["self", "k"] (defScope s_gram_rule) := ⟨rfl, rfl, rfl, by decide +kernel, rfl, by decide +kernel, by decide +kernel⟩
theorem ok_gram_rule {R : RC} {f C : Addr} {fd : FuncData} (F : Fun K "rule" "Grammar.rule" s_gram_rule f fd) (nb : NB mg) (cl : Cls K C) (na : NoAttr K C "signs" ∧ NoAttr K C "start" ∧ NoAttr K C "kept" ∧ NoAttr K C "numbers") : FnOk P w K mg base CX0 1 f fd ["self", "k"] (sp_gram_rule R C) := by
  have sc := sc_gram_rule
  refine F.ok sc (fun vs H Q E h => ?_) (fun cdv A outer s H vs Q E hr h => ?_)
  · obtain ⟨a, dx, sg, st, as, rs, k, b, rfl, _⟩ := h; rfl
  · obtain ⟨a, dx, sg, st, as, rs, k, b, rfl, g, hb, q⟩ := h
    obtain ⟨lk, pn, t, ha, hk, hrs, hN, hm⟩ := id g
    have hu := hr.units
    refine ⟨_, (pss_one (ps_ret (pe_ix ix_list (pe_fld (pv 0) rfl) (pv 1) (fun _ _ => rfl)))), ?_⟩
    walk_at "wp"
    exact ⟨C, dx, _, ha, cl, na.2.2.1, _, rfl, lk, rfl, _, SqL.of hk, _, atI_nat (by rw [List.getElem?_map, hb]; rfl), q⟩
abbrev s_gram_many : Stmt := meth 33 3
def sp_gram_many (R : RC) (C : Addr) : Sp := fun vs H Q _ => ∃ (a dx : Addr) (sg st : List Nat) (as : List Addr) (rs : List (Nat × RV)), vs = [.ref a] ∧ GramF R H C dx a sg st as rs ∧ Q (.int (rs.length : Int)) H
theorem sc_gram_many : FnScope ["self"] ["self"] (defScope s_gram_many) := ⟨rfl, rfl, rfl, by decide +kernel, rfl, by decide +kernel, by decide +kernel⟩
theorem ok_gram_many {R : RC} {f C : Addr} {fd : FuncData} (F : Fun K "many" "Grammar.many" s_gram_many f fd) (nb : NB mg) (cl : Cls K C) (na : NoAttr K C "signs" ∧ NoAttr K C "start" ∧ NoAttr K C "kept" ∧ NoAttr K C "numbers") : FnOk P w K mg base CX0 1 f fd ["self"] (sp_gram_many R C) := by
  have sc := sc_gram_many
  refine F.ok sc (fun vs H Q E h => ?_) (fun cdv A outer s H vs Q E hr h => ?_)
  · obtain ⟨a, dx, sg, st, as, rs, rfl, _⟩ := h; rfl
  · obtain ⟨a, dx, sg, st, as, rs, rfl, g, q⟩ := h
    obtain ⟨lk, pn, t, ha, hk, hrs, hN, hm⟩ := id g
    have hu := hr.units
    refine ⟨_, (pss_one (ps_ret (pe_callB call_lenL rfl nb.len bt_len (pa_cons (pe_fld (pv 0) rfl) pa_nil)))), ?_⟩
    walk_at "wp"
    refine ⟨C, dx, _, ha, cl, na.2.2.1, _, rfl, lk, rfl, _, SqL.of hk, ?_⟩
    rw [List.length_map, hrs.1]; exact q
abbrev s_gram_names : Stmt := meth 33 4
def sp_gram_names (R : RC) (C : Addr) : Sp := fun vs H Q _ => ∃ (a dx : Addr) (sg st : List Nat) (as : List Addr) (rs : List (Nat × RV)), vs = [.ref a] ∧ GramF R H C dx a sg st as rs ∧ ∀ l H', H l = none → H' l = some (.lst ((numsOf (tx st) rs).map fun q => V.str q.1)) → Same H H' → Q (.ref l) H'
theorem sc_gram_names : FnScope ["self"] ["self"] (defScope s_gram_names) := ⟨rfl, rfl, rfl, by decide +kernel, rfl, by decide +kernel, by decide +kernel⟩
theorem ok_gram_names {R : RC} {f C : Addr} {fd : FuncData} (F : Fun K "names" "Grammar.names" s_gram_names f fd) (nb : NB mg) (cl : Cls K C) (na : NoAttr K C "signs" ∧ NoAttr K C "start" ∧ NoAttr K C "kept" ∧ NoAttr K C "numbers") : FnOk P w K mg base CX0 1 f fd ["self"] (sp_gram_names R C) := by
  have sc := sc_gram_names
  refine F.ok sc (fun vs H Q E h => ?_) (fun cdv A outer s H vs Q E hr h => ?_)
  · obtain ⟨a, dx, sg, st, as, rs, rfl, _⟩ := h; rfl
  · obtain ⟨a, dx, sg, st, as, rs, rfl, g, q⟩ := h
    obtain ⟨lk, pn, t, ha, hk, hrs, hN, hm⟩ := id g
    have hu := hr.units
    refine ⟨_, (pss_one (ps_ret (pe_callTy (call_listD rfl) rfl nb.list bt_list (pa_cons (pe_fld (pv 0) rfl) pa_nil)))), ?_⟩
    walk_at "wp"
    refine ⟨C, dx, _, ha, cl, na.2.2.2, _, rfl, pn, rfl, _, hN.dict, fun l hl => q l _ hl ?_ (same_upd hl)⟩
    rw [upd_same, ← hm]
    unfold ntK ntM
    rw [List.map_map, List.map_map]
    rfl
def gramRows (sg st : List Nat) (rs : List (Nat × RV)) : List Str := [Str.ofString "signs " ++ tx sg, Str.ofString "start " ++ tx st] ++ rs.map fun r => toldS r.1 r.2
def gramS (sg st : List Nat) (rs : List (Nat × RV)) : Str := Txt.join (Str.ofString "\n") (gramRows sg st rs)
theorem toldS_len {k : Nat} {v : RV} (ok : okR k v) (sm : v.small) : (toldS k v).length ≤ 4000 := by
  obtain ⟨b1, b2, b3, b4⟩ := sm
  match k, ok with
  | 0, ok =>
    show (headS v.n v.c ++ tx v.sg).length ≤ _
    rw [str_la, headS_len (by have := ok.1.2.1; omega) ok.1.2.2, tx_length]; omega
  | 1, ok =>
    show (headS v.n v.c ++ tx v.o1 ++ Str.ofString " | " ++ tx v.o2).length ≤ _
    rw [str_la, str_la, str_la, headS_len (by have := ok.2.1; omega) ok.2.2, tx_length, tx_length, str_bar]; omega
  | 2, ok =>
    show (headS v.n v.c ++ tx v.o1 ++ Str.ofString " / " ++ tx v.o2).length ≤ _
    rw [str_la, str_la, str_la, headS_len (by have := ok.2.1; omega) ok.2.2, tx_length, tx_length, str_slash]; omega
  | _ + 3, ok =>
    show (headS v.n v.c ++ tx v.o1 ++ Str.ofString " turned " ++ Str.ofString (toString v.t)).length ≤ _
    rw [str_la, str_la, str_la, headS_len (by have := ok.1.2.1; omega) ok.1.2.2, tx_length, str_turned, (dig1 ok.2.1 (by have := ok.2.2; omega)).1]; omega
theorem sum_le {α : Type} (g : α → Nat) (b : Nat) : ∀ (l : List α), (∀ x ∈ l, g x ≤ b) → (l.map g).sum ≤ l.length * b
  | [], _ => by simp
  | x :: l, h => by
    have h1 := sum_le g b l fun y hy => h y (List.mem_cons_of_mem _ hy)
    have h2 := h x List.mem_cons_self
    rw [List.map_cons, List.sum_cons, List.length_cons, Nat.add_mul]; omega
theorem gramRows_sum {sg st : List Nat} {rs : List (Nat × RV)} (h1 : sg.length ≤ 1000) (h2 : st.length ≤ 1000) (hn : rs.length ≤ 100) (hok : ∀ r ∈ rs, okR r.1 r.2 ∧ r.2.small) : ((gramRows sg st rs).map (·.length)).sum + (gramRows sg st rs).length * (Str.ofString "\n").length ≤ 16777216 := by
  have hl : (gramRows sg st rs).length = 2 + rs.length := by unfold gramRows; rw [List.length_append, List.length_map]; rfl
  have hs := sum_le (fun x : Str => x.length) 4000 (gramRows sg st rs) fun x hx => by
    unfold gramRows at hx
    rcases List.mem_append.mp hx with q | q
    · rcases (show x = _ ∨ x = _ by simpa using q) with rfl | rfl
      · rw [str_la, tx_length]; show 6 + _ ≤ _; omega
      · rw [str_la, tx_length]; show 6 + _ ≤ _; omega
    · obtain ⟨r, hr, rfl⟩ := List.mem_map.mp q
      exact toldS_len (hok r hr).1 (hok r hr).2
  rw [hl] at hs ⊢
  have e1 : (Str.ofString "\n").length = 1 := rfl
  rw [e1]
  omega
abbrev s_gram_told : Stmt := meth 33 6
def sp_gram_told (R : RC) (C : Addr) : Sp := fun vs H Q _ => ∃ (a dx : Addr) (sg st : List Nat) (as : List Addr) (rs : List (Nat × RV)), vs = [.ref a] ∧ GramF R H C dx a sg st as rs ∧ sg.length ≤ 1000 ∧ st.length ≤ 1000 ∧ rs.length ≤ 100 ∧ (∀ r ∈ rs, okR r.1 r.2 ∧ r.2.small) ∧ ∀ H', Same H H' → Q (.str (gramS sg st rs)) H'
theorem sc_gram_told : FnScope ["self", "rows"] ["self"] (defScope s_gram_told) := ⟨rfl, rfl, rfl, by decide +kernel, rfl, by decide +kernel, by decide +kernel⟩
theorem ok_gram_told {R : RC} {f C : Addr} {fd : FuncData} (F : Fun K "told" "Grammar.told" s_gram_told f fd) (nb : NB mg) (cl : Cls K C) (na : NoAttr K C "signs" ∧ NoAttr K C "start" ∧ NoAttr K C "kept" ∧ NoAttr K C "numbers") (cp_told : CalP P w K mg base CX0 2 "told" (oTold R)) : FnOk P w K mg base CX0 3 f fd ["self"] (sp_gram_told R C) := by
  have sc := sc_gram_told
  refine F.ok sc (fun vs H Q E h => ?_) (fun cdv A outer s H vs Q E hr h => ?_)
  · obtain ⟨a, dx, sg, st, as, rs, rfl, _⟩ := h; rfl
  · obtain ⟨a, dx, sg, st, as, rs, rfl, g, hsg, hst, hn, hok, q⟩ := h
    obtain ⟨lk, pn, t, ha, hk, hrs, hN, hm⟩ := id g
    have hu := hr.units
    refine ⟨_, (pss_cons (ps_set (i := 1) sc.nd rfl (Or.inl rfl) (pe_lst (pa_cons (pe_op op_add_str pe_str (pe_fld (pv 0) rfl)) (pa_cons (pe_op op_add_str pe_str (pe_fld (pv 0) rfl)) pa_nil))))
      (pss_one (ps_ret (pe_bm PySem.F.plainAttrs_str PySem.F.slot_str_join PySem.F.type_str_join mt_join pe_str (pa_cons (pe_op op_cat (pv 1) (pe_comp ["rule"] [] rfl (CompOk.of (by kernel_rfl)) (by kernel_rfl) (pi_list (pe_fld (pv 0) rfl))
        (fun _ _ _ _ => (pg_name (i := 0) (by show (["rule"] : List Str).Nodup; decide +kernel) rfl (Or.inl rfl))) (fun _ _ _ _ => pif_nil) (fun _ _ _ _ => (pe_calP0 cp_told (hr.mono (by decide)) pass0 (pv 0))))) pa_nil))))), ?_⟩
    refine seq_cut fun N1 h1 => ?_
    walk_at "wp"
    refine ⟨C, dx, _, ha, cl, na.1, _, rfl, _, rfl, by rw [tx_length]; exact line_le (by show 6 + sg.length ≤ _; omega), C, dx, _, ha, cl, na.2.1, _, rfl, _, rfl, by rw [tx_length]; exact line_le (by show 6 + st.length ≤ _; omega), line_le (by omega), fun lr hlr => h1 _ _ ?_⟩
    clear h1
    have s1 : Same H (upd H lr (.lst [V.str (Str.ofString "signs " ++ tx sg), V.str (Str.ofString "start " ++ tx st)])) := same_upd hlr
    have e1 : upd H lr (.lst [V.str (Str.ofString "signs " ++ tx sg), V.str (Str.ofString "start " ++ tx st)]) lr = some (.lst [V.str (Str.ofString "signs " ++ tx sg), V.str (Str.ofString "start " ++ tx st)]) := upd_same
    generalize upd H lr (.lst [V.str (Str.ofString "signs " ++ tx sg), V.str (Str.ofString "start " ++ tx st)]) = H1 at s1 e1 ⊢
    walk_at "wp"
    refine ⟨rfl, C, dx, _, s1 _ _ ha, cl, na.2.2.1, _, rfl, lk, rfl, ⟨_, SqL.of (s1 _ _ hk)⟩, ?_⟩
    have hal := hrs.1
    refine comp_list (xs := as.map V.ref) (fun i acc σ H' => H' = H1 ∧ acc = (rs.take i).map (fun r => V.str (toldS r.1 r.2)) ∧ i ≤ as.length ∧ ∃ x, σ = [x]) ⟨rfl, rfl, Nat.zero_le _, _, rfl⟩ ?_ ?_ ?_ ?_ ?_
    · rintro i acc σ H' ⟨_, rfl, hi, _⟩
      rw [List.length_map, List.length_take]; exact line_big (by omega)
    · rintro i acc σ H' ⟨_, _, h, _⟩
      rw [List.length_map]; exact h
    · rintro i acc σ H' ⟨rfl, _⟩
      exact SqL.of (s1 _ _ hk)
    · rintro i x acc σ H' hx ⟨rfl, rfl, hi, y, rfl⟩
      have hlt : i < as.length := by have := (List.getElem?_eq_some_iff.mp hx).1; rwa [List.length_map] at this
      rw [List.getElem?_map, List.getElem?_eq_getElem hlt] at hx
      cases hx
      have hlr : i < rs.length := by omega
      have hrr : rs[i]? = some rs[i] := List.getElem?_eq_getElem hlr
      have ok := hok _ (List.getElem_mem hlr)
      have rr := (hrs.2 i as[i] rs[i] (List.getElem?_eq_getElem hlt) hrr).up s1
      walk_at "wp"
      refine told_any rr ok.1 ok.2 ⟨rfl, ?_, hlt⟩
      rw [List.take_add_one, hrr, List.map_append]
      rfl
    · rintro acc σ H' ⟨rfl, rfl, _⟩ l hl
      have hll : lr ≠ l := fun e => by rw [← e, e1] at hl; cases hl
      refine ⟨_, by rw [upd_ne hll]; exact e1, _, upd_same, ?_, fun p hp => ⟨gramRows sg st rs, .inl (SqL.of ?_), gramRows_sum hsg hst hn hok, q _ ((s1.trans (same_upd hl)).trans (same_upd hp))⟩⟩
      · rw [List.length_map, List.length_take, List.length_map]; exact line_le (by simp; omega)
      · rw [upd_same, List.length_map, hal, List.take_length]
        unfold gramRows
        rw [List.map_append, List.map_map]
        rfl
def rowV (r : Nat × RV) : List V := match r.1 with
  | 0 => [.str (tx r.2.n), .int r.2.c, .str "cell", .str (tx r.2.sg), .int 0]
  | 1 => [.str (tx r.2.n), .int r.2.c, .str "beside", .str (tx r.2.o1), .str (tx r.2.o2)]
  | 2 => [.str (tx r.2.n), .int r.2.c, .str "above", .str (tx r.2.o1), .str (tx r.2.o2)]
  | _ => [.str (tx r.2.n), .int r.2.c, .str "turned", .str (tx r.2.o1), .int r.2.t]
def RowsAt (H : Hp) (l : Addr) (ts : List Addr) (rs : List (Nat × RV)) : Prop := H l = some (.lst (ts.map V.ref)) ∧ ts.length = rs.length ∧ ∀ (i : Nat) t r, ts[i]? = some t → rs[i]? = some r → H t = some (.tup (rowV r))
theorem RowsAt.up {H H' : Hp} {l : Addr} {ts : List Addr} {rs : List (Nat × RV)} (h : RowsAt H l ts rs) (s : Same H H') : RowsAt H' l ts rs := ⟨s _ _ h.1, h.2.1, fun i t r e1 e2 => s _ _ (h.2.2 i t r e1 e2)⟩
theorem kn1 : V.str (Str.ofString "beside") ≠ V.str (Str.ofString "cell") := fun h => absurd (V.str.inj h) (by decide +kernel)
theorem kn2 : V.str (Str.ofString "above") ≠ V.str (Str.ofString "cell") := fun h => absurd (V.str.inj h) (by decide +kernel)
theorem kn3 : V.str (Str.ofString "turned") ≠ V.str (Str.ofString "cell") := fun h => absurd (V.str.inj h) (by decide +kernel)
theorem kn4 : V.str (Str.ofString "above") ≠ V.str (Str.ofString "beside") := fun h => absurd (V.str.inj h) (by decide +kernel)
theorem kn5 : V.str (Str.ofString "turned") ≠ V.str (Str.ofString "beside") := fun h => absurd (V.str.inj h) (by decide +kernel)
theorem kn6 : V.str (Str.ofString "turned") ≠ V.str (Str.ofString "above") := fun h => absurd (V.str.inj h) (by decide +kernel)
theorem kn7 : V.str (Str.ofString "beside") ≠ V.str (Str.ofString "turned") := fun h => absurd (V.str.inj h) (by decide +kernel)
theorem kn8 : V.str (Str.ofString "above") ≠ V.str (Str.ofString "turned") := fun h => absurd (V.str.inj h) (by decide +kernel)
theorem k_cases {k : Nat} (h : k < 4) : k = 0 ∨ k = 1 ∨ k = 2 ∨ k = 3 := by omega
structure GoodR (r : Nat × RV) : Prop where
  k4 : r.1 < 4
  good : r.2.good
  small : r.2.small
abbrev s_l_rule : Stmt := top 49
def sp_l_rule (R : RC) : Sp := fun vs H Q _ => ∃ (t : Addr) (r : Nat × RV), vs = [.ref t] ∧ H t = some (.tup (rowV r)) ∧ GoodR r ∧ ∀ b H', RuleAt R H' r.1 b r.2 → Same H H' → Q (.ref b) H'
theorem sc_l_rule : FnScope ["_law_row"] ["_law_row"] (defScope s_l_rule) := ⟨rfl, rfl, rfl, by decide +kernel, rfl, by decide +kernel, by decide +kernel⟩
theorem ok_l_rule {R : RC} {f CF : Addr} {fd : FuncData} (F : Fun K "_law_rule" "_law_rule" s_l_rule f fd) (nb : NB mg) (rk : RKit K R)
    (zYa : CalK P w K mg base (CX1 P w) 4 "CellRule" R.cc ["self", "name", "cost", "sign"] (sp_cell_init K CF)) (zIa : CalK P w K mg base (CX1 P w) 4 "BesideRule" R.cb ["self", "name", "cost", "one", "other"] (sp_pair_init K CF))
    (zSa : CalK P w K mg base (CX1 P w) 4 "AboveRule" R.ca ["self", "name", "cost", "one", "other"] (sp_pair_init K CF)) (zZa : CalK P w K mg base (CX1 P w) 4 "TurnRule" R.ct ["self", "name", "cost", "part", "turning"] (sp_turn_init K CF)) : FnOk P w K mg base CX0 6 f fd ["_law_row"] (sp_l_rule R) := by
  have sc := sc_l_rule
  refine F.ok sc (fun vs H Q E h => ?_) (fun cdv A outer s H vs Q E hr h => ?_)
  · obtain ⟨t, r, rfl, _⟩ := h; rfl
  · obtain ⟨t, ⟨k, v⟩, rfl, ht, ⟨hk, g, sm⟩, good⟩ := h
    refine ⟨_, (pss_cons (ps_if (pt_cmpR op_eq (pe_ix ix_tup (pv 0) pe_int (fun _ _ => rfl)) pe_str (nomark _))
      (pss_one (ps_ret (pe_calK (CX := CX1 P w) zYa (hr.mono (by decide)) rfl passes_E0 (pa_cons (pe_ix ix_tup (pv 0) pe_int (fun _ _ => rfl)) (pa_cons (pe_ix ix_tup (pv 0) pe_int (fun _ _ => rfl)) (pa_cons (pe_ix ix_tup (pv 0) pe_int (fun _ _ => rfl)) pa_nil))))))
      pss_nil)
      (pss_cons (ps_if (pt_cmpR op_eq (pe_ix ix_tup (pv 0) pe_int (fun _ _ => rfl)) pe_str (nomark _))
      (pss_one (ps_ret (pe_calK (CX := CX1 P w) zIa (hr.mono (by decide)) rfl passes_E0 (pa_cons (pe_ix ix_tup (pv 0) pe_int (fun _ _ => rfl)) (pa_cons (pe_ix ix_tup (pv 0) pe_int (fun _ _ => rfl)) (pa_cons (pe_ix ix_tup (pv 0) pe_int (fun _ _ => rfl)) (pa_cons (pe_ix ix_tup (pv 0) pe_int (fun _ _ => rfl)) pa_nil)))))))
      pss_nil)
      (pss_cons (ps_if (pt_cmpR op_eq (pe_ix ix_tup (pv 0) pe_int (fun _ _ => rfl)) pe_str (nomark _))
      (pss_one (ps_ret (pe_calK (CX := CX1 P w) zSa (hr.mono (by decide)) rfl passes_E0 (pa_cons (pe_ix ix_tup (pv 0) pe_int (fun _ _ => rfl)) (pa_cons (pe_ix ix_tup (pv 0) pe_int (fun _ _ => rfl)) (pa_cons (pe_ix ix_tup (pv 0) pe_int (fun _ _ => rfl)) (pa_cons (pe_ix ix_tup (pv 0) pe_int (fun _ _ => rfl)) pa_nil)))))))
      pss_nil)
      (pss_one (ps_ret (pe_calK (CX := CX1 P w) zZa (hr.mono (by decide)) rfl passes_E0 (pa_cons (pe_ix ix_tup (pv 0) pe_int (fun _ _ => rfl)) (pa_cons (pe_ix ix_tup (pv 0) pe_int (fun _ _ => rfl)) (pa_cons (pe_ix ix_tup (pv 0) pe_int (fun _ _ => rfl)) (pa_cons (pe_ix ix_tup (pv 0) pe_int (fun _ _ => rfl)) pa_nil)))))))))), ?_⟩
    have sq := SqT.of (K := K) ht
    have g : v.good := g
    have sm : v.small := g.small
    have bn : v.n.length ≤ 100000 := by have := sm.n; omega
    have b1 : v.o1.length ≤ 100000 := by have := sm.o1; omega
    have b2 : v.o2.length ≤ 100000 := by have := sm.o2; omega
    have bs : v.sg.length ≤ 100000 := by have := sm.sg; omega
    walk_at "wp"
    rcases k_cases hk with rfl | rfl | rfl | rfl
    · change SqT K H t [.str (tx v.n), .int v.c, .str (Str.ofString "cell"), .str (tx v.sg), .int 0] at sq
      refine ⟨_, sq, _, rfl, rfl, ?_⟩
      rw [if_pos rfl]
      refine ⟨_, sq, _, rfl, _, sq, _, rfl, _, sq, _, rfl, fun x dx hx hd hne => ?_⟩
      exact ⟨x, R.cc, dx, v.n, v.sg, v.c, rfl, upd_same, rk.i0.cl, rk.a0, bn, bs, fun ok pl H' sx hpl hl' ha => ⟨rfl, good x H' ⟨dx, pl, ha, hl'⟩ (sameX_new hx hd sx)⟩, fun nok => absurd (g.ok 0) nok⟩
    · change SqT K H t [.str (tx v.n), .int v.c, .str (Str.ofString "beside"), .str (tx v.o1), .str (tx v.o2)] at sq
      refine ⟨_, sq, _, rfl, rfl, ?_⟩
      rw [if_neg kn1]
      refine ⟨_, sq, _, rfl, rfl, ?_⟩
      rw [if_pos rfl]
      refine ⟨_, sq, _, rfl, _, sq, _, rfl, _, sq, _, rfl, _, sq, _, rfl, fun x dx hx hd hne => ?_⟩
      exact ⟨x, R.cb, dx, v.n, v.o1, v.o2, v.c, rfl, upd_same, rk.i1.cl, rk.a1, bn, b1, b2, fun ok pl H' sx hpl hl' ha => ⟨rfl, good x H' ⟨dx, pl, ha, hl'⟩ (sameX_new hx hd sx)⟩, fun nok => absurd (g.ok 1) nok⟩
    · change SqT K H t [.str (tx v.n), .int v.c, .str (Str.ofString "above"), .str (tx v.o1), .str (tx v.o2)] at sq
      refine ⟨_, sq, _, rfl, rfl, ?_⟩
      rw [if_neg kn2]
      refine ⟨_, sq, _, rfl, rfl, ?_⟩
      rw [if_neg kn4]
      refine ⟨_, sq, _, rfl, rfl, ?_⟩
      rw [if_pos rfl]
      refine ⟨_, sq, _, rfl, _, sq, _, rfl, _, sq, _, rfl, _, sq, _, rfl, fun x dx hx hd hne => ?_⟩
      exact ⟨x, R.ca, dx, v.n, v.o1, v.o2, v.c, rfl, upd_same, rk.i2.cl, rk.a2, bn, b1, b2, fun ok pl H' sx hpl hl' ha => ⟨rfl, good x H' ⟨dx, pl, ha, hl'⟩ (sameX_new hx hd sx)⟩, fun nok => absurd (g.ok 2) nok⟩
    · change SqT K H t [.str (tx v.n), .int v.c, .str (Str.ofString "turned"), .str (tx v.o1), .int v.t] at sq
      refine ⟨_, sq, _, rfl, rfl, ?_⟩
      rw [if_neg kn3]
      refine ⟨_, sq, _, rfl, rfl, ?_⟩
      rw [if_neg kn5]
      refine ⟨_, sq, _, rfl, rfl, ?_⟩
      rw [if_neg kn6]
      refine ⟨_, sq, _, rfl, _, sq, _, rfl, _, sq, _, rfl, _, sq, _, rfl, fun x dx hx hd hne => ?_⟩
      exact ⟨x, R.ct, dx, v.n, v.o1, v.c, v.t, rfl, upd_same, rk.i3.cl, rk.a3, bn, b1, fun ok pl H' sx hpl hl' ha => ⟨rfl, good x H' ⟨dx, pl, ha, hl'⟩ (sameX_new hx hd sx)⟩, fun nok => absurd (g.ok 3) nok⟩
theorem cost_of_ok {k : Nat} {v : RV} (ok : okR k v) : 1 ≤ v.c ∧ v.c ≤ 9 := by
  match k, ok with
  | 0, ok => exact ok.1.2
  | 1, ok => exact ok.2
  | 2, ok => exact ok.2
  | _ + 3, ok => exact ok.1.2
theorem row01 : ∀ r : Nat × RV, atI (rowV r) 0 = some (V.str (tx r.2.n)) ∧ atI (rowV r) 1 = some (V.int r.2.c)
  | (0, _) => ⟨rfl, rfl⟩
  | (1, _) => ⟨rfl, rfl⟩
  | (2, _) => ⟨rfl, rfl⟩
  | (_ + 3, _) => ⟨rfl, rfl⟩
abbrev s_l_row_text : Stmt := top 51
def sp_l_row_text : Sp := fun vs H Q _ => ∃ (t : Addr) (r : Nat × RV), vs = [.ref t] ∧ H t = some (.tup (rowV r)) ∧ r.1 < 4 ∧ okR r.1 r.2 ∧ r.2.small ∧ Q (.str (toldS r.1 r.2)) H
theorem sc_l_row_text : FnScope ["_law_row", "_law_begun"] ["_law_row"] (defScope s_l_row_text) := ⟨rfl, rfl, rfl, by decide +kernel, rfl, by decide +kernel, by decide +kernel⟩
theorem ok_l_row_text {f : Addr} {fd : FuncData} (F : Fun K "_law_row_text" "_law_row_text" s_l_row_text f fd) (nb : NB mg) : FnOk P w K mg base CX0 1 f fd ["_law_row"] sp_l_row_text := by
  have sc := sc_l_row_text
  refine F.ok sc (fun vs H Q E h => ?_) (fun cdv A outer s H vs Q E hr h => ?_)
  · obtain ⟨t, r, rfl, _⟩ := h; rfl
  · obtain ⟨t, ⟨k, v⟩, rfl, ht, hk, ok, sm, q⟩ := h
    refine ⟨_, (pss_cons (ps_set (i := 1) sc.nd rfl (Or.inl rfl) (pe_op op_add_str (pe_op op_add_str (pe_op op_add_str (pe_ix ix_tup (pv 0) pe_int (fun _ _ => rfl)) pe_str) (pe_callTy call_str_int rfl nb.str bt_str (pa_cons (pe_ix ix_tup (pv 0) pe_int (fun _ _ => rfl)) pa_nil))) pe_str))
      (pss_cons (ps_if (pt_cmpR op_eq (pe_ix ix_tup (pv 0) pe_int (fun _ _ => rfl)) pe_str (nomark _))
      (pss_one (ps_ret (pe_op op_add_str (pv 1) (pe_ix ix_tup (pv 0) pe_int (fun _ _ => rfl)))))
      pss_nil)
      (pss_cons (ps_if (pt_cmpR op_eq (pe_ix ix_tup (pv 0) pe_int (fun _ _ => rfl)) pe_str (nomark _))
      (pss_one (ps_ret (pe_op op_add_str (pe_op op_add_str (pe_op op_add_str (pv 1) (pe_ix ix_tup (pv 0) pe_int (fun _ _ => rfl))) pe_str) (pe_ix ix_tup (pv 0) pe_int (fun _ _ => rfl)))))
      pss_nil)
      (pss_cons (ps_if (pt_cmpR op_eq (pe_ix ix_tup (pv 0) pe_int (fun _ _ => rfl)) pe_str (nomark _))
      (pss_one (ps_ret (pe_op op_add_str (pe_op op_add_str (pe_op op_add_str (pv 1) (pe_ix ix_tup (pv 0) pe_int (fun _ _ => rfl))) pe_str) (pe_ix ix_tup (pv 0) pe_int (fun _ _ => rfl)))))
      pss_nil)
      (pss_one (ps_ret (pe_op op_add_str (pe_op op_add_str (pe_op op_add_str (pv 1) (pe_ix ix_tup (pv 0) pe_int (fun _ _ => rfl))) pe_str) (pe_callTy call_str_int rfl nb.str bt_str (pa_cons (pe_ix ix_tup (pv 0) pe_int (fun _ _ => rfl)) pa_nil))))))))), ?_⟩
    have sq := SqT.of (K := K) ht
    have ok : okR k v := ok
    have sm : v.small := sm
    have hc := cost_of_ok ok
    have hd := dig1 (c := v.c) (by omega) hc.2
    have hh := headS_len (n := v.n) (c := v.c) (by omega) hc.2
    have tl := toldS_len ok sm
    obtain ⟨s1, s2, s3, s4⟩ := sm
    refine seq_cut fun N1 h1 => ?_
    walk_at "wp"
    refine ⟨_, sq, _, (row01 (k, v)).1, _, rfl, ?_, _, sq, _, (row01 (k, v)).2, _, rfl, hd.2, ?_, ?_, h1 _ _ ?_⟩
    · rw [tx_length, show (Str.ofString " ").length = 1 from rfl]; exact line_le (by show v.n.length + 1 ≤ _; omega)
    · rw [str_la, tx_length, show (Str.ofString " ").length = 1 from rfl, hd.1]; exact line_le (by show v.n.length + 1 + 1 ≤ _; omega)
    · rw [str_la, str_la, tx_length, show (Str.ofString " ").length = 1 from rfl, hd.1, show (Str.ofString ": ").length = 2 from rfl]; exact line_le (by show v.n.length + 1 + 1 + 2 ≤ _; omega)
    clear h1
    have eh : tx v.n ++ Str.ofString " " ++ Str.ofString (toString v.c) ++ Str.ofString ": " = headS v.n v.c := rfl
    show _
    change tSeq _ _ _ [some (.ref t), some (.str (headS v.n v.c))] H
    walk_at "wp"
    rcases k_cases hk with rfl | rfl | rfl | rfl
    · change SqT K H t [.str (tx v.n), .int v.c, .str (Str.ofString "cell"), .str (tx v.sg), .int 0] at sq
      refine ⟨_, sq, _, rfl, rfl, ?_⟩
      rw [if_pos rfl]
      exact ⟨_, sq, _, rfl, _, rfl, by rw [tx_length, hh]; exact line_le (by omega), q⟩
    · change SqT K H t [.str (tx v.n), .int v.c, .str (Str.ofString "beside"), .str (tx v.o1), .str (tx v.o2)] at sq
      refine ⟨_, sq, _, rfl, rfl, ?_⟩
      rw [if_neg kn1]
      refine ⟨_, sq, _, rfl, rfl, ?_⟩
      rw [if_pos rfl]
      exact ⟨_, sq, _, rfl, _, rfl, by rw [tx_length, hh]; exact line_le (by omega), by rw [str_la, tx_length, str_bar, hh]; exact line_le (by omega), _, sq, _, rfl, _, rfl, by rw [str_la, str_la, tx_length, tx_length, str_bar, hh]; exact line_le (by omega), q⟩
    · change SqT K H t [.str (tx v.n), .int v.c, .str (Str.ofString "above"), .str (tx v.o1), .str (tx v.o2)] at sq
      refine ⟨_, sq, _, rfl, rfl, ?_⟩
      rw [if_neg kn2]
      refine ⟨_, sq, _, rfl, rfl, ?_⟩
      rw [if_neg kn4]
      refine ⟨_, sq, _, rfl, rfl, ?_⟩
      rw [if_pos rfl]
      exact ⟨_, sq, _, rfl, _, rfl, by rw [tx_length, hh]; exact line_le (by omega), by rw [str_la, tx_length, str_slash, hh]; exact line_le (by omega), _, sq, _, rfl, _, rfl, by rw [str_la, str_la, tx_length, tx_length, str_slash, hh]; exact line_le (by omega), q⟩
    · change SqT K H t [.str (tx v.n), .int v.c, .str (Str.ofString "turned"), .str (tx v.o1), .int v.t] at sq
      have d2 := dig1 (c := v.t) ok.2.1 (by have := ok.2.2; omega)
      refine ⟨_, sq, _, rfl, rfl, ?_⟩
      rw [if_neg kn3]
      refine ⟨_, sq, _, rfl, rfl, ?_⟩
      rw [if_neg kn5]
      refine ⟨_, sq, _, rfl, rfl, ?_⟩
      rw [if_neg kn6]
      exact ⟨_, sq, _, rfl, _, rfl, by rw [tx_length, hh]; exact line_le (by omega), by rw [str_la, tx_length, str_turned, hh]; exact line_le (by omega), _, sq, _, rfl, _, rfl, d2.2, by rw [str_la, str_la, tx_length, d2.1, str_turned, hh]; exact line_le (by omega), q⟩
abbrev s_l_grammar_text : Stmt := top 52
def sp_l_grammar_text : Sp := fun vs H Q _ => ∃ (sg st : List Nat) (l : Addr) (ts : List Addr) (rs : List (Nat × RV)), vs = [.str (tx sg), .str (tx st), .ref l] ∧ RowsAt H l ts rs ∧ sg.length ≤ 1000 ∧ st.length ≤ 1000 ∧ rs.length ≤ 100 ∧ (∀ r ∈ rs, r.1 < 4 ∧ okR r.1 r.2 ∧ r.2.small) ∧ ∀ H', Same H H' → Q (.str (gramS sg st rs)) H'
theorem sc_l_grammar_text : FnScope ["_law_signs_here", "_law_start", "_law_rows_here"] ["_law_signs_here", "_law_start", "_law_rows_here"] (defScope s_l_grammar_text) := ⟨rfl, rfl, rfl, by decide +kernel, rfl, by decide +kernel, by decide +kernel⟩
theorem ok_l_grammar_text {f : Addr} {fd : FuncData} (F : Fun K "_law_grammar_text" "_law_grammar_text" s_l_grammar_text f fd) (nb : NB mg) (zcc : Cal P w K mg base CX0 1 "_law_row_text" ["_law_row"] sp_l_row_text) : FnOk P w K mg base CX0 2 f fd ["_law_signs_here", "_law_start", "_law_rows_here"] sp_l_grammar_text := by
  have sc := sc_l_grammar_text
  refine F.ok sc (fun vs H Q E h => ?_) (fun cdv A outer s H vs Q E hr h => ?_)
  · obtain ⟨sg, st, l, ts, rs, rfl, _⟩ := h; rfl
  · obtain ⟨sg, st, l, ts, rs, rfl, ⟨hl, htl, hat⟩, hsg, hst, hn, hok, q⟩ := h
    refine ⟨_, (pss_one (ps_ret (pe_bm PySem.F.plainAttrs_str PySem.F.slot_str_join PySem.F.type_str_join mt_join pe_str (pa_cons (pe_op op_cat (pe_lst (pa_cons (pe_op op_add_str pe_str (pv 0)) (pa_cons (pe_op op_add_str pe_str (pv 1)) pa_nil))) (pe_comp ["_law_row"] [] rfl (CompOk.of (by kernel_rfl)) (by kernel_rfl) (pi_list (pv 2))
        (fun _ _ _ _ => (pg_name (i := 0) (by show (["_law_row"] : List Str).Nodup; decide +kernel) rfl (Or.inl rfl))) (fun _ _ _ _ => pif_nil) (fun _ _ _ _ => (pe_cal zcc (hr.mono (by decide)) rfl pass0 (pa_cons (pv 0) pa_nil))))) pa_nil)))), ?_⟩
    walk_at "wp"
    refine ⟨rfl, by rw [tx_length]; exact line_le (by show 6 + sg.length ≤ _; omega), by rw [tx_length]; exact line_le (by show 6 + st.length ≤ _; omega), line_le (by omega), fun lr hlr => ?_⟩
    have s1 : Same H (upd H lr (.lst [V.str (Str.ofString "signs " ++ tx sg), V.str (Str.ofString "start " ++ tx st)])) := same_upd hlr
    have e1 : upd H lr (.lst [V.str (Str.ofString "signs " ++ tx sg), V.str (Str.ofString "start " ++ tx st)]) lr = some (.lst [V.str (Str.ofString "signs " ++ tx sg), V.str (Str.ofString "start " ++ tx st)]) := upd_same
    generalize upd H lr (.lst [V.str (Str.ofString "signs " ++ tx sg), V.str (Str.ofString "start " ++ tx st)]) = H1 at s1 e1 ⊢
    refine ⟨⟨_, SqL.of (s1 _ _ hl)⟩, ?_⟩
    refine comp_list (xs := ts.map V.ref) (fun i acc σ H' => H' = H1 ∧ acc = (rs.take i).map (fun r => V.str (toldS r.1 r.2)) ∧ i ≤ ts.length ∧ ∃ x, σ = [x]) ⟨rfl, rfl, Nat.zero_le _, _, rfl⟩ ?_ ?_ ?_ ?_ ?_
    · rintro i acc σ H' ⟨_, rfl, hi, _⟩
      rw [List.length_map, List.length_take]; exact line_big (by omega)
    · rintro i acc σ H' ⟨_, _, h, _⟩
      rw [List.length_map]; exact h
    · rintro i acc σ H' ⟨rfl, _⟩
      exact SqL.of (s1 _ _ hl)
    · rintro i x acc σ H' hx ⟨rfl, rfl, hi, y, rfl⟩
      have hlt : i < ts.length := by have := (List.getElem?_eq_some_iff.mp hx).1; rwa [List.length_map] at this
      rw [List.getElem?_map, List.getElem?_eq_getElem hlt] at hx
      cases hx
      have hlr : i < rs.length := by omega
      have hrr : rs[i]? = some rs[i] := List.getElem?_eq_getElem hlr
      have ok := hok _ (List.getElem_mem hlr)
      have ht := s1 _ _ (hat i ts[i] rs[i] (List.getElem?_eq_getElem hlt) hrr)
      walk_at "wp"
      refine ⟨ts[i], rs[i], rfl, ht, ok.1, ok.2.1, ok.2.2, rfl, ?_, hlt⟩
      rw [List.take_add_one, hrr, List.map_append]
      rfl
    · rintro acc σ H' ⟨rfl, rfl, _⟩ l hl
      have hll : lr ≠ l := fun e => by rw [← e, e1] at hl; cases hl
      refine ⟨_, by rw [upd_ne hll]; exact e1, _, upd_same, ?_, fun p hp => ⟨gramRows sg st rs, .inl (SqL.of ?_), gramRows_sum hsg hst hn (fun r hr => (hok r hr).2), q _ ((s1.trans (same_upd hl)).trans (same_upd hp))⟩⟩
      · rw [List.length_map, List.length_take, List.length_map]; exact line_le (by simp; omega)
      · rw [upd_same, List.length_map, htl, List.take_length]
        unfold gramRows
        rw [List.map_append, List.map_map]
        rfl
def addNew (ks : List Str) (z : Str) : List Str := if z ∈ ks then ks else ks ++ [z]
theorem keys_name (m : List (Str × List Nat)) (z : Str) : (ntName m z).map (·.1) = addNew (m.map (·.1)) z := by
  unfold ntName addNew
  split
  · rfl
  · rw [List.map_append]; rfl
theorem keys_names : ∀ (zs : List Str) (m : List (Str × List Nat)), (zs.foldl ntName m).map (·.1) = zs.foldl addNew (m.map (·.1))
  | [], _ => rfl
  | z :: zs, m => by rw [List.foldl_cons, List.foldl_cons, keys_names zs, keys_name]
theorem keys_step (m : List (Str × List Nat)) (i : Nat) (r : Nat × RV) : (numStep m i r).map (·.1) = (tx r.2.n :: (partsK r.1 r.2).map tx).foldl addNew (m.map (·.1)) := by
  unfold numStep
  rw [keys_names, ntPut_keys, keys_name, List.foldl_cons]
def sigL (d s m : Nat) : List Nat := (List.range (1 + m)).map fun i => 97 + (d + i * (1 + 2 * s)) % 26
theorem sig_all : ∀ d, d < 26 → ∀ s, s < 6 → ∀ m, m < 4 → signsB (sigL d s m) = true := by decide +kernel
theorem small_at : ∀ n, n < 26 → (Str.ofString "abcdefghijklmnopqrstuvwxyz").cps.toList[n]? = some (97 + n) := by decide +kernel
theorem signsB_len {r : List Nat} (h : signsB r = true) : 1 ≤ r.length ∧ r.length ≤ 4 := by
  unfold signsB at h
  simp only [Bool.and_eq_true, decide_eq_true_eq] at h
  exact ⟨h.1.1.1, h.1.1.2⟩
abbrev s_l_signs : Stmt := top 43
def sp_l_signs : Sp := fun vs H Q _ => ∃ (c : Int), vs = [.int c] ∧ ∀ (r : List Nat) (H' : Hp), signsB r = true → Same H H' → Q (.str (tx r)) H'
theorem sc_l_signs : FnScope ["_law_cell_here", "_law_letters", "_law_step"] ["_law_cell_here"] (defScope s_l_signs) := ⟨rfl, rfl, rfl, by decide +kernel, rfl, by decide +kernel, by decide +kernel⟩
theorem ok_l_signs {f : Addr} {fd : FuncData} (F : Fun K "_law_signs" "_law_signs" s_l_signs f fd) (nb : NB mg) : FnOk P w K mg base CX0 1 f fd ["_law_cell_here"] sp_l_signs := by
  have sc := sc_l_signs
  refine F.ok sc (fun vs H Q E h => ?_) (fun cdv A outer s H vs Q E hr h => ?_)
  · obtain ⟨c, rfl, _⟩ := h; rfl
  · obtain ⟨c, rfl, q⟩ := h
    refine ⟨_, (pss_cons (ps_set (i := 1) sc.nd rfl (Or.inr rfl) pe_str)
      (pss_cons (ps_set (i := 2) sc.nd rfl (Or.inr rfl) (pe_op op_add pe_int (pe_op op_mul pe_int (pe_op op_mod (pe_op op_fdivP (pv 0) pe_int) pe_int))))
      (pss_one (ps_ret (pe_bm PySem.F.plainAttrs_str PySem.F.slot_str_join PySem.F.type_str_join mt_join pe_str (pa_cons (pe_comp ["_law_k"] [1, 0, 2] rfl (CompOk.of (by kernel_rfl)) (by kernel_rfl) (pi_range1 rfl nb.range (pa_cons (pe_op op_add pe_int (pe_op op_mod (pe_op op_fdivP (pv 0) pe_int) pe_int)) pa_nil))
        (fun _ _ _ _ => (pg_name (i := 0) (by show (["_law_k", "_law_letters", "_law_cell_here", "_law_step"] : List Str).Nodup; decide +kernel) rfl (Or.inl rfl))) (fun _ _ _ _ => pif_nil) (fun _ _ _ _ => (pe_ix ix_str (pv 1) (pe_op op_mod (pe_op op_add (pv 2) (pe_op op_mul (pv 0) (pv 3))) pe_int) (fun _ _ => rfl)))) pa_nil)))))), ?_⟩
    walk_at "wp"
    obtain ⟨m, hm⟩ : ∃ m : Nat, c / 156 % 4 = (m : Int) := ⟨_, (Int.toNat_of_nonneg (Int.emod_nonneg _ (by omega))).symm⟩
    obtain ⟨s6, hs6⟩ : ∃ m : Nat, c / 26 % 6 = (m : Int) := ⟨_, (Int.toNat_of_nonneg (Int.emod_nonneg _ (by omega))).symm⟩
    obtain ⟨d, hd⟩ : ∃ m : Nat, c % 26 = (m : Int) := ⟨_, (Int.toNat_of_nonneg (Int.emod_nonneg _ (by omega))).symm⟩
    have m2 : m < 4 := by have := Int.emod_lt_of_pos (c / 156) (b := 4) (by omega); omega
    have s2 : s6 < 6 := by have := Int.emod_lt_of_pos (c / 26) (b := 6) (by omega); omega
    have d2 : d < 26 := by have := Int.emod_lt_of_pos c (b := 26) (by omega); omega
    rw [hm, hs6]
    refine ⟨rfl, by omega, by omega, ?_⟩
    have en : (1 + (m : Int)).toNat = 1 + m := by omega
    rw [en]
    have chr : ∀ i : Nat, (c + (i : Int) * (1 + 2 * (s6 : Int))) % 26 = (((d + i * (1 + 2 * s6)) % 26 : Nat) : Int) := fun i => by
      rw [Int.add_emod, hd]
      push_cast
      rw [Int.add_emod (d : Int) ((i : Int) * (1 + 2 * (s6 : Int))), Int.emod_eq_of_lt (a := (d : Int)) (by omega) (by omega)]
    refine comp_rangeF (n := 1 + m) (f := fun i => some (V.str ⟨#[97 + (d + i * (1 + 2 * s6)) % 26]⟩)) (fun σ => ∃ x, σ = [x, some (.str "abcdefghijklmnopqrstuvwxyz"), some (.int c), some (.int (1 + 2 * (s6 : Int)))]) ⟨_, rfl⟩ (by omega) ?_ ?_
    · rintro i hi σ H' N1 N0 ⟨y, rfl⟩ sm k1 k0
      walk_at "wp"
      have hb : -100 ≤ (i : Int) * (1 + 2 * (s6 : Int)) ∧ (i : Int) * (1 + 2 * (s6 : Int)) ≤ 100 := by
        have h1 : i * (1 + 2 * s6) ≤ 4 * 11 := Nat.mul_le_mul (by omega) (by omega)
        have h2 : (i : Int) * (1 + 2 * (s6 : Int)) = ((i * (1 + 2 * s6) : Nat) : Int) := by push_cast; rfl
        omega
      refine ⟨by omega, by decide, 97 + (d + i * (1 + 2 * s6)) % 26, ?_, k1 _ _ _ rfl sm ⟨_, rfl⟩⟩
      rw [chr i]
      exact atI_nat (small_at _ (Nat.mod_lt _ (by omega)))
    · intro H' sm l hl
      rw [fm_some]
      have e0 : (List.range (1 + m)).map (fun i => V.str ⟨#[97 + (d + i * (1 + 2 * s6)) % 26]⟩) = ((sigL d s6 m).map fun c => (⟨#[c]⟩ : Str)).map V.str := by
        unfold sigL; rw [List.map_map, List.map_map]; rfl
      rw [e0]
      have hg := sig_all d d2 s6 s2 m m2
      have hgl := signsB_len hg
      refine ⟨_, .inl (SqL.of upd_same), ?_, ?_⟩
      · rw [List.map_map]
        have e1 : ((fun y : Str => y.length) ∘ fun c => (⟨#[c]⟩ : Str)) = fun _ => 1 := by funext c; rfl
        have e0 : (Str.ofString "").length = 0 := rfl
        rw [e1, List.map_const', List.sum_replicate_nat, List.length_map, e0]
        omega
      · rw [join_ones]
        exact q _ _ hg (sm.trans (same_upd hl))
structure RowOf (p : Pic) (sg : List Nat) (r : Nat × RV) : Prop where
  good : GoodR r
  n : r.2.n ∈ p
  o1 : r.2.o1 ∈ p
  o2 : r.2.o2 ∈ p
  sg : ∃ c ∈ sg, r.2.sg = [c]
theorem RowsAt.app {H : Hp} {l t : Addr} {ts : List Addr} {rs : List (Nat × RV)} {r : Nat × RV} (h : RowsAt H l ts rs) (ht : H t = some (.tup (rowV r))) : RowsAt (upd H l (.lst (ts.map V.ref ++ [V.ref t]))) l (ts ++ [t]) (rs ++ [r]) := by
  obtain ⟨h1, h2, h3⟩ := h
  refine ⟨by rw [upd_same, List.map_append]; rfl, by rw [List.length_append, List.length_append, h2]; rfl, fun i t' r' e1 e2 => ?_⟩
  have hold : ∀ t' r', H t' = some (.tup (rowV r')) → upd H l (.lst (ts.map V.ref ++ [V.ref t])) t' = some (.tup (rowV r')) := fun t' r' e => by
    rw [upd_ne (fun z => by rw [z, h1] at e; cases e)]; exact e
  by_cases hi : i < ts.length
  · rw [List.getElem?_append_left hi] at e1
    rw [List.getElem?_append_left (by omega)] at e2
    exact hold _ _ (h3 i t' r' e1 e2)
  · rw [List.getElem?_append_right (by omega)] at e1
    rw [List.getElem?_append_right (by omega)] at e2
    have hi2 : i = ts.length := by
      have := (List.getElem?_eq_some_iff.mp e1).1
      simp at this; omega
    subst hi2
    rw [Nat.sub_self] at e1
    rw [h2, Nat.sub_self] at e2
    cases e1; cases e2
    exact hold _ _ ht
theorem signsB_only {r : List Nat} (h : signsB r = true) : onlyB r SMALLS11 = true := by
  unfold signsB at h
  simp only [Bool.and_eq_true, decide_eq_true_eq] at h
  exact h.1.2
theorem sign_of {r : List Nat} {c : Nat} (h : signsB r = true) (hc : c ∈ r) : signB [c] = true := by
  have := signsB_only h
  unfold onlyB at this
  rw [List.all_eq_true] at this
  unfold signB onlyB
  rw [List.all_cons, this c hc]
  rfl
abbrev s_l_rows : Stmt := top 48
def sp_l_rows : Sp := fun vs H Q _ => ∃ (a b : Addr) (ns : List Int) (p : Pic) (sg : List Nat), vs = [.ref a, .ref b, .str (tx sg)] ∧ H a = some (.lst (ns.map V.int)) ∧ H b = some (.lst (rowsV p)) ∧ ns.length ≤ 100 ∧ 1 ≤ p.length ∧ p.length ≤ 64 ∧ (∀ r ∈ p, nameB r = true) ∧ signsB sg = true ∧
  ∀ l ts rs H', H l = none → RowsAt H' l ts rs → (∀ r ∈ rs, RowOf p sg r) → rs.length = ns.length → Same H H' → Q (.ref l) H'
theorem sc_l_rows : FnScope ["_law_cells", "_law_names", "_law_signs_here", "_law_rows_here", "_law_k", "_law_cell_here", "_law_name", "_law_one", "_law_other", "_law_cost"] ["_law_cells", "_law_names", "_law_signs_here"] (defScope s_l_rows) := ⟨rfl, rfl, rfl, by decide +kernel, rfl, by decide +kernel, by decide +kernel⟩
theorem ok_l_rows {f : Addr} {fd : FuncData} (F : Fun K "_law_rows" "_law_rows" s_l_rows f fd) (nb : NB mg) (zEb : Cal P w K mg base CX0 1 "_law_mix" ["_law_cell_here", "_law_k"] sp_l_mix) : FnOk P w K mg base CX0 2 f fd ["_law_cells", "_law_names", "_law_signs_here"] sp_l_rows := by
  have sc := sc_l_rows
  refine F.ok sc (fun vs H Q E h => ?_) (fun cdv A outer s H vs Q E hr h => ?_)
  · obtain ⟨a, b, ns, p, sg, rfl, _⟩ := h; rfl
  · obtain ⟨a, b, ns, p, sg, rfl, ha, hb, hn, hp1, hp2, hpn, hsg, q⟩ := h
    refine ⟨_, (pss_cons (ps_set (i := 3) sc.nd rfl (Or.inl rfl) (pe_lst pa_nil))
      (pss_cons (ps_forw PassesOwn.never rfl (pi_enum rfl nb.enumerate (pa_cons (pv 0) pa_nil)) (pg_tup (n := 2) rfl (pgs_cons (pg_name (i := 4) sc.nd rfl (Or.inl rfl)) (pgs_cons (pg_name (i := 5) sc.nd rfl (Or.inl rfl)) pgs_nil)))
      (pss_cons (ps_set (i := 5) sc.nd rfl (Or.inl rfl) (pe_cal zEb (hr.mono (by decide)) rfl pass0 (pa_cons (pv 5) (pa_cons (pv 4) pa_nil))))
      (pss_cons (ps_set (i := 6) sc.nd rfl (Or.inl rfl) (pe_ix ix_list (pv 1) (pe_op op_mod (pv 5) (pe_callB call_lenL rfl nb.len bt_len (pa_cons (pv 1) pa_nil))) (fun _ _ => rfl)))
      (pss_cons (ps_set (i := 5) sc.nd rfl (Or.inl rfl) (pe_op op_fdivP (pv 5) (pe_callB call_lenL rfl nb.len bt_len (pa_cons (pv 1) pa_nil))))
      (pss_cons (ps_set (i := 7) sc.nd rfl (Or.inl rfl) (pe_ix ix_list (pv 1) (pe_op op_mod (pe_op op_fdivP (pv 5) pe_int) (pe_callB call_lenL rfl nb.len bt_len (pa_cons (pv 1) pa_nil))) (fun _ _ => rfl)))
      (pss_cons (ps_set (i := 8) sc.nd rfl (Or.inl rfl) (pe_ix ix_list (pv 1) (pe_op op_mod (pe_op op_fdivP (pv 5) pe_int) (pe_callB call_lenL rfl nb.len bt_len (pa_cons (pv 1) pa_nil))) (fun _ _ => rfl)))
      (pss_cons (ps_set (i := 9) sc.nd rfl (Or.inl rfl) (pe_op op_add pe_int (pe_op op_mod (pe_op op_fdivP (pv 5) pe_int) pe_int)))
      (pss_one (ps_if (pt_cmpR op_eq (pe_op op_mod (pv 5) pe_int) pe_int (nomark _))
      (pss_one (ps_expr (pe_bm PySem.F.plainAttrs_list PySem.F.slot_list_append PySem.F.type_list_append mt_append (pv 3) (pa_cons (pe_tup (pa_cons (pv 6) (pa_cons (pv 9) (pa_consS (pa_cons (pe_ix ix_str (pv 2) (pe_op op_mod (pe_op op_fdivP (pv 5) pe_int) (pe_callB call_len_str rfl nb.len bt_len (pa_cons (pv 2) pa_nil))) (fun _ _ => rfl)) (pa_consI pa_nil)))))) pa_nil))))
      (pss_one (ps_if (pt_cmpR op_eq (pe_op op_mod (pv 5) pe_int) pe_int (nomark _))
      (pss_one (ps_expr (pe_bm PySem.F.plainAttrs_list PySem.F.slot_list_append PySem.F.type_list_append mt_append (pv 3) (pa_cons (pe_tup (pa_cons (pv 6) (pa_cons (pv 9) (pa_consS (pa_cons (pv 7) (pa_cons (pv 8) pa_nil)))))) pa_nil))))
      (pss_one (ps_if (pt_cmpR op_eq (pe_op op_mod (pv 5) pe_int) pe_int (nomark _))
      (pss_one (ps_expr (pe_bm PySem.F.plainAttrs_list PySem.F.slot_list_append PySem.F.type_list_append mt_append (pv 3) (pa_cons (pe_tup (pa_cons (pv 6) (pa_cons (pv 9) (pa_consS (pa_cons (pv 7) (pa_cons (pv 8) pa_nil)))))) pa_nil))))
      (pss_one (ps_expr (pe_bm PySem.F.plainAttrs_list PySem.F.slot_list_append PySem.F.type_list_append mt_append (pv 3) (pa_cons (pe_tup (pa_cons (pv 6) (pa_cons (pv 9) (pa_consS (pa_cons (pv 7) (pa_cons (pe_op op_mod (pe_op op_fdivP (pv 5) pe_int) pe_int) pa_nil)))))) pa_nil)))))))))))))))))
      (pss_one (ps_ret (pv 3))))), ?_⟩
    have hsl := signsB_len hsg
    refine seq_cut fun N1 h1 => ?_
    walk_at "wp"
    refine ⟨line_le (by decide), fun l hl => h1 _ _ ?_⟩
    clear h1
    have s1 : Same H (upd H l (.lst [])) := same_upd hl
    have e1 : RowsAt (upd H l (.lst [])) l [] [] := ⟨upd_same, rfl, fun i t r e => by simp at e⟩
    generalize upd H l (.lst []) = H1 at s1 e1 ⊢
    refine seq_cut fun N2 h2 => ?_
    walk_at "wp"
    refine ⟨_, SqL.of (s1 _ _ ha), ?_⟩
    refine forw_enum (xs := ns.map V.int) (fun i σ H' => Same H H' ∧ (∃ ts rs, RowsAt H' l ts rs ∧ (∀ r ∈ rs, RowOf p sg r) ∧ rs.length = i) ∧ i ≤ ns.length ∧ ∃ x1 x2 x3 x4 x5 x6, σ = [some (.ref a), some (.ref b), some (.str (tx sg)), some (.ref l), x1, x2, x3, x4, x5, x6]) ⟨s1, ⟨[], [], e1, (fun r hr => nomatch hr), rfl⟩, Nat.zero_le _, _, _, _, _, _, _, rfl⟩ ?_ ?_ ?_
    · rintro i σ H' _ ⟨sm, _⟩
      exact SqL.of (sm _ _ ha)
    · rintro i x σ H2 T hx ⟨sm, ⟨ts, rs, hR, hrs, hrl⟩, hi, x1, x2, x3, x4, x5, x6, rfl⟩ hT
      have hlt : i < ns.length := by have := (List.getElem?_eq_some_iff.mp hx).1; rwa [List.length_map] at this
      rw [List.getElem?_map, List.getElem?_eq_getElem hlt] at hx
      cases hx
      have s3 : Same H2 (upd H2 T (.tup [.int (i : Int), .int ns[i]])) := same_upd hT
      have e3 : upd H2 T (.tup [.int (i : Int), .int ns[i]]) T = some (.tup [.int (i : Int), .int ns[i]]) := upd_same
      generalize upd H2 T (.tup [.int (i : Int), .int ns[i]]) = H3 at s3 e3 ⊢
      have hb3 := (sm.trans s3) _ _ hb
      have sq := SqL.of (K := K) hb3
      have R3 := hR.up s3
      have sm3 := sm.trans s3
      have hpl : ((rowsV p).length : Int) = (p.length : Int) := by rw [rowsV_length]
      have pick : ∀ x : Int, ∃ z ∈ p, atI (rowsV p) (x % (p.length : Int)) = some (V.str (tx z)) := fun x => by
        obtain ⟨j, hj⟩ : ∃ j : Nat, x % (p.length : Int) = (j : Int) := ⟨_, (Int.toNat_of_nonneg (Int.emod_nonneg _ (by omega))).symm⟩
        have : x % (p.length : Int) < p.length := Int.emod_lt_of_pos _ (by omega)
        exact ⟨p[j]'(by omega), List.getElem_mem _, by rw [hj]; exact atI_nat (rowsV_get (by omega))⟩
      have spick : ∀ x : Int, ∃ c ∈ sg, atI (tx sg).cps.toList (x % (sg.length : Int)) = some c := fun x => by
        rw [tx_list]
        exact atI_in (Int.emod_nonneg _ (by omega)) (Int.emod_lt_of_pos _ (by omega))
      have hsz : (tx sg).length ≤ sizeLine := by rw [tx_length]; exact line_le (by omega)
      walk_at "wp"
      obtain ⟨z1, hz1, p1⟩ := pick (mixAt ns[i] i)
      refine ⟨_, SqT.of e3, rfl, _, _, rfl, _, _, rfl, rfl, ns[i], i, rfl, _, sq, _, rfl, by rw [hpl]; omega, _, sq, _, by rw [hpl]; exact p1, _, sq, _, rfl, by rw [hpl]; omega, by rw [hpl]; omega, ?_⟩
      rw [hpl]
      generalize mixAt ns[i] i / (p.length : Int) = c
      obtain ⟨z2, hz2, p2⟩ := pick (c / 4)
      obtain ⟨z3, hz3, p3⟩ := pick (c / 44)
      refine ⟨_, sq, by rw [hpl]; omega, _, sq, _, by rw [hpl]; exact p2, _, sq, by rw [hpl]; omega, _, sq, _, by rw [hpl]; exact p3, ?_⟩
      have ty : tyV K "list" (V.ref l) H3 := .inl ⟨rfl, _, SqL.of R3.1⟩
      have put : ∀ (r : Nat × RV) (vs : List V), rowV r = vs → RowOf p sg r → ∀ t, H3 t = none → ∃ x, upd H3 t (.tup vs) l = some (.lst x) ∧ x.length < sizeLine ∧ Same H (upd (upd H3 t (.tup vs)) l (.lst (x ++ [V.ref t]))) ∧ (∃ ts rs, RowsAt (upd (upd H3 t (.tup vs)) l (.lst (x ++ [V.ref t]))) l ts rs ∧ (∀ r ∈ rs, RowOf p sg r) ∧ rs.length = i + 1) ∧ i + 1 ≤ ns.length := by
        rintro r vs rfl hro t ht
        have s4 : Same H3 (upd H3 t (.tup (rowV r))) := same_upd ht
        have R4 := R3.up s4
        have hts : ts.length = i := by rw [R3.2.1, hrl]
        refine ⟨_, R4.1, ?_, same_upd2 (sm3.trans s4) hl, ⟨_, _, R4.app upd_same, fun r' hr' => ?_, by rw [List.length_append, hrl]; rfl⟩, hlt⟩
        · rw [List.length_map, hts]; exact line_big (by omega)
        · rcases List.mem_append.mp hr' with h | h
          · exact hrs r' h
          · rw [List.mem_singleton.mp h]; exact hro
      obtain ⟨ch, hch, pc⟩ := spick (c / 36)
      have t0 : 0 ≤ c / 84 % 8 := Int.emod_nonneg _ (by omega)
      have t7 : c / 84 % 8 < 8 := Int.emod_lt_of_pos _ (by omega)
      have c0 : 0 ≤ c / 5 % 9 := Int.emod_nonneg _ (by omega)
      have c9 : c / 5 % 9 < 9 := Int.emod_lt_of_pos _ (by omega)
      have gd : ∀ k, k < 4 → RowOf p sg (k, ⟨z1, 1 + c / 5 % 9, z2, z3, [ch], c / 84 % 8⟩) := fun k hk => by
        have g : RV.good ⟨z1, 1 + c / 5 % 9, z2, z3, [ch], c / 84 % 8⟩ := ⟨hpn _ hz1, by show 1 ≤ 1 + c / 5 % 9; omega, by show 1 + c / 5 % 9 ≤ 9; omega, hpn _ hz2, hpn _ hz3, sign_of hsg hch, t0, by show c / 84 % 8 ≤ 7; omega⟩
        exact ⟨⟨hk, g, g.small⟩, hz1, hz2, hz3, ch, hch, rfl⟩
      by_cases k0 : c % 4 = 0
      · rw [if_pos k0]
        refine ⟨ty, hsz, by rw [tx_length]; omega, hsz, ch, by rw [tx_length]; exact pc, line_le (by decide), fun t ht => put (0, ⟨z1, 1 + c / 5 % 9, z2, z3, [ch], c / 84 % 8⟩) _ rfl (gd 0 (by decide)) t ht⟩
      · rw [if_neg k0]
        by_cases k1 : c % 4 = 1
        · rw [if_pos k1]
          exact ⟨ty, line_le (by decide), fun t ht => put (1, ⟨z1, 1 + c / 5 % 9, z2, z3, [ch], c / 84 % 8⟩) _ rfl (gd 1 (by decide)) t ht⟩
        · rw [if_neg k1]
          by_cases k2 : c % 4 = 2
          · rw [if_pos k2]
            exact ⟨ty, line_le (by decide), fun t ht => put (2, ⟨z1, 1 + c / 5 % 9, z2, z3, [ch], c / 84 % 8⟩) _ rfl (gd 2 (by decide)) t ht⟩
          · rw [if_neg k2]
            exact ⟨ty, line_le (by decide), fun t ht => put (3, ⟨z1, 1 + c / 5 % 9, z2, z3, [ch], c / 84 % 8⟩) _ rfl (gd 3 (by decide)) t ht⟩
    · rintro σ H' ⟨sm, ⟨ts, rs, hR, hrs, hrl⟩, _, x1, x2, x3, x4, x5, x6, rfl⟩
      refine h2 _ _ ?_
      clear h2
      walk_at "wp"
      exact q l ts rs H' hl hR hrs (by rw [hrl, List.length_map]) sm
def idxOf (z : Str) (rs : List (Nat × RV)) : List Nat := rs.zipIdx.filterMap fun x => if tx x.1.2.n = z then some x.2 else none
theorem idxOf_snoc (z : Str) (rs : List (Nat × RV)) (r : Nat × RV) : idxOf z (rs ++ [r]) = idxOf z rs ++ if tx r.2.n = z then [rs.length] else [] := by
  unfold idxOf
  rw [List.zipIdx_append, List.filterMap_append]
  congr 1
  simp
  split <;> rename_i h <;> simp [h]
theorem idxOf_none {z : Str} : ∀ {rs : List (Nat × RV)}, (∀ r ∈ rs, tx r.2.n ≠ z) → idxOf z rs = [] := by
  intro rs h
  unfold idxOf
  rw [List.filterMap_eq_nil_iff]
  intro x hx
  rw [if_neg (h x.1 (List.fst_mem_of_mem_zipIdx hx))]
structure NI (rs : List (Nat × RV)) (m : List (Str × List Nat)) : Prop where
  nd : (m.map (·.1)).Nodup
  ix : ∀ q ∈ m, q.2 = idxOf q.1 rs
  all : ∀ r ∈ rs, tx r.2.n ∈ m.map (·.1)
theorem ntName_mem {m : List (Str × List Nat)} {z y : Str} : y ∈ (ntName m z).map (·.1) ↔ y ∈ m.map (·.1) ∨ y = z := by
  unfold ntName
  split
  · rename_i h
    exact ⟨fun q => .inl q, fun q => q.elim id fun e => e ▸ h⟩
  · rw [List.map_append, List.mem_append]; simp
theorem NI.name {rs : List (Nat × RV)} {m : List (Str × List Nat)} (h : NI rs m) (z : Str) : NI rs (ntName m z) := by
  refine ⟨ntName_nodup h.nd, fun q hq => ?_, fun r hr => ntName_mem.mpr (.inl (h.all r hr))⟩
  unfold ntName at hq
  split at hq
  · exact h.ix q hq
  · rename_i hz
    rcases List.mem_append.mp hq with q1 | q1
    · exact h.ix q q1
    · rw [List.mem_singleton.mp q1]
      exact (idxOf_none (z := z) fun r hr e => hz (by rw [← e]; exact h.all r hr)).symm
theorem NI.names {rs : List (Nat × RV)} : ∀ (zs : List Str) {m : List (Str × List Nat)}, NI rs m → NI rs (zs.foldl ntName m)
  | [], _, h => h
  | z :: zs, m, h => NI.names zs (h.name z)
theorem NI.put {rs : List (Nat × RV)} {m : List (Str × List Nat)} {r : Nat × RV} (h : NI rs m) (hn : tx r.2.n ∈ m.map (·.1)) : NI (rs ++ [r]) (ntPut m (tx r.2.n) rs.length) := by
  refine ⟨by rw [ntPut_keys]; exact h.nd, fun q hq => ?_, fun r' hr' => ?_⟩
  · unfold ntPut at hq
    obtain ⟨p, hp, rfl⟩ := List.mem_map.mp hq
    rw [idxOf_snoc]
    by_cases e : p.1 = tx r.2.n
    · rw [if_pos e]
      show p.2 ++ [rs.length] = idxOf p.1 rs ++ _
      rw [if_pos e.symm, h.ix p hp]
    · rw [if_neg e, if_neg (fun z => e z.symm), List.append_nil]
      exact h.ix p hp
  · rw [ntPut_keys]
    rcases List.mem_append.mp hr' with q | q
    · exact h.all r' q
    · rw [List.mem_singleton.mp q]; exact hn
theorem numsGo_NI (z : Str) : ∀ (n : Nat) (rs : List (Nat × RV)), rs.length = n → NI rs (numsOf z rs)
  | 0, rs, h => by
    rw [List.length_eq_zero_iff.mp h]
    exact ⟨by simp [numsOf, numsGo], fun q hq => by rw [show q = (z, []) by simpa [numsOf, numsGo] using hq]; rfl, fun r hr => nomatch hr⟩
  | n + 1, rs, h => by
    obtain ⟨rs', r, rfl⟩ : ∃ rs' r, rs = rs' ++ [r] := ⟨rs.dropLast, rs.getLast (by intro e; rw [e] at h; cases h), (List.dropLast_concat_getLast _).symm⟩
    have hl : rs'.length = n := by rw [List.length_append, List.length_singleton] at h; omega
    have ih := numsGo_NI z n rs' hl
    unfold numsOf at ih ⊢
    rw [numsGo_snoc, Nat.zero_add]
    unfold numStep
    exact ((ih.name (tx r.2.n)).put (ntName_mem.mpr (.inr rfl))).names _
theorem RowsAt.zip {H : Hp} {l : Addr} {ts : List Addr} {rs : List (Nat × RV)} (h : RowsAt H l ts rs) : (ts.zip rs).map (fun x => V.ref x.1) = ts.map V.ref ∧ (ts.zip rs).map (·.2) = rs ∧ ∀ x ∈ ts.zip rs, H x.1 = some (.tup (rowV x.2)) := by
  obtain ⟨h1, h2, h3⟩ := h
  refine ⟨?_, List.map_snd_zip (by omega), fun x hx => ?_⟩
  · have e : (ts.zip rs).map (fun x => V.ref x.1) = ((ts.zip rs).map Prod.fst).map V.ref := by rw [List.map_map]; rfl
    rw [e, List.map_fst_zip (by omega)]
  · obtain ⟨i, hi, e⟩ := List.mem_iff_getElem.mp hx
    rw [List.length_zip] at hi
    have e2 : (ts.zip rs)[i]? = some x := by rw [List.getElem?_eq_getElem (by rw [List.length_zip]; exact hi), e]
    rw [List.getElem?_zip_eq_some] at e2
    exact h3 i x.1 x.2 e2.1 e2.2
theorem rules_comp {R : RC} {H : Hp} {l : Addr} {ts : List Addr} {rs : List (Nat × RV)} {Q : List V → Hp → Prop} (hR : RowsAt H l ts rs) (hg : ∀ r ∈ rs, GoodR r) (hn : rs.length ≤ 100) (q : ∀ (as : List Addr) H', Same H H' → RulesAt R H' as rs → Q (as.map V.ref) H') :
    CompW (Itl K l) (gName 0) tNoIf (tCall (sp_l_rule R) [] E0 (tCons (tVar 0) tNil)) [none] H Q := by
  obtain ⟨hl, htl, hat⟩ := hR
  refine comp_list (xs := ts.map V.ref) (fun i acc σ H' => Same H H' ∧ (∃ as : List Addr, acc = as.map V.ref ∧ RulesAt R H' as (rs.take i)) ∧ i ≤ ts.length ∧ ∃ x, σ = [x]) ⟨Same.refl _, ⟨[], rfl, rfl, fun i a r e => by simp at e⟩, Nat.zero_le _, _, rfl⟩ ?_ ?_ ?_ ?_ ?_
  · rintro i acc σ H' ⟨_, ⟨as, rfl, h, _⟩, hi, _⟩
    rw [List.length_map, h, List.length_take]; exact line_big (by omega)
  · rintro i acc σ H' ⟨_, _, h, _⟩
    rw [List.length_map]; exact h
  · rintro i acc σ H' ⟨sm, _⟩
    exact SqL.of (sm _ _ hl)
  · rintro i x acc σ H' hx ⟨sm, ⟨as, rfl, hA⟩, hi, y, rfl⟩
    have hlt : i < ts.length := by have := (List.getElem?_eq_some_iff.mp hx).1; rwa [List.length_map] at this
    rw [List.getElem?_map, List.getElem?_eq_getElem hlt] at hx
    cases hx
    have hlr : i < rs.length := by omega
    have hrr : rs[i]? = some rs[i] := List.getElem?_eq_getElem hlr
    have ht := sm _ _ (hat i ts[i] rs[i] (List.getElem?_eq_getElem hlt) hrr)
    walk_at "wp"
    refine ⟨ts[i], rs[i], rfl, ht, hg _ (List.getElem_mem hlr), fun b H2 hb s2 => ⟨sm.trans s2, ⟨as ++ [b], by rw [List.map_append]; rfl, ?_⟩, hlt⟩⟩
    have hal : as.length = i := by have := hA.1; rw [List.length_take] at this; omega
    rw [List.take_add_one, hrr]
    refine ⟨by rw [List.length_append, List.length_append, hA.1]; rfl, fun j a r e1 e2 => ?_⟩
    by_cases hj : j < as.length
    · rw [List.getElem?_append_left hj] at e1
      rw [List.getElem?_append_left (by rw [← hA.1]; exact hj)] at e2
      exact (hA.2 j a r e1 e2).up s2
    · rw [List.getElem?_append_right (by omega)] at e1
      rw [List.getElem?_append_right (by rw [← hA.1]; omega)] at e2
      have : j - as.length = 0 := by
        have := (List.getElem?_eq_some_iff.mp e1).1
        simp at this; omega
      rw [this] at e1
      rw [← hA.1, this] at e2
      cases e1; cases e2
      exact hb
  · rintro acc σ H' ⟨sm, ⟨as, rfl, hA⟩, _⟩
    rw [List.length_map, htl, List.take_length] at hA
    exact q as H' sm hA
def nrs (rs : List (Nat × RV)) : List ThM.NR := rs.map fun r => (tx r.2.n, (partsK r.1 r.2).map tx)
theorem addNew_mem {ks : List Str} {z y : Str} : y ∈ addNew ks z ↔ y ∈ ks ∨ y = z := ThM.mem_addNew
theorem fold_mem {y : Str} : ∀ (zs ks : List Str), y ∈ zs.foldl addNew ks ↔ y ∈ ks ∨ y ∈ zs
  | [], ks => by simp
  | z :: zs, ks => by
    rw [List.foldl_cons, fold_mem zs, addNew_mem, List.mem_cons]
    exact ⟨fun h => h.elim (fun h => h.elim .inl fun e => .inr (.inl e)) fun h => .inr (.inr h), fun h => h.elim (fun h => .inl (.inl h)) fun h => h.elim (fun e => .inl (.inr e)) .inr⟩
theorem keys_snoc (z : Str) (rs : List (Nat × RV)) (r : Nat × RV) : (numsOf z (rs ++ [r])).map (·.1) = (tx r.2.n :: (partsK r.1 r.2).map tx).foldl addNew ((numsOf z rs).map (·.1)) := by
  unfold numsOf
  rw [numsGo_snoc, keys_step]
theorem snoc_ind {α : Type} {P : List α → Prop} (h0 : P []) (h1 : ∀ rs r, P rs → P (rs ++ [r])) (rs : List α) : P rs := by
  have : ∀ (n : Nat) (rs : List α), rs.length = n → P rs := by
    intro n
    induction n with
    | zero => intro rs h; rw [List.length_eq_zero_iff.mp h]; exact h0
    | succ n ih =>
      intro rs h
      have hne : rs ≠ [] := by intro e; rw [e] at h; cases h
      rw [← List.dropLast_concat_getLast hne]
      exact h1 _ _ (ih _ (by rw [List.length_dropLast]; omega))
  exact this _ rs rfl
theorem keys_mem (z : Str) (rs : List (Nat × RV)) : ∀ y, y ∈ (numsOf z rs).map (·.1) ↔ y = z ∨ ∃ r ∈ nrs rs, y = r.1 ∨ y ∈ r.2 := by
  refine snoc_ind (P := fun rs => ∀ y, y ∈ (numsOf z rs).map (·.1) ↔ y = z ∨ ∃ r ∈ nrs rs, y = r.1 ∨ y ∈ r.2) ?_ ?_ rs
  · intro y
    have e : (numsOf z []).map (·.1) = [z] := rfl
    rw [e]
    unfold nrs
    simp
  · intro rs r ih y
    rw [keys_snoc, fold_mem, ih y, List.mem_cons]
    unfold nrs
    rw [List.map_append]
    constructor
    · rintro ((h | ⟨q, hq, h⟩) | h)
      · exact .inl h
      · exact .inr ⟨q, List.mem_append.mpr (.inl hq), h⟩
      · exact .inr ⟨_, List.mem_append.mpr (.inr (List.mem_singleton.mpr rfl)), h⟩
    · rintro (h | ⟨q, hq, h⟩)
      · exact .inl (.inl h)
      · rcases List.mem_append.mp hq with hq | hq
        · exact .inl (.inr ⟨q, hq, h⟩)
        · rw [List.mem_singleton.mp hq] at h
          exact .inr h
theorem inS_mem {sg : List Nat} {c : Nat} (h : c ∈ sg) : inS (tx sg) (tx [c]) = true := by
  have := StrLaws.found_one (tx sg) c
  show (!(Builtin.Str.occurrences (tx sg) ⟨#[c]⟩ 0 (tx sg).length 1).isEmpty) = true
  rw [this, tx_list, decide_eq_true h]
theorem badSign_none {sg : List Nat} : ∀ {rs : List (Nat × RV)} {j : Nat}, (∀ r ∈ rs, ∃ c ∈ sg, r.2.sg = [c]) → badSign (tx sg) rs j = none
  | [], _, _ => rfl
  | r :: rs, j, h => by
    obtain ⟨c, hc, e⟩ := h r List.mem_cons_self
    unfold badSign
    rw [if_neg (fun z => by rw [e, inS_mem hc] at z; exact absurd z.2 (by decide))]
    exact badSign_none fun r' hr' => h r' (List.mem_cons_of_mem _ hr')
theorem rows_make {p : Pic} {sg st : List Nat} {rs : List (Nat × RV)} (hsg : signsB sg = true) (hst : st ∈ p) (hpn : ∀ r ∈ p, nameB r = true) (hp : p.length ≤ 8) (hn : rs.length ≤ 24) (hr : ∀ r ∈ rs, RowOf p sg r) : gFault sg st rs = none := by
  have h0 : gFault0 sg st rs = none := by
    unfold gFault0
    rw [if_neg (by rw [hsg]; decide), if_neg (by rw [hpn _ hst]; decide), if_neg (by omega), badSign_none fun r h => (hr r h).sg]
  unfold gFault
  rw [h0]
  simp only []
  rw [if_neg]
  have hk : ∀ z ∈ (numsOf (tx st) rs).map (·.1), z ∈ p.map tx := fun z hz => by
    rcases (keys_mem _ _ _).mp hz with e | ⟨q, hq, e⟩
    · rw [e]; exact List.mem_map_of_mem hst
    · unfold nrs at hq
      obtain ⟨r, hr', rfl⟩ := List.mem_map.mp hq
      have R := hr r hr'
      rcases e with e | e
      · rw [e]; exact List.mem_map_of_mem R.n
      · obtain ⟨y, hy, rfl⟩ := List.mem_map.mp e
        refine List.mem_map_of_mem ?_
        obtain ⟨k, v⟩ := r
        rcases k_cases R.good.k4 with rfl | rfl | rfl | rfl
        · exact absurd hy List.not_mem_nil
        · rcases (show y = v.o1 ∨ y = v.o2 by simpa [partsK] using hy) with rfl | rfl
          · exact R.o1
          · exact R.o2
        · rcases (show y = v.o1 ∨ y = v.o2 by simpa [partsK] using hy) with rfl | rfl
          · exact R.o1
          · exact R.o2
        · rw [show y = v.o1 by simpa [partsK] using hy]; exact R.o1
  have := ThM.nd_len (numsGo_NI (tx st) _ rs rfl).nd hk
  rw [List.length_map, List.length_map] at this
  omega
theorem RulesAt.zip {R : RC} {H : Hp} {as : List Addr} {rs : List (Nat × RV)} (h : RulesAt R H as rs) : (as.zip rs).map (fun x => V.ref x.1) = as.map V.ref ∧ (as.zip rs).map (·.2) = rs ∧ ∀ x ∈ as.zip rs, RuleAt R H x.2.1 x.1 x.2.2 := by
  refine ⟨?_, List.map_snd_zip (by have := h.1; omega), fun x hx => ?_⟩
  · have e : (as.zip rs).map (fun x => V.ref x.1) = ((as.zip rs).map Prod.fst).map V.ref := by rw [List.map_map]; rfl
    rw [e, List.map_fst_zip (by have := h.1; omega)]
  · obtain ⟨i, hi, e⟩ := List.mem_iff_getElem.mp hx
    have e2 : (as.zip rs)[i]? = some x := by rw [List.getElem?_eq_getElem hi, e]
    rw [List.getElem?_zip_eq_some] at e2
    exact h.2 i x.1 x.2 e2.1 e2.2
structure GNA (K : W.Frag) (C : Addr) : Prop where
  cl : ICls K C
  na : NoAttr K C "signs" ∧ NoAttr K C "start" ∧ NoAttr K C "kept" ∧ NoAttr K C "numbers"
abbrev s_above : Stmt := top 9
def sp_above (K : W.Frag) (CF : Addr) : Sp := fun vs H Q E => ∃ (a b : Addr) (p q : Pic) (r c r' c' : Nat), vs = [.ref a, .ref b] ∧ H a = some (.lst (rowsV p)) ∧ H b = some (.lst (rowsV q)) ∧ rect p r c ∧ rect q r' c' ∧ 0 < r ∧ r ≤ 6 ∧ c ≤ 6 ∧ 0 < r' ∧ r' ≤ 6 ∧ c' ≤ 6 ∧
  (c = c' ∧ r + r' ≤ 6 → GivesPic H (p ++ q) Q) ∧ (¬ (c = c' ∧ r + r' ≤ 6) → E (.ref CF) none H)
theorem sc_above : FnScope ["one", "other"] ["one", "other"] (defScope s_above) := ⟨rfl, rfl, rfl, by decide +kernel, rfl, by decide +kernel, by decide +kernel⟩
theorem ok_above {f zha : Addr} {fd : FuncData} {tk : Tok} (F : Fun K "above" "above" s_above f fd) (nb : NB mg) (m_MOST : mg "MOST" = some (.int 6 tk)) (zbc : mg "NoFit" = some (.ref zha)) (zFb : XR K zha) : FnOk P w K mg base (CX1 P w) 1 f fd ["one", "other"] (sp_above K zha) := by
  have sc := sc_above
  refine F.okX sc (fun vs H Q E h => ?_) (fun cdv A outer s H vs Q E hr h => ?_)
  · obtain ⟨a, b, p, q, r, c, r', c', rfl, _⟩ := h; rfl
  · obtain ⟨a, b, p, q, r, c, r', c', rfl, ha, hb, hp, hq, hr0, hr1, hc1, hr0', hr1', hc1', fit, nofit⟩ := h
    refine ⟨_, (pss_cons (ps_if (PW.pt (pw_or (pt_cmpR op_ne (pe_callB call_len_str rfl nb.len bt_len (pa_cons (pe_ix ix_list (pv 0) pe_int (fun _ _ => rfl)) pa_nil)) (pe_callB call_len_str rfl nb.len bt_len (pa_cons (pe_ix ix_list (pv 1) pe_int (fun _ _ => rfl)) pa_nil)) (nomark _)) (pw_or1 (pt_cmpR op_gt (pe_op op_add (pe_callB call_lenL rfl nb.len bt_len (pa_cons (pv 0) pa_nil)) (pe_callB call_lenL rfl nb.len bt_len (pa_cons (pv 1) pa_nil))) (pe_glob (v := .int 6) rfl m_MOST ⟨_, rfl⟩) (nomark _)))))
      (pss_one (ps_raiseX zFb rfl rfl zbc (makes_up fun _ _ _ h => h) (pa_consS pa_nil)))
      pss_nil)
      (pss_one (ps_ret (pe_op op_cat (pv 0) (pv 1))))), ?_⟩
    walk_at "wp"
    obtain ⟨hl0, hc0⟩ := rows_row hp hr0
    obtain ⟨hl0', hc0'⟩ := rows_row hq hr0'
    refine ⟨_, SqL.of ha, _, atI_nat (rowsV_get hl0), _, rfl, by rw [tx_length]; exact line_le (by omega), _, SqL.of hb, _, atI_nat (rowsV_get hl0'), _, rfl, by rw [tx_length]; exact line_le (by omega), ?_⟩
    rw [tx_length, tx_length, hc0, hc0']
    by_cases h1 : (c : Int) = (c' : Int)
    · rw [if_neg (fun h => h h1)]
      refine ⟨_, SqL.of ha, _, SqL.of hb, ?_⟩
      rw [rowsV_length, rowsV_length, hp.1, hq.1]
      by_cases h2 : 6 < (r : Int) + (r' : Int)
      · rw [if_pos h2]
        exact ⟨line_le (by omega), nofit (by omega)⟩
      · rw [if_neg h2]
        refine ⟨_, ha, _, hb, by rw [rowsV_length, rowsV_length, hp.1, hq.1]; exact line_le (by omega), fun l hl => ?_⟩
        refine fit ⟨by omega, by omega⟩ l _ hl ?_ (same_upd hl)
        rw [upd_same]
        unfold rowsV
        rw [List.map_append]
    · rw [if_pos h1]
      exact ⟨line_le (by omega), nofit (by omega)⟩
abbrev s_beside : Stmt := top 8
def put2 (p q : Pic) : Pic := (p.zip q).map fun x => x.1 ++ x.2
def sp_beside (K : W.Frag) (CF : Addr) : Sp := fun vs H Q E => ∃ (a b : Addr) (p q : Pic) (r c r' c' : Nat), vs = [.ref a, .ref b] ∧ H a = some (.lst (rowsV p)) ∧ H b = some (.lst (rowsV q)) ∧ rect p r c ∧ rect q r' c' ∧ 0 < r ∧ r ≤ 6 ∧ c ≤ 6 ∧ 0 < r' ∧ r' ≤ 6 ∧ c' ≤ 6 ∧
  (r = r' ∧ c + c' ≤ 6 → GivesPic H (put2 p q) Q) ∧ (¬ (r = r' ∧ c + c' ≤ 6) → E (.ref CF) none H)
theorem sc_beside : FnScope ["one", "other"] ["one", "other"] (defScope s_beside) := ⟨rfl, rfl, rfl, by decide +kernel, rfl, by decide +kernel, by decide +kernel⟩
theorem ok_beside {f zha : Addr} {fd : FuncData} {tk : Tok} (F : Fun K "beside" "beside" s_beside f fd) (nb : NB mg) (m_MOST : mg "MOST" = some (.int 6 tk)) (zbc : mg "NoFit" = some (.ref zha)) (zFb : XR K zha) : FnOk P w K mg base (CX1 P w) 1 f fd ["one", "other"] (sp_beside K zha) := by
  have sc := sc_beside
  refine F.okX sc (fun vs H Q E h => ?_) (fun cdv A outer s H vs Q E hr h => ?_)
  · obtain ⟨a, b, p, q, r, c, r', c', rfl, _⟩ := h; rfl
  · obtain ⟨a, b, p, q, r, c, r', c', rfl, ha, hb, hp, hq, hr0, hr1, hc1, hr0', hr1', hc1', fit, nofit⟩ := h
    refine ⟨_, (pss_cons (ps_if (PW.pt (pw_or (pt_cmpR op_ne (pe_callB call_lenL rfl nb.len bt_len (pa_cons (pv 0) pa_nil)) (pe_callB call_lenL rfl nb.len bt_len (pa_cons (pv 1) pa_nil)) (nomark _)) (pw_or1 (pt_cmpR op_gt (pe_op op_add (pe_callB call_len_str rfl nb.len bt_len (pa_cons (pe_ix ix_list (pv 0) pe_int (fun _ _ => rfl)) pa_nil)) (pe_callB call_len_str rfl nb.len bt_len (pa_cons (pe_ix ix_list (pv 1) pe_int (fun _ _ => rfl)) pa_nil))) (pe_glob (v := .int 6) rfl m_MOST ⟨_, rfl⟩) (nomark _)))))
      (pss_one (ps_raiseX zFb rfl rfl zbc (makes_up fun _ _ _ h => h) (pa_consS pa_nil)))
      pss_nil)
      (pss_one (ps_ret (pe_comp ["first", "second"] [] rfl (CompOk.of (by kernel_rfl)) (by kernel_rfl) (pi_zip rfl nb.zip (pa_cons (pv 0) (pa_cons (pv 1) pa_nil)))
        (fun _ _ _ _ => (pg_tupK (K := K) (n := 2) rfl rfl (pgs_cons (pg_name (i := 0) (by show (["first", "second"] : List Str).Nodup; decide +kernel) rfl (Or.inl rfl)) (pgs_cons (pg_name (i := 1) (by show (["first", "second"] : List Str).Nodup; decide +kernel) rfl (Or.inl rfl)) pgs_nil)))) (fun _ _ _ _ => pif_nil) (fun _ _ _ _ => (pe_op op_add_str (pv 0) (pv 1))))))), ?_⟩
    walk_at "wp"
    obtain ⟨hl0, hc0⟩ := rows_row hp hr0
    obtain ⟨hl0', hc0'⟩ := rows_row hq hr0'
    refine ⟨_, SqL.of ha, _, SqL.of hb, ?_⟩
    rw [rowsV_length, rowsV_length, hp.1, hq.1]
    by_cases h1 : (r : Int) = (r' : Int)
    · rw [if_neg (fun h => h h1)]
      refine ⟨_, SqL.of ha, _, atI_nat (rowsV_get hl0), _, rfl, by rw [tx_length]; exact line_le (by omega), _, SqL.of hb, _, atI_nat (rowsV_get hl0'), _, rfl, by rw [tx_length]; exact line_le (by omega), ?_⟩
      rw [tx_length, tx_length, hc0, hc0']
      by_cases h2 : 6 < (c : Int) + (c' : Int)
      · rw [if_pos h2]
        exact ⟨line_le (by omega), nofit (by omega)⟩
      · rw [if_neg h2]
        refine ⟨_, SqL.of ha, _, SqL.of hb, ?_⟩
        have hplen : p.length = r := hp.1
        have hqlen : q.length = r := by rw [hq.1]; omega
        have hput : (put2 p q).length = r := by unfold put2; rw [List.length_map, List.length_zip, hplen, hqlen, Nat.min_self]
        refine comp_zip (xs := rowsV p) (ys := rowsV q) (n := r) (by rw [rowsV_length, rowsV_length, hplen, hqlen, Nat.min_self]) (fun i acc σ H' => Same H H' ∧ acc = rowsV ((put2 p q).take i) ∧ i ≤ r ∧ ∃ y z, σ = [y, z]) ⟨fun _ _ e => e, rfl, Nat.zero_le _, _, _, rfl⟩ ?_ ?_ ?_ ?_ ?_
        · rintro i acc σ H' ⟨_, rfl, hi, _⟩
          rw [rowsV_length, List.length_take]; exact line_big (by omega)
        · rintro i acc σ H' ⟨_, _, h, _⟩
          exact h
        · rintro i acc σ H' ⟨sm, _⟩
          exact ⟨SqL.of (sm _ _ ha), SqL.of (sm _ _ hb)⟩
        · rintro i x y acc σ H' T hx hy ⟨sm, rfl, _, y1, z1, rfl⟩ hT
          have hi : i < p.length := by have := (List.getElem?_eq_some_iff.mp hx).1; rwa [rowsV_length] at this
          have hi' : i < q.length := by omega
          rw [rowsV_get hi] at hx
          rw [rowsV_get hi'] at hy
          cases hx
          cases hy
          have hrow := hp.2 _ (List.getElem_mem hi)
          have hrow' := hq.2 _ (List.getElem_mem hi')
          walk_at "wp"
          refine ⟨_, SqT.of upd_same, rfl, _, _, rfl, _, _, rfl, rfl, ?_⟩
          have e : (put2 p q)[i]? = some (p[i] ++ q[i]) := by
            unfold put2
            simp [List.getElem?_zip_eq_some, hi, hi']
            exact ⟨_, _, ⟨rfl, rfl⟩, rfl⟩
          have et : tx p[i] ++ tx q[i] = tx (p[i] ++ q[i]) := by
            show (⟨_ ++ _⟩ : Str) = ⟨_⟩
            simp [tx]
          refine ⟨_, rfl, _, rfl, by rw [tx_length, tx_length]; exact line_le (by omega), sm.trans (same_upd hT), ?_, by omega⟩
          rw [et, List.take_add_one, e]
          exact (rowsV_append _ _).symm
        · rintro acc σ H' ⟨sm, rfl, _⟩ l hl
          refine fit ⟨by omega, by omega⟩ l _ (sm.free hl) ?_ (sm.trans (same_upd hl))
          rw [upd_same, ← hput, List.take_length]
    · rw [if_pos h1]
      exact ⟨line_le (by omega), nofit (by omega)⟩
abbrev s_mirror : Stmt := top 12
def sp_mirror (K : W.Frag) : Sp := fun vs H Q _ => ∃ (a : Addr) (p : Pic), vs = [.ref a] ∧ SqL K H a (rowsV p) ∧ Small p ∧ GivesPic H (mirror p) Q
theorem sc_mirror : FnScope ["picture"] ["picture"] (defScope s_mirror) := ⟨rfl, rfl, rfl, by decide +kernel, rfl, by decide +kernel, by decide +kernel⟩
theorem ok_mirror {f : Addr} {fd : FuncData} (F : Fun K "mirror" "mirror" s_mirror f fd) (nb : NB mg) : FnOk P w K mg base CX0 1 f fd ["picture"] (sp_mirror K) := by
  have sc := sc_mirror
  refine F.ok sc (fun vs H Q E h => ?_) (fun cdv A outer s H vs Q E hr h => ?_)
  · obtain ⟨a, p, rfl, _⟩ := h; rfl
  · obtain ⟨a, p, rfl, hS, hp, q⟩ := h
    refine ⟨_, (pss_one (ps_ret (pe_comp ["row"] [] rfl (CompOk.of (by kernel_rfl)) (by kernel_rfl) (pi_list (pv 0))
        (fun _ _ _ _ => (pg_name (i := 0) (by show (["row"] : List Str).Nodup; decide +kernel) rfl (Or.inl rfl))) (fun _ _ _ _ => pif_nil) (fun _ _ _ _ => (pe_joinrev rfl rfl nb.reversed (pa_cons (pv 0) pa_nil)))))), ?_⟩
    walk_at "wp"
    refine ⟨⟨_, hS⟩, comp_list (xs := rowsV p) (fun i acc σ H' => H' = H ∧ acc = rowsV (mirror (p.take i)) ∧ i ≤ p.length ∧ ∃ x, σ = [x]) ⟨rfl, rfl, Nat.zero_le _, _, rfl⟩ ?_ ?_ ?_ ?_ ?_⟩
    · rintro i acc σ H' ⟨_, rfl, _⟩
      refine line_big ?_
      rw [rowsV_length]
      unfold mirror
      rw [List.length_map, List.length_take]
      have := hp.1
      omega
    · rintro i acc σ H' ⟨_, _, h, _⟩
      rw [rowsV_length]; exact h
    · rintro i acc σ H' ⟨rfl, _⟩
      exact hS
    · rintro i x acc σ H' hx ⟨rfl, rfl, hi, y, rfl⟩
      have hl : i < p.length := by have := (List.getElem?_eq_some_iff.mp hx).1; rwa [rowsV_length] at this
      rw [rowsV_get hl] at hx
      cases hx
      have hr := hp.2 _ (List.getElem_mem hl)
      walk_at "wp"
      refine ⟨by rw [tx_length]; omega, by decide, ?_, hl⟩
      rw [tx_list, join_ones, List.take_add_one, List.getElem?_eq_getElem hl]
      unfold mirror
      rw [List.map_append]
      exact (rowsV_append _ _).symm
    · rintro acc σ H' ⟨rfl, rfl, _⟩ l hl
      rw [rowsV_length, List.take_length]
      exact q l _ hl upd_same (same_upd hl)
abbrev s_column_from_below : Stmt := top 14
def sp_column (K : W.Frag) : Sp := fun vs H Q _ => ∃ (a : Addr) (p : Pic) (i : Nat), vs = [.ref a, .int (i : Int)] ∧ SqL K H a (rowsV p) ∧ Small p ∧ (∀ r ∈ p, i < r.length) ∧ ∀ H', Same H H' → Q (.str (tx (col p i))) H'
theorem sc_column : FnScope ["picture", "i"] ["picture", "i"] (defScope s_column_from_below) := ⟨rfl, rfl, rfl, by decide +kernel, rfl, by decide +kernel, by decide +kernel⟩
theorem ok_column {f : Addr} {fd : FuncData} (F : Fun K "column_from_below" "column_from_below" s_column_from_below f fd) (nb : NB mg) : FnOk P w K mg base CX0 1 f fd ["picture", "i"] (sp_column K) := by
  have sc := sc_column
  refine F.ok sc (fun vs H Q E h => ?_) (fun cdv A outer s H vs Q E hr h => ?_)
  · obtain ⟨a, p, i, rfl, _⟩ := h; rfl
  · obtain ⟨a, p, i, rfl, hS, hp, hi, q⟩ := h
    refine ⟨_, (pss_one (ps_ret (pe_bm PySem.F.plainAttrs_str PySem.F.slot_str_join PySem.F.type_str_join mt_join pe_str (pa_cons (pe_comp ["row"] [1] rfl (CompOk.of (by kernel_rfl)) (by kernel_rfl) (pi_rev rfl nb.reversed (pa_cons (pv 0) pa_nil))
        (fun _ _ _ _ => (pg_name (i := 0) (by show (["row", "i"] : List Str).Nodup; decide +kernel) rfl (Or.inl rfl))) (fun _ _ _ _ => pif_nil) (fun _ _ _ _ => (pe_ix ix_str (pv 0) (pv 1) (fun _ _ => rfl)))) pa_nil)))), ?_⟩
    walk_at "wp"
    have hd : ∀ n, ((p.reverse.take n).map fun r => V.str ⟨#[r.getD i 0]⟩) = (((p.reverse.take n).map fun r => r.getD i 0).map fun c => (⟨#[c]⟩ : Str)).map V.str := fun n => by rw [List.map_map, List.map_map]; rfl
    refine ⟨rfl, _, hS, comp_rev (xs := rowsV p) (fun n acc σ H' => H' = H ∧ acc = ((p.reverse.take n).map fun r => V.str ⟨#[r.getD i 0]⟩) ∧ n ≤ p.length ∧ ∃ x, σ = [x, some (.int (i : Int))]) ⟨rfl, rfl, Nat.zero_le _, _, rfl⟩ ?_ ?_ ?_ ?_ ?_⟩
    · rintro n acc σ H' ⟨_, rfl, _⟩
      refine line_big ?_
      rw [List.length_map, List.length_take]
      have := hp.1
      rw [List.length_reverse]
      omega
    · rintro n acc σ H' ⟨_, _, h, _⟩
      rw [rowsV_length]; exact h
    · rintro n acc σ H' ⟨rfl, _⟩
      exact hS
    · rintro n x acc σ H' hx ⟨rfl, rfl, hn, y, rfl⟩
      have hl : n < p.reverse.length := by
        have := (List.getElem?_eq_some_iff.mp hx).1
        rwa [List.length_reverse, rowsV_length, ← List.length_reverse (as := p)] at this
      have hx' : (rowsV p.reverse)[n]? = some x := by unfold rowsV at hx ⊢; rwa [List.map_reverse]
      rw [rowsV_get hl] at hx'
      cases hx'
      have hm : p.reverse[n] ∈ p := List.mem_reverse.mp (List.getElem_mem hl)
      have hr := hp.2 _ hm
      have hri := hi _ hm
      walk_at "wp"
      have hc : (tx p.reverse[n]).cps.toList[i]? = some (p.reverse[n].getD i 0) := by rw [tx_list, List.getD_eq_getElem?_getD, List.getElem?_eq_getElem hri]; rfl
      refine ⟨by rw [tx_length]; exact line_le (by omega), _, atI_nat hc, ?_, by rw [List.length_reverse] at hl; exact hl⟩
      rw [List.take_add_one, List.getElem?_eq_getElem hl, List.map_append]
      rfl
    · rintro acc σ H' ⟨rfl, rfl, _⟩ l hl
      rw [rowsV_length, ← List.length_reverse (as := p), List.take_length] at *
      refine ⟨(col p i).map fun c => (⟨#[c]⟩ : Str), .inl (SqL.of ?_), ?_, ?_⟩
      · rw [upd_same]; unfold col; rw [List.map_map, List.map_map]; rfl
      · rw [List.map_map]
        have e : ((fun y : Str => y.length) ∘ fun c => (⟨#[c]⟩ : Str)) = fun _ => 1 := by funext c; rfl
        rw [e, List.map_const', List.sum_replicate_nat, List.length_map]
        have e0 : (Str.ofString "").length = 0 := rfl
        rw [e0]
        have := hp.1
        unfold col
        rw [List.length_map, List.length_reverse]
        omega
      · rw [join_ones]; exact q _ (same_upd hl)
abbrev s_quarter : Stmt := top 13
def sp_quarter (K : W.Frag) : Sp := fun vs H Q _ => ∃ (a : Addr) (p : Pic) (r c : Nat), vs = [.ref a] ∧ SqL K H a (rowsV p) ∧ rect p r c ∧ 0 < r ∧ r ≤ 64 ∧ c ≤ 64 ∧ GivesPic H (quarter p) Q
theorem sc_quarter : FnScope ["picture"] ["picture"] (defScope s_quarter) := ⟨rfl, rfl, rfl, by decide +kernel, rfl, by decide +kernel, by decide +kernel⟩
theorem ok_quarter {f : Addr} {fd : FuncData} (F : Fun K "quarter" "quarter" s_quarter f fd) (nb : NB mg) (c_column_from_below : Cal P w K mg base CX0 1 "column_from_below" ["picture", "i"] (sp_column K)) : FnOk P w K mg base CX0 2 f fd ["picture"] (sp_quarter K) := by
  have sc := sc_quarter
  refine F.ok sc (fun vs H Q E h => ?_) (fun cdv A outer s H vs Q E hr h => ?_)
  · obtain ⟨a, p, r, c, rfl, _⟩ := h; rfl
  · obtain ⟨a, p, r, c, rfl, hS, hp, hr0, hr1, hc1, q⟩ := h
    refine ⟨_, (pss_one (ps_ret (pe_comp ["i"] [0] rfl (CompOk.of (by kernel_rfl)) (by kernel_rfl) (pi_range1 rfl nb.range (pa_cons (pe_callB call_len_str rfl nb.len bt_len (pa_cons (pe_ix ix_list (pv 0) pe_int (fun _ _ => rfl)) pa_nil)) pa_nil))
        (fun _ _ _ _ => (pg_name (i := 0) (by show (["i", "picture"] : List Str).Nodup; decide +kernel) rfl (Or.inl rfl))) (fun _ _ _ _ => pif_nil) (fun _ _ _ _ => (pe_cal c_column_from_below (hr.mono (by decide)) rfl pass0 (pa_cons (pv 1) (pa_cons (pv 0) pa_nil))))))), ?_⟩
    walk_at "wp"
    have hl0 : 0 < p.length := by rw [hp.1]; exact hr0
    have hc0 : (p[0]).length = c := hp.2 _ (List.getElem_mem hl0)
    have hh : (p.headD []).length = c := rect_head hp hr0
    refine ⟨_, hS, _, atI_nat (rowsV_get hl0), _, rfl, by rw [tx_length]; exact line_le (by omega), by rw [tx_length]; omega, by rw [tx_length]; omega, ?_⟩
    rw [tx_length, hc0, Int.toNat_natCast]
    refine comp_range (lo := 0) (n := c) (fun i acc σ H' => Same H H' ∧ acc = rowsV ((List.range i).map (col p)) ∧ i ≤ c ∧ ∃ x, σ = [x, some (.ref a)]) ⟨Same.refl _, rfl, Nat.zero_le _, _, rfl⟩ ?_ ?_ ?_ ?_
    · rintro i acc σ H' ⟨_, rfl, _⟩
      refine line_big ?_
      rw [rowsV_length, List.length_map, List.length_range]
      omega
    · rintro i acc σ H' ⟨_, _, h, _⟩
      exact h
    · rintro i acc σ H' hi ⟨sm, rfl, _, y, rfl⟩
      walk_at "wp"
      refine ⟨a, p, i, by simp, sm.seq hS, Small.of hp hr1 hc1, fun x hx => by rw [hp.2 x hx]; exact hi, fun H2 sm2 => ⟨sm.trans sm2, ?_, hi⟩⟩
      rw [List.range_succ, List.map_append]
      exact (rowsV_append _ _).symm
    · rintro acc σ H' ⟨sm, rfl, _⟩ l hl
      refine q l _ (sm.free hl) ?_ (sm.trans (same_upd hl))
      rw [upd_same]
      unfold quarter
      rw [hh]
abbrev s_turned : Stmt := top 11
def sp_turned (K : W.Frag) : Sp := fun vs H Q _ => ∃ (a : Addr) (p : Pic) (r c t : Nat), vs = [.ref a, .int (t : Int)] ∧ SqL K H a (rowsV p) ∧ rect p r c ∧ 0 < r ∧ 0 < c ∧ r ≤ 64 ∧ c ≤ 64 ∧ t < 8 ∧ GivesPic H (turned p t) Q
theorem sc_turned : FnScope ["picture", "t", "result", "step"] ["picture", "t"] (defScope s_turned) := ⟨rfl, rfl, rfl, by decide +kernel, rfl, by decide +kernel, by decide +kernel⟩
theorem ok_turned {f : Addr} {fd : FuncData} (F : Fun K "turned" "turned" s_turned f fd) (nb : NB mg) (c_mirror : Cal P w K mg base CX0 1 "mirror" ["picture"] (sp_mirror K)) (c_quarter : Cal P w K mg base CX0 2 "quarter" ["picture"] (sp_quarter K)) : FnOk P w K mg base CX0 3 f fd ["picture", "t"] (sp_turned K) := by
  have sc := sc_turned
  refine F.ok sc (fun vs H Q E h => ?_) (fun cdv A outer s H vs Q E hr h => ?_)
  · obtain ⟨a, p, r, c, t, rfl, _⟩ := h; rfl
  · obtain ⟨a, p, r, c, t, rfl, hS, hp, hr0, hc0, hr1, hc1, ht, q⟩ := h
    refine ⟨_, (pss_cons (ps_set (i := 2) sc.nd rfl (Or.inl rfl) (pe_callTy call_list_of rfl nb.list bt_list (pa_cons (pv 0) pa_nil)))
      (pss_cons (ps_if (pt_cmpR op_ge (pv 1) pe_int (nomark _))
      (pss_one (ps_set (i := 2) sc.nd rfl (Or.inl rfl) (pe_cal c_mirror (hr.mono (by decide)) rfl pass0 (pa_cons (pv 2) pa_nil))))
      pss_nil)
      (pss_cons (ps_forw PassesOwn.never rfl (pi_range1 rfl nb.range (pa_cons (pe_op op_mod (pv 1) pe_int) pa_nil)) (pg_name (i := 3) sc.nd rfl (Or.inl rfl))
      (pss_one (ps_set (i := 2) sc.nd rfl (Or.inl rfl) (pe_cal c_quarter (hr.mono (by decide)) rfl pass0 (pa_cons (pv 2) pa_nil)))))
      (pss_one (ps_ret (pv 2)))))), ?_⟩
    walk_at "wp"
    -- the quarters, from the list at l
    have loop : ∀ (l : Addr) (p' : Pic) (H1 : Hp), H l = none → H1 l = some (.lst (rowsV p')) → Same H H1 → rect p' r c → turned p t = quarters (t % 4) p' →
        ∀ (g : TG) (tb : TS) (D : Ends), g = gName 3 → tb = tAsg (tCall (sp_quarter K) [] E0 (tCons (tVar 2) tNil)) (gName 2) → (∀ σ' H' v, σ'[2]? = some (some v) → Q v H' → D.nx σ' H') → ForW (Itr 0 ((t : Int) % 4).toNat) g tb D [some (V.ref a), some (V.int t), some (V.ref l), none] H1 := by
      intro l p' H1 hl h1 sm hp' et g tb D hg htb hD
      subst hg htb
      have e4 : ((t : Int) % 4).toNat = t % 4 := by omega
      rw [e4]
      refine forw_range (fun i σ H2 => ∃ (l2 : Addr) (x : Option V), σ = [some (V.ref a), some (V.int t), some (V.ref l2), x] ∧ H l2 = none ∧ H2 l2 = some (.lst (rowsV (quarters i p'))) ∧ Same H H2) ⟨l, none, rfl, hl, h1, sm⟩ ?_ ?_
      · rintro i σ H2 hi ⟨l2, x, rfl, h2, h3, sm2⟩
        walk_at "wp"
        have hq := rect_quarters i hp' hr0 hc0
        have gp : ∀ r' c', rect (quarters i p') r' c' → 0 < r' → r' ≤ 64 → c' ≤ 64 → sp_quarter K [V.ref l2] H2 (fun x_1 H1 => ∃ l2, x_1 = V.ref l2 ∧ H l2 = none ∧ H1 l2 = some (HO.lst (rowsV (quarters (i + 1) p'))) ∧ Same H H1) E0 := fun r' c' h4 h5 h6 h7 =>
          ⟨l2, quarters i p', r', c', rfl, SqL.of h3, h4, h5, h6, h7, fun l3 H3 h8 h9 sm3 => ⟨l3, rfl, sm2.free h8, by rw [h9, ← quarters_add 1 i p']; rfl, sm2.trans sm3⟩⟩
        by_cases hi2 : i % 2 = 0
        · rw [if_pos hi2, if_pos hi2] at hq
          exact gp r c hq hr0 hr1 hc1
        · rw [if_neg hi2, if_neg hi2] at hq
          exact gp c r hq hc0 hc1 hr1
      · rintro σ H2 ⟨l2, x, rfl, h2, h3, sm2⟩
        exact hD _ _ _ rfl (q l2 H2 h2 (by rw [h3, et]) sm2)
    refine ⟨_, .inl hS, fun l hl => ?_⟩
    split
    · rename_i h4
      refine ⟨l, p, rfl, SqL.of upd_same, Small.of hp hr1 hc1, fun l2 H2 h2 h3 sm2 => ⟨by omega, by omega, ?_⟩⟩
      refine loop l2 (mirror p) H2 ((same_upd hl).free h2) h3 ((same_upd hl).trans sm2) (rect_mirror hp) (by unfold turned; rw [if_pos (by omega)]) _ _ _ rfl rfl ?_
      intro σ' H' v e hq
      exact ⟨v, e, hq⟩
    · rename_i h4
      refine ⟨by omega, by omega, ?_⟩
      refine loop l p _ hl upd_same (same_upd hl) hp (by unfold turned; rw [if_neg (by omega)]) _ _ _ rfl rfl ?_
      intro σ' H' v e hq
      exact ⟨v, e, hq⟩
abbrev s_cell_made : Stmt := meth 24 1
def sp_cell_made (C : Addr) : Sp := fun vs H Q _ => ∃ (a dx l b : Addr) (n sg : List Nat) (c : Int), vs = [.ref a, .ref b] ∧ H a = some (.ins C dx (cellF n c l sg)) ∧ GivesPic H [sg] Q
theorem sc_cell_made : FnScope ["self", "pictures"] ["self", "pictures"] (defScope s_cell_made) := ⟨rfl, rfl, rfl, by decide +kernel, rfl, by decide +kernel, by decide +kernel⟩
theorem ok_cell_made {f C : Addr} {fd : FuncData} (F : Fun K "made" "CellRule.made" s_cell_made f fd) (cl : Cls K C) (na : NoAttr K C "sign") : FnOk P w K mg base CX0 1 f fd ["self", "pictures"] (sp_cell_made C) := by
  have sc := sc_cell_made
  refine F.ok sc (fun vs H Q E h => ?_) (fun cdv A outer s H vs Q E hr h => ?_)
  · obtain ⟨a, dx, l, b, n, sg, c, rfl, _⟩ := h; rfl
  · obtain ⟨a, dx, l, b, n, sg, c, rfl, ha, q⟩ := h
    refine ⟨_, (pss_one (ps_ret (pe_lst (pa_cons (pe_fld (pv 0) rfl) pa_nil)))), ?_⟩
    walk_at "wp"
    exact ⟨C, dx, _, ha, cl, na, _, rfl, line_le (by decide), fun p hp => q p _ hp upd_same (same_upd hp)⟩
def sp_pair_made (spf : Sp) : Sp := fun vs H Q E => ∃ (a b a1 a2 : Addr), vs = [.ref a, .ref b] ∧ H b = some (.lst [.ref a1, .ref a2]) ∧ spf [.ref a1, .ref a2] H Q E
abbrev s_beside_made : Stmt := meth 25 1
theorem sc_beside_made : FnScope ["self", "pictures"] ["self", "pictures"] (defScope s_beside_made) := ⟨rfl, rfl, rfl, by decide +kernel, rfl, by decide +kernel, by decide +kernel⟩
theorem ok_beside_made {f zha : Addr} {fd : FuncData} (F : Fun K "made" "BesideRule.made" s_beside_made f fd) (c_beside : Cal P w K mg base (CX1 P w) 1 "beside" ["one", "other"] (sp_beside K zha)) : FnOk P w K mg base (CX1 P w) 2 f fd ["self", "pictures"] (sp_pair_made (sp_beside K zha)) := by
  have sc := sc_beside_made
  refine F.okX sc (fun vs H Q E h => ?_) (fun cdv A outer s H vs Q E hr h => ?_)
  · obtain ⟨a, b, a1, a2, rfl, _⟩ := h; rfl
  · obtain ⟨a, b, a1, a2, rfl, hb, q⟩ := h
    refine ⟨_, (pss_one (ps_ret (pe_cal (E := E) c_beside (hr.mono (by decide)) rfl (passes_up fun _ _ _ h => h) (pa_cons (pe_ix ix_list (pv 1) pe_int (fun _ _ => rfl)) (pa_cons (pe_ix ix_list (pv 1) pe_int (fun _ _ => rfl)) pa_nil))))), ?_⟩
    walk_at "wp"
    exact ⟨_, SqL.of hb, _, rfl, _, SqL.of hb, _, rfl, q⟩
abbrev s_above_made : Stmt := meth 26 1
theorem sc_above_made : FnScope ["self", "pictures"] ["self", "pictures"] (defScope s_above_made) := ⟨rfl, rfl, rfl, by decide +kernel, rfl, by decide +kernel, by decide +kernel⟩
theorem ok_above_made {f zha : Addr} {fd : FuncData} (F : Fun K "made" "AboveRule.made" s_above_made f fd) (c_above : Cal P w K mg base (CX1 P w) 1 "above" ["one", "other"] (sp_above K zha)) : FnOk P w K mg base (CX1 P w) 2 f fd ["self", "pictures"] (sp_pair_made (sp_above K zha)) := by
  have sc := sc_above_made
  refine F.okX sc (fun vs H Q E h => ?_) (fun cdv A outer s H vs Q E hr h => ?_)
  · obtain ⟨a, b, a1, a2, rfl, _⟩ := h; rfl
  · obtain ⟨a, b, a1, a2, rfl, hb, q⟩ := h
    refine ⟨_, (pss_one (ps_ret (pe_cal (E := E) c_above (hr.mono (by decide)) rfl (passes_up fun _ _ _ h => h) (pa_cons (pe_ix ix_list (pv 1) pe_int (fun _ _ => rfl)) (pa_cons (pe_ix ix_list (pv 1) pe_int (fun _ _ => rfl)) pa_nil))))), ?_⟩
    walk_at "wp"
    exact ⟨_, SqL.of hb, _, rfl, _, SqL.of hb, _, rfl, q⟩
def sp_turn_made (K : W.Frag) (C : Addr) : Sp := fun vs H Q E => ∃ (a dx l b a1 : Addr) (n o1 : List Nat) (c t : Int), vs = [.ref a, .ref b] ∧ H a = some (.ins C dx (turnF n c l o1 t)) ∧ H b = some (.lst [.ref a1]) ∧ sp_turned K [.ref a1, .int t] H Q E0
abbrev s_turn_made : Stmt := meth 27 1
theorem sc_turn_made : FnScope ["self", "pictures"] ["self", "pictures"] (defScope s_turn_made) := ⟨rfl, rfl, rfl, by decide +kernel, rfl, by decide +kernel, by decide +kernel⟩
theorem ok_turn_made {f C : Addr} {fd : FuncData} (F : Fun K "made" "TurnRule.made" s_turn_made f fd) (cl : Cls K C) (na : NoAttr K C "turning") (zmf : Cal P w K mg base CX0 3 "turned" ["picture", "t"] (sp_turned K)) : FnOk P w K mg base CX0 4 f fd ["self", "pictures"] (sp_turn_made K C) := by
  have sc := sc_turn_made
  refine F.ok sc (fun vs H Q E h => ?_) (fun cdv A outer s H vs Q E hr h => ?_)
  · obtain ⟨a, dx, l, b, a1, n, o1, c, t, rfl, _⟩ := h; rfl
  · obtain ⟨a, dx, l, b, a1, n, o1, c, t, rfl, ha, hb, q⟩ := h
    refine ⟨_, (pss_one (ps_ret (pe_cal zmf (hr.mono (by decide)) rfl pass0 (pa_cons (pe_ix ix_list (pv 1) pe_int (fun _ _ => rfl)) (pa_cons (pe_fld (pv 0) rfl) pa_nil))))), ?_⟩
    walk_at "wp"
    exact ⟨_, SqL.of hb, _, rfl, C, dx, _, ha, cl, na, _, rfl, q⟩
structure Pic6 (p : Pic) (r c : Nat) : Prop where
  rc : rect p r c
  r0 : 0 < r
  r6 : r ≤ 6
  c0 : 0 < c
  c6 : c ≤ 6
inductive Fits : Nat → List Pic → Prop
  | cell : Fits 0 []
  | beside {p q : Pic} {r c r' c' : Nat} : Pic6 p r c → Pic6 q r' c' → Fits 1 [p, q]
  | above {p q : Pic} {r c r' c' : Nat} : Pic6 p r c → Pic6 q r' c' → Fits 2 [p, q]
  | turn {p : Pic} {r c : Nat} : Pic6 p r c → Fits 3 [p]
def PicsAt (H : Hp) (l : Addr) (as : List Addr) (ps : List Pic) : Prop := H l = some (.lst (as.map V.ref)) ∧ as.length = ps.length ∧ ∀ i (h1 : i < as.length) (h2 : i < ps.length), H as[i] = some (.lst (rowsV ps[i]))
theorem PicsAt.up {H H' : Hp} {l : Addr} {as : List Addr} {ps : List Pic} (h : PicsAt H l as ps) (s : Same H H') : PicsAt H' l as ps := ⟨s _ _ h.1, h.2.1, fun i h1 h2 => s _ _ (h.2.2 i h1 h2)⟩
def madeP (k : Nat) (v : RV) (ps : List Pic) : Option Pic :=
  match k, ps with
  | 0, _ => some [v.sg]
  | 1, [p, q] => if p.length = q.length ∧ (p.headD []).length + (q.headD []).length ≤ 6 then some (put2 p q) else none
  | 2, [p, q] => if (p.headD []).length = (q.headD []).length ∧ p.length + q.length ≤ 6 then some (p ++ q) else none
  | _, [p] => some (turned p v.t.toNat)
  | _, _ => none
def oMade (K : W.Frag) (R : RC) (CF : Addr) : List (Addr × Sp) := [(R.cc, sp_cell_made R.cc), (R.cb, sp_pair_made (sp_beside K CF)), (R.ca, sp_pair_made (sp_above K CF)), (R.ct, sp_turn_made K R.ct)]
theorem made_any {R : RC} {CF : Addr} {H : Hp} {k a b} {v : RV} {as : List Addr} {ps : List Pic} {Q : VK} {E : XK} (r : RuleAt R H k a v) (ok : okR k v) (pa : PicsAt H b as ps) (ft : Fits k ps)
    (q : ∀ p, madeP k v ps = some p → GivesPic H p Q) (x : madeP k v ps = none → E (.ref CF) none H) :
    ∃ o ∈ oMade K R CF, ∃ dx fs, H a = some (.ins o.1 dx fs) ∧ fs.lookup ("made" : Str) = none ∧ o.2 [.ref a, .ref b] H Q E := by
  obtain ⟨dx, l, h1, _⟩ := r
  obtain ⟨hb, hl, hat⟩ := pa
  cases ft with
  | cell => exact ⟨(R.cc, sp_cell_made R.cc), by simp [oMade], dx, _, h1, rfl, a, dx, l, b, v.n, v.sg, v.c, rfl, h1, q _ rfl⟩
  | @beside p q' r c r' c' hp hq =>
    obtain ⟨a1, a2, rfl⟩ : ∃ a1 a2, as = [a1, a2] := by match as, hl with | [a1, a2], _ => exact ⟨a1, a2, rfl⟩
    have e1 := hat 0 (by simp) (by simp)
    have e2 := hat 1 (by simp) (by simp)
    have hh1 := rect_head hp.rc hp.r0
    have hh2 := rect_head hq.rc hq.r0
    have hl1 := hp.rc.1
    have hl2 := hq.rc.1
    refine ⟨(R.cb, sp_pair_made (sp_beside K CF)), by simp [oMade], dx, _, h1, rfl, a, b, a1, a2, rfl, hb, a1, a2, p, q', r, c, r', c', rfl, e1, e2, hp.rc, hq.rc, hp.r0, hp.r6, hp.c6, hq.r0, hq.r6, hq.c6, fun fit => q _ ?_, fun nofit => x ?_⟩
    · show (if _ then _ else _) = _
      rw [if_pos (by rw [hl1, hl2, hh1, hh2]; exact fit)]
    · show (if _ then _ else _) = _
      rw [if_neg (by rw [hl1, hl2, hh1, hh2]; exact nofit)]
  | @above p q' r c r' c' hp hq =>
    obtain ⟨a1, a2, rfl⟩ : ∃ a1 a2, as = [a1, a2] := by match as, hl with | [a1, a2], _ => exact ⟨a1, a2, rfl⟩
    have e1 := hat 0 (by simp) (by simp)
    have e2 := hat 1 (by simp) (by simp)
    have hh1 := rect_head hp.rc hp.r0
    have hh2 := rect_head hq.rc hq.r0
    have hl1 := hp.rc.1
    have hl2 := hq.rc.1
    refine ⟨(R.ca, sp_pair_made (sp_above K CF)), by simp [oMade], dx, _, h1, rfl, a, b, a1, a2, rfl, hb, a1, a2, p, q', r, c, r', c', rfl, e1, e2, hp.rc, hq.rc, hp.r0, hp.r6, hp.c6, hq.r0, hq.r6, hq.c6, fun fit => q _ ?_, fun nofit => x ?_⟩
    · show (if _ then _ else _) = _
      rw [if_pos (by rw [hl1, hl2, hh1, hh2]; exact fit)]
    · show (if _ then _ else _) = _
      rw [if_neg (by rw [hl1, hl2, hh1, hh2]; exact nofit)]
  | @turn p r c hp =>
    obtain ⟨a1, rfl⟩ : ∃ a1, as = [a1] := by match as, hl with | [a1], _ => exact ⟨a1, rfl⟩
    have e1 := hat 0 (by simp) (by simp)
    have t0 : 0 ≤ v.t := ok.2.1
    have t7 : v.t ≤ 7 := ok.2.2
    refine ⟨(R.ct, sp_turn_made K R.ct), by simp [oMade], dx, _, h1, rfl, a, dx, l, b, a1, v.n, v.o1, v.c, v.t, rfl, h1, hb, a1, p, r, c, v.t.toNat, by rw [Int.toNat_of_nonneg t0], SqL.of e1, hp.rc, hp.r0, hp.c0, by have := hp.r6; omega, by have := hp.c6; omega, by omega, q _ rfl⟩
abbrev s_after : Stmt := top 15
def sp_after : Sp := fun vs H Q _ => ∃ (t u : Nat), vs = [.int (t : Int), .int (u : Int)] ∧ t < 8 ∧ u < 8 ∧ Q (.int (after t u : Nat)) H
theorem sc_after : FnScope ["t", "u"] ["t", "u"] (defScope s_after) := ⟨rfl, rfl, rfl, by decide +kernel, rfl, by decide +kernel, by decide +kernel⟩
theorem ok_after {f : Addr} {fd : FuncData} (F : Fun K "after" "after" s_after f fd) : FnOk P w K mg base CX0 1 f fd ["t", "u"] sp_after := by
  have sc := sc_after
  refine F.ok sc (fun vs H Q E h => ?_) (fun cdv A outer s H vs Q E hr h => ?_)
  · obtain ⟨t, u, rfl, _⟩ := h; rfl
  · obtain ⟨t, u, rfl, ht, hu, q⟩ := h
    refine ⟨_, (pss_cons (ps_if (pt_cmpR op_lt (pv 1) pe_int (nomark _))
      (pss_one (ps_ret (pe_op op_add (pe_op op_mul (pe_op op_fdivP (pv 0) pe_int) pe_int) (pe_op op_mod (pe_op op_add (pv 0) (pv 1)) pe_int))))
      pss_nil)
      (pss_one (ps_ret (pe_op op_add (pe_op op_mul (pe_op op_sub pe_int (pe_op op_fdivP (pv 0) pe_int)) pe_int) (pe_op op_mod (pe_op op_sub (pv 1) (pv 0)) pe_int))))), ?_⟩
    walk_at "wp"
    split
    · have e : ((after t u : Nat) : Int) = (t : Int) / 4 * 4 + ((t : Int) + u) % 4 := by unfold after; rw [if_pos (by omega)]; omega
      rw [← e]; exact q
    · have e : ((after t u : Nat) : Int) = (1 - (t : Int) / 4) * 4 + ((u : Int) - t) % 4 := by unfold after; rw [if_neg (by omega)]; omega
      rw [← e]; exact q
abbrev s_back : Stmt := top 16
def sp_back : Sp := fun vs H Q _ => ∃ (t : Nat), vs = [.int (t : Int)] ∧ t < 8 ∧ Q (.int (back t : Nat)) H
theorem sc_back : FnScope ["t"] ["t"] (defScope s_back) := ⟨rfl, rfl, rfl, by decide +kernel, rfl, by decide +kernel, by decide +kernel⟩
theorem ok_back {f : Addr} {fd : FuncData} (F : Fun K "back" "back" s_back f fd) : FnOk P w K mg base CX0 1 f fd ["t"] sp_back := by
  have sc := sc_back
  refine F.ok sc (fun vs H Q E h => ?_) (fun cdv A outer s H vs Q E hr h => ?_)
  · obtain ⟨t, rfl, _⟩ := h; rfl
  · obtain ⟨t, rfl, ht, q⟩ := h
    refine ⟨_, (pss_cons (ps_if (pt_cmpR op_lt (pv 0) pe_int (nomark _))
      (pss_one (ps_ret (pe_op op_mod (pe_op op_sub pe_int (pv 0)) pe_int)))
      pss_nil)
      (pss_one (ps_ret (pv 0)))), ?_⟩
    walk_at "wp"
    split
    · have e : ((back t : Nat) : Int) = (4 - (t : Int)) % 4 := by unfold back; rw [if_pos (by omega)]; omega
      rw [← e]; exact q
    · have e : ((back t : Nat) : Int) = (t : Int) := by unfold back; rw [if_neg (by omega)]
      rw [← e]; exact q
def qStep (s : Bool × Bool) : Bool × Bool := (!s.1, if s.1 = true then s.2 else !s.2)
theorem qT_step : ∀ (n : Nat) (s : Bool × Bool), qT (n + 1) s = qStep (qT n s)
  | 0, _ => rfl
  | n + 1, s => by
    show qT (n + 1) (qStep s) = qStep (qT n (qStep s))
    exact qT_step n (qStep s)
def swV (sw : Bool) (v : RV) : RV := if sw = true then { v with o1 := v.o2, o2 := v.o1 } else v
def turK (k t : Nat) : Nat := match k with | 0 => 0 | 1 => if (pairT true t).1 = true then 1 else 2 | 2 => if (pairT false t).1 = true then 1 else 2 | _ => 3
def turR (k t : Nat) (v : RV) : RV := match k with | 0 => v | 1 => swV (pairT true t).2 v | 2 => swV (pairT false t).2 v | _ => { v with t := (after (after (back t) v.t.toNat) t : Nat) }
theorem swV_good {sw : Bool} {v : RV} (g : v.good) : (swV sw v).good := by
  unfold swV
  split
  · exact ⟨g.n, g.c1, g.c9, g.o2, g.o1, g.sg, g.t0, g.t7⟩
  · exact g
theorem turR_good {k t : Nat} {v : RV} (ht : t < 8) (g : v.good) : (turR k t v).good := by
  have g' := g
  obtain ⟨g1, g2, g3, g4, g5, g6, g7, g8⟩ := g
  match k with
  | 0 => exact g'
  | 1 => exact swV_good g'
  | 2 => exact swV_good g'
  | _ + 3 =>
    have : after (after (back t) v.t.toNat) t < 8 := after_lt (after_lt (back_lt ht) (by omega)) ht
    exact ⟨g1, g2, g3, g4, g5, g6, by show (0 : Int) ≤ ((_ : Nat) : Int); omega, by show ((_ : Nat) : Int) ≤ 7; omega⟩
theorem turK_lt {k t : Nat} : turK k t < 4 := by
  match k with
  | 0 => show 0 < 4; decide
  | 1 => show (if _ then 1 else 2) < 4; split <;> decide
  | 2 => show (if _ then 1 else 2) < 4; split <;> decide
  | _ + 3 => show 3 < 4; decide
theorem pair_of {R : RC} {H : Hp} {k a} {v : RV} (rk : RKit K R) (hk : k = 1 ∨ k = 2) (r : RuleAt R H k a v) : ∃ C dx l, H a = some (.ins C dx (pairF v.n v.c l v.o1 v.o2)) ∧ Cls K C ∧ NoAttr K C "name" ∧ NoAttr K C "cost" ∧ NoAttr K C "part_names" ∧ NoAttr K C "one" ∧ NoAttr K C "other" := by
  obtain ⟨dx, l, h, _⟩ := r
  rcases hk with rfl | rfl
  · exact ⟨_, dx, l, h, rk.i1.cl, rk.a1⟩
  · exact ⟨_, dx, l, h, rk.i2.cl, rk.a2⟩
abbrev s_turned_pair : Stmt := top 28
def sp_turned_pair (R : RC) : Sp := fun vs H Q _ => ∃ (a : Addr) (k : Nat) (v : RV) (sb : Bool) (t : Nat), vs = [.ref a, .bl sb, .int (t : Int)] ∧ t < 8 ∧ (k = 1 ∨ k = 2) ∧ RuleAt R H k a v ∧ v.good ∧
  ∀ b H', RuleAt R H' (if (pairT sb t).1 = true then 1 else 2) b (swV (pairT sb t).2 v) → Same H H' → Q (.ref b) H'
theorem sc_turned_pair : FnScope ["rule", "side_by_side", "t", "swapped", "step", "one", "other"] ["rule", "side_by_side", "t"] (defScope s_turned_pair) := ⟨rfl, rfl, rfl, by decide +kernel, rfl, by decide +kernel, by decide +kernel⟩
theorem ok_turned_pair {R : RC} {f zga : Addr} {fd : FuncData} (F : Fun K "turned_pair" "turned_pair" s_turned_pair f fd) (nb : NB mg) (rk : RKit K R) (zIa : CalK P w K mg base (CX1 P w) 4 "BesideRule" R.cb ["self", "name", "cost", "one", "other"] (sp_pair_init K zga)) (zSa : CalK P w K mg base (CX1 P w) 4 "AboveRule" R.ca ["self", "name", "cost", "one", "other"] (sp_pair_init K zga)) : FnOk P w K mg base CX0 6 f fd ["rule", "side_by_side", "t"] (sp_turned_pair R) := by
  have sc := sc_turned_pair
  refine F.ok sc (fun vs H Q E h => ?_) (fun cdv A outer s H vs Q E hr h => ?_)
  · obtain ⟨a, k, v, sb, t, rfl, _⟩ := h; rfl
  · obtain ⟨a, k, v, sb, t, rfl, ht, hk, ra, g, q⟩ := h
    have hu := hr.units
    obtain ⟨C, dx, l, ha, hcl, n1, n2, n3, n4, n5⟩ := pair_of rk hk ra
    refine ⟨_, (pss_cons (ps_set (i := 3) sc.nd rfl (Or.inl rfl) (pe_and (pv 1) (pe_one (pe_cmpR op_ge (pv 2) pe_int (nomark _)))))
      (pss_cons (ps_forw PassesOwn.never rfl (pi_range1 rfl nb.range (pa_cons (pe_op op_mod (pv 2) pe_int) pa_nil)) (pg_name (i := 4) sc.nd rfl (Or.inl rfl))
      (pss_cons (ps_if (pt_not (pt_tb (pv 1) fun _ => rfl))
      (pss_one (ps_set (i := 3) sc.nd rfl (Or.inl rfl) (pe_not (pv 3))))
      pss_nil)
      (pss_one (ps_set (i := 1) sc.nd rfl (Or.inl rfl) (pe_not (pv 1))))))
      (pss_cons (ps_set (i := 5) sc.nd rfl (Or.inl rfl) (pe_ifExp (pt_tb (pv 3) fun _ => rfl) (pe_fld (pv 0) rfl) (pe_fld (pv 0) rfl)))
      (pss_cons (ps_set (i := 6) sc.nd rfl (Or.inl rfl) (pe_ifExp (pt_tb (pv 3) fun _ => rfl) (pe_fld (pv 0) rfl) (pe_fld (pv 0) rfl)))
      (pss_cons (ps_if (pt_tb (pv 1) fun _ => rfl)
      (pss_one (ps_ret (pe_calK (CX := CX1 P w) zIa (hr.mono (by decide)) rfl passes_E0 (pa_cons (pe_fld (pv 0) rfl) (pa_cons (pe_fld (pv 0) rfl) (pa_cons (pv 5) (pa_cons (pv 6) pa_nil)))))))
      pss_nil)
      (pss_one (ps_ret (pe_calK (CX := CX1 P w) zSa (hr.mono (by decide)) rfl passes_E0 (pa_cons (pe_fld (pv 0) rfl) (pa_cons (pe_fld (pv 0) rfl) (pa_cons (pv 5) (pa_cons (pv 6) pa_nil)))))))))))), ?_⟩
    refine seq_cut fun N1 h1 => ?_
    walk_at "wp"
    have h1' : N1 [some (V.ref a), some (V.bl sb), some (V.int (t : Int)), some (V.bl (sb && decide (4 ≤ t))), none, none, none] H := by
      refine h1 _ _ ?_
      clear h1
      refine seq_cut fun N2 h2 => ?_
      walk_at "wp"
      have et : ((t : Int) % 4).toNat = t % 4 := by omega
      refine ⟨by omega, by omega, ?_⟩
      rw [et]
      refine forw_range (lo := 0) (n := t % 4) (fun i σ H' => H' = H ∧ ∃ x, σ = [some (V.ref a), some (V.bl (qT i (sb, sb && decide (4 ≤ t))).1), some (V.int (t : Int)), some (V.bl (qT i (sb, sb && decide (4 ≤ t))).2), x, none, none]) ⟨rfl, _, rfl⟩ ?_ ?_
      · rintro i σ H' hi ⟨rfl, x, rfl⟩
        rw [qT_step]
        generalize qT i (sb, sb && decide (4 ≤ t)) = z
        walk_at "wp"
        obtain ⟨z1, z2⟩ := z
        cases z1 <;> cases z2 <;> exact ⟨rfl, rfl⟩
      · rintro σ H' ⟨rfl, x, rfl⟩
        refine h2 _ _ ?_
        clear h2
        have hp : qT (t % 4) (sb, sb && decide (4 ≤ t)) = pairT sb t := rfl
        rw [hp]
        generalize pairT sb t = z at q ⊢
        walk_at "wp"
        obtain ⟨z1, z2⟩ := z
        match z1, z2, q with
        | true, true, q =>
          refine ⟨C, dx, _, ha, hcl, n5, _, rfl, C, dx, _, ha, hcl, n4, _, rfl, C, dx, _, ha, hcl, n1, _, rfl, C, dx, _, ha, hcl, n2, _, rfl, fun x dx2 hx hdx hne => ?_⟩
          exact ⟨x, R.cb, dx2, _, _, _, _, rfl, upd_same, rk.i1.cl, rk.a1, by have := g.small.n; omega, by have := g.small.o2; omega, by have := g.small.o1; omega, fun ok pl H' sx hpl hl' ha' => ⟨rfl, q x H' ⟨dx2, pl, ha', hl'⟩ (sameX_new hx hdx sx)⟩, fun nok => absurd ((swV_good (sw := true) g).ok 1) nok⟩
        | true, false, q =>
          refine ⟨C, dx, _, ha, hcl, n4, _, rfl, C, dx, _, ha, hcl, n5, _, rfl, C, dx, _, ha, hcl, n1, _, rfl, C, dx, _, ha, hcl, n2, _, rfl, fun x dx2 hx hdx hne => ?_⟩
          exact ⟨x, R.cb, dx2, _, _, _, _, rfl, upd_same, rk.i1.cl, rk.a1, by have := g.small.n; omega, by have := g.small.o1; omega, by have := g.small.o2; omega, fun ok pl H' sx hpl hl' ha' => ⟨rfl, q x H' ⟨dx2, pl, ha', hl'⟩ (sameX_new hx hdx sx)⟩, fun nok => absurd ((swV_good (sw := false) g).ok 1) nok⟩
        | false, true, q =>
          refine ⟨C, dx, _, ha, hcl, n5, _, rfl, C, dx, _, ha, hcl, n4, _, rfl, C, dx, _, ha, hcl, n1, _, rfl, C, dx, _, ha, hcl, n2, _, rfl, fun x dx2 hx hdx hne => ?_⟩
          exact ⟨x, R.ca, dx2, _, _, _, _, rfl, upd_same, rk.i2.cl, rk.a2, by have := g.small.n; omega, by have := g.small.o2; omega, by have := g.small.o1; omega, fun ok pl H' sx hpl hl' ha' => ⟨rfl, q x H' ⟨dx2, pl, ha', hl'⟩ (sameX_new hx hdx sx)⟩, fun nok => absurd ((swV_good (sw := true) g).ok 2) nok⟩
        | false, false, q =>
          refine ⟨C, dx, _, ha, hcl, n4, _, rfl, C, dx, _, ha, hcl, n5, _, rfl, C, dx, _, ha, hcl, n1, _, rfl, C, dx, _, ha, hcl, n2, _, rfl, fun x dx2 hx hdx hne => ?_⟩
          exact ⟨x, R.ca, dx2, _, _, _, _, rfl, upd_same, rk.i2.cl, rk.a2, by have := g.small.n; omega, by have := g.small.o1; omega, by have := g.small.o2; omega, fun ok pl H' sx hpl hl' ha' => ⟨rfl, q x H' ⟨dx2, pl, ha', hl'⟩ (sameX_new hx hdx sx)⟩, fun nok => absurd ((swV_good (sw := false) g).ok 2) nok⟩
    cases sb with
    | true => rw [if_pos rfl, show decide ((4 : Int) ≤ (t : Int)) = (true && decide (4 ≤ t)) by rw [Bool.true_and]; exact decide_eq_decide.mpr (by omega)]; exact h1'
    | false => rw [if_neg (by decide)]; exact h1'
def sp_tw (R : RC) (k : Nat) : Sp := fun vs H Q _ => ∃ (a : Addr) (v : RV) (t : Nat), vs = [.ref a, .int (t : Int)] ∧ t < 8 ∧ RuleAt R H k a v ∧ v.good ∧ ∀ b H', RuleAt R H' (turK k t) b (turR k t v) → Same H H' → Q (.ref b) H'
abbrev s_cell_tw : Stmt := meth 24 3
theorem sc_cell_tw : FnScope ["self", "t"] ["self", "t"] (defScope s_cell_tw) := ⟨rfl, rfl, rfl, by decide +kernel, rfl, by decide +kernel, by decide +kernel⟩
theorem ok_cell_tw {R : RC} {f zga : Addr} {fd : FuncData} (F : Fun K "turned_whole" "CellRule.turned_whole" s_cell_tw f fd) (rk : RKit K R) (zYa : CalK P w K mg base (CX1 P w) 4 "CellRule" R.cc ["self", "name", "cost", "sign"] (sp_cell_init K zga)) : FnOk P w K mg base CX0 6 f fd ["self", "t"] (sp_tw R 0) := by
  have sc := sc_cell_tw
  refine F.ok sc (fun vs H Q E h => ?_) (fun cdv A outer s H vs Q E hr h => ?_)
  · obtain ⟨a, v, t, rfl, _⟩ := h; rfl
  · obtain ⟨a, v, t, rfl, ht, ⟨dx, l, ha, hl⟩, g, q⟩ := h
    refine ⟨_, (pss_one (ps_ret (pe_calK (CX := CX1 P w) zYa (hr.mono (by decide)) rfl passes_E0 (pa_cons (pe_fld (pv 0) rfl) (pa_cons (pe_fld (pv 0) rfl) (pa_cons (pe_fld (pv 0) rfl) pa_nil)))))), ?_⟩
    walk_at "wp"
    refine ⟨R.cc, dx, _, ha, rk.i0.cl, rk.a0.1, _, rfl, R.cc, dx, _, ha, rk.i0.cl, rk.a0.2.1, _, rfl, R.cc, dx, _, ha, rk.i0.cl, rk.a0.2.2.2, _, rfl, fun x dx2 hx hdx hne => ?_⟩
    exact ⟨x, R.cc, dx2, v.n, v.sg, v.c, rfl, upd_same, rk.i0.cl, rk.a0, by have := g.small.n; omega, by have := g.small.sg; omega, fun ok pl H' sx hpl hl' ha' => ⟨rfl, q x H' ⟨dx2, pl, ha', hl'⟩ (sameX_new hx hdx sx)⟩, fun nok => absurd (g.ok 0) nok⟩
abbrev s_beside_tw : Stmt := meth 25 3
theorem sc_beside_tw : FnScope ["self", "t"] ["self", "t"] (defScope s_beside_tw) := ⟨rfl, rfl, rfl, by decide +kernel, rfl, by decide +kernel, by decide +kernel⟩
theorem ok_beside_tw {R : RC} {f : Addr} {fd : FuncData} (F : Fun K "turned_whole" "BesideRule.turned_whole" s_beside_tw f fd) (zJa : Cal P w K mg base CX0 6 "turned_pair" ["rule", "side_by_side", "t"] (sp_turned_pair R)) : FnOk P w K mg base CX0 7 f fd ["self", "t"] (sp_tw R 1) := by
  have sc := sc_beside_tw
  refine F.ok sc (fun vs H Q E h => ?_) (fun cdv A outer s H vs Q E hr h => ?_)
  · obtain ⟨a, v, t, rfl, _⟩ := h; rfl
  · obtain ⟨a, v, t, rfl, ht, ra, g, q⟩ := h
    refine ⟨_, (pss_one (ps_ret (pe_cal zJa (hr.mono (by decide)) rfl pass0 (pa_cons (pv 0) (pa_cons pe_bl (pa_cons (pv 1) pa_nil)))))), ?_⟩
    walk_at "wp"
    exact ⟨a, 1, v, true, t, rfl, ht, .inl rfl, ra, g, q⟩
abbrev s_above_tw : Stmt := meth 26 3
theorem sc_above_tw : FnScope ["self", "t"] ["self", "t"] (defScope s_above_tw) := ⟨rfl, rfl, rfl, by decide +kernel, rfl, by decide +kernel, by decide +kernel⟩
theorem ok_above_tw {R : RC} {f : Addr} {fd : FuncData} (F : Fun K "turned_whole" "AboveRule.turned_whole" s_above_tw f fd) (zJa : Cal P w K mg base CX0 6 "turned_pair" ["rule", "side_by_side", "t"] (sp_turned_pair R)) : FnOk P w K mg base CX0 7 f fd ["self", "t"] (sp_tw R 2) := by
  have sc := sc_above_tw
  refine F.ok sc (fun vs H Q E h => ?_) (fun cdv A outer s H vs Q E hr h => ?_)
  · obtain ⟨a, v, t, rfl, _⟩ := h; rfl
  · obtain ⟨a, v, t, rfl, ht, ra, g, q⟩ := h
    refine ⟨_, (pss_one (ps_ret (pe_cal zJa (hr.mono (by decide)) rfl pass0 (pa_cons (pv 0) (pa_cons pe_bl (pa_cons (pv 1) pa_nil)))))), ?_⟩
    walk_at "wp"
    exact ⟨a, 2, v, false, t, rfl, ht, .inr rfl, ra, g, q⟩
abbrev s_turn_tw : Stmt := meth 27 3
theorem sc_turn_tw : FnScope ["self", "t"] ["self", "t"] (defScope s_turn_tw) := ⟨rfl, rfl, rfl, by decide +kernel, rfl, by decide +kernel, by decide +kernel⟩
theorem ok_turn_tw {R : RC} {f zga : Addr} {fd : FuncData} (F : Fun K "turned_whole" "TurnRule.turned_whole" s_turn_tw f fd) (rk : RKit K R) (c_after : Cal P w K mg base CX0 1 "after" ["t", "u"] sp_after) (c_back : Cal P w K mg base CX0 1 "back" ["t"] sp_back) (zZa : CalK P w K mg base (CX1 P w) 4 "TurnRule" R.ct ["self", "name", "cost", "part", "turning"] (sp_turn_init K zga)) : FnOk P w K mg base CX0 6 f fd ["self", "t"] (sp_tw R 3) := by
  have sc := sc_turn_tw
  refine F.ok sc (fun vs H Q E h => ?_) (fun cdv A outer s H vs Q E hr h => ?_)
  · obtain ⟨a, v, t, rfl, _⟩ := h; rfl
  · obtain ⟨a, v, t, rfl, ht, ⟨dx, l, ha, hl⟩, g, q⟩ := h
    have t0 := g.t0
    have t7 := g.t7
    refine ⟨_, (pss_one (ps_ret (pe_calK (CX := CX1 P w) zZa (hr.mono (by decide)) rfl passes_E0 (pa_cons (pe_fld (pv 0) rfl) (pa_cons (pe_fld (pv 0) rfl) (pa_cons (pe_fld (pv 0) rfl) (pa_cons (pe_cal c_after (hr.mono (by decide)) rfl pass0 (pa_cons (pe_cal c_after (hr.mono (by decide)) rfl pass0 (pa_cons (pe_cal c_back (hr.mono (by decide)) rfl pass0 (pa_cons (pv 1) pa_nil)) (pa_cons (pe_fld (pv 0) rfl) pa_nil))) (pa_cons (pv 1) pa_nil))) pa_nil))))))), ?_⟩
    walk_at "wp"
    refine ⟨R.ct, dx, _, ha, rk.i3.cl, rk.a3.1, _, rfl, R.ct, dx, _, ha, rk.i3.cl, rk.a3.2.1, _, rfl, R.ct, dx, _, ha, rk.i3.cl, rk.a3.2.2.2.1, _, rfl, t, rfl, ht, R.ct, dx, _, ha, rk.i3.cl, rk.a3.2.2.2.2, _, rfl, back t, v.t.toNat, by rw [Int.toNat_of_nonneg t0], back_lt ht, by omega, after (back t) v.t.toNat, t, rfl, after_lt (back_lt ht) (by omega), ht, fun x dx2 hx hdx hne => ?_⟩
    exact ⟨x, R.ct, dx2, v.n, v.o1, v.c, _, rfl, upd_same, rk.i3.cl, rk.a3, by have := g.small.n; omega, by have := g.small.o1; omega, fun ok pl H' sx hpl hl' ha' => ⟨rfl, q x H' ⟨dx2, pl, ha', hl'⟩ (sameX_new hx hdx sx)⟩, fun nok => absurd ((turR_good (k := 3) ht g).ok 3) nok⟩
def oTw (R : RC) : List (Addr × Sp) := [(R.cc, sp_tw R 0), (R.cb, sp_tw R 1), (R.ca, sp_tw R 2), (R.ct, sp_tw R 3)]
theorem tw_any {R : RC} {H : Hp} {k a t : Nat} {v : RV} {Q : VK} {E : XK} (hk : k < 4) (ht : t < 8) (r : RuleAt R H k a v) (g : v.good) (q : ∀ b H', RuleAt R H' (turK k t) b (turR k t v) → Same H H' → Q (.ref b) H') :
    ∃ o ∈ oTw R, ∃ dx fs, H a = some (.ins o.1 dx fs) ∧ fs.lookup ("turned_whole" : Str) = none ∧ o.2 [.ref a, .int (t : Int)] H Q E := by
  obtain ⟨dx, l, h1, h2⟩ := id r
  rcases k_cases hk with rfl | rfl | rfl | rfl
  · exact ⟨(R.cc, sp_tw R 0), by simp [oTw], dx, _, h1, rfl, a, v, t, rfl, ht, r, g, q⟩
  · exact ⟨(R.cb, sp_tw R 1), by simp [oTw], dx, _, h1, rfl, a, v, t, rfl, ht, r, g, q⟩
  · exact ⟨(R.ca, sp_tw R 2), by simp [oTw], dx, _, h1, rfl, a, v, t, rfl, ht, r, g, q⟩
  · exact ⟨(R.ct, sp_tw R 3), by simp [oTw], dx, _, h1, rfl, a, v, t, rfl, ht, r, g, q⟩
def turS (t : Nat) (rs : List (Nat × RV)) : List (Nat × RV) := rs.map fun r => (turK r.1 t, turR r.1 t r.2)
theorem pairT_join : ∀ sb : Bool, ∀ t, t < 8 → ∀ u, u < 8 → (pairT (pairT sb t).1 u).1 = (pairT sb (after t u)).1 ∧ ((pairT sb t).2 ^^ (pairT (pairT sb t).1 u).2) = (pairT sb (after t u)).2 := by decide +kernel
theorem turn_join : ∀ t, t < 8 → ∀ u, u < 8 → ∀ x, x < 8 → after (after (back u) (after (after (back t) x) t)) u = after (after (back (after t u)) x) (after t u) := by decide +kernel
theorem turn_0 : ∀ x, x < 8 → after (after (back 0) x) 0 = x := by decide +kernel
theorem swV_swV (a b : Bool) (v : RV) : swV b (swV a v) = swV (a ^^ b) v := by cases a <;> cases b <;> rfl
theorem tur_pair {sb : Bool} {t u : Nat} {v : RV} (ht : t < 8) (hu : u < 8) :
    (turK (if (pairT sb t).1 = true then 1 else 2) u, turR (if (pairT sb t).1 = true then 1 else 2) u (swV (pairT sb t).2 v)) = ((if (pairT sb (after t u)).1 = true then 1 else 2), swV (pairT sb (after t u)).2 v) := by
  obtain ⟨h1, h2⟩ := pairT_join sb t ht u hu
  rw [← h1, ← h2]
  generalize pairT sb t = z
  obtain ⟨z1, z2⟩ := z
  cases z1
  · show ((if (pairT false u).1 = true then 1 else 2), swV (pairT false u).2 (swV z2 v)) = _
    rw [swV_swV]
  · show ((if (pairT true u).1 = true then 1 else 2), swV (pairT true u).2 (swV z2 v)) = _
    rw [swV_swV]
theorem tur_tur {k t u : Nat} {v : RV} (hk : k < 4) (ht : t < 8) (hu : u < 8) (g : v.good) : (turK (turK k t) u, turR (turK k t) u (turR k t v)) = (turK k (after t u), turR k (after t u) v) := by
  rcases k_cases hk with rfl | rfl | rfl | rfl
  · rfl
  · exact tur_pair (sb := true) ht hu
  · exact tur_pair (sb := false) ht hu
  · have t0 := g.t0
    have t7 := g.t7
    show (3, ({ v with t := (after (after (back u) (Int.toNat ((after (after (back t) v.t.toNat) t : Nat) : Int))) u : Nat) } : RV)) = (3, ({ v with t := (after (after (back (after t u)) v.t.toNat) (after t u) : Nat) } : RV))
    rw [Int.toNat_natCast, turn_join t ht u hu _ (by omega)]
theorem tur_0 {k : Nat} {v : RV} (hk : k < 4) (g : v.good) : (turK k 0, turR k 0 v) = (k, v) := by
  rcases k_cases hk with rfl | rfl | rfl | rfl
  · rfl
  · rfl
  · rfl
  · have t0 := g.t0
    have t7 := g.t7
    show (3, ({ v with t := (after (after (back 0) v.t.toNat) 0 : Nat) } : RV)) = (3, v)
    rw [turn_0 _ (by omega), Int.toNat_of_nonneg t0]
theorem turS_turS {t u : Nat} {rs : List (Nat × RV)} (ht : t < 8) (hu : u < 8) (h : ∀ r ∈ rs, GoodR r) : turS u (turS t rs) = turS (after t u) rs := by
  unfold turS
  rw [List.map_map]
  exact List.map_congr_left fun r hr => tur_tur (h r hr).k4 ht hu (h r hr).good
theorem turS_0 {rs : List (Nat × RV)} (h : ∀ r ∈ rs, GoodR r) : turS 0 rs = rs := by
  unfold turS
  conv => rhs; rw [← List.map_id rs]
  exact List.map_congr_left fun r hr => tur_0 (h r hr).k4 (h r hr).good
theorem turR_same (k t : Nat) (v : RV) : (turR k t v).n = v.n ∧ (turR k t v).c = v.c ∧ (turR k t v).sg = v.sg ∧ (((turR k t v).o1 = v.o1 ∧ (turR k t v).o2 = v.o2) ∨ ((turR k t v).o1 = v.o2 ∧ (turR k t v).o2 = v.o1)) := by
  have sw : ∀ b, (swV b v).n = v.n ∧ (swV b v).c = v.c ∧ (swV b v).sg = v.sg ∧ (((swV b v).o1 = v.o1 ∧ (swV b v).o2 = v.o2) ∨ ((swV b v).o1 = v.o2 ∧ (swV b v).o2 = v.o1)) := fun b => by
    cases b
    · exact ⟨rfl, rfl, rfl, .inl ⟨rfl, rfl⟩⟩
    · exact ⟨rfl, rfl, rfl, .inr ⟨rfl, rfl⟩⟩
  match k with
  | 0 => exact ⟨rfl, rfl, rfl, .inl ⟨rfl, rfl⟩⟩
  | 1 => exact sw _
  | 2 => exact sw _
  | _ + 3 => exact ⟨rfl, rfl, rfl, .inl ⟨rfl, rfl⟩⟩
theorem turS_row {p : Pic} {sg : List Nat} {t : Nat} {rs : List (Nat × RV)} (ht : t < 8) (h : ∀ r ∈ rs, RowOf p sg r) : ∀ r ∈ turS t rs, RowOf p sg r := by
  intro r hr
  obtain ⟨q, hq, rfl⟩ := List.mem_map.mp hr
  have ro := h q hq
  have g := turR_good (k := q.1) ht ro.good.good
  obtain ⟨e1, _, e3, e4⟩ := turR_same q.1 t q.2
  have ha := ro.o1
  have hb := ro.o2
  have hc := ro.n
  refine ⟨⟨turK_lt, g, g.small⟩, ?_, ?_, ?_, ?_⟩
  · show (turR q.1 t q.2).n ∈ p; rw [e1]; exact hc
  · show (turR q.1 t q.2).o1 ∈ p
    rcases e4 with ⟨e, _⟩ | ⟨e, _⟩
    · rw [e]; exact ha
    · rw [e]; exact hb
  · show (turR q.1 t q.2).o2 ∈ p
    rcases e4 with ⟨_, e⟩ | ⟨_, e⟩
    · rw [e]; exact hb
    · rw [e]; exact ha
  · obtain ⟨c, hc, e⟩ := ro.sg
    exact ⟨c, hc, e3.trans e⟩
theorem turS_len (t : Nat) (rs : List (Nat × RV)) : (turS t rs).length = rs.length := List.length_map ..
theorem RulesAt.one' {R : RC} {H : Hp} {b : Addr} {r : Nat × RV} (h : RuleAt R H r.1 b r.2) : RulesAt R H [b] [r] := ⟨rfl, fun i a q e1 e2 => by
  match i, e1, e2 with
  | 0, e1, e2 => cases e1; cases e2; exact h⟩
theorem RulesAt.snoc {R : RC} {H : Hp} {as : List Addr} {rs : List (Nat × RV)} {b : Addr} {r : Nat × RV} (h : RulesAt R H as rs) (hb : RuleAt R H r.1 b r.2) : RulesAt R H (as ++ [b]) (rs ++ [r]) := by
  refine ⟨by rw [List.length_append, List.length_append, h.1]; rfl, fun i a q e1 e2 => ?_⟩
  by_cases hi : i < as.length
  · rw [List.getElem?_append_left hi] at e1
    rw [List.getElem?_append_left (by rw [← h.1]; exact hi)] at e2
    exact h.2 i a q e1 e2
  · rw [List.getElem?_append_right (by omega)] at e1
    rw [List.getElem?_append_right (by rw [← h.1]; omega), ← h.1] at e2
    exact (RulesAt.one' hb).2 _ a q e1 e2
theorem tur_comp {R : RC} {H : Hp} {l : Addr} {as : List Addr} {rs : List (Nat × RV)} {t : Nat} {Q : List V → Hp → Prop} (ht : t < 8) (hl : H l = some (.lst (as.map V.ref))) (hA : RulesAt R H as rs) (hg : ∀ r ∈ rs, GoodR r) (hn : rs.length ≤ 100) (q : ∀ (bs : List Addr) H', Same H H' → RulesAt R H' bs (turS t rs) → Q (bs.map V.ref) H') :
    CompW (Itl K l) (gName 0) tNoIf (tMethP (Str.ofString "turned_whole") (oTw R) E0 (tVar 0) (tCons (tVar 1) tNil)) [none, some (V.int (t : Int))] H Q := by
  obtain ⟨hal, hat⟩ := hA
  refine comp_list (xs := as.map V.ref) (fun i acc σ H' => Same H H' ∧ (∃ bs : List Addr, acc = bs.map V.ref ∧ RulesAt R H' bs (turS t (rs.take i))) ∧ i ≤ as.length ∧ ∃ x, σ = [x, some (V.int (t : Int))]) ⟨Same.refl _, ⟨[], rfl, rfl, fun i a r e => by simp at e⟩, Nat.zero_le _, _, rfl⟩ ?_ ?_ ?_ ?_ ?_
  · rintro i acc σ H' ⟨_, ⟨bs, rfl, h, _⟩, hi, _⟩
    rw [List.length_map, h, turS_len, List.length_take]; exact line_big (by omega)
  · rintro i acc σ H' ⟨_, _, h, _⟩
    rw [List.length_map]; exact h
  · rintro i acc σ H' ⟨sm, _⟩
    exact SqL.of (sm _ _ hl)
  · rintro i x acc σ H' hx ⟨sm, ⟨bs, rfl, hB⟩, hi, y, rfl⟩
    have hlt : i < as.length := by have := (List.getElem?_eq_some_iff.mp hx).1; rwa [List.length_map] at this
    rw [List.getElem?_map, List.getElem?_eq_getElem hlt] at hx
    cases hx
    have hlr : i < rs.length := by omega
    have hrr : rs[i]? = some rs[i] := List.getElem?_eq_getElem hlr
    have rr := (hat i as[i] rs[i] (List.getElem?_eq_getElem hlt) hrr).up sm
    have gd := hg _ (List.getElem_mem hlr)
    walk_at "wp"
    refine tw_any gd.k4 ht rr gd.good fun b H2 hb s2 => ⟨sm.trans s2, ⟨bs ++ [b], by rw [List.map_append]; rfl, ?_⟩, hlt⟩
    rw [List.take_add_one, hrr]
    unfold turS
    rw [List.map_append]
    exact (hB.up s2).snoc (r := (turK rs[i].1 t, turR rs[i].1 t rs[i].2)) hb
  · rintro acc σ H' ⟨sm, ⟨bs, rfl, hB⟩, _⟩
    rw [List.length_map, hal, List.take_length] at hB
    exact q bs H' sm hB
abbrev s_turned_grammar : Stmt := top 38
def sp_turned_grammar (R : RC) (CG : Addr) : Sp := fun vs H Q _ => ∃ (a dx : Addr) (sg st : List Nat) (as : List Addr) (rs : List (Nat × RV)) (t : Nat), vs = [.ref a, .int (t : Int)] ∧ t < 8 ∧ GramF R H CG dx a sg st as rs ∧ rs.length ≤ 100 ∧ (∀ r ∈ rs, GoodR r) ∧ sg.length ≤ 1000 ∧ st.length ≤ 1000 ∧ gFault sg st (turS t rs) = none ∧
  ∀ b db as' H', GramF R H' CG db b sg st as' (turS t rs) → Same H H' → Q (.ref b) H'
theorem sc_turned_grammar : FnScope ["grammar", "t"] ["grammar", "t"] (defScope s_turned_grammar) := ⟨rfl, rfl, rfl, by decide +kernel, rfl, by decide +kernel, by decide +kernel⟩
theorem ok_turned_grammar {R : RC} {f CG zca : Addr} {fd : FuncData} (F : Fun K "turned_grammar" "turned_grammar" s_turned_grammar f fd) (nb : NB mg) (gk : GNA K CG) (zwb : CalP P w K mg base CX0 7 "turned_whole" (oTw R)) (cm_rules : CalM P w K mg base CX0 1 CG "rules" ["self"] (sp_gram_rules R CG))
    (zib : CalK P w K mg base (CX1 P w) 4 "Grammar" CG ["self", "signs", "start", "rules"] (sp_gram_init K R zca)) : FnOk P w K mg base CX0 8 f fd ["grammar", "t"] (sp_turned_grammar R CG) := by
  have sc := sc_turned_grammar
  refine F.ok sc (fun vs H Q E h => ?_) (fun cdv A outer s H vs Q E hr h => ?_)
  · obtain ⟨a, dx, sg, st, as, rs, t, rfl, _⟩ := h; rfl
  · obtain ⟨a, dx, sg, st, as, rs, t, rfl, ht, g, hn, hg, hsg, hst, g0, q⟩ := h
    have hu := hr.units
    obtain ⟨lk, pn, tt, ha, _, hA, _⟩ := id g
    refine ⟨_, (pss_one (ps_ret (pe_calK (CX := CX1 P w) zib (hr.mono (by decide)) rfl passes_E0 (pa_cons (pe_fld (pv 0) rfl) (pa_cons (pe_fld (pv 0) rfl) (pa_cons (pe_comp ["rule"] [1] rfl (CompOk.of (by kernel_rfl)) (by kernel_rfl) (pi_list (pe_calM0 cm_rules (hr.mono (by decide)) pass0 (pv 0)))
        (fun _ _ _ _ => (pg_name (i := 0) (by show (["rule", "t"] : List Str).Nodup; decide +kernel) rfl (Or.inl rfl))) (fun _ _ _ _ => pif_nil) (fun _ _ _ _ => (pe_calP zwb (hr.mono (by decide)) pass0 (pv 0) (pa_cons (pv 1) pa_nil)))) pa_nil)))))), ?_⟩
    walk_at "wp"
    refine ⟨CG, dx, _, ha, gk.cl.cl, gk.na.1, _, rfl, CG, dx, _, ha, gk.cl.cl, gk.na.2.1, _, rfl, dx, _, ha, rfl, a, dx, sg, st, as, rs, rfl, g, fun l1 H1 hl1 hL1 s1 => ⟨_, rfl, ⟨_, SqL.of hL1⟩, ?_⟩⟩
    refine tur_comp ht hL1 (hA.up s1) hg hn fun bs H2 s2 hB kl hkl x dx2 hx hdx hne => ?_
    have s4 : Same H2 (upd H2 kl (.lst (bs.map V.ref))) := same_upd hkl
    have e4 : upd H2 kl (.lst (bs.map V.ref)) kl = some (.lst (bs.map V.ref)) := upd_same
    generalize upd H2 kl (.lst (bs.map V.ref)) = H4 at s4 e4 hx hdx ⊢
    have s04 := (s1.trans s2).trans s4
    have sm5 : Same H4 (upd (upd H4 dx2 (.own x)) x (.ins CG dx2 [])) := (same_upd hdx).trans (same_upd (by rw [upd_ne (Ne.symm hne)]; exact hx))
    refine ⟨x, CG, dx2, kl, sg, st, bs, turS t rs, rfl, upd_same, gk.cl.cl, gk.na, hsg, hst, sm5 _ _ e4, (hB.up s4).up sm5, ?_, by rw [turS_len]; exact hn, (fun _ H5 lk pn t sx gA _ _ _ => ⟨rfl, ?_⟩), fun y hy => nomatch hy.symm.trans g0⟩
    · intro r hr
      obtain ⟨q, hq, rfl⟩ := List.mem_map.mp hr
      exact turK_lt
    · exact q x dx2 _ H5 gA.f (s04.trans fun b u e => sx b u (ne_of_none e hx) (sm5 b u e))
structure FitK (k : Nat) (p q : Pic) : Prop where
  x : ∃ r c r' c', Pic6 p r c ∧ Pic6 q r' c' ∧ (k = 1 → r = r' ∧ c + c' ≤ 6) ∧ (k = 2 → c = c' ∧ r + r' ≤ 6)
def madeK (k : Nat) (v : RV) (p q : Pic) : Pic := match k with | 1 => putB true p q | 2 => putB false p q | _ => turned p v.t.toNat
theorem pairT_fst : ∀ sb : Bool, ∀ t, t < 8 → (pairT sb t).1 = if t % 2 = 0 then sb else !sb := by decide
theorem turn_mid : ∀ t, t < 8 → ∀ u, u < 8 → after t (after (after (back t) u) t) = after u t := by decide
theorem turned6 {p : Pic} {r c : Nat} (h : Pic6 p r c) (t : Nat) : Pic6 (turned p t) (if t % 2 = 0 then r else c) (if t % 2 = 0 then c else r) := by
  have h1 := h.r0
  have h2 := h.r6
  have h3 := h.c0
  have h4 := h.c6
  exact ⟨rect_turned h.rc h.r0 h.c0 t, by split <;> omega, by split <;> omega, by split <;> omega, by split <;> omega⟩
theorem swap_dims {sw : Bool} {p q : Pic} {r c r' c' : Nat} {sb : Bool} (hp : Pic6 p r c) (hq : Pic6 q r' c') (f : if sb = true then r = r' ∧ c + c' ≤ 6 else c = c' ∧ r + r' ≤ 6) :
    ∃ R C R' C', Pic6 (swapP sw p q).1 R C ∧ Pic6 (swapP sw p q).2 R' C' ∧ if sb = true then R = R' ∧ C + C' ≤ 6 else C = C' ∧ R + R' ≤ 6 := by
  cases sw with
  | false => exact ⟨r, c, r', c', hp, hq, f⟩
  | true =>
    refine ⟨r', c', r, c, hq, hp, ?_⟩
    cases sb with
    | true => rw [if_pos rfl] at f ⊢; omega
    | false => rw [if_neg (by decide)] at f ⊢; omega
theorem made_fit {sb : Bool} {p q : Pic} {r c r' c' : Nat} (hp : Pic6 p r c) (hq : Pic6 q r' c') (f : if sb = true then r = r' ∧ c + c' ≤ 6 else c = c' ∧ r + r' ≤ 6) (v : RV) :
    Fits (if sb = true then 1 else 2) [p, q] ∧ madeP (if sb = true then 1 else 2) v [p, q] = some (putB sb p q) := by
  have hh1 := rect_head hp.rc hp.r0
  have hh2 := rect_head hq.rc hq.r0
  have hl1 := hp.rc.1
  have hl2 := hq.rc.1
  cases sb with
  | true =>
    rw [if_pos rfl] at f ⊢
    refine ⟨.beside hp hq, ?_⟩
    show (if _ then _ else _) = _
    rw [if_pos (by rw [hl1, hl2, hh1, hh2]; exact f)]
    rfl
  | false =>
    rw [if_neg (by decide)] at f ⊢
    refine ⟨.above hp hq, ?_⟩
    show (if _ then _ else _) = _
    rw [if_pos (by rw [hl1, hl2, hh1, hh2]; exact f)]
    rfl
theorem pair_tw {sb : Bool} {t : Nat} {p q : Pic} {r c r' c' : Nat} (ht : t < 8) (hp : Pic6 p r c) (hq : Pic6 q r' c') (f : if sb = true then r = r' ∧ c + c' ≤ 6 else c = c' ∧ r + r' ≤ 6) (v : RV) :
    Fits (if (pairT sb t).1 = true then 1 else 2) [(swapP (pairT sb t).2 (turned p t) (turned q t)).1, (swapP (pairT sb t).2 (turned p t) (turned q t)).2] ∧
    madeP (if (pairT sb t).1 = true then 1 else 2) v [(swapP (pairT sb t).2 (turned p t) (turned q t)).1, (swapP (pairT sb t).2 (turned p t) (turned q t)).2] = some (turned (putB sb p q) t) := by
  have fb : FitB sb p q := by
    refine ⟨r, c, r', c', hp.rc, hq.rc, hp.r0, hp.c0, hq.r0, hq.c0, ?_⟩
    cases sb with
    | true => rw [if_pos rfl] at f ⊢; exact f.1
    | false => rw [if_neg (by decide)] at f ⊢; exact f.1
  rw [turned_put fb]
  have f' : if (pairT sb t).1 = true then (if t % 2 = 0 then r else c) = (if t % 2 = 0 then r' else c') ∧ (if t % 2 = 0 then c else r) + (if t % 2 = 0 then c' else r') ≤ 6 else (if t % 2 = 0 then c else r) = (if t % 2 = 0 then c' else r') ∧ (if t % 2 = 0 then r else c) + (if t % 2 = 0 then r' else c') ≤ 6 := by
    rw [pairT_fst sb t ht]
    by_cases e : t % 2 = 0
    · simp only [if_pos e]
      exact f
    · simp only [if_neg e]
      cases sb with
      | true => rw [if_pos rfl] at f; rw [if_neg (by decide)]; exact f
      | false => rw [if_neg (by decide)] at f; rw [if_pos (by decide)]; exact f
  obtain ⟨R, C, R', C', h1, h2, h3⟩ := swap_dims (sw := (pairT sb t).2) (turned6 hp t) (turned6 hq t) f'
  exact made_fit h1 h2 h3 v
def handP (k t : Nat) (p q : Pic) : List Pic := match k with
  | 1 => [(swapP (pairT true t).2 (turned p t) (turned q t)).1, (swapP (pairT true t).2 (turned p t) (turned q t)).2]
  | 2 => [(swapP (pairT false t).2 (turned p t) (turned q t)).1, (swapP (pairT false t).2 (turned p t) (turned q t)).2]
  | _ => [turned p t]
theorem made_tw {k t : Nat} {v : RV} {p q : Pic} (k0 : 0 < k) (hk : k < 4) (ht : t < 8) (g : v.good) (f : FitK k p q) :
    Fits (turK k t) (handP k t p q) ∧ madeP (turK k t) (turR k t v) (handP k t p q) = some (turned (madeK k v p q) t) := by
  obtain ⟨⟨r, c, r', c', hp, hq, f1, f2⟩⟩ := f
  obtain rfl | rfl | rfl : k = 1 ∨ k = 2 ∨ k = 3 := by omega
  · exact pair_tw (sb := true) ht hp hq (by rw [if_pos rfl]; exact f1 rfl) _
  · exact pair_tw (sb := false) ht hp hq (by rw [if_neg (by decide)]; exact f2 rfl) _
  · have t0 := g.t0
    have t7 := g.t7
    refine ⟨.turn (turned6 hp t), ?_⟩
    show some (turned (turned p t) _) = some (turned (turned p v.t.toNat) t)
    show some (turned (turned p t) (Int.toNat ((after (after (back t) v.t.toNat) t : Nat) : Int))) = _
    have hu : v.t.toNat < 8 := by omega
    rw [Int.toNat_natCast, turned_turned hp.rc hp.r0 hp.c0 ht (after_lt (after_lt (back_lt ht) hu) ht), turned_turned hp.rc hp.r0 hp.c0 hu ht, turn_mid t ht _ hu]
theorem madeK_dims {k : Nat} {v : RV} {p q : Pic} (k0 : 0 < k) (hk : k < 4) (f : FitK k p q) : ∃ R C, rect (madeK k v p q) R C ∧ 0 < R ∧ 0 < C ∧ R ≤ 6 ∧ C ≤ 6 := by
  obtain ⟨⟨r, c, r', c', hp, hq, f1, f2⟩⟩ := f
  have h1 := hp.r0
  have h2 := hp.r6
  have h3 := hp.c0
  have h4 := hp.c6
  obtain rfl | rfl | rfl : k = 1 ∨ k = 2 ∨ k = 3 := by omega
  · obtain ⟨rfl, hc⟩ := f1 rfl
    exact ⟨_, _, rect_beside hp.rc hq.rc, h1, by omega, h2, hc⟩
  · obtain ⟨rfl, hc⟩ := f2 rfl
    exact ⟨_, _, rect_above hp.rc hq.rc, by omega, h3, hc, h4⟩
  · have := turned6 hp v.t.toNat
    exact ⟨_, _, this.rc, this.r0, this.c0, this.r6, this.c6⟩
def NamP (H : Hp) (kvs : List (Key × V)) (n : List Nat) (x : Pic) : Prop := ∃ ai r c, valV kvs (.inr (tx n)) = some (.ref ai) ∧ H ai = some (.lst (rowsV x)) ∧ Pic6 x r c
theorem two_parts {H : Hp} {kvs : List (Key × V)} {n1 n2 : List Nat} {p1 p2 : Pic} {t : Nat} (h1 : NamP H kvs n1 p1) (h2 : NamP H kvs n2 p2) (i : Nat) (n : List Nat) (h : [n1, n2][i]? = some n) : ∃ x, NamP H kvs n x ∧ [turned p1 t, turned p2 t][i]? = some (turned x t) := by
  match i, h with
  | 0, h => cases h; exact ⟨p1, h1, rfl⟩
  | 1, h => cases h; exact ⟨p2, h2, rfl⟩
theorem hand_parts {H : Hp} {kvs : List (Key × V)} {k t : Nat} {v : RV} {p q : Pic} (k0 : 0 < k) (hk : k < 4) (h1 : NamP H kvs v.o1 p) (h2 : NamP H kvs v.o2 q) :
    (partsK (turK k t) (turR k t v)).length = (handP k t p q).length ∧ ∀ (i : Nat) (n : List Nat), (partsK (turK k t) (turR k t v))[i]? = some n → ∃ x, NamP H kvs n x ∧ (handP k t p q)[i]? = some (turned x t) := by
  obtain rfl | rfl | rfl : k = 1 ∨ k = 2 ∨ k = 3 := by omega
  · show (partsK (if (pairT true t).1 = true then 1 else 2) (swV (pairT true t).2 v)).length = 2 ∧ ∀ (i : Nat) (n : List Nat), (partsK (if (pairT true t).1 = true then 1 else 2) (swV (pairT true t).2 v))[i]? = some n → ∃ x, NamP H kvs n x ∧ [(swapP (pairT true t).2 (turned p t) (turned q t)).1, (swapP (pairT true t).2 (turned p t) (turned q t)).2][i]? = some (turned x t)
    generalize pairT true t = z
    obtain ⟨z1, z2⟩ := z
    cases z1 <;> cases z2
    · exact ⟨rfl, two_parts h1 h2⟩
    · exact ⟨rfl, two_parts h2 h1⟩
    · exact ⟨rfl, two_parts h1 h2⟩
    · exact ⟨rfl, two_parts h2 h1⟩
  · show (partsK (if (pairT false t).1 = true then 1 else 2) (swV (pairT false t).2 v)).length = 2 ∧ ∀ (i : Nat) (n : List Nat), (partsK (if (pairT false t).1 = true then 1 else 2) (swV (pairT false t).2 v))[i]? = some n → ∃ x, NamP H kvs n x ∧ [(swapP (pairT false t).2 (turned p t) (turned q t)).1, (swapP (pairT false t).2 (turned p t) (turned q t)).2][i]? = some (turned x t)
    generalize pairT false t = z
    obtain ⟨z1, z2⟩ := z
    cases z1 <;> cases z2
    · exact ⟨rfl, two_parts h1 h2⟩
    · exact ⟨rfl, two_parts h2 h1⟩
    · exact ⟨rfl, two_parts h1 h2⟩
    · exact ⟨rfl, two_parts h2 h1⟩
  · refine ⟨rfl, fun i n h => ?_⟩
    match i, h with
    | 0, h => cases h; exact ⟨p, h1, rfl⟩
def picD (p : Pic) : Dt := .lst ((p.map tx).map Dt.str)
theorem pic_rd {H : Hp} {l : Addr} {p : Pic} (h : H l = some (.lst (rowsV p))) : RdD K H (picD p) (.ref l) := by
  unfold picD RdD
  exact ⟨l, _, rfl, SqL.of h, by rw [rowsV_strs]; exact rd_strs⟩
theorem eq_pic {H : Hp} {neg : Bool} {l l' : Addr} {p : Pic} {Q : VK} (h : H l = some (.lst (rowsV p))) (h' : H l' = some (.lst (rowsV p))) (q : Q (.bl (!neg)) H) : rEqD K neg (.ref l) (.ref l') H Q := by
  exact .inl ⟨(p.map tx).map Dt.str, by rw [deps_strs]; omega, .inl ⟨pic_rd h, pic_rd h'⟩, q⟩
theorem fits_small {k : Nat} {ps : List Pic} (h : Fits k ps) : ps.length ≤ 2 := by cases h <;> simp
abbrev s_l_mixed : Stmt := top 44
def sp_l_mixed : Sp := fun vs H Q _ => ∃ (c : Int) (k : Nat), vs = [.int c, .int (k : Int)] ∧ k ≤ 1000 ∧ ∀ n : Int, Q (.int n) H
theorem sc_l_mixed : FnScope ["_law_cell_here", "_law_k", "_law_number"] ["_law_cell_here", "_law_k"] (defScope s_l_mixed) := ⟨rfl, rfl, rfl, by decide +kernel, rfl, by decide +kernel, by decide +kernel⟩
theorem ok_l_mixed {f : Addr} {fd : FuncData} (F : Fun K "_law_mixed" "_law_mixed" s_l_mixed f fd) (nb : NB mg) : FnOk P w K mg base CX0 1 f fd ["_law_cell_here", "_law_k"] sp_l_mixed := by
  have sc := sc_l_mixed
  refine F.ok sc (fun vs H Q E h => ?_) (fun cdv A outer s H vs Q E hr h => ?_)
  · obtain ⟨c, k, rfl, _⟩ := h; rfl
  · obtain ⟨c, k, rfl, hk, q⟩ := h
    refine ⟨_, (pss_cons (ps_set (i := 2) sc.nd rfl (Or.inl rfl) (pe_op op_mod (pe_op op_mul (pe_op op_add (pe_op op_add (pe_op op_mod (pv 0) pe_int) (pe_op op_mul pe_int (pv 1))) pe_int) (pe_op op_add (pe_op op_mul (pv 1) (pv 1)) pe_int)) pe_int))
      (pss_one (ps_ret (pe_op op_mod (pe_op op_add (pe_op op_add (pe_op op_mul (pv 2) pe_int) (pe_op op_mul pe_int (pv 1))) pe_int) pe_int)))), ?_⟩
    walk_at "wp"
    have kk : ((k : Int) * (k : Int)) ≤ 1000000 ∧ 0 ≤ (k : Int) * (k : Int) := by
      have h1 : k * k ≤ 1000 * 1000 := Nat.mul_le_mul hk hk
      rw [← Int.natCast_mul]
      omega
    exact ⟨.inl ⟨by omega, by omega⟩, .inr ⟨by omega, by omega⟩, q _⟩
abbrev s_l_picture : Stmt := top 45
def sp_l_picture : Sp := fun vs H Q _ => ∃ (n : Int) (z : List Nat) (r c : Nat), vs = [.int n, .str (tx z), .int (r : Int), .int (c : Int)] ∧ r ≤ 64 ∧ c ≤ 64 ∧ 1 ≤ z.length ∧ z.length ≤ 64 ∧ ∀ p, rect p r c → GivesPic H p Q
theorem sc_l_picture : FnScope ["_law_cell_here", "_law_signs_here", "_law_rows_here", "_law_columns", "_law_told", "_law_i"] ["_law_cell_here", "_law_signs_here", "_law_rows_here", "_law_columns"] (defScope s_l_picture) := ⟨rfl, rfl, rfl, by decide +kernel, rfl, by decide +kernel, by decide +kernel⟩
theorem ok_l_picture {f : Addr} {fd : FuncData} (F : Fun K "_law_picture" "_law_picture" s_l_picture f fd) (nb : NB mg) (zoe : Cal P w K mg base CX0 1 "_law_mixed" ["_law_cell_here", "_law_k"] sp_l_mixed) : FnOk P w K mg base CX0 2 f fd ["_law_cell_here", "_law_signs_here", "_law_rows_here", "_law_columns"] sp_l_picture := by
  have sc := sc_l_picture
  refine F.ok sc (fun vs H Q E h => ?_) (fun cdv A outer s H vs Q E hr h => ?_)
  · obtain ⟨n, z, r, c, rfl, _⟩ := h; rfl
  · obtain ⟨n, z, r, c, rfl, hr1, hc1, hz1, hz2, q⟩ := h
    refine ⟨_, (pss_cons (ps_set (i := 4) sc.nd rfl (Or.inl rfl) (pe_lst pa_nil))
      (pss_cons (ps_forw PassesOwn.never rfl (pi_range1 rfl nb.range (pa_cons (pv 2) pa_nil)) (pg_name (i := 5) sc.nd rfl (Or.inr rfl))
      (pss_one (ps_expr (pe_bm PySem.F.plainAttrs_list PySem.F.slot_list_append PySem.F.type_list_append mt_append (pv 4) (pa_cons (pe_bm PySem.F.plainAttrs_str PySem.F.slot_str_join PySem.F.type_str_join mt_join pe_str (pa_cons (pe_comp ["_law_j"] [1, 0, 5] rfl (CompOk.of (by kernel_rfl)) (by kernel_rfl) (pi_range1 rfl nb.range (pa_cons (pv 3) pa_nil))
        (fun _ _ _ _ => (pg_name (i := 0) (by show (["_law_j", "_law_signs_here", "_law_cell_here", "_law_i"] : List Str).Nodup; decide +kernel) rfl (Or.inl rfl))) (fun _ _ _ _ => pif_nil) (fun _ _ _ _ => (pe_ix ix_str (pv 1) (pe_op op_mod (pe_op op_fdivP (pe_cal zoe (hr.mono (by decide)) rfl pass0 (pa_cons (pv 2) (pa_cons (pe_op op_add (pe_op op_mul pe_int (pv 3)) (pv 0)) pa_nil))) pe_int) (pe_callB call_len_str rfl nb.len bt_len (pa_cons (pv 1) pa_nil))) (fun _ _ => rfl)))) pa_nil)) pa_nil)))))
      (pss_one (ps_ret (pv 4))))), ?_⟩
    walk_at "wp"
    refine ⟨Nat.zero_le _, fun rl hrl => ⟨by omega, by omega, ?_⟩⟩
    rw [Int.toNat_natCast]
    have sm : ∀ o, Same H (upd H rl o) := fun o => same_upd hrl
    refine forw_range (lo := 0) (n := r) (fun i σ H' => i ≤ r ∧ ∃ (p : Pic) (x : Option V), rect p i c ∧ H' rl = some (.lst (rowsV p)) ∧ Same H H' ∧ σ = [some (.int n), some (.str (tx z)), some (.int (r : Int)), some (.int (c : Int)), some (.ref rl), x]) ⟨Nat.zero_le _, [], _, ⟨rfl, fun x hx => nomatch hx⟩, upd_same, sm _, rfl⟩ ?_ ?_
    · rintro i σ H' hi ⟨_, p, x, hp, hH', sm', rfl⟩
      walk_at "wp"
      refine ⟨.inl ⟨rfl, _, SqL.of hH'⟩, rfl, by omega, by omega, ?_⟩
      rw [Int.toNat_natCast]
      refine comp_range (lo := 0) (n := c) (fun j acc σ H2 => H2 = H' ∧ (∃ cs : List Nat, acc = (cs.map fun c => (⟨#[c]⟩ : Str)).map V.str ∧ cs.length = j) ∧ j ≤ c ∧ ∃ x, σ = [x, some (.str (tx z)), some (.int n), some (.int (i : Int))]) ⟨rfl, ⟨[], rfl, rfl⟩, Nat.zero_le _, _, rfl⟩ ?_ ?_ ?_ ?_
      · rintro j acc σ H2 ⟨_, ⟨cs, rfl, e⟩, hj, _⟩
        rw [List.length_map, List.length_map, e]; exact line_big (by omega)
      · rintro j acc σ H2 ⟨_, _, h, _⟩
        exact h
      · rintro j acc σ H2 hj ⟨rfl, ⟨cs, rfl, e⟩, _, y, rfl⟩
        walk_at "wp"
        refine ⟨n, 7 * i + j, by simp, by omega, fun m => ?_⟩
        have hzl : (tx z).length ≤ sizeLine := by rw [tx_length]; exact line_le (by omega)
        obtain ⟨ch, _, hch⟩ := atI_in (xs := (tx z).cps.toList) (i := m / 5 % ((tx z).length : Int)) (Int.emod_nonneg _ (by rw [tx_length]; omega)) (by rw [tx_list, tx_length]; exact Int.emod_lt_of_pos _ (by omega))
        refine ⟨_, rfl, hzl, by rw [tx_length]; omega, hzl, ch, hch, rfl, ⟨cs ++ [ch], ?_, ?_⟩, by omega⟩
        · rw [List.map_append, List.map_append]; rfl
        · rw [List.length_append, e]; rfl
      · rintro acc σ H2 ⟨rfl, ⟨cs, rfl, e⟩, _⟩ l hl
        have nl : rl ≠ l := fun z => by rw [← z, hH'] at hl; cases hl
        refine ⟨_, .inl (SqL.of upd_same), ?_, ?_⟩
        · rw [List.map_map]
          have e1 : ((fun y : Str => y.length) ∘ fun c => (⟨#[c]⟩ : Str)) = fun _ => 1 := by funext c; rfl
          have e0 : (Str.ofString "").length = 0 := rfl
          rw [e1, List.map_const', List.sum_replicate_nat, List.length_map, e0]
          omega
        · rw [join_ones]
          refine ⟨_, by rw [upd_ne nl]; exact hH', by rw [rowsV_length, hp.1]; exact line_big (by omega), hi, p ++ [cs], ⟨by rw [List.length_append, hp.1]; rfl, fun x hx => ?_⟩, ?_, ?_⟩
          · rcases List.mem_append.mp hx with h | h
            · exact hp.2 x h
            · rw [List.mem_singleton.mp h, e]
          · rw [upd_same, rowsV_append]
          · exact same_upd2 (sm'.trans (same_upd hl)) hrl
    · rintro σ H' ⟨_, p, x, hp, hH', sm', rfl⟩
      walk_at "wp"
      exact q p hp rl H' hrl hH' sm'
abbrev s_l_quarter : Stmt := top 46
def sp_l_quarter (K : W.Frag) : Sp := fun vs H Q _ => ∃ (a : Addr) (p : Pic) (r c : Nat), vs = [.ref a] ∧ SqL K H a (rowsV p) ∧ rect p r c ∧ 0 < r ∧ r ≤ 64 ∧ c ≤ 64 ∧ GivesPic H (quarter p) Q
theorem sc_l_quarter : FnScope ["_law_rows_here"] ["_law_rows_here"] (defScope s_l_quarter) := ⟨rfl, rfl, rfl, by decide +kernel, rfl, by decide +kernel, by decide +kernel⟩
theorem ok_l_quarter {f : Addr} {fd : FuncData} (F : Fun K "_law_quarter" "_law_quarter" s_l_quarter f fd) (nb : NB mg) : FnOk P w K mg base CX0 1 f fd ["_law_rows_here"] (sp_l_quarter K) := by
  have sc := sc_l_quarter
  refine F.ok sc (fun vs H Q E h => ?_) (fun cdv A outer s H vs Q E hr h => ?_)
  · obtain ⟨a, p, r, c, rfl, _⟩ := h; rfl
  · obtain ⟨a, p, r, c, rfl, hS, hp, hr0, hr1, hc1, q⟩ := h
    refine ⟨_, (pss_one (ps_ret (pe_comp ["_law_i"] [0] rfl (CompOk.of (by kernel_rfl)) (by kernel_rfl) (pi_range1 rfl nb.range (pa_cons (pe_callB call_len_str rfl nb.len bt_len (pa_cons (pe_ix ix_list (pv 0) pe_int (fun _ _ => rfl)) pa_nil)) pa_nil))
        (fun _ _ _ _ => (pg_name (i := 0) (by show (["_law_i", "_law_rows_here"] : List Str).Nodup; decide +kernel) rfl (Or.inr rfl))) (fun _ _ _ _ => pif_nil) (fun _ _ _ _ => (pe_bmK (K := K) rfl PySem.F.plainAttrs_str PySem.F.slot_str_join PySem.F.type_str_join (mt_joinK (K := K) rfl) pe_str (pa_cons (pe_comp ["_law_row"] [0] rfl (CompOk.of (by kernel_rfl)) (by kernel_rfl) (pi_revK (K := K) rfl rfl nb.reversed (pa_cons (pv 1) pa_nil))
        (fun _ _ _ _ => (pg_name (i := 0) (by show (["_law_row", "_law_i"] : List Str).Nodup; decide +kernel) rfl (Or.inl rfl))) (fun _ _ _ _ => pif_nil) (fun _ _ _ _ => (pe_ix ix_str (pv 0) (pv 1) (fun _ _ => rfl)))) pa_nil)))))), ?_⟩
    walk_at "wp"
    have hl0 : 0 < p.length := by rw [hp.1]; exact hr0
    have hc0 : (p[0]).length = c := hp.2 _ (List.getElem_mem hl0)
    have hh : (p.headD []).length = c := rect_head hp hr0
    refine ⟨_, hS, _, atI_nat (rowsV_get hl0), _, rfl, by rw [tx_length]; exact line_le (by omega), by rw [tx_length]; omega, by rw [tx_length]; omega, ?_⟩
    rw [tx_length, hc0, Int.toNat_natCast]
    refine comp_range (lo := 0) (n := c) (fun i acc σ H' => Same H H' ∧ acc = rowsV ((List.range i).map (col p)) ∧ i ≤ c ∧ ∃ x, σ = [x, some (.ref a)]) ⟨Same.refl _, rfl, Nat.zero_le _, _, rfl⟩ ?_ ?_ ?_ ?_
    · rintro i acc σ H' ⟨_, rfl, _⟩
      rw [rowsV_length, List.length_map, List.length_range]; exact line_big (by omega)
    · rintro i acc σ H' ⟨_, _, h, _⟩
      exact h
    · rintro i acc σ H' hi ⟨sm, rfl, _, y, rfl⟩
      walk_at "wp"
      have hS' := sm.seq hS
      have hsm := Small.of hp hr1 hc1
      have hri : ∀ x ∈ p, i < x.length := fun x hx => by rw [hp.2 x hx]; exact hi
      have fin : ∀ H2, Same H' H2 → Same H H2 ∧ rowsV ((List.range i).map (col p)) ++ [V.str (tx (col p i))] = rowsV ((List.range (i + 1)).map (col p)) ∧ i + 1 ≤ c := fun H2 sm2 => by
        refine ⟨sm.trans sm2, ?_, hi⟩
        rw [List.range_succ, List.map_append]
        exact (rowsV_append _ _).symm
      refine ⟨rfl, _, hS', comp_rev (xs := rowsV p) (fun n acc σ H2 => H2 = H' ∧ acc = ((p.reverse.take n).map fun r => V.str ⟨#[r.getD i 0]⟩) ∧ n ≤ p.length ∧ ∃ x, σ = [x, some (.int (i : Int))]) ⟨rfl, rfl, Nat.zero_le _, _, rfl⟩ ?_ ?_ ?_ ?_ ?_⟩
      · rintro n acc σ H2 ⟨_, rfl, _⟩
        refine line_big ?_
        rw [List.length_map, List.length_take]
        have := hsm.1
        rw [List.length_reverse]
        omega
      · rintro n acc σ H2 ⟨_, _, h, _⟩
        rw [rowsV_length]; exact h
      · rintro n acc σ H2 ⟨rfl, _⟩
        exact hS'
      · rintro n x acc σ H2 hx ⟨rfl, rfl, hn, y, rfl⟩
        have hl : n < p.reverse.length := by
          have := (List.getElem?_eq_some_iff.mp hx).1
          rwa [List.length_reverse, rowsV_length, ← List.length_reverse (as := p)] at this
        have hx' : (rowsV p.reverse)[n]? = some x := by unfold rowsV at hx ⊢; rwa [List.map_reverse]
        rw [rowsV_get hl] at hx'
        cases hx'
        have hm : p.reverse[n] ∈ p := List.mem_reverse.mp (List.getElem_mem hl)
        have hr := hsm.2 _ hm
        have hri := hri _ hm
        walk_at "wp"
        have hc : (tx p.reverse[n]).cps.toList[i]? = some (p.reverse[n].getD i 0) := by rw [tx_list, List.getD_eq_getElem?_getD, List.getElem?_eq_getElem hri]; rfl
        refine ⟨by rw [tx_length]; exact line_le (by omega), _, atI_nat hc, ?_, by rw [List.length_reverse] at hl; exact hl⟩
        rw [List.take_add_one, List.getElem?_eq_getElem hl, List.map_append]
        rfl
      · rintro acc σ H2 ⟨rfl, rfl, _⟩ l hl
        rw [rowsV_length, ← List.length_reverse (as := p), List.take_length] at *
        refine ⟨(col p i).map fun c => (⟨#[c]⟩ : Str), .inl (SqL.of ?_), ?_, ?_⟩
        · rw [upd_same]; unfold col; rw [List.map_map, List.map_map]; rfl
        · rw [List.map_map]
          have e : ((fun y : Str => y.length) ∘ fun c => (⟨#[c]⟩ : Str)) = fun _ => 1 := by funext c; rfl
          rw [e, List.map_const', List.sum_replicate_nat, List.length_map]
          have e0 : (Str.ofString "").length = 0 := rfl
          rw [e0]
          have := hsm.1
          unfold col
          rw [List.length_map, List.length_reverse]
          omega
        · rw [join_ones]; exact fin _ (same_upd hl)
    · rintro acc σ H' ⟨sm, rfl, _⟩ l hl
      refine q l _ (sm.free hl) ?_ (sm.trans (same_upd hl))
      rw [upd_same]
      unfold quarter
      rw [hh]
abbrev s_l_turned : Stmt := top 47
def sp_l_turned (K : W.Frag) : Sp := fun vs H Q _ => ∃ (a : Addr) (p : Pic) (r c t : Nat), vs = [.ref a, .int (t : Int)] ∧ SqL K H a (rowsV p) ∧ rect p r c ∧ 0 < r ∧ 0 < c ∧ r ≤ 64 ∧ c ≤ 64 ∧ t < 8 ∧ GivesPic H (turned p t) Q
theorem sc_l_turned : FnScope ["_law_rows_here", "_law_t", "_law_turn"] ["_law_rows_here", "_law_t"] (defScope s_l_turned) := ⟨rfl, rfl, rfl, by decide +kernel, rfl, by decide +kernel, by decide +kernel⟩
theorem ok_l_turned {f : Addr} {fd : FuncData} (F : Fun K "_law_turned" "_law_turned" s_l_turned f fd) (nb : NB mg) (zkd : Cal P w K mg base CX0 1 "_law_quarter" ["_law_rows_here"] (sp_l_quarter K)) : FnOk P w K mg base CX0 2 f fd ["_law_rows_here", "_law_t"] (sp_l_turned K) := by
  have sc := sc_l_turned
  refine F.ok sc (fun vs H Q E h => ?_) (fun cdv A outer s H vs Q E hr h => ?_)
  · obtain ⟨a, p, r, c, t, rfl, _⟩ := h; rfl
  · obtain ⟨a, p, r, c, t, rfl, hS, hp, hr0, hc0, hr1, hc1, ht, q⟩ := h
    refine ⟨_, (pss_cons (ps_set (i := 0) sc.nd rfl (Or.inl rfl) (pe_callTy call_list_of rfl nb.list bt_list (pa_cons (pv 0) pa_nil)))
      (pss_cons (ps_if (pt_cmpR op_gt (pv 1) pe_int (nomark _))
      (pss_one (ps_setcomp (i := 0) ["_law_row"] [] sc.nd rfl (Or.inl rfl) rfl  rfl (CompOk.of (by kernel_rfl)) (by kernel_rfl) (pi_list (pv 0))
        (fun _ _ _ _ => (pg_name (i := 0) (by show (["_law_row"] : List Str).Nodup; decide +kernel) rfl (Or.inl rfl))) (fun _ _ _ _ => pif_nil) (fun _ _ _ _ => (pe_joinrev rfl rfl nb.reversed (pa_cons (pv 0) pa_nil)))))
      pss_nil)
      (pss_cons (ps_forw PassesOwn.never rfl (pi_range1 rfl nb.range (pa_cons (pe_op op_mod (pv 1) pe_int) pa_nil)) (pg_name (i := 2) sc.nd rfl (Or.inl rfl))
      (pss_one (ps_set (i := 0) sc.nd rfl (Or.inl rfl) (pe_cal zkd (hr.mono (by decide)) rfl pass0 (pa_cons (pv 0) pa_nil)))))
      (pss_one (ps_ret (pv 0)))))), ?_⟩
    refine seq_cut fun N1 h1 => ?_
    walk_at "wp"
    refine ⟨_, .inl hS, fun l hl => h1 _ _ ?_⟩
    clear h1
    have m1 : Same H (upd H l (.lst (rowsV p))) := same_upd hl
    have e1 : upd H l (.lst (rowsV p)) l = some (.lst (rowsV p)) := upd_same
    generalize upd H l (.lst (rowsV p)) = H1 at m1 e1 ⊢
    refine seq_cut fun N2 h2 => ?_
    have loop : ∀ (l2 : Addr) (p' : Pic) (H2 : Hp) (y : Option V), H l2 = none → H2 l2 = some (.lst (rowsV p')) → Same H H2 → rect p' r c → turned p t = quarters (t % 4) p' → N2 [some (V.ref l2), some (V.int t), y] H2 := by
      intro l2 p' H2 y hl2 hH2 sm2 hp' et
      refine h2 _ _ ?_
      clear h2
      walk_at "wp"
      refine ⟨by omega, by omega, ?_⟩
      have e4 : ((t : Int) % 4).toNat = t % 4 := by omega
      rw [e4]
      refine forw_range (fun i σ H3 => ∃ (l3 : Addr) (x : Option V), σ = [some (V.ref l3), some (V.int t), x] ∧ H l3 = none ∧ H3 l3 = some (.lst (rowsV (quarters i p'))) ∧ Same H H3) ⟨l2, _, rfl, hl2, hH2, sm2⟩ ?_ ?_
      · rintro i σ H3 hi ⟨l3, x, rfl, h3, h4, sm3⟩
        walk_at "wp"
        have hq := rect_quarters i hp' hr0 hc0
        have gp : ∀ r' c', rect (quarters i p') r' c' → 0 < r' → r' ≤ 64 → c' ≤ 64 → ∃ (a : Addr) (p : Pic) (r c : Nat), [V.ref l3] = [.ref a] ∧ SqL K H3 a (rowsV p) ∧ rect p r c ∧ 0 < r ∧ r ≤ 64 ∧ c ≤ 64 ∧ p = quarters i p' := fun r' c' h4' h5 h6 h7 => ⟨l3, _, r', c', rfl, SqL.of h4, h4', h5, h6, h7, rfl⟩
        have gp2 : ∃ (a : Addr) (p : Pic) (r c : Nat), [V.ref l3] = [.ref a] ∧ SqL K H3 a (rowsV p) ∧ rect p r c ∧ 0 < r ∧ r ≤ 64 ∧ c ≤ 64 ∧ p = quarters i p' := by
          by_cases hi2 : i % 2 = 0
          · rw [if_pos hi2, if_pos hi2] at hq
            exact gp r c hq hr0 hr1 hc1
          · rw [if_neg hi2, if_neg hi2] at hq
            exact gp c r hq hc0 hc1 hr1
        obtain ⟨a', pp, r', c', g1, g2, g3, g4, g5, g6, g7⟩ := gp2
        refine ⟨a', pp, r', c', g1, g2, g3, g4, g5, g6, fun l4 H4 h8 h9 sm4 => ?_⟩
        have e9 : H4 l4 = some (.lst (rowsV (quarters (i + 1) p'))) := by rw [h9, g7, ← quarters_add 1 i p']; rfl
        first
          | exact ⟨l4, rfl, sm3.free h8, e9, sm3.trans sm4⟩
          | exact ⟨sm3.free h8, e9, sm3.trans sm4⟩
          | exact ⟨l4, _, rfl, sm3.free h8, e9, sm3.trans sm4⟩
      · rintro σ H3 ⟨l3, x, rfl, h3, h4, sm3⟩
        walk_at "wp"
        exact q l3 H3 h3 (by rw [h4, et]) sm3
    clear h2
    walk_at "wp"
    split
    · rename_i h4
      refine ⟨⟨_, SqL.of e1⟩, comp_list (xs := rowsV p) (fun i acc σ H' => H' = H1 ∧ acc = rowsV (mirror (p.take i)) ∧ i ≤ p.length ∧ ∃ x, σ = [x]) ⟨rfl, rfl, Nat.zero_le _, _, rfl⟩ ?_ ?_ ?_ ?_ ?_⟩
      · rintro i acc σ H' ⟨_, rfl, _⟩
        refine line_big ?_
        rw [rowsV_length]
        unfold mirror
        rw [List.length_map, List.length_take]
        have := hp.1
        omega
      · rintro i acc σ H' ⟨_, _, h, _⟩
        rw [rowsV_length]; exact h
      · rintro i acc σ H' ⟨rfl, _⟩
        exact SqL.of e1
      · rintro i x acc σ H' hx ⟨rfl, rfl, hi, y, rfl⟩
        have hl : i < p.length := by have := (List.getElem?_eq_some_iff.mp hx).1; rwa [rowsV_length] at this
        rw [rowsV_get hl] at hx
        cases hx
        have hr := hp.2 _ (List.getElem_mem hl)
        walk_at "wp"
        refine ⟨by rw [tx_length]; omega, by decide, ?_, hl⟩
        rw [tx_list, join_ones, List.take_add_one, List.getElem?_eq_getElem hl]
        unfold mirror
        rw [List.map_append]
        exact (rowsV_append _ _).symm
      · rintro acc σ H' ⟨rfl, rfl, _⟩ l3 hl3
        rw [rowsV_length, List.take_length]
        exact loop l3 (mirror p) _ _ (m1.free hl3) upd_same (m1.trans (same_upd hl3)) (rect_mirror hp) (by unfold turned; rw [if_pos (by omega)])
    · rename_i h4
      exact loop l p H1 _ hl e1 m1 hp (by unfold turned; rw [if_neg (by omega)])
def madeA (r : Nat × RV) (x y : Pic) : Pic := if r.1 = 0 then [r.2.sg] else madeK r.1 r.2 x y
abbrev s_l_row_made : Stmt := top 54
def sp_l_row_made : Sp := fun vs H Q _ => ∃ (t d : Addr) (r : Nat × RV) (kvs : List (Key × V)) (x y : Pic), vs = [.ref t, .ref d] ∧ H t = some (.tup (rowV r)) ∧ GoodR r ∧ H d = some (.dK kvs) ∧ NamP H kvs r.2.o1 x ∧ NamP H kvs r.2.o2 y ∧ FitK r.1 x y ∧
  ∀ (lm : Addr) (H' : Hp), H' lm = some (.lst (rowsV (madeA r x y))) → Same H H' → Q (.ref lm) H'
theorem sc_l_row_made : FnScope ["_law_row", "_law_pictures"] ["_law_row", "_law_pictures"] (defScope s_l_row_made) := ⟨rfl, rfl, rfl, by decide +kernel, rfl, by decide +kernel, by decide +kernel⟩
theorem ok_l_row_made {f : Addr} {fd : FuncData} (F : Fun K "_law_row_made" "_law_row_made" s_l_row_made f fd) (nb : NB mg) (zXa : Cal P w K mg base CX0 2 "_law_turned" ["_law_rows_here", "_law_t"] (sp_l_turned K)) : FnOk P w K mg base CX0 3 f fd ["_law_row", "_law_pictures"] sp_l_row_made := by
  have sc := sc_l_row_made
  refine F.ok sc (fun vs H Q E h => ?_) (fun cdv A outer s H vs Q E hr h => ?_)
  · obtain ⟨t, d, r, kvs, x, y, rfl, _⟩ := h; rfl
  · obtain ⟨ta, d, ⟨k, v⟩, kvs, p, q', rfl, ht, ⟨hk, g, _⟩, hd, ⟨a1, _, _, g1, h1, _⟩, ⟨a2, _, _, g2, h2, _⟩, ⟨r, c, r', c', hp, hq, f1, f2⟩, q⟩ := h
    have hu := hr.units
    have hk : k < 4 := hk
    have g : v.good := g
    refine ⟨_, (pss_cons (ps_if (pt_cmpR op_eq (pe_ix ix_tup (pv 0) pe_int (fun _ _ => rfl)) pe_str (nomark _))
      (pss_one (ps_ret (pe_lst (pa_cons (pe_ix ix_tup (pv 0) pe_int (fun _ _ => rfl)) pa_nil))))
      pss_nil)
      (pss_cons (ps_if (pt_cmpR op_eq (pe_ix ix_tup (pv 0) pe_int (fun _ _ => rfl)) pe_str (nomark _))
      (pss_one (ps_ret (pe_cal zXa (hr.mono (by decide)) rfl pass0 (pa_cons (pe_dget (Nat.lt_of_le_of_lt (Nat.add_le_add_left (by decide : 1 ≤ 64) _) hu) (pv 1) (pe_ix ix_tup (pv 0) pe_int (fun _ _ => rfl)) (fun _ _ => rfl)) (pa_cons (pe_ix ix_tup (pv 0) pe_int (fun _ _ => rfl)) pa_nil)))))
      pss_nil)
      (pss_cons (ps_if (pt_cmpR op_eq (pe_ix ix_tup (pv 0) pe_int (fun _ _ => rfl)) pe_str (nomark _))
      (pss_one (ps_ret (pe_comp ["_law_x", "_law_y"] [] rfl (CompOk.of (by kernel_rfl)) (by kernel_rfl) (pi_zip rfl nb.zip (pa_cons (pe_dget (Nat.lt_of_le_of_lt (Nat.add_le_add_left (by decide : 1 ≤ 64) _) hu) (pv 1) (pe_ix ix_tup (pv 0) pe_int (fun _ _ => rfl)) (fun _ _ => rfl)) (pa_cons (pe_dget (Nat.lt_of_le_of_lt (Nat.add_le_add_left (by decide : 1 ≤ 64) _) hu) (pv 1) (pe_ix ix_tup (pv 0) pe_int (fun _ _ => rfl)) (fun _ _ => rfl)) pa_nil)))
        (fun _ _ _ _ => (pg_tupK (K := K) (n := 2) rfl rfl (pgs_cons (pg_name (i := 0) (by show (["_law_x", "_law_y"] : List Str).Nodup; decide +kernel) rfl (Or.inl rfl)) (pgs_cons (pg_name (i := 1) (by show (["_law_x", "_law_y"] : List Str).Nodup; decide +kernel) rfl (Or.inl rfl)) pgs_nil)))) (fun _ _ _ _ => pif_nil) (fun _ _ _ _ => (pe_op op_add_str (pv 0) (pv 1))))))
      pss_nil)
      (pss_one (ps_ret (pe_op op_cat (pe_dget (Nat.lt_of_le_of_lt (Nat.add_le_add_left (by decide : 1 ≤ 64) _) hu) (pv 1) (pe_ix ix_tup (pv 0) pe_int (fun _ _ => rfl)) (fun _ _ => rfl)) (pe_dget (Nat.lt_of_le_of_lt (Nat.add_le_add_left (by decide : 1 ≤ 64) _) hu) (pv 1) (pe_ix ix_tup (pv 0) pe_int (fun _ _ => rfl)) (fun _ _ => rfl)))))))), ?_⟩
    have dg1 : DGet H d (.str (tx v.o1)) (some (V.ref a1)) := .inl ⟨_, .inr (tx v.o1), .inl hd, rfl, g1.symm⟩
    have dg2 : DGet H d (.str (tx v.o2)) (some (V.ref a2)) := .inl ⟨_, .inr (tx v.o2), .inl hd, rfl, g2.symm⟩
    have t0 := g.t0
    have t7 := g.t7
    have sq := SqT.of (K := K) ht
    walk_at "wp"
    rcases k_cases hk with rfl | rfl | rfl | rfl
    · change SqT K H ta [.str (tx v.n), .int v.c, .str (Str.ofString "cell"), .str (tx v.sg), .int 0] at sq
      refine ⟨_, sq, _, rfl, rfl, ?_⟩
      rw [if_pos rfl]
      exact ⟨_, sq, _, rfl, line_le (by omega), fun lm hlm => q lm _ upd_same (same_upd hlm)⟩
    · change SqT K H ta [.str (tx v.n), .int v.c, .str (Str.ofString "beside"), .str (tx v.o1), .str (tx v.o2)] at sq
      refine ⟨_, sq, _, rfl, rfl, ?_⟩
      rw [if_neg kn1]
      refine ⟨_, sq, _, rfl, rfl, ?_⟩
      rw [if_neg kn7]
      refine ⟨_, sq, _, rfl, rfl, ?_⟩
      rw [if_pos rfl]
      obtain ⟨rfl, hcc⟩ := f1 rfl
      have hl1 := hp.rc.1
      have hqlen := hq.rc.1
      have r6 := hp.r6
      have hput : (put2 p q').length = r := by unfold put2; rw [List.length_map, List.length_zip, hl1, hqlen, Nat.min_self]
      refine ⟨_, sq, _, rfl, _, dg1, _, sq, _, rfl, _, dg2, _, rfl, _, rfl, _, SqL.of h1, _, SqL.of h2, ?_⟩
      refine comp_zip (xs := rowsV p) (ys := rowsV q') (n := r) (by rw [rowsV_length, rowsV_length, hl1, hqlen, Nat.min_self]) (fun i acc σ H' => Same H H' ∧ acc = rowsV ((put2 p q').take i) ∧ i ≤ r ∧ ∃ y z, σ = [y, z]) ⟨fun _ _ e => e, rfl, Nat.zero_le _, _, _, rfl⟩ ?_ ?_ ?_ ?_ ?_
      · rintro i acc σ H' ⟨_, rfl, hi, _⟩
        rw [rowsV_length, List.length_take]; exact line_big (by omega)
      · rintro i acc σ H' ⟨_, _, h, _⟩
        exact h
      · rintro i acc σ H' ⟨sm, _⟩
        exact ⟨SqL.of (sm _ _ h1), SqL.of (sm _ _ h2)⟩
      · rintro i x y acc σ H' T hx hy ⟨sm, rfl, _, y1, z1, rfl⟩ hT
        have hi : i < p.length := by have := (List.getElem?_eq_some_iff.mp hx).1; rwa [rowsV_length] at this
        have hi' : i < q'.length := by omega
        rw [rowsV_get hi] at hx
        rw [rowsV_get hi'] at hy
        cases hx
        cases hy
        have hrow := hp.rc.2 _ (List.getElem_mem hi)
        have hrow' := hq.rc.2 _ (List.getElem_mem hi')
        walk_at "wp"
        refine ⟨_, SqT.of upd_same, rfl, _, _, rfl, _, _, rfl, rfl, ?_⟩
        have e : (put2 p q')[i]? = some (p[i] ++ q'[i]) := by
          unfold put2
          simp [List.getElem?_zip_eq_some, hi, hi']
          exact ⟨_, _, ⟨rfl, rfl⟩, rfl⟩
        have et : tx p[i] ++ tx q'[i] = tx (p[i] ++ q'[i]) := by
          show (⟨_ ++ _⟩ : Str) = ⟨_⟩
          simp [tx]
        refine ⟨_, rfl, _, rfl, by rw [tx_length, tx_length]; exact line_le (by omega), sm.trans (same_upd hT), ?_, by omega⟩
        rw [et, List.take_add_one, e]
        exact (rowsV_append _ _).symm
      · rintro acc σ H' ⟨sm, rfl, _⟩ l hl
        refine q l _ ?_ (sm.trans (same_upd hl))
        rw [upd_same, ← hput, List.take_length]
        rfl
    · change SqT K H ta [.str (tx v.n), .int v.c, .str (Str.ofString "above"), .str (tx v.o1), .str (tx v.o2)] at sq
      refine ⟨_, sq, _, rfl, rfl, ?_⟩
      rw [if_neg kn2]
      refine ⟨_, sq, _, rfl, rfl, ?_⟩
      rw [if_neg kn8]
      refine ⟨_, sq, _, rfl, rfl, ?_⟩
      rw [if_neg kn4]
      have hl1 := hp.rc.1
      have hqlen := hq.rc.1
      have r6 := hp.r6
      have r6' := hq.r6
      refine ⟨_, sq, _, rfl, _, dg1, _, sq, _, rfl, _, dg2, _, rfl, _, rfl, _, h1, _, h2, by rw [rowsV_length, rowsV_length]; exact line_le (by omega), fun lm hlm => q lm _ ?_ (same_upd hlm)⟩
      rw [upd_same]
      show some (HO.lst (rowsV p ++ rowsV q')) = some (HO.lst (rowsV (p ++ q')))
      unfold rowsV
      rw [List.map_append]
    · change SqT K H ta [.str (tx v.n), .int v.c, .str (Str.ofString "turned"), .str (tx v.o1), .int v.t] at sq
      refine ⟨_, sq, _, rfl, rfl, ?_⟩
      rw [if_neg kn3]
      refine ⟨_, sq, _, rfl, rfl, ?_⟩
      rw [if_pos rfl]
      have c0 := hp.c0
      have r0 := hp.r0
      have r6 := hp.r6
      have c6 := hp.c6
      exact ⟨_, sq, _, rfl, _, dg1, _, sq, _, rfl, a1, p, r, c, v.t.toNat, by rw [Int.toNat_of_nonneg t0], SqL.of h1, hp.rc, r0, c0, by omega, by omega, by omega, fun lm H' _ hm sm => q lm H' hm sm⟩
theorem turK_iff {k t : Nat} (hk : k < 4) : (turK k t = 0 ↔ k = 0) ∧ (turK k t = 3 ↔ k = 3) := by
  rcases k_cases hk with rfl | rfl | rfl | rfl
  · exact ⟨by simp [turK], by simp [turK]⟩
  · refine ⟨?_, ?_⟩ <;> · show (if _ then 1 else 2) = _ ↔ _; split <;> decide
  · refine ⟨?_, ?_⟩ <;> · show (if _ then 1 else 2) = _ ↔ _; split <;> decide
  · exact ⟨by simp [turK], by simp [turK]⟩
abbrev s_l_alike : Stmt := top 55
def sp_l_alike (R : RC) : Sp := fun vs H Q _ => ∃ (b ta : Addr) (r : Nat × RV) (t : Nat), vs = [.ref b, .ref ta] ∧ r.1 < 4 ∧ RuleAt R H (turK r.1 t) b (turR r.1 t r.2) ∧ H ta = some (.tup (rowV r)) ∧ Q (.bl true) H
theorem sc_l_alike : FnScope ["_law_rule_here", "_law_row"] ["_law_rule_here", "_law_row"] (defScope s_l_alike) := ⟨rfl, rfl, rfl, by decide +kernel, rfl, by decide +kernel, by decide +kernel⟩
theorem ok_l_alike {R : RC} {f : Addr} {fd : FuncData} (F : Fun K "_law_alike" "_law_alike" s_l_alike f fd) (nb : NB mg) (rk : RKit K R) (rk4 : RKit4 K R) (zWa : mg "CellRule" = some (.ref R.cc)) (zQb : mg "TurnRule" = some (.ref R.ct)) : FnOk P w K mg base CX0 1 f fd ["_law_rule_here", "_law_row"] (sp_l_alike R) := by
  have sc := sc_l_alike
  refine F.ok sc (fun vs H Q E h => ?_) (fun cdv A outer s H vs Q E hr h => ?_)
  · obtain ⟨b, ta, r, t, rfl, _⟩ := h; rfl
  · obtain ⟨b, ta, ⟨k, v⟩, t, rfl, hk, rb, ht, q⟩ := h
    have hu := hr.units
    have hk : k < 4 := hk
    obtain ⟨dx, pl, hb, _⟩ := id rb
    have ty := (rk.icls (turK k t)).ty hb
    have k0 := rk4.kit (turK k t) 0 turK_lt (by omega)
    have k3 := rk4.kit (turK k t) 3 turK_lt (by omega)
    have e0 : decide (turK k t = 0) = decide (k = 0) := decide_eq_decide.mpr (turK_iff hk).1
    have e3 : decide (turK k t = 3) = decide (k = 3) := decide_eq_decide.mpr (turK_iff hk).2
    rw [e0] at k0
    rw [e3] at k3
    have fl := fldK_lk pl (turR k t v) (turK k t)
    obtain ⟨n1, n2, _⟩ := turR_same k t v
    rw [n1, n2] at fl
    have na := rk.name (turK k t)
    have ic := rk.icls (turK k t)
    refine ⟨_, (pss_cons (ps_if (PW.pt (pw_or (pt_cmpR op_ne (pe_callB call_isinstance rfl nb.isinstance bt_isinstance (pa_cons (pv 0) (pa_cons (pe_glob (v := .ref _) rfl zWa rfl) pa_nil))) (pe_cmpR op_eq (pe_ix ix_tup (pv 1) pe_int (fun _ _ => rfl)) pe_str (nomark _)) (nomark _)) (pw_or1 (pt_cmpR op_ne (pe_callB call_isinstance rfl nb.isinstance bt_isinstance (pa_cons (pv 0) (pa_cons (pe_glob (v := .ref _) rfl zQb rfl) pa_nil))) (pe_cmpR op_eq (pe_ix ix_tup (pv 1) pe_int (fun _ _ => rfl)) pe_str (nomark _)) (nomark _)))))
      (pss_one (ps_ret pe_bl))
      pss_nil)
      (pss_one (ps_ret (pe_and (pe_cmpR op_eq (pe_fld (pv 0) rfl) (pe_ix ix_tup (pv 1) pe_int (fun _ _ => rfl)) (nomark _)) (pe_one (pe_cmpR op_eq (pe_fld (pv 0) rfl) (pe_ix ix_tup (pv 1) pe_int (fun _ _ => rfl)) (nomark _))))))), ?_⟩
    walk_at "wp"
    obtain ⟨x2, xs, sq, h0, h1, h2, s1, s2, d1, d2⟩ : ∃ (x2 : V) (xs : List V), SqT K H ta xs ∧ atI xs 0 = some (V.str (tx v.n)) ∧ atI xs 1 = some (V.int v.c) ∧ atI xs 2 = some x2 ∧ scal x2 (V.str (Str.ofString "cell")) = true ∧ scal x2 (V.str (Str.ofString "turned")) = true ∧ decide (k = 0) = decide (x2 = V.str (Str.ofString "cell")) ∧ decide (k = 3) = decide (x2 = V.str (Str.ofString "turned")) := by
      rcases k_cases hk with rfl | rfl | rfl | rfl
      · exact ⟨_, _, SqT.of ht, rfl, rfl, rfl, rfl, rfl, by rw [decide_eq_true rfl, decide_eq_true rfl], by rw [decide_eq_false (fun h : V.str (Str.ofString "cell") = V.str (Str.ofString "turned") => kn3 h.symm)]; rfl⟩
      · exact ⟨_, _, SqT.of ht, rfl, rfl, rfl, rfl, rfl, by rw [decide_eq_false kn1]; rfl, by rw [decide_eq_false kn7]; rfl⟩
      · exact ⟨_, _, SqT.of ht, rfl, rfl, rfl, rfl, rfl, by rw [decide_eq_false kn2]; rfl, by rw [decide_eq_false kn8]; rfl⟩
      · exact ⟨_, _, SqT.of ht, rfl, rfl, rfl, rfl, rfl, by rw [decide_eq_false kn3]; rfl, by rw [decide_eq_true rfl, decide_eq_true rfl]⟩
    refine ⟨_, ty, _, k0, xs, sq, x2, h2, s1, ?_⟩
    rw [if_neg (fun h => h d1)]
    refine ⟨_, ty, _, k3, xs, sq, x2, h2, s2, ?_⟩
    rw [if_neg (fun h => h d2)]
    refine ⟨_, dx, _, hb, ic.cl, na.1, _, fl.1, xs, sq, _, h0, rfl, ?_⟩
    rw [if_pos rfl]
    refine ⟨_, dx, _, hb, ic.cl, na.2.1, _, fl.2.1, xs, sq, _, h1, rfl, ?_⟩
    rw [decide_eq_true rfl]
    exact q
theorem forw_zip {g : TG} {tb : TS} {D : Ends} {σ : St} {H : Hp} {a b : Addr} {xs ys : List V} {n : Nat} (hn : n = min xs.length ys.length) (Pv : Nat → St → Hp → Prop) (h0 : Pv 0 σ H) (hl : ∀ i σ H, i ≤ n → Pv i σ H → SqL K H a xs ∧ SqL K H b ys)
    (hs : ∀ (i : Nat) x y σ H T, xs[i]? = some x → ys[i]? = some y → Pv i σ H → H T = none → g (.ref T) σ (upd H T (.tup [x, y])) fun σ2 H2 => tb { D with nx := Pv (i + 1), ct := Pv (i + 1), bk := D.nx } σ2 H2) (hd : ∀ σ H, Pv n σ H → D.nx σ H) : ForW (Itz K a b) g tb D σ H := by
  refine ⟨fun i m σ H => m = n - i ∧ i ≤ n ∧ Pv i σ H, ⟨n, by simp, Nat.zero_le _, h0⟩, ?_⟩
  rintro i m σ H ⟨rfl, hi, p⟩
  obtain ⟨q1, q2⟩ := hl i σ H hi p
  by_cases hlt : i < n
  · refine .inr ⟨⟨xs, ys, xs[i]'(by omega), ys[i]'(by omega), q1, q2, List.getElem?_eq_getElem (by omega), List.getElem?_eq_getElem (by omega)⟩, Pv (i + 1), fun σ' H' p' => ⟨n - (i + 1), by omega, rfl, hlt, p'⟩, fun x H' y => ?_⟩
    obtain ⟨T, x, y', rfl, hT, rfl, y1, y2⟩ := y
    exact hs i x y' σ _ T (y1 xs q1) (y2 ys q2) p hT
  · have e : i = n := by omega
    subst e
    exact .inl ⟨⟨xs, ys, q1, q2, by omega⟩, hd σ H p⟩
theorem turned_one (c : Nat) (t : Nat) : turned [[c]] t = [[c]] := by
  have q : ∀ n, quarters n [[c]] = [[c]] := by
    intro n
    induction n with
    | zero => rfl
    | succ n ih => exact ih
  unfold turned
  split <;> exact q _
def PicsD (H : Hp) (kvs : List (Key × V)) (p : Pic) (s : Nat) : Prop := ∀ n ∈ p, ∃ a x, valV kvs (.inr (tx n)) = some (.ref a) ∧ H a = some (.lst (rowsV x)) ∧ rect x s s
theorem PicsD.up {H H' : Hp} {kvs : List (Key × V)} {p : Pic} {s : Nat} (h : PicsD H kvs p s) (sm : Same H H') : PicsD H' kvs p s := fun n hn => by
  obtain ⟨a, x, h1, h2, h3⟩ := h n hn
  exact ⟨a, x, h1, sm _ _ h2, h3⟩
abbrev s_l_right : Stmt := top 56
def sp_l_right (R : RC) (CG : Addr) : Sp := fun vs H Q _ => ∃ (a dx l d : Addr) (sg st : List Nat) (as ts : List Addr) (rs : List (Nat × RV)) (kvs : List (Key × V)) (p : Pic) (s t : Nat), vs = [.ref a, .ref l, .ref d, .int (t : Int)] ∧ t < 8 ∧ GramF R H CG dx a sg st as (turS t rs) ∧ RowsAt H l ts rs ∧ rs.length ≤ 100 ∧ (∀ r ∈ rs, RowOf p sg r) ∧ H d = some (.dK kvs) ∧ PicsD H kvs p s ∧ 0 < s ∧ s ≤ 3 ∧
  ∀ H', Same H H' → Q (.bl true) H'
theorem sc_l_right : FnScope ["_law_grammar", "_law_rows_here", "_law_pictures", "_law_t", "_law_rules", "_law_rule_here", "_law_row", "_law_handed"] ["_law_grammar", "_law_rows_here", "_law_pictures", "_law_t"] (defScope s_l_right) := ⟨rfl, rfl, rfl, by decide +kernel, rfl, by decide +kernel, by decide +kernel⟩
theorem ok_l_right {R : RC} {f CG zha : Addr} {fd : FuncData} (F : Fun K "_law_right" "_law_right" s_l_right f fd) (nb : NB mg) (rk : RKit K R) (cm_rules : CalM P w K mg base CX0 1 CG "rules" ["self"] (sp_gram_rules R CG)) (cp_parts : CalP P w K mg base CX0 1 "parts" (oParts K R)) (cp_made : CalP P w K mg base (CX1 P w) 4 "made" (oMade K R zha))
    (zpe : Cal P w K mg base CX0 1 "_law_alike" ["_law_rule_here", "_law_row"] (sp_l_alike R)) (zXa : Cal P w K mg base CX0 2 "_law_turned" ["_law_rows_here", "_law_t"] (sp_l_turned K)) (zdc : Cal P w K mg base CX0 3 "_law_row_made" ["_law_row", "_law_pictures"] sp_l_row_made) : FnOk P w K mg base CX0 5 f fd ["_law_grammar", "_law_rows_here", "_law_pictures", "_law_t"] (sp_l_right R CG) := by
  have sc := sc_l_right
  refine F.ok sc (fun vs H Q E h => ?_) (fun cdv A outer s H vs Q E hr h => ?_)
  · obtain ⟨a, dx, l, d, sg, st, as, ts, rs, kvs, p, s, t, rfl, _⟩ := h; rfl
  · obtain ⟨a, dx, l, d, sg, st, as, ts, rs, kvs, p, sz, t, rfl, ht, g, hR, hn, hro, hd, hP, hs0, hs3, q⟩ := h
    have hu := hr.units
    obtain ⟨lk, pn, tt, ha, _, hA, _⟩ := id g
    refine ⟨_, (pss_cons (ps_set (i := 4) sc.nd rfl (Or.inl rfl) (pe_calM0 cm_rules (hr.mono (by decide)) pass0 (pv 0)))
      (pss_cons (ps_if (pt_cmpR op_ne (pe_callB call_lenL rfl nb.len bt_len (pa_cons (pv 4) pa_nil)) (pe_callB call_lenL rfl nb.len bt_len (pa_cons (pv 1) pa_nil)) (nomark _))
      (pss_one (ps_ret pe_bl))
      pss_nil)
      (pss_cons (ps_forw PassesOwn.never rfl (pi_zip rfl nb.zip (pa_cons (pv 4) (pa_cons (pv 1) pa_nil))) (pg_tup (n := 2) rfl (pgs_cons (pg_name (i := 5) sc.nd rfl (Or.inl rfl)) (pgs_cons (pg_name (i := 6) sc.nd rfl (Or.inl rfl)) pgs_nil)))
      (pss_cons (ps_if (pt_not (pt_tb (pe_cal zpe (hr.mono (by decide)) rfl pass0 (pa_cons (pv 5) (pa_cons (pv 6) pa_nil))) fun _ => rfl))
      (pss_one (ps_ret pe_bl))
      pss_nil)
      (pss_cons (ps_setcomp (i := 7) ["_law_name"] [2, 3] sc.nd rfl (Or.inl rfl) rfl  rfl (CompOk.of (by kernel_rfl)) (by kernel_rfl) (pi_list (pe_calP0 cp_parts (hr.mono (by decide)) pass0 (pv 5)))
        (fun _ _ _ _ => (pg_name (i := 0) (by show (["_law_name", "_law_pictures", "_law_t"] : List Str).Nodup; decide +kernel) rfl (Or.inl rfl))) (fun _ _ _ _ => pif_nil) (fun _ _ _ _ => (pe_cal zXa (hr.mono (by decide)) rfl pass0 (pa_cons (pe_dget (Nat.lt_of_le_of_lt (Nat.add_le_add_left (by decide : 1 ≤ 64) _) hu) (pv 1) (pv 0) (fun _ _ => rfl)) (pa_cons (pv 2) pa_nil)))))
      (pss_one (ps_if (pt_cmpR (op_neD hu) (pe_calP (CX := CX1 P w) cp_made (hr.mono (by decide)) passes_E0 (pv 5) (pa_cons (pv 7) pa_nil)) (pe_cal zXa (hr.mono (by decide)) rfl pass0 (pa_cons (pe_cal zdc (hr.mono (by decide)) rfl pass0 (pa_cons (pv 6) (pa_cons (pv 2) pa_nil))) (pa_cons (pv 3) pa_nil))) (nomark _))
      (pss_one (ps_ret pe_bl))
      pss_nil)))))
      (pss_one (ps_ret pe_bl))))), ?_⟩
    refine seq_cut fun N1 h1 => ?_
    walk_at "wp"
    refine ⟨dx, _, ha, rfl, a, dx, sg, st, as, turS t rs, rfl, g, fun l1 H1 hl1 hL1 s1 => h1 _ _ ?_⟩
    clear h1
    have R1 := hR.up s1
    have A1 := hA.up s1
    refine seq_cut fun N1 h1 => ?_
    walk_at "wp"
    have hasl : as.length = rs.length := by rw [A1.1, turS_len]
    have htsl := R1.2.1
    refine ⟨_, SqL.of hL1, _, SqL.of R1.1, ?_⟩
    rw [if_neg (by rw [List.length_map, List.length_map]; omega)]
    refine h1 _ _ ?_
    clear h1
    refine seq_cut fun N1 h1 => ?_
    walk_at "wp"
    refine ⟨_, SqL.of hL1, _, SqL.of R1.1, ?_⟩
    refine forw_zip (xs := as.map V.ref) (ys := ts.map V.ref) (n := rs.length) (by rw [List.length_map, List.length_map]; omega) (fun i σ H' => Same H1 H' ∧ ∃ x y z, σ = [some (V.ref a), some (V.ref l), some (V.ref d), some (V.int (t : Int)), some (V.ref l1), x, y, z]) ⟨Same.refl _, _, _, _, rfl⟩ (fun i σ H' _ h => ⟨SqL.of (h.1 _ _ hL1), SqL.of (h.1 _ _ R1.1)⟩) ?_ ?_
    · rintro i x y σ H2 T hx hy ⟨s2, x1, x2, x3, rfl⟩ hT
      have hi : i < as.length := by have := (List.getElem?_eq_some_iff.mp hx).1; rwa [List.length_map] at this
      rw [List.getElem?_map, List.getElem?_eq_getElem hi] at hx
      rw [List.getElem?_map, List.getElem?_eq_getElem (by omega)] at hy
      cases hx
      cases hy
      have hir : i < rs.length := by omega
      have hrr : rs[i]? = some rs[i] := List.getElem?_eq_getElem hir
      have hrow := R1.2.2 i ts[i] rs[i] (List.getElem?_eq_getElem (by omega)) hrr
      have hrule := A1.2 i as[i] (turK rs[i].1 t, turR rs[i].1 t rs[i].2) (List.getElem?_eq_getElem hi) (by unfold turS; rw [List.getElem?_map, hrr]; rfl)
      have ro := hro _ (List.getElem_mem hir)
      generalize rs[i] = r at hrow hrule ro ⊢
      generalize ts[i] = ta at hrow ⊢
      generalize as[i] = b at hrule ⊢
      obtain ⟨k, v⟩ := r
      have hk : k < 4 := ro.good.k4
      have gv : v.good := ro.good.good
      have s3 : Same H1 (upd H2 T (.tup [V.ref b, V.ref ta])) := s2.trans (same_upd hT)
      have e3 : upd H2 T (.tup [V.ref b, V.ref ta]) T = some (.tup [V.ref b, V.ref ta]) := upd_same
      generalize upd H2 T (.tup [V.ref b, V.ref ta]) = H3 at s3 e3 ⊢
      have rb : RuleAt R H3 (turK k t) b (turR k t v) := RuleAt.up hrule s3
      have hta : H3 ta = some (.tup (rowV (k, v))) := s3 _ _ hrow
      have P3 := (hP.up s1).up s3
      have hd3 := s3 _ _ (s1 _ _ hd)
      obtain ⟨a1, x, v1, w1, rx1⟩ := P3 v.o1 ro.o1
      obtain ⟨a2, y, v2, w2, rx2⟩ := P3 v.o2 ro.o2
      have n1 : NamP H3 kvs v.o1 x := ⟨a1, sz, sz, v1, w1, ⟨rx1, hs0, by omega, hs0, by omega⟩⟩
      have n2 : NamP H3 kvs v.o2 y := ⟨a2, sz, sz, v2, w2, ⟨rx2, hs0, by omega, hs0, by omega⟩⟩
      have hf : FitK k x y := ⟨sz, sz, sz, sz, ⟨rx1, hs0, by omega, hs0, by omega⟩, ⟨rx2, hs0, by omega, hs0, by omega⟩, fun _ => ⟨rfl, by omega⟩, fun _ => ⟨rfl, by omega⟩⟩
      simp only [gTup, gCons, gName, gNil]
      refine ⟨T, _, rfl, SqT.of e3, rfl, _, _, rfl, _, _, rfl, rfl, ?_⟩
      simp only [List.set_cons_zero, List.set_cons_succ]
      refine seq_cut fun N2 h2 => ?_
      walk_at "wp"
      refine ⟨b, ta, (k, v), t, rfl, hk, rb, hta, true, rfl, ?_⟩
      rw [if_neg (by decide)]
      refine h2 _ _ ?_
      clear h2
      obtain ⟨hps, hlen, hpart, hfits, hmade⟩ : ∃ hps : List Pic, (partsK (turK k t) (turR k t v)).length = hps.length ∧ (∀ (i : Nat) (n : List Nat), (partsK (turK k t) (turR k t v))[i]? = some n → ∃ z, NamP H3 kvs n z ∧ hps[i]? = some (turned z t)) ∧ Fits (turK k t) hps ∧ madeP (turK k t) (turR k t v) hps = some (turned (madeA (k, v) x y) t) := by
        by_cases k0 : k = 0
        · subst k0
          obtain ⟨c, _, ec⟩ := ro.sg
          have ec : v.sg = [c] := ec
          refine ⟨[], rfl, fun i n h => ?_, .cell, ?_⟩
          · have h : ([] : Pic)[i]? = some n := h
            simp at h
          · show some [v.sg] = some (turned (if (0 : Nat) = 0 then [v.sg] else _) t)
            rw [if_pos rfl, ec, turned_one]
        · have k1 : 0 < k := by omega
          obtain ⟨h1, h2⟩ := hand_parts (t := t) k1 hk n1 n2
          obtain ⟨h3, h4⟩ := made_tw k1 hk ht gv hf
          refine ⟨_, h1, h2, h3, ?_⟩
          rw [h4]
          unfold madeA
          rw [if_neg k0]
      obtain ⟨RR, CC, hm7, hR0, hC0, hR6, hC6⟩ : ∃ R C, rect (madeA (k, v) x y) R C ∧ 0 < R ∧ 0 < C ∧ R ≤ 6 ∧ C ≤ 6 := by
        by_cases k0 : k = 0
        · subst k0
          obtain ⟨c, _, ec⟩ := ro.sg
          have ec : v.sg = [c] := ec
          refine ⟨1, 1, ?_, by omega, by omega, by omega, by omega⟩
          show rect (if (0 : Nat) = 0 then [v.sg] else _) 1 1
          rw [if_pos rfl, ec]
          exact ⟨rfl, fun z hz => by rw [show z = [c] by simpa using hz]; rfl⟩
        · unfold madeA
          rw [if_neg k0]
          exact madeK_dims (by show 0 < k; omega) hk hf
      refine seq_cut fun N2 h2 => ?_
      walk_at "wp"
      refine parts_any rk rb fun lp H4 hlp hH4 s4 => ⟨_, rfl, ⟨_, SqL.of hH4⟩, ?_⟩
      generalize partsK (turK k t) (turR k t v) = ps at hlen hpart hH4
      have hps2 := fits_small hfits
      refine comp_list (xs := rowsV ps) (fun i acc σ H' => Same H4 H' ∧ (∃ ah : List Addr, acc = ah.map V.ref ∧ ah.length = i ∧ ∀ j (h1 : j < ah.length) (h2 : j < hps.length), H' ah[j] = some (.lst (rowsV hps[j]))) ∧ i ≤ ps.length ∧ ∃ x, σ = [x, some (V.ref d), some (V.int (t : Int))]) ⟨Same.refl _, ⟨[], rfl, rfl, fun j h1 => absurd h1 (by simp)⟩, Nat.zero_le _, _, rfl⟩ ?_ ?_ ?_ ?_ ?_
      · rintro i acc σ H' ⟨_, ⟨ah, rfl, hah, _⟩, hi, _⟩
        rw [List.length_map, hah]; exact line_big (by omega)
      · rintro i acc σ H' ⟨_, _, h, _⟩
        rw [rowsV_length]; exact h
      · rintro i acc σ H' ⟨sm, _⟩
        exact SqL.of (sm _ _ hH4)
      · rintro i z acc σ H5 hx ⟨sm4, ⟨ah, rfl, hah, hat⟩, hi, y, rfl⟩
        have hl : i < ps.length := by have := (List.getElem?_eq_some_iff.mp hx).1; rwa [rowsV_length] at this
        rw [rowsV_get hl] at hx
        cases hx
        obtain ⟨x, ⟨ai, rr, cc, ga, ha', h6⟩, hhp⟩ := hpart i _ (List.getElem?_eq_getElem hl)
        have s24 := s4.trans sm4
        have c0 := h6.c0
        have r0 := h6.r0
        have r6 := h6.r6
        have c6 := h6.c6
        walk_at "wp"
        refine ⟨_, .inl ⟨_, .inr (tx ps[i]), .inl (s24 _ _ hd3), rfl, ga.symm⟩, ai, x, rr, cc, t, rfl, SqL.of (s24 _ _ ha'), h6.rc, r0, c0, by omega, by omega, ht, fun l5 H6 hl5 h5 sm5 => ⟨sm4.trans sm5, ⟨ah ++ [l5], by rw [List.map_append]; rfl, by rw [List.length_append, hah]; rfl, fun j h1 h2 => ?_⟩, hl⟩⟩
        by_cases hj : j < ah.length
        · rw [List.getElem_append_left hj]
          exact sm5 _ _ (hat j hj h2)
        · have ej : j = i := by rw [List.length_append] at h1; simp at h1; omega
          subst ej
          rw [List.getElem_append_right (by omega)]
          simp only [hah, Nat.sub_self, List.getElem_cons_zero]
          rw [h5]
          rw [List.getElem?_eq_getElem h2] at hhp
          rw [Option.some.inj hhp]
      · rintro acc σ H5 ⟨sm4, ⟨ah, rfl, hah, hat⟩, _⟩ lh hlh
        rw [rowsV_length] at hah
        have s5 : Same H5 (upd H5 lh (.lst (ah.map V.ref))) := same_upd hlh
        have pah : PicsAt (upd H5 lh (.lst (ah.map V.ref))) lh ah hps := ⟨upd_same, by omega, fun j h1 h2 => s5 _ _ (hat j h1 h2)⟩
        have sm5 := ((s4.trans sm4).trans s5)
        generalize upd H5 lh (.lst (ah.map V.ref)) = H6 at s5 pah sm5 ⊢
        refine h2 _ _ ?_
        clear h2
        walk_at "wp"
        refine made_any (rb.up sm5) ((turR_good ht gv).ok _) pah hfits (fun pm hm lm H7 hlm hH7 sm6 => ?_) (fun hn => by rw [hmade] at hn; cases hn)
        rw [hmade] at hm
        cases hm
        have s37 := sm5.trans sm6
        have up : ∀ {n z}, NamP H3 kvs n z → NamP H7 kvs n z := fun ⟨ai, r, c, h1, h2, h3⟩ => ⟨ai, r, c, h1, s37 _ _ h2, h3⟩
        refine ⟨ta, d, (k, v), kvs, x, y, rfl, s37 _ _ hta, ro.good, s37 _ _ hd3, up n1, up n2, hf, fun l7 H8 hH8 sm7 => ?_⟩
        refine ⟨l7, madeA (k, v) x y, RR, CC, t, rfl, SqL.of hH8, hm7, hR0, hC0, by omega, by omega, ht, fun l8 H9 hl8 hH9 sm8 => ?_⟩
        have s39 := (s37.trans sm7).trans sm8
        refine eq_pic (sm8 _ _ (sm7 _ _ hH7)) hH9 ?_
        refine ⟨false, rfl, ?_⟩
        rw [if_neg (by decide)]
        exact s3.trans s39
    · rintro σ H2 ⟨s2, x1, x2, x3, rfl⟩
      refine h1 _ _ ?_
      clear h1
      walk_at "wp"
      exact q _ (s1.trans s2)
theorem tx_inj43 {a b : List Nat} (h : tx a = tx b) : a = b := by
  have := congrArg (fun s : Str => s.cps.toList) h
  simpa [tx] using this
abbrev s_law : Stmt := top 57
def sp_law (K : W.Frag) : Sp := fun vs H Q _ => ∃ (a : Addr) (ns : List Int), vs = [.ref a] ∧ SqL K H a (ns.map V.int) ∧ ∀ H', Q (.bl true) H'
theorem sc_law : FnScope ["_law_script", "_law_many", "_law_names", "_law_signs_here", "_law_start", "_law_rows_here", "_law_cell_here", "_law_t", "_law_u", "_law_size", "_law_pictures", "_law_k", "_law_name", "_law_grammar", "_law_text", "_law_found"] ["_law_script"] (defScope s_law) := ⟨rfl, rfl, rfl, by decide +kernel, rfl, by decide +kernel, by decide +kernel⟩
theorem ok_law {R : RC} {f zca CG : Addr} {fd : FuncData} (F : Fun K "law" "law" s_law f fd) (nb : NB mg) (gk : GNA K CG) (zOc : mg "Grammar" = some (.ref CG)) (kg : W.kitOne K (.ref CG) (.ref CG) = some true)
    (zsb : Cal P w K mg base CX0 2 "_law_cell" ["_law_script", "_law_k"] (sp_l_cell K)) (znf : Cal P w K mg base CX0 1 "_law_pool" ["_law_cell_here", "_law_many"] sp_l_pool) (zqe : Cal P w K mg base CX0 1 "_law_signs" ["_law_cell_here"] sp_l_signs) (zof : Cal P w K mg base CX0 2 "_law_rows" ["_law_cells", "_law_names", "_law_signs_here"] sp_l_rows) (zld : Cal P w K mg base CX0 2 "_law_picture" ["_law_cell_here", "_law_signs_here", "_law_rows_here", "_law_columns"] sp_l_picture)
    (zpf : Cal P w K mg base CX0 6 "_law_rule" ["_law_row"] (sp_l_rule R)) (zib : CalK P w K mg base (CX1 P w) 4 "Grammar" CG ["self", "signs", "start", "rules"] (sp_gram_init K R zca)) (zpa : Cal P w K mg base CX0 8 "turned_grammar" ["grammar", "t"] (sp_turned_grammar R CG)) (zre : Cal P w K mg base CX0 5 "_law_right" ["_law_grammar", "_law_rows_here", "_law_pictures", "_law_t"] (sp_l_right R CG))
    (c_after : Cal P w K mg base CX0 1 "after" ["t", "u"] sp_after) (c_back : Cal P w K mg base CX0 1 "back" ["t"] sp_back) (ztb : Cal P w K mg base CX0 2 "_law_grammar_text" ["_law_signs_here", "_law_start", "_law_rows_here"] sp_l_grammar_text) (cm_told : CalM P w K mg base CX0 3 CG "told" ["self"] (sp_gram_told R CG)) : FnOk P w K mg base CX0 9 f fd ["_law_script"] (sp_law K) := by
  have sc := sc_law
  refine F.ok sc (fun vs H Q E h => ?_) (fun cdv A outer s H vs Q E hr h => ?_)
  · obtain ⟨a, ns, rfl, _⟩ := h; rfl
  · obtain ⟨a, ns, rfl, hS, q⟩ := h
    have hu := hr.units
    refine ⟨_, (pss_cons (ps_set (i := 1) sc.nd rfl (Or.inl rfl) (pe_op op_add pe_int (pe_op op_mod (pe_cal zsb (hr.mono (by decide)) rfl pass0 (pa_cons (pv 0) (pa_consI pa_nil))) pe_int)))
      (pss_cons (ps_set (i := 2) sc.nd rfl (Or.inl rfl) (pe_cal znf (hr.mono (by decide)) rfl pass0 (pa_cons (pe_cal zsb (hr.mono (by decide)) rfl pass0 (pa_cons (pv 0) (pa_consI pa_nil))) (pa_cons (pv 1) pa_nil))))
      (pss_cons (ps_set (i := 3) sc.nd rfl (Or.inl rfl) (pe_cal zqe (hr.mono (by decide)) rfl pass0 (pa_cons (pe_cal zsb (hr.mono (by decide)) rfl pass0 (pa_cons (pv 0) (pa_consI pa_nil))) pa_nil)))
      (pss_cons (ps_set (i := 4) sc.nd rfl (Or.inl rfl) (pe_ix ix_list (pv 2) (pe_op op_mod (pe_op op_fdivP (pe_cal zsb (hr.mono (by decide)) rfl pass0 (pa_cons (pv 0) (pa_consI pa_nil))) pe_int) (pv 1)) (fun _ _ => rfl)))
      (pss_cons (ps_set (i := 5) sc.nd rfl (Or.inl rfl) (pe_cal zof (hr.mono (by decide)) rfl pass0 (pa_cons (pe_slice sl_list (pv 0) (po_some pe_int) (po_some pe_int)) (pa_cons (pv 2) (pa_cons (pv 3) pa_nil)))))
      (pss_cons (ps_set (i := 6) sc.nd rfl (Or.inl rfl) (pe_cal zsb (hr.mono (by decide)) rfl pass0 (pa_cons (pv 0) (pa_consI pa_nil))))
      (pss_cons (ps_set (i := 7) sc.nd rfl (Or.inl rfl) (pe_op op_mod (pv 6) pe_int))
      (pss_cons (ps_set (i := 8) sc.nd rfl (Or.inl rfl) (pe_op op_mod (pe_op op_fdivP (pv 6) pe_int) pe_int))
      (pss_cons (ps_set (i := 9) sc.nd rfl (Or.inl rfl) (pe_op op_add pe_int (pe_op op_mod (pe_op op_fdivP (pv 6) pe_int) pe_int)))
      (pss_cons (ps_set (i := 10) sc.nd rfl (Or.inl rfl) pe_dnewK)
      (pss_cons (ps_forw PassesOwn.never rfl (pi_enum rfl nb.enumerate (pa_cons (pv 2) pa_nil)) (pg_tup (n := 2) rfl (pgs_cons (pg_name (i := 11) sc.nd rfl (Or.inl rfl)) (pgs_cons (pg_name (i := 12) sc.nd rfl (Or.inl rfl)) pgs_nil)))
      (pss_one (ps_dput (Nat.lt_of_le_of_lt (Nat.add_le_add_left (by decide : 1 ≤ 64) _) hu) (pv 10) (pv 12) (pe_cal zld (hr.mono (by decide)) rfl pass0 (pa_cons (pe_op op_add (pv 6) (pe_op op_mod (pv 11) pe_int)) (pa_cons (pv 3) (pa_cons (pv 9) (pa_cons (pv 9) pa_nil))))) rfl)))
      (pss_cons (ps_set (i := 13) sc.nd rfl (Or.inl rfl) (pe_calK (CX := CX1 P w) zib (hr.mono (by decide)) rfl passes_E0 (pa_cons (pv 3) (pa_cons (pv 4) (pa_cons (pe_comp ["_law_row"] [] rfl (CompOk.of (by kernel_rfl)) (by kernel_rfl) (pi_list (pv 5))
        (fun _ _ _ _ => (pg_name (i := 0) (by show (["_law_row"] : List Str).Nodup; decide +kernel) rfl (Or.inl rfl))) (fun _ _ _ _ => pif_nil) (fun _ _ _ _ => (pe_cal zpf (hr.mono (by decide)) rfl pass0 (pa_cons (pv 0) pa_nil)))) pa_nil)))))
      (pss_cons (ps_set (i := 14) sc.nd rfl (Or.inl rfl) (pe_cal ztb (hr.mono (by decide)) rfl pass0 (pa_cons (pv 3) (pa_cons (pv 4) (pa_cons (pv 5) pa_nil)))))
      (pss_cons (ps_set (i := 15) sc.nd rfl (Or.inl rfl) (pe_cal zpa (hr.mono (by decide)) rfl pass0 (pa_cons (pv 13) (pa_cons (pv 7) pa_nil))))
      (pss_cons (ps_if (PW.pt (pw_or (pt_not (pt_tb (pe_callB call_isinstance rfl nb.isinstance bt_isinstance (pa_cons (pv 15) (pa_cons (pe_glob (v := .ref _) rfl zOc rfl) pa_nil))) fun _ => rfl)) (pw_or (pt_cmpR op_ne (pe_fld (pv 15) rfl) (pv 3) (nomark _)) (pw_or1 (pt_cmpR op_ne (pe_fld (pv 15) rfl) (pv 4) (nomark _))))))
      (pss_one (ps_ret pe_bl))
      pss_nil)
      (pss_cons (ps_if (PW.pt (pw_or (pt_not (pt_tb (pe_cal zre (hr.mono (by decide)) rfl pass0 (pa_cons (pv 15) (pa_cons (pv 5) (pa_cons (pv 10) (pa_cons (pv 7) pa_nil))))) fun _ => rfl)) (pw_or1 (pt_cmpR op_ne (pe_calM0 cm_told (hr.mono (by decide)) pass0 (pe_cal zpa (hr.mono (by decide)) rfl pass0 (pa_cons (pv 13) (pa_consI pa_nil)))) (pv 14) (nomark _)))))
      (pss_one (ps_ret pe_bl))
      pss_nil)
      (pss_cons (ps_if (PW.pt (pw_or (pt_cmpR op_ne (pe_calM0 cm_told (hr.mono (by decide)) pass0 (pe_cal zpa (hr.mono (by decide)) rfl pass0 (pa_cons (pv 15) (pa_cons (pe_cal c_back (hr.mono (by decide)) rfl pass0 (pa_cons (pv 7) pa_nil)) pa_nil)))) (pv 14) (nomark _)) (pw_or1 (pt_cmpR op_ne (pe_calM0 cm_told (hr.mono (by decide)) pass0 (pv 13)) (pv 14) (nomark _)))))
      (pss_one (ps_ret pe_bl))
      pss_nil)
      (pss_one (ps_ret (pe_cmpR op_eq (pe_calM0 cm_told (hr.mono (by decide)) pass0 (pe_cal zpa (hr.mono (by decide)) rfl pass0 (pa_cons (pv 15) (pa_cons (pv 8) pa_nil)))) (pe_calM0 cm_told (hr.mono (by decide)) pass0 (pe_cal zpa (hr.mono (by decide)) rfl pass0 (pa_cons (pv 13) (pa_cons (pe_cal c_after (hr.mono (by decide)) rfl pass0 (pa_cons (pv 7) (pa_cons (pv 8) pa_nil))) pa_nil)))) (nomark _))))))))))))))))))))), ?_⟩
    refine seq_cut fun N1 h1 => ?_
    walk_at "wp"
    refine ⟨a, ns, 1, rfl, hS, by omega, _, rfl, ?_⟩
    obtain ⟨m, hm⟩ : ∃ m : Nat, 2 + cellAt ns 1 % 4 = (m : Int) := ⟨_, (Int.toNat_of_nonneg (by have := Int.emod_nonneg (cellAt ns 1) (b := 4) (by omega); omega)).symm⟩
    have hm2 : 2 ≤ m ∧ m ≤ 5 := by have := Int.emod_nonneg (cellAt ns 1) (b := 4) (by omega); have := Int.emod_lt_of_pos (cellAt ns 1) (b := 4) (by omega); omega
    rw [hm]
    refine h1 _ _ ?_
    clear h1
    refine seq_cut fun N2 h2 => ?_
    walk_at "wp"
    refine ⟨a, ns, 0, rfl, hS, by omega, _, m, rfl, by omega, fun p hp3 hpn l0 H1 hl0 hH1 sm1 => h2 _ _ ?_⟩
    clear h2
    have hS1 := sm1.seq hS
    refine seq_cut fun N2 h2 => ?_
    walk_at "wp"
    refine ⟨a, ns, 2, rfl, hS1, by omega, _, rfl, fun sg H2 hsg sm2 => h2 _ _ ?_⟩
    clear h2
    have hS2 := sm2.seq hS1
    have hH2 := sm2 _ _ hH1
    have hsl := signsB_len hsg
    refine seq_cut fun N2 h2 => ?_
    walk_at "wp"
    refine ⟨a, ns, 1, rfl, hS2, by omega, _, rfl, by omega, _, SqL.of hH2, ?_⟩
    obtain ⟨st, hst, hat⟩ : ∃ z ∈ p, atI (rowsV p) (cellAt ns 1 / 4 % (m : Int)) = some (V.str (tx z)) := by
      obtain ⟨j, hj⟩ : ∃ j : Nat, cellAt ns 1 / 4 % (m : Int) = (j : Int) := ⟨_, (Int.toNat_of_nonneg (Int.emod_nonneg _ (by omega))).symm⟩
      have : cellAt ns 1 / 4 % (m : Int) < m := Int.emod_lt_of_pos _ (by omega)
      exact ⟨p[j]'(by omega), List.getElem_mem _, by rw [hj]; exact atI_nat (rowsV_get (by omega))⟩
    refine ⟨_, hat, h2 _ _ ?_⟩
    clear h2
    have hstl := nameB_len (hpn _ hst)
    refine seq_cut fun N2 h2 => ?_
    walk_at "wp"
    refine ⟨_, hS2, fun cl hcl => ?_⟩
    have ecut : cutV (ns.map V.int) (some 4) (some 28) = ((ns.drop (min 4 ns.length)).take (min 28 ns.length - min 4 ns.length)).map V.int := by
      unfold cutV
      rw [List.length_map, show (4 : Int) = ((4 : Nat) : Int) from rfl, show (28 : Int) = ((28 : Nat) : Int) from rfl, HT.sIx_nat, HT.sIx_nat, List.map_take, List.map_drop]
    rw [ecut]
    generalize hcs : (ns.drop (min 4 ns.length)).take (min 28 ns.length - min 4 ns.length) = cs
    have hcl30 : cs.length ≤ 24 := by rw [← hcs, List.length_take, List.length_drop]; omega
    have s3 : Same H2 (upd H2 cl (.lst (cs.map V.int))) := same_upd hcl
    refine ⟨cl, l0, cs, p, sg, rfl, upd_same, s3 _ _ hH2, by omega, by omega, by omega, hpn, hsg, fun l ts rs H3 hl0 hR hro hrl s3' => h2 _ _ ?_⟩
    clear h2
    have s23 := s3.trans s3'
    have s03 := (sm1.trans sm2).trans s23
    have hS3 := s03.seq hS
    have hH3 := s23 _ _ hH2
    have hn : rs.length ≤ 24 := by omega
    clear s3 s3'
    refine seq_cut fun N2 h2 => ?_
    walk_at "wp"
    refine ⟨a, ns, 3, rfl, hS3, by omega, h2 _ _ ?_⟩
    clear h2
    generalize cellAt ns 3 = c3
    refine seq_cut fun N2 h2 => ?_
    walk_at "wp"
    refine h2 _ _ ?_
    clear h2
    obtain ⟨t, ht, ht8⟩ : ∃ t : Nat, c3 % 8 = (t : Int) ∧ t < 8 := ⟨(c3 % 8).toNat, by omega, by omega⟩
    rw [ht]
    refine seq_cut fun N2 h2 => ?_
    walk_at "wp"
    refine h2 _ _ ?_
    clear h2
    obtain ⟨u, hu', hu8⟩ : ∃ t : Nat, c3 / 8 % 8 = (t : Int) ∧ t < 8 := ⟨(c3 / 8 % 8).toNat, by omega, by omega⟩
    rw [hu']
    refine seq_cut fun N2 h2 => ?_
    walk_at "wp"
    refine h2 _ _ ?_
    clear h2
    obtain ⟨sz, hsz, hsz1, hsz3⟩ : ∃ t : Nat, 1 + c3 / 64 % 3 = (t : Int) ∧ 0 < t ∧ t ≤ 3 := ⟨(1 + c3 / 64 % 3).toNat, by omega, by omega, by omega⟩
    rw [hsz]
    refine seq_cut fun N2 h2 => ?_
    walk_at "wp"
    intro d hd
    refine h2 _ _ ?_
    clear h2
    have hd0 : H3 d = none := hd
    have s4 : Same H3 (upd H3 d (.dK [])) := same_upd hd
    have e4 : upd H3 d (.dK []) d = some (.dK []) := upd_same
    generalize upd H3 d (.dK []) = H4 at s4 e4 ⊢
    have nld : d ≠ l0 := fun z => by rw [z, hH3] at hd; cases hd
    refine seq_cut fun N2 h2 => ?_
    walk_at "wp"
    refine ⟨_, SqL.of (s4 _ _ hH3), ?_⟩
    refine forw_enum (xs := rowsV p) (fun i σ H' => Same H3 H' ∧ (∃ kvs : List (Key × V), H' d = some (.dK kvs) ∧ kvs.length ≤ i ∧ PicsD H' kvs (p.take i) sz) ∧ ∃ x y, σ = [some (V.ref a), some (V.int (m : Int)), some (V.ref l0), some (V.str (tx sg)), some (V.str (tx st)), some (V.ref l), some (V.int c3), some (V.int (t : Int)), some (V.int (u : Int)), some (V.int (sz : Int)), some (V.ref d), x, y, none, none, none]) ⟨s4, ⟨[], e4, Nat.le_refl _, fun n hn => nomatch hn⟩, _, _, rfl⟩ ?_ ?_ ?_
    · rintro i σ H' _ ⟨sm, _⟩
      exact SqL.of (sm _ _ hH3)
    · rintro i x σ H5 T hx ⟨s5, ⟨kvs, hd5, hkl, hP5⟩, x1, y1, rfl⟩ hT
      have hi : i < p.length := by have := (List.getElem?_eq_some_iff.mp hx).1; rwa [rowsV_length] at this
      rw [rowsV_get hi] at hx
      cases hx
      have htk : p.take (i + 1) = p.take i ++ [p[i]] := by rw [List.take_add_one, List.getElem?_eq_getElem hi]; rfl
      rw [htk]
      generalize p[i] = nm
      have s6 : Same H5 (upd H5 T (.tup [.int (i : Int), .str (tx nm)])) := same_upd hT
      have e6 : upd H5 T (.tup [.int (i : Int), .str (tx nm)]) T = some (.tup [.int (i : Int), .str (tx nm)]) := upd_same
      generalize upd H5 T (.tup [.int (i : Int), .str (tx nm)]) = H6 at s6 e6 ⊢
      walk_at "wp"
      refine ⟨_, SqT.of e6, rfl, _, _, rfl, _, _, rfl, rfl, _, rfl, _, sg, sz, sz, rfl, by omega, by omega, by omega, by omega, fun z hz lp H7 hlp hH7 s7 => ?_⟩
      have s57 := s6.trans s7
      have hd7 := s57 _ _ hd5
      have npd : lp ≠ d := fun z => by rw [z, s6 _ _ hd5] at hlp; cases hlp
      refine ⟨_, .inl ⟨kvs, .inr (tx nm), hd7, rfl, line_big (by omega), rfl⟩, same_upd2 (s5.trans s57) hd0, _, upd_same, ?_, ?_⟩
      · unfold putK
        split
        · rw [List.length_map]; omega
        · rw [List.length_append]; simp; omega
      · intro n hn
        by_cases e : n = nm
        · exact ⟨lp, z, by rw [valV_put, if_pos (by rw [e])], by rw [upd_ne npd]; exact hH7, hz⟩
        · obtain ⟨a', x', h1, h2, h3⟩ := hP5 n (by
            rcases List.mem_append.mp hn with h | h
            · exact h
            · exact absurd (by simpa using h) e)
          refine ⟨a', x', by rw [valV_put, if_neg (fun h => e (tx_inj43 (Sum.inr.inj h)))]; exact h1, ?_, h3⟩
          have h2' := s57 _ _ h2
          rw [upd_ne (fun z => by rw [z, hd7] at h2'; cases h2')]
          exact h2'
    · rintro σ H5 ⟨s5, ⟨kvs, hd5, hkl, hP5⟩, x1, y1, rfl⟩
      rw [rowsV_length, List.take_length] at hP5
      refine h2 _ _ ?_
      clear h2
      have hg : ∀ r ∈ rs, GoodR r := fun r hr => (hro r hr).good
      have hok : ∀ r ∈ rs, r.1 < 4 ∧ okR r.1 r.2 ∧ r.2.small := fun r hr => ⟨(hg r hr).k4, (hg r hr).good.ok _, (hg r hr).small⟩
      have g0 := rows_make hsg hst hpn (by omega) hn hro
      have R5 := hR.up s5
      refine seq_cut fun N1 h1 => ?_
      walk_at "wp"
      refine ⟨⟨_, SqL.of R5.1⟩, rules_comp R5 hg (by omega) fun as H6 s6 hA lr hlr x dx hx hdx hne => ?_⟩
      have s7 : Same H6 (upd H6 lr (.lst (as.map V.ref))) := same_upd hlr
      have e7 : upd H6 lr (.lst (as.map V.ref)) lr = some (.lst (as.map V.ref)) := upd_same
      generalize upd H6 lr (.lst (as.map V.ref)) = H7 at s7 e7 hx hdx ⊢
      have sm8 : Same H7 (upd (upd H7 dx (.own x)) x (.ins CG dx [])) := (same_upd hdx).trans (same_upd (by rw [upd_ne (Ne.symm hne)]; exact hx))
      refine ⟨x, CG, dx, lr, sg, st, as, rs, rfl, upd_same, gk.cl.cl, gk.na, by omega, by omega, sm8 _ _ e7, (hA.up s7).up sm8, fun r hr => (hg r hr).k4, by omega, (fun _ H8 lk pn tt sx gA _ _ _ => ⟨rfl, h1 _ _ ?_⟩), fun y hy => nomatch hy.symm.trans g0⟩
      clear h1
      have s58 : Same H5 H8 := (s6.trans s7).trans fun b u e => sx b u (ne_of_none e hx) (sm8 b u e)
      have g8 := gA.f
      have R8 := R5.up s58
      have hd8 := s58 _ _ hd5
      have hP8 := hP5.up s58
      clear sx sm8 s6 s7 e7 hA
      obtain ⟨_, _, _, hx8, _⟩ := id g8
      refine seq_cut fun N1 h1 => ?_
      walk_at "wp"
      refine ⟨sg, st, l, ts, rs, rfl, R8, by omega, by omega, by omega, hok, fun H9 s9 => h1 _ _ ?_⟩
      clear h1
      have hroT : ∀ t, t < 8 → ∀ r ∈ turS t rs, RowOf p sg r := fun t ht => turS_row ht hro
      have gT : ∀ t, t < 8 → gFault sg st (turS t rs) = none := fun t ht => rows_make hsg hst hpn (by omega) (by rw [turS_len]; exact hn) (hroT t ht)
      refine seq_cut fun N1 h1 => ?_
      walk_at "wp"
      refine ⟨x, dx, sg, st, as, rs, t, rfl, ht8, g8.up s9, by omega, hg, by omega, by omega, gT t ht8, fun b db as' H10 gb s10 => h1 _ _ ?_⟩
      clear h1
      have s810 := s9.trans s10
      obtain ⟨_, _, _, hb10, _⟩ := id gb
      refine seq_cut fun N1 h1 => ?_
      walk_at "wp"
      refine ⟨_, gk.cl.ty hb10, _, kg, ?_⟩
      rw [if_neg (by decide)]
      refine ⟨CG, db, _, hb10, gk.cl.cl, gk.na.1, _, rfl, rfl, ?_⟩
      rw [if_neg (by simp)]
      refine ⟨CG, db, _, hb10, gk.cl.cl, gk.na.2.1, _, rfl, rfl, ?_⟩
      rw [if_neg (by simp)]
      refine h1 _ _ ?_
      clear h1
      have hokT : ∀ t, t < 8 → ∀ r ∈ turS t rs, okR r.1 r.2 ∧ r.2.small := fun t ht r hr => ⟨(hroT t ht r hr).good.good.ok _, (hroT t ht r hr).good.small⟩
      have tell : ∀ (t : Nat) (b db : Addr) (as' : List Addr) (H' : Hp) (Q' : VK), t < 8 → GramF R H' CG db b sg st as' (turS t rs) → (∀ H'', Same H' H'' → Q' (.str (gramS sg st (turS t rs))) H'') → ∃ dx fs, H' b = some (.ins CG dx fs) ∧ fs.lookup ("told" : Str) = none ∧ sp_gram_told R CG [V.ref b] H' Q' E0 := fun t b db as' H' Q' ht g' q' => by
        obtain ⟨_, _, _, hb', _⟩ := id g'
        exact ⟨db, _, hb', rfl, b, db, sg, st, as', turS t rs, rfl, g', by omega, by omega, by rw [turS_len]; omega, hokT t ht, q'⟩
      have t0 := turS_0 hg
      refine seq_cut fun N1 h1 => ?_
      walk_at "wp"
      refine ⟨b, db, l, d, sg, st, as', ts, rs, kvs, p, sz, t, rfl, ht8, gb, R8.up s810, by omega, hro, s810 _ _ hd8, hP8.up s810, hsz1, hsz3, fun H11 s11 => ⟨true, rfl, ?_⟩⟩
      rw [if_neg (by decide)]
      have s811 := s810.trans s11
      refine ⟨x, dx, sg, st, as, rs, 0, rfl, by omega, g8.up s811, by omega, hg, by omega, by omega, gT 0 (by omega), fun b2 db2 as2 H12 g2 s12 => ⟨b2, rfl, ?_⟩⟩
      refine tell 0 b2 db2 as2 H12 _ (by omega) g2 fun H13 s13 => ?_
      rw [t0]
      refine ⟨rfl, ?_⟩
      rw [if_neg (by simp)]
      refine h1 _ _ ?_
      clear h1
      have hgT : ∀ r ∈ turS t rs, GoodR r := fun r hr => (hroT t ht8 r hr).good
      have etu : ∀ u, u < 8 → turS u (turS t rs) = turS (after t u) rs := fun u hu => turS_turS ht8 hu hg
      have s1013 := (s11.trans s12).trans s13
      have s813 := s810.trans s1013
      refine seq_cut fun N1 h1 => ?_
      walk_at "wp"
      refine ⟨t, rfl, ht8, b, db, sg, st, as', turS t rs, back t, rfl, back_lt ht8, gb.up s1013, by rw [turS_len]; omega, hgT, by omega, by omega, by rw [etu _ (back_lt ht8), after_back ht8]; exact gT 0 (by omega), fun b3 db3 as3 H14 g3 s14 => ⟨b3, rfl, ?_⟩⟩
      rw [etu _ (back_lt ht8), after_back ht8] at g3
      refine tell 0 b3 db3 as3 H14 _ (by omega) g3 fun H15 s15 => ?_
      rw [t0]
      refine ⟨rfl, ?_⟩
      rw [if_neg (by simp)]
      have s1315 := s14.trans s15
      have s815 := s813.trans s1315
      refine ⟨dx, _, s815 _ _ hx8, rfl, x, dx, sg, st, as, rs, rfl, g8.up s815, by omega, by omega, by omega, fun r hr => (hok r hr).2, fun H16 s16 => ⟨rfl, ?_⟩⟩
      rw [if_neg (by simp)]
      refine h1 _ _ ?_
      clear h1
      have s1016 := (s1013.trans s1315).trans s16
      have s816 := s815.trans s16
      walk_at "wp"
      refine ⟨b, db, sg, st, as', turS t rs, u, rfl, hu8, gb.up s1016, by rw [turS_len]; omega, hgT, by omega, by omega, by rw [etu _ hu8]; exact gT _ (after_lt ht8 hu8), fun b4 db4 as4 H17 g4 s17 => ⟨b4, rfl, ?_⟩⟩
      rw [etu _ hu8] at g4
      refine tell _ b4 db4 as4 H17 _ (after_lt ht8 hu8) g4 fun H18 s18 => ?_
      refine ⟨t, u, rfl, ht8, hu8, x, dx, sg, st, as, rs, after t u, rfl, after_lt ht8 hu8, g8.up ((s816.trans s17).trans s18), by omega, hg, by omega, by omega, gT _ (after_lt ht8 hu8), fun b5 db5 as5 H19 g5 s19 => ⟨b5, rfl, ?_⟩⟩
      refine tell _ b5 db5 as5 H19 _ (after_lt ht8 hu8) g5 fun H20 s20 => ⟨rfl, ?_⟩
      rw [decide_eq_true rfl]
      exact q _
end
end Q43
set_option Elab.async false
set_option linter.all false
set_option maxRecDepth 100000
namespace Q43
open PySem L2 Pic QL
theorem all_mk {l : W.OpenLaw} {w : World} {K : W.Frag} {h : Heap} {mg : Str → Option Value} {fa f1 f2 f3 f4 f5 f6 f7 f8 f9 f10 f11 f12 f13 f14 f15 f16 f17 f18 f19 f20 f21 f22 f23 f24 f25 f26 f27 f28 f29 f30 f31 : Addr} (X : K.In h) (G : h.Ns mainGlobals mg) (hfa : mg "law" = some (.ref fa))
    {od1 an1 od2 an2 od3 an3 od4 an4 od5 an5 od6 an6 od7 an7 od8 an8 od9 an9 od10 an10 od11 an11 od12 an12 od13 an13 od14 an14 od15 an15 od16 an16 od17 an17 od18 an18 od19 an19 od20 an20 od21 an21 od22 an22 od23 an23 od24 an24 od25 an25 od26 an26 od27 an27 od28 an28 od29 an29 od30 an30 od31 an31 : Option Addr} {sl1 sl2 sl3 sl4 sl5 sl6 sl7 sl8 sl9 sl10 sl11 sl12 sl13 sl14 sl15 sl16 sl17 sl18 sl19 sl20 sl21 sl22 sl23 sl24 sl25 sl26 sl27 sl28 sl29 sl30 sl31 : Array (Option Value)} {oc1 kV1 dc1 pm1 cd1 ct1 oc2 kV2 dc2 pm2 cd2 ct2 oc3 kV3 dc3 pm3 cd3 ct3 oc4 kV4 dc4 pm4 cd4 ct4 oc5 kV5 dc5 pm5 cd5 ct5 oc6 kV6 dc6 pm6 cd6 ct6 oc7 kV7 dc7 pm7 cd7 ct7 oc8 kV8 dc8 pm8 cd8 ct8 oc9 kV9 dc9 pm9 cd9 ct9 oc10 kV10 dc10 pm10 cd10 ct10 oc11 kV11 dc11 pm11 cd11 ct11 oc12 kV12 dc12 pm12 cd12 ct12 oc13 kV13 dc13 pm13 cd13 ct13 oc14 kV14 dc14 pm14 cd14 ct14 oc15 kV15 dc15 pm15 cd15 ct15 oc16 kV16 dc16 pm16 cd16 ct16 oc17 kV17 dc17 pm17 cd17 ct17 oc18 kV18 dc18 pm18 cd18 ct18 oc19 kV19 dc19 pm19 cd19 ct19 oc20 kV20 dc20 pm20 cd20 ct20 oc21 kV21 dc21 pm21 cd21 ct21 oc22 kV22 dc22 pm22 cd22 ct22 oc23 kV23 dc23 pm23 cd23 ct23 oc24 kV24 dc24 pm24 cd24 ct24 oc25 kV25 dc25 pm25 cd25 ct25 oc26 kV26 dc26 pm26 cd26 ct26 oc27 kV27 dc27 pm27 cd27 ct27 oc28 kV28 dc28 pm28 cd28 ct28 oc29 kV29 dc29 pm29 cd29 ct29 oc30 kV30 dc30 pm30 cd30 ct30 oc31 kV31 dc31 pm31 cd31 ct31 : Value}
    (a1 : W.nsIn K mainGlobals "only_of" = some (some (.ref f1))) (l1 : K.lookup f1 = some ⟨oc1, od1, .func (W.fnOf "only_of" "only_of" (defArgs s_only_of) (defBody s_only_of) (defScope s_only_of) .none kV1 dc1 pm1 an1 cd1 ct1), sl1⟩) (c1 : W.codeIn K cd1 "only_of" = true) (k1 : W.keepIn K (.ref f1) = true)
    (a2 : W.nsIn K mainGlobals "is_name" = some (some (.ref f2))) (l2 : K.lookup f2 = some ⟨oc2, od2, .func (W.fnOf "is_name" "is_name" (defArgs s_is_name) (defBody s_is_name) (defScope s_is_name) .none kV2 dc2 pm2 an2 cd2 ct2), sl2⟩) (c2 : W.codeIn K cd2 "is_name" = true) (k2 : W.keepIn K (.ref f2) = true)
    (a3 : W.nsIn K mainGlobals "are_signs" = some (some (.ref f3))) (l3 : K.lookup f3 = some ⟨oc3, od3, .func (W.fnOf "are_signs" "are_signs" (defArgs s_are_signs) (defBody s_are_signs) (defScope s_are_signs) .none kV3 dc3 pm3 an3 cd3 ct3), sl3⟩) (c3 : W.codeIn K cd3 "are_signs" = true) (k3 : W.keepIn K (.ref f3) = true)
    (a4 : W.nsIn K mainGlobals "check_made_of" = some (some (.ref f4))) (l4 : K.lookup f4 = some ⟨oc4, od4, .func (W.fnOf "check_made_of" "check_made_of" (defArgs s_check_made_of) (defBody s_check_made_of) (defScope s_check_made_of) .none kV4 dc4 pm4 an4 cd4 ct4), sl4⟩) (c4 : W.codeIn K cd4 "check_made_of" = true) (k4 : W.keepIn K (.ref f4) = true)
    (a5 : W.nsIn K mainGlobals "numbers_by_name" = some (some (.ref f5))) (l5 : K.lookup f5 = some ⟨oc5, od5, .func (W.fnOf "numbers_by_name" "numbers_by_name" (defArgs s_numbers_by_name) (defBody s_numbers_by_name) (defScope s_numbers_by_name) .none kV5 dc5 pm5 an5 cd5 ct5), sl5⟩) (c5 : W.codeIn K cd5 "numbers_by_name" = true) (k5 : W.keepIn K (.ref f5) = true)
    (a6 : W.nsIn K mainGlobals "_law_mix" = some (some (.ref f6))) (l6 : K.lookup f6 = some ⟨oc6, od6, .func (W.fnOf "_law_mix" "_law_mix" (defArgs s_l_mix) (defBody s_l_mix) (defScope s_l_mix) .none kV6 dc6 pm6 an6 cd6 ct6), sl6⟩) (c6 : W.codeIn K cd6 "_law_mix" = true) (k6 : W.keepIn K (.ref f6) = true)
    (a7 : W.nsIn K mainGlobals "_law_cell" = some (some (.ref f7))) (l7 : K.lookup f7 = some ⟨oc7, od7, .func (W.fnOf "_law_cell" "_law_cell" (defArgs s_l_cell) (defBody s_l_cell) (defScope s_l_cell) .none kV7 dc7 pm7 an7 cd7 ct7), sl7⟩) (c7 : W.codeIn K cd7 "_law_cell" = true) (k7 : W.keepIn K (.ref f7) = true)
    (a8 : W.nsIn K mainGlobals "_law_pool" = some (some (.ref f8))) (l8 : K.lookup f8 = some ⟨oc8, od8, .func (W.fnOf "_law_pool" "_law_pool" (defArgs s_l_pool) (defBody s_l_pool) (defScope s_l_pool) .none kV8 dc8 pm8 an8 cd8 ct8), sl8⟩) (c8 : W.codeIn K cd8 "_law_pool" = true) (k8 : W.keepIn K (.ref f8) = true)
    (a9 : W.nsIn K mainGlobals "_law_signs" = some (some (.ref f9))) (l9 : K.lookup f9 = some ⟨oc9, od9, .func (W.fnOf "_law_signs" "_law_signs" (defArgs s_l_signs) (defBody s_l_signs) (defScope s_l_signs) .none kV9 dc9 pm9 an9 cd9 ct9), sl9⟩) (c9 : W.codeIn K cd9 "_law_signs" = true) (k9 : W.keepIn K (.ref f9) = true)
    (a10 : W.nsIn K mainGlobals "_law_rows" = some (some (.ref f10))) (l10 : K.lookup f10 = some ⟨oc10, od10, .func (W.fnOf "_law_rows" "_law_rows" (defArgs s_l_rows) (defBody s_l_rows) (defScope s_l_rows) .none kV10 dc10 pm10 an10 cd10 ct10), sl10⟩) (c10 : W.codeIn K cd10 "_law_rows" = true) (k10 : W.keepIn K (.ref f10) = true)
    (a11 : W.nsIn K mainGlobals "_law_rule" = some (some (.ref f11))) (l11 : K.lookup f11 = some ⟨oc11, od11, .func (W.fnOf "_law_rule" "_law_rule" (defArgs s_l_rule) (defBody s_l_rule) (defScope s_l_rule) .none kV11 dc11 pm11 an11 cd11 ct11), sl11⟩) (c11 : W.codeIn K cd11 "_law_rule" = true) (k11 : W.keepIn K (.ref f11) = true)
    (a12 : W.nsIn K mainGlobals "_law_row_text" = some (some (.ref f12))) (l12 : K.lookup f12 = some ⟨oc12, od12, .func (W.fnOf "_law_row_text" "_law_row_text" (defArgs s_l_row_text) (defBody s_l_row_text) (defScope s_l_row_text) .none kV12 dc12 pm12 an12 cd12 ct12), sl12⟩) (c12 : W.codeIn K cd12 "_law_row_text" = true) (k12 : W.keepIn K (.ref f12) = true)
    (a13 : W.nsIn K mainGlobals "_law_grammar_text" = some (some (.ref f13))) (l13 : K.lookup f13 = some ⟨oc13, od13, .func (W.fnOf "_law_grammar_text" "_law_grammar_text" (defArgs s_l_grammar_text) (defBody s_l_grammar_text) (defScope s_l_grammar_text) .none kV13 dc13 pm13 an13 cd13 ct13), sl13⟩) (c13 : W.codeIn K cd13 "_law_grammar_text" = true) (k13 : W.keepIn K (.ref f13) = true)
    (a14 : W.nsIn K mainGlobals "beside" = some (some (.ref f14))) (l14 : K.lookup f14 = some ⟨oc14, od14, .func (W.fnOf "beside" "beside" (defArgs s_beside) (defBody s_beside) (defScope s_beside) .none kV14 dc14 pm14 an14 cd14 ct14), sl14⟩) (c14 : W.codeIn K cd14 "beside" = true) (k14 : W.keepIn K (.ref f14) = true)
    (a15 : W.nsIn K mainGlobals "above" = some (some (.ref f15))) (l15 : K.lookup f15 = some ⟨oc15, od15, .func (W.fnOf "above" "above" (defArgs s_above) (defBody s_above) (defScope s_above) .none kV15 dc15 pm15 an15 cd15 ct15), sl15⟩) (c15 : W.codeIn K cd15 "above" = true) (k15 : W.keepIn K (.ref f15) = true)
    (a16 : W.nsIn K mainGlobals "mirror" = some (some (.ref f16))) (l16 : K.lookup f16 = some ⟨oc16, od16, .func (W.fnOf "mirror" "mirror" (defArgs s_mirror) (defBody s_mirror) (defScope s_mirror) .none kV16 dc16 pm16 an16 cd16 ct16), sl16⟩) (c16 : W.codeIn K cd16 "mirror" = true) (k16 : W.keepIn K (.ref f16) = true)
    (a17 : W.nsIn K mainGlobals "column_from_below" = some (some (.ref f17))) (l17 : K.lookup f17 = some ⟨oc17, od17, .func (W.fnOf "column_from_below" "column_from_below" (defArgs s_column_from_below) (defBody s_column_from_below) (defScope s_column_from_below) .none kV17 dc17 pm17 an17 cd17 ct17), sl17⟩) (c17 : W.codeIn K cd17 "column_from_below" = true) (k17 : W.keepIn K (.ref f17) = true)
    (a18 : W.nsIn K mainGlobals "quarter" = some (some (.ref f18))) (l18 : K.lookup f18 = some ⟨oc18, od18, .func (W.fnOf "quarter" "quarter" (defArgs s_quarter) (defBody s_quarter) (defScope s_quarter) .none kV18 dc18 pm18 an18 cd18 ct18), sl18⟩) (c18 : W.codeIn K cd18 "quarter" = true) (k18 : W.keepIn K (.ref f18) = true)
    (a19 : W.nsIn K mainGlobals "turned" = some (some (.ref f19))) (l19 : K.lookup f19 = some ⟨oc19, od19, .func (W.fnOf "turned" "turned" (defArgs s_turned) (defBody s_turned) (defScope s_turned) .none kV19 dc19 pm19 an19 cd19 ct19), sl19⟩) (c19 : W.codeIn K cd19 "turned" = true) (k19 : W.keepIn K (.ref f19) = true)
    (a20 : W.nsIn K mainGlobals "after" = some (some (.ref f20))) (l20 : K.lookup f20 = some ⟨oc20, od20, .func (W.fnOf "after" "after" (defArgs s_after) (defBody s_after) (defScope s_after) .none kV20 dc20 pm20 an20 cd20 ct20), sl20⟩) (c20 : W.codeIn K cd20 "after" = true) (k20 : W.keepIn K (.ref f20) = true)
    (a21 : W.nsIn K mainGlobals "back" = some (some (.ref f21))) (l21 : K.lookup f21 = some ⟨oc21, od21, .func (W.fnOf "back" "back" (defArgs s_back) (defBody s_back) (defScope s_back) .none kV21 dc21 pm21 an21 cd21 ct21), sl21⟩) (c21 : W.codeIn K cd21 "back" = true) (k21 : W.keepIn K (.ref f21) = true)
    (a22 : W.nsIn K mainGlobals "turned_pair" = some (some (.ref f22))) (l22 : K.lookup f22 = some ⟨oc22, od22, .func (W.fnOf "turned_pair" "turned_pair" (defArgs s_turned_pair) (defBody s_turned_pair) (defScope s_turned_pair) .none kV22 dc22 pm22 an22 cd22 ct22), sl22⟩) (c22 : W.codeIn K cd22 "turned_pair" = true) (k22 : W.keepIn K (.ref f22) = true)
    (a23 : W.nsIn K mainGlobals "turned_grammar" = some (some (.ref f23))) (l23 : K.lookup f23 = some ⟨oc23, od23, .func (W.fnOf "turned_grammar" "turned_grammar" (defArgs s_turned_grammar) (defBody s_turned_grammar) (defScope s_turned_grammar) .none kV23 dc23 pm23 an23 cd23 ct23), sl23⟩) (c23 : W.codeIn K cd23 "turned_grammar" = true) (k23 : W.keepIn K (.ref f23) = true)
    (a24 : W.nsIn K mainGlobals "_law_mixed" = some (some (.ref f24))) (l24 : K.lookup f24 = some ⟨oc24, od24, .func (W.fnOf "_law_mixed" "_law_mixed" (defArgs s_l_mixed) (defBody s_l_mixed) (defScope s_l_mixed) .none kV24 dc24 pm24 an24 cd24 ct24), sl24⟩) (c24 : W.codeIn K cd24 "_law_mixed" = true) (k24 : W.keepIn K (.ref f24) = true)
    (a25 : W.nsIn K mainGlobals "_law_picture" = some (some (.ref f25))) (l25 : K.lookup f25 = some ⟨oc25, od25, .func (W.fnOf "_law_picture" "_law_picture" (defArgs s_l_picture) (defBody s_l_picture) (defScope s_l_picture) .none kV25 dc25 pm25 an25 cd25 ct25), sl25⟩) (c25 : W.codeIn K cd25 "_law_picture" = true) (k25 : W.keepIn K (.ref f25) = true)
    (a26 : W.nsIn K mainGlobals "_law_quarter" = some (some (.ref f26))) (l26 : K.lookup f26 = some ⟨oc26, od26, .func (W.fnOf "_law_quarter" "_law_quarter" (defArgs s_l_quarter) (defBody s_l_quarter) (defScope s_l_quarter) .none kV26 dc26 pm26 an26 cd26 ct26), sl26⟩) (c26 : W.codeIn K cd26 "_law_quarter" = true) (k26 : W.keepIn K (.ref f26) = true)
    (a27 : W.nsIn K mainGlobals "_law_turned" = some (some (.ref f27))) (l27 : K.lookup f27 = some ⟨oc27, od27, .func (W.fnOf "_law_turned" "_law_turned" (defArgs s_l_turned) (defBody s_l_turned) (defScope s_l_turned) .none kV27 dc27 pm27 an27 cd27 ct27), sl27⟩) (c27 : W.codeIn K cd27 "_law_turned" = true) (k27 : W.keepIn K (.ref f27) = true)
    (a28 : W.nsIn K mainGlobals "_law_row_made" = some (some (.ref f28))) (l28 : K.lookup f28 = some ⟨oc28, od28, .func (W.fnOf "_law_row_made" "_law_row_made" (defArgs s_l_row_made) (defBody s_l_row_made) (defScope s_l_row_made) .none kV28 dc28 pm28 an28 cd28 ct28), sl28⟩) (c28 : W.codeIn K cd28 "_law_row_made" = true) (k28 : W.keepIn K (.ref f28) = true)
    (a29 : W.nsIn K mainGlobals "_law_alike" = some (some (.ref f29))) (l29 : K.lookup f29 = some ⟨oc29, od29, .func (W.fnOf "_law_alike" "_law_alike" (defArgs s_l_alike) (defBody s_l_alike) (defScope s_l_alike) .none kV29 dc29 pm29 an29 cd29 ct29), sl29⟩) (c29 : W.codeIn K cd29 "_law_alike" = true) (k29 : W.keepIn K (.ref f29) = true)
    (a30 : W.nsIn K mainGlobals "_law_right" = some (some (.ref f30))) (l30 : K.lookup f30 = some ⟨oc30, od30, .func (W.fnOf "_law_right" "_law_right" (defArgs s_l_right) (defBody s_l_right) (defScope s_l_right) .none kV30 dc30 pm30 an30 cd30 ct30), sl30⟩) (c30 : W.codeIn K cd30 "_law_right" = true) (k30 : W.keepIn K (.ref f30) = true)
    (a31 : W.nsIn K mainGlobals "law" = some (some (.ref f31))) (l31 : K.lookup f31 = some ⟨oc31, od31, .func (W.fnOf "law" "law" (defArgs s_law) (defBody s_law) (defScope s_law) .none kV31 dc31 pm31 an31 cd31 ct31), sl31⟩) (c31 : W.codeIn K cd31 "law" = true) (k31 : W.keepIn K (.ref f31) = true)
    {zha zga zca zpb C_Rule zKa zea zua zaa zqa zba zsa zda zva zoa zka zLa zza zFa zMa zfa zxa zNa zTa zUa zOa zVa zPa zma zAa zja zGa zla zQa zna : Addr} {tkMOST tkCAPITALS tkSMALLS tkLONGEST_NAME tkMOST_SIGNS tkMOST_RULES tkMOST_NAMES : Tok} {ddNoFit ddNoRule ddNoGrammar odINoGrammar anINoGrammar zTf zUf zTd zUd znd zod zJd zKd zVd zWd zni zoi zWh zXh zVf zWf zJe zKe zqf zrf zXf zYf zse zte zZf zag zrh zsh zth zuh zbg zcg zvh zwh zdg zeg zvc zwc zLe zMe zRb zSb zsf ztf zec zfc zfg zgg zxc zyc : Option Addr} {zej zcj zCa : ClassData} {zfj zdj zpi slINoGrammar zhg zXd zpd zLd zYd zqi zYh zig zNe zuf zjg zue zkg zxh zyh zlg zzh zmg zzc zOe zTb zvf zgc zng zAc : Array (Option Value)} {ocINoGrammar kVINoGrammar dcINoGrammar pmINoGrammar cdINoGrammar ctINoGrammar zog zpg zqg zrg zPc zsg zZd zae zbe zce zAb zde zqd zrd zsd ztd zub zud zMd zNd zOd zPd zxb zQd zee zfe zge zhe zBb zie zri zsi zti zui zkf zvi zZh zai zbi zci zve zdi ztg zug zvg zwg zQc zxg zPe zQe zRe zSe zKb zTe zwf zxf zyf zzf zhc zAf zyg zzg zAg zBg zRc zCg zwe zxe zye zze zHb zAe zDg zEg zFg zGg zSc zHg zAh zBh zCh zDh zvd zEh zFh zGh zHh zIh zwd zJh zIg zJg zKg zLg zTc zMg zKh zLh zMh zNh zxd zOh zNg zOg zPg zQg zUc zRg zBc zCc zDc zEc zjb zFc zUe zVe zWe zXe zLb zYe zUb zVb zWb zXb zab zYb zBf zCf zDf zEf zic zFf zjc zkc zlc zmc zdb znc zSg zTg zUg zVg zVc zWg zGc zHc zIc zJc zkb zKc : Value}  (xNoFit : W.nsIn K mainGlobals "NoFit" = some (some (.ref zha))) (xlNoFit : K.lookup zha = some ⟨.type "type", ddNoFit, .cls zej, zfj⟩) (xeNoFit : W.excIn K zha [.type "ValueError", .type "Exception", .type "BaseException", .type "object"] "ValueError.__new__" = true) (xgaNoFit : W.findIn K (.ref zha) "__getattribute__" = some (some (.builtin "BaseException.__getattribute__"))) (xghNoFit : W.findIn K (.ref zha) "__getattr__" = some none) (xmbNoFit : W.mroIn K zha (.type "BaseException") = some true) (xmoNoFit : W.mroIn K zha (.type "object") = some true) (xhaNoFit : W.findIn K (.ref zha) "__class__" = some (some (.builtin "object.__class__"))) (xhn : W.specialIn K (.builtin "object.__class__") "__get__" = some (some (.builtin "getset_descriptor.__get__"))) (xtk : W.takesIn K (.builtin "object.__class__") = some true) (xMOST : W.nsIn K mainGlobals "MOST" = some (some (.int 6 tkMOST))) (xNoRule : W.nsIn K mainGlobals "NoRule" = some (some (.ref zga))) (xlNoRule : K.lookup zga = some ⟨.type "type", ddNoRule, .cls zcj, zdj⟩) (xeNoRule : W.excIn K zga [.type "ValueError", .type "Exception", .type "BaseException", .type "object"] "ValueError.__new__" = true) (xgaNoRule : W.findIn K (.ref zga) "__getattribute__" = some (some (.builtin "BaseException.__getattribute__"))) (xghNoRule : W.findIn K (.ref zga) "__getattr__" = some none) (xmbNoRule : W.mroIn K zga (.type "BaseException") = some true) (xmoNoRule : W.mroIn K zga (.type "object") = some true) (xhaNoRule : W.findIn K (.ref zga) "__class__" = some (some (.builtin "object.__class__"))) (xNoGrammar : W.nsIn K mainGlobals "NoGrammar" = some (some (.ref zca))) (xlNoGrammar : K.lookup zca = some ⟨.type "type", ddNoGrammar, .cls zCa, zpi⟩) (xeoNoGrammar : W.excOut K zca [.type "ValueError", .type "Exception", .type "BaseException", .type "object"] "ValueError.__new__" = true) (xgaNoGrammar : W.findIn K (.ref zca) "__getattribute__" = some (some (.builtin "BaseException.__getattribute__"))) (xghNoGrammar : W.findIn K (.ref zca) "__getattr__" = some none) (xmbNoGrammar : W.mroIn K zca (.type "BaseException") = some true) (xmoNoGrammar : W.mroIn K zca (.type "object") = some true) (xhaNoGrammar : W.findIn K (.ref zca) "__class__" = some (some (.builtin "object.__class__"))) (xfiNoGrammar : W.findIn K (.ref zca) "__init__" = some (some (.ref zpb))) (xftNoGrammar : W.typeIn K (.ref zpb) = some (.type "function")) (xflNoGrammar : K.lookup zpb = some ⟨ocINoGrammar, odINoGrammar, .func (W.fnOf "__init__" "NoGrammar.__init__" (defArgs s_ginit) (defBody s_ginit) (defScope s_ginit) .none kVINoGrammar dcINoGrammar pmINoGrammar anINoGrammar cdINoGrammar ctINoGrammar), slINoGrammar⟩) (xfcNoGrammar : W.codeIn K cdINoGrammar "NoGrammar.__init__" = true) (xfkNoGrammar : W.keepIn K (.ref zpb) = true) (xsaNoGrammar : W.findIn K (.ref zca) "__setattr__" = some (some (.builtin "object.__setattr__"))) (xstNoGrammar : W.strip zCa.mro = [.type "ValueError", .type "Exception", .type "BaseException", .type "object"]) (xhdNoGrammar : zCa.hasDict = true) (xobNoGrammar : zCa.mro.contains (.type "object") = true) (xneNoGrammar : zCa.mro.isEmpty = false) (xw_NoGrammar : W.findIn K (.ref zca) "why" = some none) (zyd : zCa.mro.contains (.ref zca) = true) (xCAPITALS : W.nsIn K mainGlobals "CAPITALS" = some (some (.str "ABCDEFGHIJKLMNOPQRSTUVWXYZ" tkCAPITALS))) (xSMALLS : W.nsIn K mainGlobals "SMALLS" = some (some (.str "abcdefghijklmnopqrstuvwxyz" tkSMALLS))) (xLONGEST_NAME : W.nsIn K mainGlobals "LONGEST_NAME" = some (some (.int 4 tkLONGEST_NAME))) (xRule : W.nsIn K mainGlobals "Rule" = some (some (.ref C_Rule))) (spRule : W.specialIn K (.ref C_Rule) "__getattribute__" = some (some (.builtin "type.__getattribute__"))) (rdRule : W.readsIn K C_Rule (.type "type") = true) (fcRule___init__ : W.findCls K (.ref C_Rule) (.type "type") "__init__" = some (.val (.ref zKa))) (mlRule___init__ : K.lookup zKa = some ⟨zog, zTf, .func (W.fnOf "__init__" "Rule.__init__" (defArgs s_rule_init) (defBody s_rule_init) (defScope s_rule_init) .none zpg zqg zrg zUf zPc zsg), zhg⟩) (mcRule___init__ : W.codeIn K zPc "Rule.__init__" = true) (zWc : W.keepIn K (.ref zKa) = true) (mfRule___init__ : W.isFn K (.ref zKa) = true) (xCellRule : W.nsIn K mainGlobals "CellRule" = some (some (.ref zea))) (zGi : W.plainGet K zea Str.empty = true) (zHi : W.hasDictIn K zea = true) (zIi : W.plainOver K zea = true) (zJi : W.findIn K (.ref zea) "__setattr__" = some (some (.builtin "object.__setattr__"))) (zKi : W.findIn K (.ref zea) "__class__" = some (some (.builtin "object.__class__"))) (zLi : W.mroIn K zea (.type "object") = some true) (zXg : W.findIn K (.ref zea) "name" = some none) (zYg : W.findIn K (.ref zea) "cost" = some none) (zzd : W.findIn K (.ref zea) "part_names" = some none) (zZg : W.findIn K (.ref zea) "sign" = some none) (miCellRule : W.makesIn K zea = true) (fiCellRule : W.findIn K (.ref zea) "__init__" = some (some (.ref zua))) (mlCellRule___init__ : K.lookup zua = some ⟨zZd, zTd, .func (W.fnOf "__init__" "CellRule.__init__" (defArgs s_cell_init) (defBody s_cell_init) (defScope s_cell_init) .none zae zbe zce zUd zAb zde), zXd⟩) (mcCellRule___init__ : W.codeIn K zAb "CellRule.__init__" = true) (zje : W.keepIn K (.ref zua) = true) (mfCellRule___init__ : W.isFn K (.ref zua) = true) (kcCellRule : W.keepIn K (.ref zea) = true) (zUi : W.kitOne K (.ref zea) (.ref C_Rule) = some true) (zTh : W.kitOne K (.ref zea) (.ref zea) = some true) (xBesideRule : W.nsIn K mainGlobals "BesideRule" = some (some (.ref zaa))) (zei : W.plainGet K zaa Str.empty = true) (zfi : W.hasDictIn K zaa = true) (zgi : W.plainOver K zaa = true) (zhi : W.findIn K (.ref zaa) "__setattr__" = some (some (.builtin "object.__setattr__"))) (zii : W.findIn K (.ref zaa) "__class__" = some (some (.builtin "object.__class__"))) (zji : W.mroIn K zaa (.type "object") = some true) (zZe : W.findIn K (.ref zaa) "name" = some none) (zaf : W.findIn K (.ref zaa) "cost" = some none) (zLc : W.findIn K (.ref zaa) "part_names" = some none) (zGf : W.findIn K (.ref zaa) "one" = some none) (zBe : W.findIn K (.ref zaa) "other" = some none) (miBesideRule : W.makesIn K zaa = true) (fiBesideRule : W.findIn K (.ref zaa) "__init__" = some (some (.ref zqa))) (mlBesideRule___init__ : K.lookup zqa = some ⟨zqd, znd, .func (W.fnOf "__init__" "BesideRule.__init__" (defArgs s_beside_init) (defBody s_beside_init) (defScope s_beside_init) .none zrd zsd ztd zod zub zud), zpd⟩) (mcBesideRule___init__ : W.codeIn K zub "BesideRule.__init__" = true) (zAd : W.keepIn K (.ref zqa) = true) (mfBesideRule___init__ : W.isFn K (.ref zqa) = true) (kcBesideRule : W.keepIn K (.ref zaa) = true) (zwi : W.kitOne K (.ref zaa) (.ref C_Rule) = some true) (zlf : W.kitOne K (.ref zaa) (.ref zaa) = some true) (xAboveRule : W.nsIn K mainGlobals "AboveRule" = some (some (.ref zba))) (zxi : W.plainGet K zba Str.empty = true) (zyi : W.hasDictIn K zba = true) (zzi : W.plainOver K zba = true) (zAi : W.findIn K (.ref zba) "__setattr__" = some (some (.builtin "object.__setattr__"))) (zBi : W.findIn K (.ref zba) "__class__" = some (some (.builtin "object.__class__"))) (zCi : W.mroIn K zba (.type "object") = some true) (zHf : W.findIn K (.ref zba) "name" = some none) (zIf : W.findIn K (.ref zba) "cost" = some none) (zmd : W.findIn K (.ref zba) "part_names" = some none) (zah : W.findIn K (.ref zba) "one" = some none) (zbf : W.findIn K (.ref zba) "other" = some none) (miAboveRule : W.makesIn K zba = true) (fiAboveRule : W.findIn K (.ref zba) "__init__" = some (some (.ref zsa))) (mlAboveRule___init__ : K.lookup zsa = some ⟨zMd, zJd, .func (W.fnOf "__init__" "AboveRule.__init__" (defArgs s_above_init) (defBody s_above_init) (defScope s_above_init) .none zNd zOd zPd zKd zxb zQd), zLd⟩) (mcAboveRule___init__ : W.codeIn K zxb "AboveRule.__init__" = true) (zRd : W.keepIn K (.ref zsa) = true) (mfAboveRule___init__ : W.isFn K (.ref zsa) = true) (kcAboveRule : W.keepIn K (.ref zba) = true) (zMi : W.kitOne K (.ref zba) (.ref C_Rule) = some true) (zbh : W.kitOne K (.ref zba) (.ref zba) = some true) (xTurnRule : W.nsIn K mainGlobals "TurnRule" = some (some (.ref zda))) (zNi : W.plainGet K zda Str.empty = true) (zOi : W.hasDictIn K zda = true) (zPi : W.plainOver K zda = true) (zQi : W.findIn K (.ref zda) "__setattr__" = some (some (.builtin "object.__setattr__"))) (zRi : W.findIn K (.ref zda) "__class__" = some (some (.builtin "object.__class__"))) (zSi : W.mroIn K zda (.type "object") = some true) (zch : W.findIn K (.ref zda) "name" = some none) (zdh : W.findIn K (.ref zda) "cost" = some none) (zBd : W.findIn K (.ref zda) "part_names" = some none) (zeh : W.findIn K (.ref zda) "part" = some none) (zCe : W.findIn K (.ref zda) "turning" = some none) (miTurnRule : W.makesIn K zda = true) (fiTurnRule : W.findIn K (.ref zda) "__init__" = some (some (.ref zva))) (mlTurnRule___init__ : K.lookup zva = some ⟨zee, zVd, .func (W.fnOf "__init__" "TurnRule.__init__" (defArgs s_turn_init) (defBody s_turn_init) (defScope s_turn_init) .none zfe zge zhe zWd zBb zie), zYd⟩) (mcTurnRule___init__ : W.codeIn K zBb "TurnRule.__init__" = true) (zke : W.keepIn K (.ref zva) = true) (mfTurnRule___init__ : W.isFn K (.ref zva) = true) (kcTurnRule : W.keepIn K (.ref zda) = true) (zVi : W.kitOne K (.ref zda) (.ref C_Rule) = some true) (zUh : W.kitOne K (.ref zda) (.ref zda) = some true) (xMOST_SIGNS : W.nsIn K mainGlobals "MOST_SIGNS" = some (some (.int 4 tkMOST_SIGNS))) (xMOST_RULES : W.nsIn K mainGlobals "MOST_RULES" = some (some (.int 24 tkMOST_RULES))) (xMOST_NAMES : W.nsIn K mainGlobals "MOST_NAMES" = some (some (.int 8 tkMOST_NAMES))) (q01 : W.kitOne K (.ref zea) (.ref zaa) = some false) (q02 : W.kitOne K (.ref zea) (.ref zba) = some false) (q03 : W.kitOne K (.ref zea) (.ref zda) = some false) (q10 : W.kitOne K (.ref zaa) (.ref zea) = some false) (q12 : W.kitOne K (.ref zaa) (.ref zba) = some false) (q13 : W.kitOne K (.ref zaa) (.ref zda) = some false) (q20 : W.kitOne K (.ref zba) (.ref zea) = some false) (q21 : W.kitOne K (.ref zba) (.ref zaa) = some false) (q23 : W.kitOne K (.ref zba) (.ref zda) = some false) (q30 : W.kitOne K (.ref zda) (.ref zea) = some false) (q31 : W.kitOne K (.ref zda) (.ref zaa) = some false) (q32 : W.kitOne K (.ref zda) (.ref zba) = some false) (fmCellRule_head : W.findIn K (.ref zea) "head" = some (some (.ref zoa))) (mlRule_head : K.lookup zoa = some ⟨zri, zni, .func (W.fnOf "head" "Rule.head" (defArgs s_rule_head) (defBody s_rule_head) (defScope s_rule_head) .none zsi zti zui zoi zkf zvi), zqi⟩) (mcRule_head : W.codeIn K zkf "Rule.head" = true) (zqb : W.keepIn K (.ref zoa) = true) (mfRule_head : W.isFn K (.ref zoa) = true) (fmCellRule_parts : W.findIn K (.ref zea) "parts" = some (some (.ref zka))) (mlRule_parts : K.lookup zka = some ⟨zZh, zWh, .func (W.fnOf "parts" "Rule.parts" (defArgs s_rule_parts) (defBody s_rule_parts) (defScope s_rule_parts) .none zai zbi zci zXh zve zdi), zYh⟩) (mcRule_parts : W.codeIn K zve "Rule.parts" = true) (zeb : W.keepIn K (.ref zka) = true) (mfRule_parts : W.isFn K (.ref zka) = true) (fmCellRule_told : W.findIn K (.ref zea) "told" = some (some (.ref zLa))) (mlCellRule_told : K.lookup zLa = some ⟨ztg, zVf, .func (W.fnOf "told" "CellRule.told" (defArgs s_cell_told) (defBody s_cell_told) (defScope s_cell_told) .none zug zvg zwg zWf zQc zxg), zig⟩) (mcCellRule_told : W.codeIn K zQc "CellRule.told" = true) (zXc : W.keepIn K (.ref zLa) = true) (mfCellRule_told : W.isFn K (.ref zLa) = true) (fmBesideRule_head : W.findIn K (.ref zaa) "head" = some (some (.ref zoa))) (fmBesideRule_parts : W.findIn K (.ref zaa) "parts" = some (some (.ref zka))) (fmBesideRule_told : W.findIn K (.ref zaa) "told" = some (some (.ref zza))) (mlBesideRule_told : K.lookup zza = some ⟨zPe, zJe, .func (W.fnOf "told" "BesideRule.told" (defArgs s_beside_told) (defBody s_beside_told) (defScope s_beside_told) .none zQe zRe zSe zKe zKb zTe), zNe⟩) (mcBesideRule_told : W.codeIn K zKb "BesideRule.told" = true) (zMb : W.keepIn K (.ref zza) = true) (mfBesideRule_told : W.isFn K (.ref zza) = true) (fmAboveRule_head : W.findIn K (.ref zba) "head" = some (some (.ref zoa))) (fmAboveRule_parts : W.findIn K (.ref zba) "parts" = some (some (.ref zka))) (fmAboveRule_told : W.findIn K (.ref zba) "told" = some (some (.ref zFa))) (mlAboveRule_told : K.lookup zFa = some ⟨zwf, zqf, .func (W.fnOf "told" "AboveRule.told" (defArgs s_above_told) (defBody s_above_told) (defScope s_above_told) .none zxf zyf zzf zrf zhc zAf), zuf⟩) (mcAboveRule_told : W.codeIn K zhc "AboveRule.told" = true) (zoc : W.keepIn K (.ref zFa) = true) (mfAboveRule_told : W.isFn K (.ref zFa) = true) (fmTurnRule_head : W.findIn K (.ref zda) "head" = some (some (.ref zoa))) (fmTurnRule_parts : W.findIn K (.ref zda) "parts" = some (some (.ref zka))) (fmTurnRule_told : W.findIn K (.ref zda) "told" = some (some (.ref zMa))) (mlTurnRule_told : K.lookup zMa = some ⟨zyg, zXf, .func (W.fnOf "told" "TurnRule.told" (defArgs s_turn_told) (defBody s_turn_told) (defScope s_turn_told) .none zzg zAg zBg zYf zRc zCg), zjg⟩) (mcTurnRule_told : W.codeIn K zRc "TurnRule.told" = true) (zYc : W.keepIn K (.ref zMa) = true) (mfTurnRule_told : W.isFn K (.ref zMa) = true) (xGrammar : W.nsIn K mainGlobals "Grammar" = some (some (.ref zfa))) (zWi : W.plainGet K zfa Str.empty = true) (zXi : W.hasDictIn K zfa = true) (zYi : W.plainOver K zfa = true) (zZi : W.findIn K (.ref zfa) "__setattr__" = some (some (.builtin "object.__setattr__"))) (zaj : W.findIn K (.ref zfa) "__class__" = some (some (.builtin "object.__class__"))) (zbj : W.mroIn K zfa (.type "object") = some true) (zfh : W.findIn K (.ref zfa) "signs" = some none) (zgh : W.findIn K (.ref zfa) "start" = some none) (zPh : W.findIn K (.ref zfa) "kept" = some none) (zcf : W.findIn K (.ref zfa) "numbers" = some none) (miGrammar : W.makesIn K zfa = true) (fiGrammar : W.findIn K (.ref zfa) "__init__" = some (some (.ref zxa))) (mlGrammar___init__ : K.lookup zxa = some ⟨zwe, zse, .func (W.fnOf "__init__" "Grammar.__init__" (defArgs s_gram_init) (defBody s_gram_init) (defScope s_gram_init) .none zxe zye zze zte zHb zAe), zue⟩) (mcGrammar___init__ : W.codeIn K zHb "Grammar.__init__" = true) (zDe : W.keepIn K (.ref zxa) = true) (mfGrammar___init__ : W.isFn K (.ref zxa) = true) (kcGrammar : W.keepIn K (.ref zfa) = true) (fmGrammar_rules : W.findIn K (.ref zfa) "rules" = some (some (.ref zNa))) (mlGrammar_rules : K.lookup zNa = some ⟨zDg, zZf, .func (W.fnOf "rules" "Grammar.rules" (defArgs s_gram_rules) (defBody s_gram_rules) (defScope s_gram_rules) .none zEg zFg zGg zag zSc zHg), zkg⟩) (mcGrammar_rules : W.codeIn K zSc "Grammar.rules" = true) (zZc : W.keepIn K (.ref zNa) = true) (mfGrammar_rules : W.isFn K (.ref zNa) = true) (fmGrammar_rule : W.findIn K (.ref zfa) "rule" = some (some (.ref zTa))) (mlGrammar_rule : K.lookup zTa = some ⟨zAh, zrh, .func (W.fnOf "rule" "Grammar.rule" (defArgs s_gram_rule) (defBody s_gram_rule) (defScope s_gram_rule) .none zBh zCh zDh zsh zvd zEh), zxh⟩) (mcGrammar_rule : W.codeIn K zvd "Grammar.rule" = true) (zCd : W.keepIn K (.ref zTa) = true) (mfGrammar_rule : W.isFn K (.ref zTa) = true) (fmGrammar_many : W.findIn K (.ref zfa) "many" = some (some (.ref zUa))) (mlGrammar_many : K.lookup zUa = some ⟨zFh, zth, .func (W.fnOf "many" "Grammar.many" (defArgs s_gram_many) (defBody s_gram_many) (defScope s_gram_many) .none zGh zHh zIh zuh zwd zJh), zyh⟩) (mcGrammar_many : W.codeIn K zwd "Grammar.many" = true) (zDd : W.keepIn K (.ref zUa) = true) (mfGrammar_many : W.isFn K (.ref zUa) = true) (fmGrammar_names : W.findIn K (.ref zfa) "names" = some (some (.ref zOa))) (mlGrammar_names : K.lookup zOa = some ⟨zIg, zbg, .func (W.fnOf "names" "Grammar.names" (defArgs s_gram_names) (defBody s_gram_names) (defScope s_gram_names) .none zJg zKg zLg zcg zTc zMg), zlg⟩) (mcGrammar_names : W.codeIn K zTc "Grammar.names" = true) (zad : W.keepIn K (.ref zOa) = true) (mfGrammar_names : W.isFn K (.ref zOa) = true) (fmGrammar_told : W.findIn K (.ref zfa) "told" = some (some (.ref zVa))) (mlGrammar_told : K.lookup zVa = some ⟨zKh, zvh, .func (W.fnOf "told" "Grammar.told" (defArgs s_gram_told) (defBody s_gram_told) (defScope s_gram_told) .none zLh zMh zNh zwh zxd zOh), zzh⟩) (mcGrammar_told : W.codeIn K zxd "Grammar.told" = true) (zEd : W.keepIn K (.ref zVa) = true) (mfGrammar_told : W.isFn K (.ref zVa) = true) (kg : W.kitOne K (.ref zfa) (.ref zfa) = some true) (fmCellRule_made : W.findIn K (.ref zea) "made" = some (some (.ref zPa))) (mlCellRule_made : K.lookup zPa = some ⟨zNg, zdg, .func (W.fnOf "made" "CellRule.made" (defArgs s_cell_made) (defBody s_cell_made) (defScope s_cell_made) .none zOg zPg zQg zeg zUc zRg), zmg⟩) (mcCellRule_made : W.codeIn K zUc "CellRule.made" = true) (zbd : W.keepIn K (.ref zPa) = true) (mfCellRule_made : W.isFn K (.ref zPa) = true) (fmCellRule_turned_whole : W.findIn K (.ref zea) "turned_whole" = some (some (.ref zma))) (mlCellRule_turned_whole : K.lookup zma = some ⟨zBc, zvc, .func (W.fnOf "turned_whole" "CellRule.turned_whole" (defArgs s_cell_tw) (defBody s_cell_tw) (defScope s_cell_tw) .none zCc zDc zEc zwc zjb zFc), zzc⟩) (mcCellRule_turned_whole : W.codeIn K zjb "CellRule.turned_whole" = true) (zlb : W.keepIn K (.ref zma) = true) (mfCellRule_turned_whole : W.isFn K (.ref zma) = true) (fmBesideRule_made : W.findIn K (.ref zaa) "made" = some (some (.ref zAa))) (mlBesideRule_made : K.lookup zAa = some ⟨zUe, zLe, .func (W.fnOf "made" "BesideRule.made" (defArgs s_beside_made) (defBody s_beside_made) (defScope s_beside_made) .none zVe zWe zXe zMe zLb zYe), zOe⟩) (mcBesideRule_made : W.codeIn K zLb "BesideRule.made" = true) (zNb : W.keepIn K (.ref zAa) = true) (mfBesideRule_made : W.isFn K (.ref zAa) = true) (fmBesideRule_turned_whole : W.findIn K (.ref zaa) "turned_whole" = some (some (.ref zja))) (mlBesideRule_turned_whole : K.lookup zja = some ⟨zUb, zRb, .func (W.fnOf "turned_whole" "BesideRule.turned_whole" (defArgs s_beside_tw) (defBody s_beside_tw) (defScope s_beside_tw) .none zVb zWb zXb zSb zab zYb), zTb⟩) (mcBesideRule_turned_whole : W.codeIn K zab "BesideRule.turned_whole" = true) (zbb : W.keepIn K (.ref zja) = true) (mfBesideRule_turned_whole : W.isFn K (.ref zja) = true) (fmAboveRule_made : W.findIn K (.ref zba) "made" = some (some (.ref zGa))) (mlAboveRule_made : K.lookup zGa = some ⟨zBf, zsf, .func (W.fnOf "made" "AboveRule.made" (defArgs s_above_made) (defBody s_above_made) (defScope s_above_made) .none zCf zDf zEf ztf zic zFf), zvf⟩) (mcAboveRule_made : W.codeIn K zic "AboveRule.made" = true) (zpc : W.keepIn K (.ref zGa) = true) (mfAboveRule_made : W.isFn K (.ref zGa) = true) (fmAboveRule_turned_whole : W.findIn K (.ref zba) "turned_whole" = some (some (.ref zla))) (mlAboveRule_turned_whole : K.lookup zla = some ⟨zjc, zec, .func (W.fnOf "turned_whole" "AboveRule.turned_whole" (defArgs s_above_tw) (defBody s_above_tw) (defScope s_above_tw) .none zkc zlc zmc zfc zdb znc), zgc⟩) (mcAboveRule_turned_whole : W.codeIn K zdb "AboveRule.turned_whole" = true) (zfb : W.keepIn K (.ref zla) = true) (mfAboveRule_turned_whole : W.isFn K (.ref zla) = true) (fmTurnRule_made : W.findIn K (.ref zda) "made" = some (some (.ref zQa))) (mlTurnRule_made : K.lookup zQa = some ⟨zSg, zfg, .func (W.fnOf "made" "TurnRule.made" (defArgs s_turn_made) (defBody s_turn_made) (defScope s_turn_made) .none zTg zUg zVg zgg zVc zWg), zng⟩) (mcTurnRule_made : W.codeIn K zVc "TurnRule.made" = true) (zcd : W.keepIn K (.ref zQa) = true) (mfTurnRule_made : W.isFn K (.ref zQa) = true) (fmTurnRule_turned_whole : W.findIn K (.ref zda) "turned_whole" = some (some (.ref zna))) (mlTurnRule_turned_whole : K.lookup zna = some ⟨zGc, zxc, .func (W.fnOf "turned_whole" "TurnRule.turned_whole" (defArgs s_turn_tw) (defBody s_turn_tw) (defScope s_turn_tw) .none zHc zIc zJc zyc zkb zKc), zAc⟩) (mcTurnRule_turned_whole : W.codeIn K zkb "TurnRule.turned_whole" = true) (zmb : W.keepIn K (.ref zna) = true) (mfTurnRule_turned_whole : W.isFn K (.ref zna) = true)
    (z0 : W.nsIn K mainGlobals "len" = some none) (z1 : W.nsIn K mainGlobals "range" = some none) (z2 : W.nsIn K mainGlobals "list" = some none) (z3 : W.nsIn K mainGlobals "tuple" = some none) (z4 : W.nsIn K mainGlobals "isinstance" = some none) (z5 : W.nsIn K mainGlobals "int" = some none) (z6 : W.nsIn K mainGlobals "bool" = some none) (z7 : W.nsIn K mainGlobals "str" = some none) (z8 : W.nsIn K mainGlobals "reversed" = some none) (z9 : W.nsIn K mainGlobals "all" = some none) (z10 : W.nsIn K mainGlobals "enumerate" = some none) (z11 : W.nsIn K mainGlobals "zip" = some none) (z12 : W.nsIn K mainGlobals "sorted" = some none) (z13 : W.nsIn K mainGlobals "set" = some none) (z14 : W.nsIn K mainGlobals "dict" = some none) (z15 : W.nsIn K mainGlobals "min" = some none) (z16 : W.nsIn K mainGlobals "max" = some none) (z17 : W.nsIn K mainGlobals "sum" = some none) (z18 : W.nsIn K mainGlobals "ValueError" = some none) :
    ∃ fd : FuncData, (∀ (s : Shared) (v : Value), BindsTo s fd ⟨[v], []⟩ [("_law_script", v)]) ∧ ∀ base : Heap, K.In base → base.Ns mainGlobals mg → FnOk l.prog w K mg base CX0 9 fa fd ["_law_script"] (sp_law K) := by
  have e := hfa.symm.trans (W.mg_of X G a31)
  cases e
  have nb : NB mg := ⟨W.mg_none_of X G z0, W.mg_none_of X G z1, W.mg_none_of X G z2, W.mg_none_of X G z3, W.mg_none_of X G z4, W.mg_none_of X G z5, W.mg_none_of X G z6, W.mg_none_of X G z7, W.mg_none_of X G z8, W.mg_none_of X G z9, W.mg_none_of X G z10, W.mg_none_of X G z11, W.mg_none_of X G z12, W.mg_none_of X G z13, W.mg_none_of X G z14, W.mg_none_of X G z15, W.mg_none_of X G z16, W.mg_none_of X G z17, W.mg_none_of X G z18⟩
  have F1 := fun_mk (st := s_only_of) l1 c1 k1
  have b1 := F1.binds (ps := ["text", "letters"]) fun _ _ _ _ _ _ us hl => match us, hl with | [_, _], _ => rfl
  have F2 := fun_mk (st := s_is_name) l2 c2 k2
  have b2 := F2.binds (ps := ["text"]) fun _ _ _ _ _ _ us hl => match us, hl with | [_], _ => rfl
  have F3 := fun_mk (st := s_are_signs) l3 c3 k3
  have b3 := F3.binds (ps := ["text"]) fun _ _ _ _ _ _ us hl => match us, hl with | [_], _ => rfl
  have F4 := fun_mk (st := s_check_made_of) l4 c4 k4
  have b4 := F4.binds (ps := ["signs", "start", "rules"]) fun _ _ _ _ _ _ us hl => match us, hl with | [_, _, _], _ => rfl
  have F5 := fun_mk (st := s_numbers_by_name) l5 c5 k5
  have b5 := F5.binds (ps := ["start", "rules"]) fun _ _ _ _ _ _ us hl => match us, hl with | [_, _], _ => rfl
  have F6 := fun_mk (st := s_l_mix) l6 c6 k6
  have b6 := F6.binds (ps := ["_law_cell_here", "_law_k"]) fun _ _ _ _ _ _ us hl => match us, hl with | [_, _], _ => rfl
  have F7 := fun_mk (st := s_l_cell) l7 c7 k7
  have b7 := F7.binds (ps := ["_law_script", "_law_k"]) fun _ _ _ _ _ _ us hl => match us, hl with | [_, _], _ => rfl
  have F8 := fun_mk (st := s_l_pool) l8 c8 k8
  have b8 := F8.binds (ps := ["_law_cell_here", "_law_many"]) fun _ _ _ _ _ _ us hl => match us, hl with | [_, _], _ => rfl
  have F9 := fun_mk (st := s_l_signs) l9 c9 k9
  have b9 := F9.binds (ps := ["_law_cell_here"]) fun _ _ _ _ _ _ us hl => match us, hl with | [_], _ => rfl
  have F10 := fun_mk (st := s_l_rows) l10 c10 k10
  have b10 := F10.binds (ps := ["_law_cells", "_law_names", "_law_signs_here"]) fun _ _ _ _ _ _ us hl => match us, hl with | [_, _, _], _ => rfl
  have F11 := fun_mk (st := s_l_rule) l11 c11 k11
  have b11 := F11.binds (ps := ["_law_row"]) fun _ _ _ _ _ _ us hl => match us, hl with | [_], _ => rfl
  have F12 := fun_mk (st := s_l_row_text) l12 c12 k12
  have b12 := F12.binds (ps := ["_law_row"]) fun _ _ _ _ _ _ us hl => match us, hl with | [_], _ => rfl
  have F13 := fun_mk (st := s_l_grammar_text) l13 c13 k13
  have b13 := F13.binds (ps := ["_law_signs_here", "_law_start", "_law_rows_here"]) fun _ _ _ _ _ _ us hl => match us, hl with | [_, _, _], _ => rfl
  have F14 := fun_mk (st := s_beside) l14 c14 k14
  have b14 := F14.binds (ps := ["one", "other"]) fun _ _ _ _ _ _ us hl => match us, hl with | [_, _], _ => rfl
  have F15 := fun_mk (st := s_above) l15 c15 k15
  have b15 := F15.binds (ps := ["one", "other"]) fun _ _ _ _ _ _ us hl => match us, hl with | [_, _], _ => rfl
  have F16 := fun_mk (st := s_mirror) l16 c16 k16
  have b16 := F16.binds (ps := ["picture"]) fun _ _ _ _ _ _ us hl => match us, hl with | [_], _ => rfl
  have F17 := fun_mk (st := s_column_from_below) l17 c17 k17
  have b17 := F17.binds (ps := ["picture", "i"]) fun _ _ _ _ _ _ us hl => match us, hl with | [_, _], _ => rfl
  have F18 := fun_mk (st := s_quarter) l18 c18 k18
  have b18 := F18.binds (ps := ["picture"]) fun _ _ _ _ _ _ us hl => match us, hl with | [_], _ => rfl
  have F19 := fun_mk (st := s_turned) l19 c19 k19
  have b19 := F19.binds (ps := ["picture", "t"]) fun _ _ _ _ _ _ us hl => match us, hl with | [_, _], _ => rfl
  have F20 := fun_mk (st := s_after) l20 c20 k20
  have b20 := F20.binds (ps := ["t", "u"]) fun _ _ _ _ _ _ us hl => match us, hl with | [_, _], _ => rfl
  have F21 := fun_mk (st := s_back) l21 c21 k21
  have b21 := F21.binds (ps := ["t"]) fun _ _ _ _ _ _ us hl => match us, hl with | [_], _ => rfl
  have F22 := fun_mk (st := s_turned_pair) l22 c22 k22
  have b22 := F22.binds (ps := ["rule", "side_by_side", "t"]) fun _ _ _ _ _ _ us hl => match us, hl with | [_, _, _], _ => rfl
  have F23 := fun_mk (st := s_turned_grammar) l23 c23 k23
  have b23 := F23.binds (ps := ["grammar", "t"]) fun _ _ _ _ _ _ us hl => match us, hl with | [_, _], _ => rfl
  have F24 := fun_mk (st := s_l_mixed) l24 c24 k24
  have b24 := F24.binds (ps := ["_law_cell_here", "_law_k"]) fun _ _ _ _ _ _ us hl => match us, hl with | [_, _], _ => rfl
  have F25 := fun_mk (st := s_l_picture) l25 c25 k25
  have b25 := F25.binds (ps := ["_law_cell_here", "_law_signs_here", "_law_rows_here", "_law_columns"]) fun _ _ _ _ _ _ us hl => match us, hl with | [_, _, _, _], _ => rfl
  have F26 := fun_mk (st := s_l_quarter) l26 c26 k26
  have b26 := F26.binds (ps := ["_law_rows_here"]) fun _ _ _ _ _ _ us hl => match us, hl with | [_], _ => rfl
  have F27 := fun_mk (st := s_l_turned) l27 c27 k27
  have b27 := F27.binds (ps := ["_law_rows_here", "_law_t"]) fun _ _ _ _ _ _ us hl => match us, hl with | [_, _], _ => rfl
  have F28 := fun_mk (st := s_l_row_made) l28 c28 k28
  have b28 := F28.binds (ps := ["_law_row", "_law_pictures"]) fun _ _ _ _ _ _ us hl => match us, hl with | [_, _], _ => rfl
  have F29 := fun_mk (st := s_l_alike) l29 c29 k29
  have b29 := F29.binds (ps := ["_law_rule_here", "_law_row"]) fun _ _ _ _ _ _ us hl => match us, hl with | [_, _], _ => rfl
  have F30 := fun_mk (st := s_l_right) l30 c30 k30
  have b30 := F30.binds (ps := ["_law_grammar", "_law_rows_here", "_law_pictures", "_law_t"]) fun _ _ _ _ _ _ us hl => match us, hl with | [_, _, _, _], _ => rfl
  have F31 := fun_mk (st := s_law) l31 c31 k31
  refine ⟨W.fnOf "law" "law" (defArgs s_law) (defBody s_law) (defScope s_law) .none kV31 dc31 pm31 an31 cd31 ct31, fun s v => .of_eq rfl, fun base _ _ => ?_⟩
  have zbc := W.mg_of X G xNoFit
  have xc_NoFit : XCls K zha [.type "ValueError", .type "Exception", .type "BaseException", .type "object"] "ValueError.__new__" := ⟨xeNoFit⟩
  have zFb : XR K zha := ⟨_, _, _, _, _, _, _, _, ⟨xeNoFit⟩, PySem.F.excBase_ValueError, rfl, PySem.F.excBase_ValueError⟩
  have xt_NoFit : W.XTy K zha := ⟨xgaNoFit, xghNoFit, xmbNoFit, xmoNoFit, xhaNoFit, xhn, xtk, _, _, _, xlNoFit⟩
  have m_MOST := W.mg_of X G xMOST
  have zRa := W.mg_of X G xNoRule
  have xc_NoRule : XCls K zga [.type "ValueError", .type "Exception", .type "BaseException", .type "object"] "ValueError.__new__" := ⟨xeNoRule⟩
  have zBa : XR K zga := ⟨_, _, _, _, _, _, _, _, ⟨xeNoRule⟩, PySem.F.excBase_ValueError, rfl, PySem.F.excBase_ValueError⟩
  have xt_NoRule : W.XTy K zga := ⟨xgaNoRule, xghNoRule, xmbNoRule, xmoNoRule, xhaNoRule, xhn, xtk, _, _, _, xlNoRule⟩
  have zwa := W.mg_of X G xNoGrammar
  have zki : XOut K zca [.type "ValueError", .type "Exception", .type "BaseException", .type "object"] "ValueError.__new__" := ⟨xeoNoGrammar⟩
  have xt_NoGrammar : W.XTy K zca := ⟨xgaNoGrammar, xghNoGrammar, xmbNoGrammar, xmoNoGrammar, xhaNoGrammar, xhn, xtk, _, _, _, xlNoGrammar⟩
  have clNoGrammar : W.clsIn K zca = some zCa := by unfold W.clsIn; rw [xlNoGrammar]
  have xh_NoGrammar : W.hasDictIn K zca = true := by unfold W.hasDictIn; rw [clNoGrammar]; exact xhdNoGrammar
  have FINoGrammar := fun_mk (st := s_ginit) xflNoGrammar xfcNoGrammar xfkNoGrammar
  have xsINoGrammar : W.XSt K zca "why" := ⟨xsaNoGrammar, ⟨zCa, clNoGrammar, xstNoGrammar, xhdNoGrammar, xobNoGrammar, xneNoGrammar⟩, xw_NoGrammar⟩
  have bINoGrammar := FINoGrammar.binds (ps := ["self", "why"]) fun _ _ _ _ _ _ us hl => match us, hl with | [_, _], _ => rfl
  have zra : XI l.prog w K mg base 1 zca "why" := ⟨_, _, _, _, _, _, _, _, zpb, _, _, zki, PySem.F.excBase_ValueError, rfl, PySem.F.excBase_ValueError, xfiNoGrammar, xftNoGrammar, ok_ginit FINoGrammar xsINoGrammar, bINoGrammar⟩
  have und_NoGrammar_NoGrammar : Under K zca zca := ⟨_, _, _, xlNoGrammar, zyd⟩
  have m_CAPITALS := W.mg_of X G xCAPITALS
  have m_SMALLS := W.mg_of X G xSMALLS
  have m_LONGEST_NAME := W.mg_of X G xLONGEST_NAME
  have m_Rule := W.mg_of X G xRule
  have zdd := fun_mk (st := s_rule_init) mlRule___init__ mcRule___init__ zWc
  have zhh := zdd.binds (ps := ["self", "name", "cost", "part_names"]) fun _ _ _ _ _ _ us hl => match us, hl with | [_, _, _, _], _ => rfl
  have cf_Rule___init__ : ClsFn K C_Rule "__init__" zKa := ⟨spRule, rdRule, fcRule___init__, zWc⟩
  have zWa := W.mg_of X G xCellRule
  have zDa : ICls K zea := ⟨⟨zGi, zHi, zIi, zJi⟩, zKi, xhn, xtk, zLi⟩
  have zCb := fun_mk (st := s_cell_init) mlCellRule___init__ mcCellRule___init__ zje
  have zle := zCb.binds (ps := ["self", "name", "cost", "sign"]) fun _ _ _ _ _ _ us hl => match us, hl with | [_, _, _, _], _ => rfl
  have zDi : Mk K zea zua := ⟨miCellRule, fiCellRule, mfCellRule___init__, kcCellRule⟩
  have zli := W.mg_of X G xBesideRule
  have zya : ICls K zaa := ⟨⟨zei, zfi, zgi, zhi⟩, zii, xhn, xtk, zji⟩
  have zvb := fun_mk (st := s_beside_init) mlBesideRule___init__ mcBesideRule___init__ zAd
  have zFd := zvb.binds (ps := ["self", "name", "cost", "one", "other"]) fun _ _ _ _ _ _ us hl => match us, hl with | [_, _, _, _, _], _ => rfl
  have zVh : Mk K zaa zqa := ⟨miBesideRule, fiBesideRule, mfBesideRule___init__, kcBesideRule⟩
  have zEi := W.mg_of X G xAboveRule
  have zHa : ICls K zba := ⟨⟨zxi, zyi, zzi, zAi⟩, zBi, xhn, xtk, zCi⟩
  have zyb := fun_mk (st := s_above_init) mlAboveRule___init__ mcAboveRule___init__ zRd
  have zSd := zyb.binds (ps := ["self", "name", "cost", "one", "other"]) fun _ _ _ _ _ _ us hl => match us, hl with | [_, _, _, _, _], _ => rfl
  have zmi : Mk K zba zsa := ⟨miAboveRule, fiAboveRule, mfAboveRule___init__, kcAboveRule⟩
  have zQb := W.mg_of X G xTurnRule
  have zEa : ICls K zda := ⟨⟨zNi, zOi, zPi, zQi⟩, zRi, xhn, xtk, zSi⟩
  have zDb := fun_mk (st := s_turn_init) mlTurnRule___init__ mcTurnRule___init__ zke
  have zme := zDb.binds (ps := ["self", "name", "cost", "part", "turning"]) fun _ _ _ _ _ _ us hl => match us, hl with | [_, _, _, _, _], _ => rfl
  have zFi : Mk K zda zva := ⟨miTurnRule, fiTurnRule, mfTurnRule___init__, kcTurnRule⟩
  let R : RC := ⟨C_Rule, zea, zaa, zba, zda⟩
  have rk : RKit K R := ⟨zDa, zya, zHa, zEa, ⟨zXg, zYg, zzd, zZg⟩, ⟨zZe, zaf, zLc, zGf, zBe⟩, ⟨zHf, zIf, zmd, zah, zbf⟩, ⟨zch, zdh, zBd, zeh, zCe⟩, zUi, zwi, zMi, zVi, zTh, zlf, zbh, zUh⟩
  have m_MOST_SIGNS := W.mg_of X G xMOST_SIGNS
  have m_MOST_RULES := W.mg_of X G xMOST_RULES
  have m_MOST_NAMES := W.mg_of X G xMOST_NAMES
  have rk4 : RKit4 K R := ⟨fun i j hi hj => by rcases k_cases hi with rfl | rfl | rfl | rfl <;> rcases k_cases hj with rfl | rfl | rfl | rfl; exact zTh; exact q01; exact q02; exact q03; exact q10; exact zlf; exact q12; exact q13; exact q20; exact q21; exact zbh; exact q23; exact q30; exact q31; exact q32; exact zUh⟩
  have zrb := fun_mk (st := s_rule_head) mlRule_head mcRule_head zqb
  have zGb := zrb.binds (ps := ["self"]) fun _ _ _ _ _ _ us hl => match us, hl with | [_], _ => rfl
  have zJf : Meth K zea "head" zoa := ⟨fmCellRule_head, mfRule_head, zqb⟩
  have zgb := fun_mk (st := s_rule_parts) mlRule_parts mcRule_parts zeb
  have zzb := zgb.binds (ps := ["self"]) fun _ _ _ _ _ _ us hl => match us, hl with | [_], _ => rfl
  have zdf : Meth K zea "parts" zka := ⟨fmCellRule_parts, mfRule_parts, zeb⟩
  have zed := fun_mk (st := s_cell_told) mlCellRule_told mcCellRule_told zXc
  have zih := zed.binds (ps := ["self"]) fun _ _ _ _ _ _ us hl => match us, hl with | [_], _ => rfl
  have zKf : Meth K zea "told" zLa := ⟨fmCellRule_told, mfCellRule_told, zXc⟩
  have zEe : Meth K zaa "head" zoa := ⟨fmBesideRule_head, mfRule_head, zqb⟩
  have zne : Meth K zaa "parts" zka := ⟨fmBesideRule_parts, mfRule_parts, zeb⟩
  have zOb := fun_mk (st := s_beside_told) mlBesideRule_told mcBesideRule_told zMb
  have zef := zOb.binds (ps := ["self"]) fun _ _ _ _ _ _ us hl => match us, hl with | [_], _ => rfl
  have zFe : Meth K zaa "told" zza := ⟨fmBesideRule_told, mfBesideRule_told, zMb⟩
  have zff : Meth K zba "head" zoa := ⟨fmAboveRule_head, mfRule_head, zqb⟩
  have zGe : Meth K zba "parts" zka := ⟨fmAboveRule_parts, mfRule_parts, zeb⟩
  have zqc := fun_mk (st := s_above_told) mlAboveRule_told mcAboveRule_told zoc
  have zLf := zqc.binds (ps := ["self"]) fun _ _ _ _ _ _ us hl => match us, hl with | [_], _ => rfl
  have zgf : Meth K zba "told" zFa := ⟨fmAboveRule_told, mfAboveRule_told, zoc⟩
  have zMf : Meth K zda "head" zoa := ⟨fmTurnRule_head, mfRule_head, zqb⟩
  have zhf : Meth K zda "parts" zka := ⟨fmTurnRule_parts, mfRule_parts, zeb⟩
  have zfd := fun_mk (st := s_turn_told) mlTurnRule_told mcTurnRule_told zYc
  have zjh := zfd.binds (ps := ["self"]) fun _ _ _ _ _ _ us hl => match us, hl with | [_], _ => rfl
  have zNf : Meth K zda "told" zMa := ⟨fmTurnRule_told, mfTurnRule_told, zYc⟩
  have zOc := W.mg_of X G xGrammar
  have zta : ICls K zfa := ⟨⟨zWi, zXi, zYi, zZi⟩, zaj, xhn, xtk, zbj⟩
  have zIb := fun_mk (st := s_gram_init) mlGrammar___init__ mcGrammar___init__ zDe
  have zHe := zIb.binds (ps := ["self", "signs", "start", "rules"]) fun _ _ _ _ _ _ us hl => match us, hl with | [_, _, _, _], _ => rfl
  have zTi : Mk K zfa zxa := ⟨miGrammar, fiGrammar, mfGrammar___init__, kcGrammar⟩
  have gk : GNA K zfa := ⟨zta, zfh, zgh, zPh, zcf⟩
  have zgd := fun_mk (st := s_gram_rules) mlGrammar_rules mcGrammar_rules zZc
  have zkh := zgd.binds (ps := ["self"]) fun _ _ _ _ _ _ us hl => match us, hl with | [_], _ => rfl
  have zOf : Meth K zfa "rules" zNa := ⟨fmGrammar_rules, mfGrammar_rules, zZc⟩
  have zGd := fun_mk (st := s_gram_rule) mlGrammar_rule mcGrammar_rule zCd
  have zQh := zGd.binds (ps := ["self", "k"]) fun _ _ _ _ _ _ us hl => match us, hl with | [_, _], _ => rfl
  have zlh : Meth K zfa "rule" zTa := ⟨fmGrammar_rule, mfGrammar_rule, zCd⟩
  have zHd := fun_mk (st := s_gram_many) mlGrammar_many mcGrammar_many zDd
  have zRh := zHd.binds (ps := ["self"]) fun _ _ _ _ _ _ us hl => match us, hl with | [_], _ => rfl
  have zmh : Meth K zfa "many" zUa := ⟨fmGrammar_many, mfGrammar_many, zDd⟩
  have zhd := fun_mk (st := s_gram_names) mlGrammar_names mcGrammar_names zad
  have znh := zhd.binds (ps := ["self"]) fun _ _ _ _ _ _ us hl => match us, hl with | [_], _ => rfl
  have zPf : Meth K zfa "names" zOa := ⟨fmGrammar_names, mfGrammar_names, zad⟩
  have zId := fun_mk (st := s_gram_told) mlGrammar_told mcGrammar_told zEd
  have zSh := zId.binds (ps := ["self"]) fun _ _ _ _ _ _ us hl => match us, hl with | [_], _ => rfl
  have zoh : Meth K zfa "told" zVa := ⟨fmGrammar_told, mfGrammar_told, zEd⟩
  have zid := fun_mk (st := s_cell_made) mlCellRule_made mcCellRule_made zbd
  have zph := zid.binds (ps := ["self", "pictures"]) fun _ _ _ _ _ _ us hl => match us, hl with | [_, _], _ => rfl
  have zQf : Meth K zea "made" zPa := ⟨fmCellRule_made, mfCellRule_made, zbd⟩
  have znb := fun_mk (st := s_cell_tw) mlCellRule_turned_whole mcCellRule_turned_whole zlb
  have zMc := znb.binds (ps := ["self", "t"]) fun _ _ _ _ _ _ us hl => match us, hl with | [_, _], _ => rfl
  have zrc : Meth K zea "turned_whole" zma := ⟨fmCellRule_turned_whole, mfCellRule_turned_whole, zlb⟩
  have zPb := fun_mk (st := s_beside_made) mlBesideRule_made mcBesideRule_made zNb
  have zif := zPb.binds (ps := ["self", "pictures"]) fun _ _ _ _ _ _ us hl => match us, hl with | [_, _], _ => rfl
  have zIe : Meth K zaa "made" zAa := ⟨fmBesideRule_made, mfBesideRule_made, zNb⟩
  have zcb := fun_mk (st := s_beside_tw) mlBesideRule_turned_whole mcBesideRule_turned_whole zbb
  have zZb := zcb.binds (ps := ["self", "t"]) fun _ _ _ _ _ _ us hl => match us, hl with | [_, _], _ => rfl
  have zJb : Meth K zaa "turned_whole" zja := ⟨fmBesideRule_turned_whole, mfBesideRule_turned_whole, zbb⟩
  have zsc := fun_mk (st := s_above_made) mlAboveRule_made mcAboveRule_made zpc
  have zRf := zsc.binds (ps := ["self", "pictures"]) fun _ _ _ _ _ _ us hl => match us, hl with | [_, _], _ => rfl
  have zjf : Meth K zba "made" zGa := ⟨fmAboveRule_made, mfAboveRule_made, zpc⟩
  have zhb := fun_mk (st := s_above_tw) mlAboveRule_turned_whole mcAboveRule_turned_whole zfb
  have ztc := zhb.binds (ps := ["self", "t"]) fun _ _ _ _ _ _ us hl => match us, hl with | [_, _], _ => rfl
  have zac : Meth K zba "turned_whole" zla := ⟨fmAboveRule_turned_whole, mfAboveRule_turned_whole, zfb⟩
  have zjd := fun_mk (st := s_turn_made) mlTurnRule_made mcTurnRule_made zcd
  have zqh := zjd.binds (ps := ["self", "pictures"]) fun _ _ _ _ _ _ us hl => match us, hl with | [_, _], _ => rfl
  have zSf : Meth K zda "made" zQa := ⟨fmTurnRule_made, mfTurnRule_made, zcd⟩
  have zob := fun_mk (st := s_turn_tw) mlTurnRule_turned_whole mcTurnRule_turned_whole zmb
  have zNc := zob.binds (ps := ["self", "t"]) fun _ _ _ _ _ _ us hl => match us, hl with | [_, _], _ => rfl
  have zuc : Meth K zda "turned_whole" zna := ⟨fmTurnRule_turned_whole, mfTurnRule_turned_whole, zmb⟩
  have c_only_of : Cal l.prog w K mg base CX0 1 "only_of" ["text", "letters"] (sp_only_of) := ⟨_, _, ok_only_of F1 nb, W.mg_of X G a1, k1, b1⟩
  have c_is_name : Cal l.prog w K mg base CX0 2 "is_name" ["text"] (sp_is_name) := ⟨_, _, ok_is_name F2 nb m_LONGEST_NAME m_CAPITALS c_only_of, W.mg_of X G a2, k2, b2⟩
  have zia : CalC l.prog w K mg base (CX1 l.prog w) 3 "Rule" "__init__" ["self", "name", "cost", "part_names"] (sp_rule_init K zga) := ⟨_, _, _, ok_rule_init zdd nb zRa zBa c_is_name, m_Rule, cf_Rule___init__, zhh⟩
  have zYa : CalK l.prog w K mg base (CX1 l.prog w) 4 "CellRule" zea ["self", "name", "cost", "sign"] (sp_cell_init K zga) := ⟨_, _, ok_cell_init zCb nb m_SMALLS zRa zBa c_only_of zia, zWa, zDi, zle⟩
  have zIa : CalK l.prog w K mg base (CX1 l.prog w) 4 "BesideRule" zaa ["self", "name", "cost", "one", "other"] (sp_pair_init K zga) := ⟨_, _, ok_beside_init zvb nb zia, zli, zVh, zFd⟩
  have zSa : CalK l.prog w K mg base (CX1 l.prog w) 4 "AboveRule" zba ["self", "name", "cost", "one", "other"] (sp_pair_init K zga) := ⟨_, _, ok_above_init zyb nb zia, zEi, zmi, zSd⟩
  have zZa : CalK l.prog w K mg base (CX1 l.prog w) 4 "TurnRule" zda ["self", "name", "cost", "part", "turning"] (sp_turn_init K zga) := ⟨_, _, ok_turn_init zDb nb zRa zBa zia, zQb, zFi, zme⟩
  have cm_head_CellRule : CalM l.prog w K mg base CX0 1 zea "head" ["self"] (sp_rule_head K) := ⟨_, _, ok_rule_head zrb nb, zDa.cl, zJf, zGb⟩
  have cm_head_BesideRule : CalM l.prog w K mg base CX0 1 zaa "head" ["self"] (sp_rule_head K) := ⟨_, _, ok_rule_head zrb nb, zya.cl, zEe, zGb⟩
  have cm_head_AboveRule : CalM l.prog w K mg base CX0 1 zba "head" ["self"] (sp_rule_head K) := ⟨_, _, ok_rule_head zrb nb, zHa.cl, zff, zGb⟩
  have cm_head_TurnRule : CalM l.prog w K mg base CX0 1 zda "head" ["self"] (sp_rule_head K) := ⟨_, _, ok_rule_head zrb nb, zEa.cl, zMf, zGb⟩
  have cp_told : CalP l.prog w K mg base CX0 2 "told" (oTold R) := calP4 ⟨_, _, _, ok_cell_told zed zDa.cl rk.a0 cm_head_CellRule, zDa.cl, zKf, zih⟩ ⟨_, _, _, ok_beside_told zOb zya.cl rk.a1 cm_head_BesideRule, zya.cl, zFe, zef⟩ ⟨_, _, _, ok_above_told zqc zHa.cl rk.a2 cm_head_AboveRule, zHa.cl, zgf, zLf⟩ ⟨_, _, _, ok_turn_told zfd nb zEa.cl rk.a3 cm_head_TurnRule, zEa.cl, zNf, zjh⟩
  have cp_parts : CalP l.prog w K mg base CX0 1 "parts" (oParts K R) := calP4 ⟨_, _, _, ok_rule_parts zgb nb, zDa.cl, zdf, zzb⟩ ⟨_, _, _, ok_rule_parts zgb nb, zya.cl, zne, zzb⟩ ⟨_, _, _, ok_rule_parts zgb nb, zHa.cl, zGe, zzb⟩ ⟨_, _, _, ok_rule_parts zgb nb, zEa.cl, zhf, zzb⟩
  have c_are_signs : Cal l.prog w K mg base CX0 2 "are_signs" ["text"] (sp_are_signs) := ⟨_, _, ok_are_signs F3 nb m_MOST_SIGNS m_SMALLS c_only_of, W.mg_of X G a3, k3, b3⟩
  have c_check_made_of : Cal l.prog w K mg base (CX1 l.prog w) 3 "check_made_of" ["signs", "start", "rules"] (sp_check_made_of R zca) := ⟨_, _, ok_check_made_of F4 nb rk rk4 m_MOST_RULES zWa zwa zra c_are_signs c_is_name, W.mg_of X G a4, k4, b4⟩
  have c_numbers_by_name : Cal l.prog w K mg base CX0 2 "numbers_by_name" ["start", "rules"] (sp_numbers_by_name K R) := ⟨_, _, ok_numbers_by_name F5 nb rk cp_parts, W.mg_of X G a5, k5, b5⟩
  have zib : CalK l.prog w K mg base (CX1 l.prog w) 4 "Grammar" zfa ["self", "signs", "start", "rules"] (sp_gram_init K R zca) := ⟨_, _, ok_gram_init zIb nb m_MOST_NAMES zwa zra c_check_made_of c_numbers_by_name, zOc, zTi, zHe⟩
  have cm_rules : CalM l.prog w K mg base CX0 1 zfa "rules" ["self"] (sp_gram_rules R zfa) := ⟨_, _, ok_gram_rules zgd nb zta.cl gk.na, zta.cl, zOf, zkh⟩
  have cm_rule : CalM l.prog w K mg base CX0 1 zfa "rule" ["self", "k"] (sp_gram_rule R zfa) := ⟨_, _, ok_gram_rule zGd nb zta.cl gk.na, zta.cl, zlh, zQh⟩
  have cm_many : CalM l.prog w K mg base CX0 1 zfa "many" ["self"] (sp_gram_many R zfa) := ⟨_, _, ok_gram_many zHd nb zta.cl gk.na, zta.cl, zmh, zRh⟩
  have cm_names : CalM l.prog w K mg base CX0 1 zfa "names" ["self"] (sp_gram_names R zfa) := ⟨_, _, ok_gram_names zhd nb zta.cl gk.na, zta.cl, zPf, znh⟩
  have cm_told : CalM l.prog w K mg base CX0 3 zfa "told" ["self"] (sp_gram_told R zfa) := ⟨_, _, ok_gram_told zId nb zta.cl gk.na cp_told, zta.cl, zoh, zSh⟩
  have zEb : Cal l.prog w K mg base CX0 1 "_law_mix" ["_law_cell_here", "_law_k"] (sp_l_mix) := ⟨_, _, ok_l_mix F6 nb, W.mg_of X G a6, k6, b6⟩
  have zsb : Cal l.prog w K mg base CX0 2 "_law_cell" ["_law_script", "_law_k"] (sp_l_cell K) := ⟨_, _, ok_l_cell F7 nb zEb, W.mg_of X G a7, k7, b7⟩
  have znf : Cal l.prog w K mg base CX0 1 "_law_pool" ["_law_cell_here", "_law_many"] (sp_l_pool) := ⟨_, _, ok_l_pool F8 nb, W.mg_of X G a8, k8, b8⟩
  have zqe : Cal l.prog w K mg base CX0 1 "_law_signs" ["_law_cell_here"] (sp_l_signs) := ⟨_, _, ok_l_signs F9 nb, W.mg_of X G a9, k9, b9⟩
  have zof : Cal l.prog w K mg base CX0 2 "_law_rows" ["_law_cells", "_law_names", "_law_signs_here"] (sp_l_rows) := ⟨_, _, ok_l_rows F10 nb zEb, W.mg_of X G a10, k10, b10⟩
  have zpf : Cal l.prog w K mg base CX0 6 "_law_rule" ["_law_row"] (sp_l_rule R) := ⟨_, _, ok_l_rule F11 nb rk zYa zIa zSa zZa, W.mg_of X G a11, k11, b11⟩
  have zcc : Cal l.prog w K mg base CX0 1 "_law_row_text" ["_law_row"] (sp_l_row_text) := ⟨_, _, ok_l_row_text F12 nb, W.mg_of X G a12, k12, b12⟩
  have ztb : Cal l.prog w K mg base CX0 2 "_law_grammar_text" ["_law_signs_here", "_law_start", "_law_rows_here"] (sp_l_grammar_text) := ⟨_, _, ok_l_grammar_text F13 nb zcc, W.mg_of X G a13, k13, b13⟩
  have c_beside : Cal l.prog w K mg base (CX1 l.prog w) 1 "beside" ["one", "other"] (sp_beside K zha) := ⟨_, _, ok_beside F14 nb m_MOST zbc zFb, W.mg_of X G a14, k14, b14⟩
  have c_above : Cal l.prog w K mg base (CX1 l.prog w) 1 "above" ["one", "other"] (sp_above K zha) := ⟨_, _, ok_above F15 nb m_MOST zbc zFb, W.mg_of X G a15, k15, b15⟩
  have c_mirror : Cal l.prog w K mg base CX0 1 "mirror" ["picture"] (sp_mirror K) := ⟨_, _, ok_mirror F16 nb, W.mg_of X G a16, k16, b16⟩
  have c_column_from_below : Cal l.prog w K mg base CX0 1 "column_from_below" ["picture", "i"] (sp_column K) := ⟨_, _, ok_column F17 nb, W.mg_of X G a17, k17, b17⟩
  have c_quarter : Cal l.prog w K mg base CX0 2 "quarter" ["picture"] (sp_quarter K) := ⟨_, _, ok_quarter F18 nb c_column_from_below, W.mg_of X G a18, k18, b18⟩
  have zmf : Cal l.prog w K mg base CX0 3 "turned" ["picture", "t"] (sp_turned K) := ⟨_, _, ok_turned F19 nb c_mirror c_quarter, W.mg_of X G a19, k19, b19⟩
  have cp_made : CalP l.prog w K mg base (CX1 l.prog w) 4 "made" (oMade K R zha) := calP4 ⟨_, _, _, (ok_cell_made zid zDa.cl rk.a0.2.2.2).lift.mono (by decide), zDa.cl, zQf, zph⟩ ⟨_, _, _, (ok_beside_made zPb c_beside).mono (by decide), zya.cl, zIe, zif⟩ ⟨_, _, _, (ok_above_made zsc c_above).mono (by decide), zHa.cl, zjf, zRf⟩ ⟨_, _, _, (ok_turn_made zjd zEa.cl rk.a3.2.2.2.2 zmf).lift, zEa.cl, zSf, zqh⟩
  have c_after : Cal l.prog w K mg base CX0 1 "after" ["t", "u"] (sp_after) := ⟨_, _, ok_after F20, W.mg_of X G a20, k20, b20⟩
  have c_back : Cal l.prog w K mg base CX0 1 "back" ["t"] (sp_back) := ⟨_, _, ok_back F21, W.mg_of X G a21, k21, b21⟩
  have zJa : Cal l.prog w K mg base CX0 6 "turned_pair" ["rule", "side_by_side", "t"] (sp_turned_pair R) := ⟨_, _, ok_turned_pair F22 nb rk zIa zSa, W.mg_of X G a22, k22, b22⟩
  have zwb : CalP l.prog w K mg base CX0 7 "turned_whole" (oTw R) := calP4 ⟨_, _, _, (ok_cell_tw znb rk zYa).mono (by decide), zDa.cl, zrc, zMc⟩ ⟨_, _, _, ok_beside_tw zcb zJa, zya.cl, zJb, zZb⟩ ⟨_, _, _, ok_above_tw zhb zJa, zHa.cl, zac, ztc⟩ ⟨_, _, _, (ok_turn_tw zob rk c_after c_back zZa).mono (by decide), zEa.cl, zuc, zNc⟩
  have zpa : Cal l.prog w K mg base CX0 8 "turned_grammar" ["grammar", "t"] (sp_turned_grammar R zfa) := ⟨_, _, ok_turned_grammar F23 nb gk zwb cm_rules zib, W.mg_of X G a23, k23, b23⟩
  have zoe : Cal l.prog w K mg base CX0 1 "_law_mixed" ["_law_cell_here", "_law_k"] (sp_l_mixed) := ⟨_, _, ok_l_mixed F24 nb, W.mg_of X G a24, k24, b24⟩
  have zld : Cal l.prog w K mg base CX0 2 "_law_picture" ["_law_cell_here", "_law_signs_here", "_law_rows_here", "_law_columns"] (sp_l_picture) := ⟨_, _, ok_l_picture F25 nb zoe, W.mg_of X G a25, k25, b25⟩
  have zkd : Cal l.prog w K mg base CX0 1 "_law_quarter" ["_law_rows_here"] (sp_l_quarter K) := ⟨_, _, ok_l_quarter F26 nb, W.mg_of X G a26, k26, b26⟩
  have zXa : Cal l.prog w K mg base CX0 2 "_law_turned" ["_law_rows_here", "_law_t"] (sp_l_turned K) := ⟨_, _, ok_l_turned F27 nb zkd, W.mg_of X G a27, k27, b27⟩
  have zdc : Cal l.prog w K mg base CX0 3 "_law_row_made" ["_law_row", "_law_pictures"] (sp_l_row_made) := ⟨_, _, ok_l_row_made F28 nb zXa, W.mg_of X G a28, k28, b28⟩
  have zpe : Cal l.prog w K mg base CX0 1 "_law_alike" ["_law_rule_here", "_law_row"] (sp_l_alike R) := ⟨_, _, ok_l_alike F29 nb rk rk4 zWa zQb, W.mg_of X G a29, k29, b29⟩
  have zre : Cal l.prog w K mg base CX0 5 "_law_right" ["_law_grammar", "_law_rows_here", "_law_pictures", "_law_t"] (sp_l_right R zfa) := ⟨_, _, ok_l_right F30 nb rk cm_rules cp_parts cp_made zpe zXa zdc, W.mg_of X G a30, k30, b30⟩
  exact ok_law F31 nb gk zOc kg zsb znf zqe zof zld zpf zib zpa zre c_after c_back ztb cm_told
theorem walk {l : W.OpenLaw} {q : Program} {loose : List Str} {XP : (Str → Option Value) → Heap → Prop} {YP : World → Heap → Prop} {d : DefRec} {K : Params → W.Frag} (hn : l.most = some 63) (hdf : d.params.defaults = [])
    (hY : ∀ (w : World) (h : Heap), YP w h → (K w.params).In h)
    (F : ∀ (w : World) (mg : Str → Option Value) (fa : Addr) (h : Heap), (K w.params).In h → h.Ns mainGlobals mg → mg d.name = some (.ref fa) →
      ∃ fd : FuncData, (∀ (s : Shared) (u : Value), BindsTo s fd ⟨[u], []⟩ [("_law_script", u)]) ∧ ∀ base : Heap, (K w.params).In base → base.Ns mainGlobals mg → FnOk l.prog w (K w.params) mg base CX0 9 fa fd ["_law_script"] (sp_law (K w.params))) :
    W.WalkO q loose XP YP l.row.toRowW d [] (fun f vs => PySem.call f vs) :=
  L2.walk_of (n := 63) (k := 9) (x := "_law_script") (CX := fun _ => CX0) (sp := fun w => sp_law (K w.params)) hn (by decide) hdf ⟨rfl, by decide, by decide⟩ hY F (fun _ _ a ns hl _ hS => ⟨a, ns, rfl, hS, fun _ => rfl⟩) fun _ _ _ _ _ z => z
end Q43
open PySem PySem.W PyProof.Rows
local macro_rules | `(tactic| walk_at "kk") => `(tactic| first | k_is | kernel_rfl | rfl | decide +kernel)
set_option maxRecDepth 100000 in
set_option maxHeartbeats 0 in
theorem PySem.Challenge.cw_quiltlaw_k43_grammar_turned_holds : PySem.Challenge.rw_quiltlaw_k43_grammar_turned.Holds := by
  w_on; o_law; k_head; (case hw => w_witness2)
  k_fill
  refine Q43.walk (l := PySem.Challenge.rw_quiltlaw_k43_grammar_turned) rfl rfl (fun w h Y => PySem.W.kIn_of Y) ?F
  case F =>
    intro w mg fa h KX G hmg
    refine' Q43.all_mk KX G hmg ?a1 ?l1 ?c1 ?k1 ?a2 ?l2 ?c2 ?k2 ?a3 ?l3 ?c3 ?k3 ?a4 ?l4 ?c4 ?k4 ?a5 ?l5 ?c5 ?k5 ?a6 ?l6 ?c6 ?k6 ?a7 ?l7 ?c7 ?k7 ?a8 ?l8 ?c8 ?k8 ?a9 ?l9 ?c9 ?k9 ?a10 ?l10 ?c10 ?k10 ?a11 ?l11 ?c11 ?k11 ?a12 ?l12 ?c12 ?k12 ?a13 ?l13 ?c13 ?k13 ?a14 ?l14 ?c14 ?k14 ?a15 ?l15 ?c15 ?k15 ?a16 ?l16 ?c16 ?k16 ?a17 ?l17 ?c17 ?k17 ?a18 ?l18 ?c18 ?k18 ?a19 ?l19 ?c19 ?k19 ?a20 ?l20 ?c20 ?k20 ?a21 ?l21 ?c21 ?k21 ?a22 ?l22 ?c22 ?k22 ?a23 ?l23 ?c23 ?k23 ?a24 ?l24 ?c24 ?k24 ?a25 ?l25 ?c25 ?k25 ?a26 ?l26 ?c26 ?k26 ?a27 ?l27 ?c27 ?k27 ?a28 ?l28 ?c28 ?k28 ?a29 ?l29 ?c29 ?k29 ?a30 ?l30 ?c30 ?k30 ?a31 ?l31 ?c31 ?k31 ?xNoFit ?xlNoFit ?xeNoFit ?xgaNoFit ?xghNoFit ?xmbNoFit ?xmoNoFit ?xhaNoFit ?xhn ?xtk ?xMOST ?xNoRule ?xlNoRule ?xeNoRule ?xgaNoRule ?xghNoRule ?xmbNoRule ?xmoNoRule ?xhaNoRule ?xNoGrammar ?xlNoGrammar ?xeoNoGrammar ?xgaNoGrammar ?xghNoGrammar ?xmbNoGrammar ?xmoNoGrammar ?xhaNoGrammar ?xfiNoGrammar ?xftNoGrammar ?xflNoGrammar ?xfcNoGrammar ?xfkNoGrammar ?xsaNoGrammar ?xstNoGrammar ?xhdNoGrammar ?xobNoGrammar ?xneNoGrammar ?xw_NoGrammar ?xmNoGrammar_NoGrammar ?xCAPITALS ?xSMALLS ?xLONGEST_NAME ?xRule ?spRule ?rdRule ?fcRule___init__ ?mlRule___init__ ?mcRule___init__ ?mkRule___init__ ?mfRule___init__ ?xCellRule ?pgCellRule ?hdCellRule ?poCellRule ?saCellRule ?haCellRule ?moCellRule ?naCellRule_name ?naCellRule_cost ?naCellRule_part_names ?naCellRule_sign ?miCellRule ?fiCellRule ?mlCellRule___init__ ?mcCellRule___init__ ?mkCellRule___init__ ?mfCellRule___init__ ?kcCellRule ?rCellRule ?sCellRule ?xBesideRule ?pgBesideRule ?hdBesideRule ?poBesideRule ?saBesideRule ?haBesideRule ?moBesideRule ?naBesideRule_name ?naBesideRule_cost ?naBesideRule_part_names ?naBesideRule_one ?naBesideRule_other ?miBesideRule ?fiBesideRule ?mlBesideRule___init__ ?mcBesideRule___init__ ?mkBesideRule___init__ ?mfBesideRule___init__ ?kcBesideRule ?rBesideRule ?sBesideRule ?xAboveRule ?pgAboveRule ?hdAboveRule ?poAboveRule ?saAboveRule ?haAboveRule ?moAboveRule ?naAboveRule_name ?naAboveRule_cost ?naAboveRule_part_names ?naAboveRule_one ?naAboveRule_other ?miAboveRule ?fiAboveRule ?mlAboveRule___init__ ?mcAboveRule___init__ ?mkAboveRule___init__ ?mfAboveRule___init__ ?kcAboveRule ?rAboveRule ?sAboveRule ?xTurnRule ?pgTurnRule ?hdTurnRule ?poTurnRule ?saTurnRule ?haTurnRule ?moTurnRule ?naTurnRule_name ?naTurnRule_cost ?naTurnRule_part_names ?naTurnRule_part ?naTurnRule_turning ?miTurnRule ?fiTurnRule ?mlTurnRule___init__ ?mcTurnRule___init__ ?mkTurnRule___init__ ?mfTurnRule___init__ ?kcTurnRule ?rTurnRule ?sTurnRule ?xMOST_SIGNS ?xMOST_RULES ?xMOST_NAMES ?q01 ?q02 ?q03 ?q10 ?q12 ?q13 ?q20 ?q21 ?q23 ?q30 ?q31 ?q32 ?fmCellRule_head ?mlRule_head ?mcRule_head ?mkRule_head ?mfRule_head ?fmCellRule_parts ?mlRule_parts ?mcRule_parts ?mkRule_parts ?mfRule_parts ?fmCellRule_told ?mlCellRule_told ?mcCellRule_told ?mkCellRule_told ?mfCellRule_told ?fmBesideRule_head ?fmBesideRule_parts ?fmBesideRule_told ?mlBesideRule_told ?mcBesideRule_told ?mkBesideRule_told ?mfBesideRule_told ?fmAboveRule_head ?fmAboveRule_parts ?fmAboveRule_told ?mlAboveRule_told ?mcAboveRule_told ?mkAboveRule_told ?mfAboveRule_told ?fmTurnRule_head ?fmTurnRule_parts ?fmTurnRule_told ?mlTurnRule_told ?mcTurnRule_told ?mkTurnRule_told ?mfTurnRule_told ?xGrammar ?pgGrammar ?hdGrammar ?poGrammar ?saGrammar ?haGrammar ?moGrammar ?naGrammar_signs ?naGrammar_start ?naGrammar_kept ?naGrammar_numbers ?miGrammar ?fiGrammar ?mlGrammar___init__ ?mcGrammar___init__ ?mkGrammar___init__ ?mfGrammar___init__ ?kcGrammar ?fmGrammar_rules ?mlGrammar_rules ?mcGrammar_rules ?mkGrammar_rules ?mfGrammar_rules ?fmGrammar_rule ?mlGrammar_rule ?mcGrammar_rule ?mkGrammar_rule ?mfGrammar_rule ?fmGrammar_many ?mlGrammar_many ?mcGrammar_many ?mkGrammar_many ?mfGrammar_many ?fmGrammar_names ?mlGrammar_names ?mcGrammar_names ?mkGrammar_names ?mfGrammar_names ?fmGrammar_told ?mlGrammar_told ?mcGrammar_told ?mkGrammar_told ?mfGrammar_told ?kg ?fmCellRule_made ?mlCellRule_made ?mcCellRule_made ?mkCellRule_made ?mfCellRule_made ?fmCellRule_turned_whole ?mlCellRule_turned_whole ?mcCellRule_turned_whole ?mkCellRule_turned_whole ?mfCellRule_turned_whole ?fmBesideRule_made ?mlBesideRule_made ?mcBesideRule_made ?mkBesideRule_made ?mfBesideRule_made ?fmBesideRule_turned_whole ?mlBesideRule_turned_whole ?mcBesideRule_turned_whole ?mkBesideRule_turned_whole ?mfBesideRule_turned_whole ?fmAboveRule_made ?mlAboveRule_made ?mcAboveRule_made ?mkAboveRule_made ?mfAboveRule_made ?fmAboveRule_turned_whole ?mlAboveRule_turned_whole ?mcAboveRule_turned_whole ?mkAboveRule_turned_whole ?mfAboveRule_turned_whole ?fmTurnRule_made ?mlTurnRule_made ?mcTurnRule_made ?mkTurnRule_made ?mfTurnRule_made ?fmTurnRule_turned_whole ?mlTurnRule_turned_whole ?mcTurnRule_turned_whole ?mkTurnRule_turned_whole ?mfTurnRule_turned_whole ?z0 ?z1 ?z2 ?z3 ?z4 ?z5 ?z6 ?z7 ?z8 ?z9 ?z10 ?z11 ?z12 ?z13 ?z14 ?z15 ?z16 ?z17 ?z18
    (case a1 => k_is); (case l1 => k_is); (case c1 => k_is); (case k1 => k_is); (case a2 => k_is); (case l2 => k_is); (case c2 => k_is); (case k2 => k_is)
    (case a3 => k_is); (case l3 => k_is); (case c3 => k_is); (case k3 => k_is); (case a4 => k_is); (case l4 => k_is); (case c4 => k_is); (case k4 => k_is)
    (case a5 => k_is); (case l5 => k_is); (case c5 => k_is); (case k5 => k_is); (case a6 => k_is); (case l6 => k_is); (case c6 => k_is); (case k6 => k_is)
    (case a7 => k_is); (case l7 => k_is); (case c7 => k_is); (case k7 => k_is); (case a8 => k_is); (case l8 => k_is); (case c8 => k_is); (case k8 => k_is)
    (case a9 => k_is); (case l9 => k_is); (case c9 => k_is); (case k9 => k_is); (case a10 => k_is); (case l10 => k_is); (case c10 => k_is); (case k10 => k_is)
    (case a11 => k_is); (case l11 => k_is); (case c11 => k_is); (case k11 => k_is); (case a12 => k_is); (case l12 => k_is); (case c12 => k_is); (case k12 => k_is)
    (case a13 => k_is); (case l13 => k_is); (case c13 => k_is); (case k13 => k_is); (case a14 => k_is); (case l14 => k_is); (case c14 => k_is); (case k14 => k_is)
    (case a15 => k_is); (case l15 => k_is); (case c15 => k_is); (case k15 => k_is); (case a16 => k_is); (case l16 => k_is); (case c16 => k_is); (case k16 => k_is)
    (case a17 => k_is); (case l17 => k_is); (case c17 => k_is); (case k17 => k_is); (case a18 => k_is); (case l18 => k_is); (case c18 => k_is); (case k18 => k_is)
    (case a19 => k_is); (case l19 => k_is); (case c19 => k_is); (case k19 => k_is); (case a20 => k_is); (case l20 => k_is); (case c20 => k_is); (case k20 => k_is)
    (case a21 => k_is); (case l21 => k_is); (case c21 => k_is); (case k21 => k_is); (case a22 => k_is); (case l22 => k_is); (case c22 => k_is); (case k22 => k_is)
    (case a23 => k_is); (case l23 => k_is); (case c23 => k_is); (case k23 => k_is); (case a24 => k_is); (case l24 => k_is); (case c24 => k_is); (case k24 => k_is)
    (case a25 => k_is); (case l25 => k_is); (case c25 => k_is); (case k25 => k_is); (case a26 => k_is); (case l26 => k_is); (case c26 => k_is); (case k26 => k_is)
    (case a27 => k_is); (case l27 => k_is); (case c27 => k_is); (case k27 => k_is); (case a28 => k_is); (case l28 => k_is); (case c28 => k_is); (case k28 => k_is)
    (case a29 => k_is); (case l29 => k_is); (case c29 => k_is); (case k29 => k_is); (case a30 => k_is); (case l30 => k_is); (case c30 => k_is); (case k30 => k_is)
    (case a31 => k_is); (case l31 => k_is); (case c31 => k_is); (case k31 => k_is); (case xNoFit => walk_at "kk"); (case xlNoFit => walk_at "kk"); (case xeNoFit => walk_at "kk"); (case xgaNoFit => walk_at "kk")
    (case xghNoFit => walk_at "kk"); (case xmbNoFit => walk_at "kk"); (case xmoNoFit => walk_at "kk"); (case xhaNoFit => walk_at "kk"); (case xhn => walk_at "kk"); (case xtk => walk_at "kk"); (case xMOST => walk_at "kk"); (case xNoRule => walk_at "kk")
    (case xlNoRule => walk_at "kk"); (case xeNoRule => walk_at "kk"); (case xgaNoRule => walk_at "kk"); (case xghNoRule => walk_at "kk"); (case xmbNoRule => walk_at "kk"); (case xmoNoRule => walk_at "kk"); (case xhaNoRule => walk_at "kk"); (case xNoGrammar => walk_at "kk")
    (case xlNoGrammar => walk_at "kk"); (case xeoNoGrammar => walk_at "kk"); (case xgaNoGrammar => walk_at "kk"); (case xghNoGrammar => walk_at "kk"); (case xmbNoGrammar => walk_at "kk"); (case xmoNoGrammar => walk_at "kk"); (case xhaNoGrammar => walk_at "kk"); (case xfiNoGrammar => walk_at "kk")
    (case xftNoGrammar => walk_at "kk"); (case xflNoGrammar => walk_at "kk"); (case xfcNoGrammar => walk_at "kk"); (case xfkNoGrammar => walk_at "kk"); (case xsaNoGrammar => walk_at "kk"); (case xstNoGrammar => walk_at "kk"); (case xhdNoGrammar => walk_at "kk"); (case xobNoGrammar => walk_at "kk")
    (case xneNoGrammar => walk_at "kk"); (case xw_NoGrammar => walk_at "kk"); (case xmNoGrammar_NoGrammar => walk_at "kk"); (case xCAPITALS => walk_at "kk"); (case xSMALLS => walk_at "kk"); (case xLONGEST_NAME => walk_at "kk"); (case xRule => walk_at "kk"); (case spRule => walk_at "kk")
    (case rdRule => walk_at "kk"); (case fcRule___init__ => walk_at "kk"); (case mlRule___init__ => walk_at "kk"); (case mcRule___init__ => walk_at "kk"); (case mkRule___init__ => walk_at "kk"); (case mfRule___init__ => walk_at "kk"); (case xCellRule => walk_at "kk"); (case pgCellRule => walk_at "kk")
    (case hdCellRule => walk_at "kk"); (case poCellRule => walk_at "kk"); (case saCellRule => walk_at "kk"); (case haCellRule => walk_at "kk"); (case moCellRule => walk_at "kk"); (case naCellRule_name => walk_at "kk"); (case naCellRule_cost => walk_at "kk"); (case naCellRule_part_names => walk_at "kk")
    (case naCellRule_sign => walk_at "kk"); (case miCellRule => walk_at "kk"); (case fiCellRule => walk_at "kk"); (case mlCellRule___init__ => walk_at "kk"); (case mcCellRule___init__ => walk_at "kk"); (case mkCellRule___init__ => walk_at "kk"); (case mfCellRule___init__ => walk_at "kk"); (case kcCellRule => walk_at "kk")
    (case rCellRule => walk_at "kk"); (case sCellRule => walk_at "kk"); (case xBesideRule => walk_at "kk"); (case pgBesideRule => walk_at "kk"); (case hdBesideRule => walk_at "kk"); (case poBesideRule => walk_at "kk"); (case saBesideRule => walk_at "kk"); (case haBesideRule => walk_at "kk")
    (case moBesideRule => walk_at "kk"); (case naBesideRule_name => walk_at "kk"); (case naBesideRule_cost => walk_at "kk"); (case naBesideRule_part_names => walk_at "kk"); (case naBesideRule_one => walk_at "kk"); (case naBesideRule_other => walk_at "kk"); (case miBesideRule => walk_at "kk"); (case fiBesideRule => walk_at "kk")
    (case mlBesideRule___init__ => walk_at "kk"); (case mcBesideRule___init__ => walk_at "kk"); (case mkBesideRule___init__ => walk_at "kk"); (case mfBesideRule___init__ => walk_at "kk"); (case kcBesideRule => walk_at "kk"); (case rBesideRule => walk_at "kk"); (case sBesideRule => walk_at "kk"); (case xAboveRule => walk_at "kk")
    (case pgAboveRule => walk_at "kk"); (case hdAboveRule => walk_at "kk"); (case poAboveRule => walk_at "kk"); (case saAboveRule => walk_at "kk"); (case haAboveRule => walk_at "kk"); (case moAboveRule => walk_at "kk"); (case naAboveRule_name => walk_at "kk"); (case naAboveRule_cost => walk_at "kk")
    (case naAboveRule_part_names => walk_at "kk"); (case naAboveRule_one => walk_at "kk"); (case naAboveRule_other => walk_at "kk"); (case miAboveRule => walk_at "kk"); (case fiAboveRule => walk_at "kk"); (case mlAboveRule___init__ => walk_at "kk"); (case mcAboveRule___init__ => walk_at "kk"); (case mkAboveRule___init__ => walk_at "kk")
    (case mfAboveRule___init__ => walk_at "kk"); (case kcAboveRule => walk_at "kk"); (case rAboveRule => walk_at "kk"); (case sAboveRule => walk_at "kk"); (case xTurnRule => walk_at "kk"); (case pgTurnRule => walk_at "kk"); (case hdTurnRule => walk_at "kk"); (case poTurnRule => walk_at "kk")
    (case saTurnRule => walk_at "kk"); (case haTurnRule => walk_at "kk"); (case moTurnRule => walk_at "kk"); (case naTurnRule_name => walk_at "kk"); (case naTurnRule_cost => walk_at "kk"); (case naTurnRule_part_names => walk_at "kk"); (case naTurnRule_part => walk_at "kk"); (case naTurnRule_turning => walk_at "kk")
    (case miTurnRule => walk_at "kk"); (case fiTurnRule => walk_at "kk"); (case mlTurnRule___init__ => walk_at "kk"); (case mcTurnRule___init__ => walk_at "kk"); (case mkTurnRule___init__ => walk_at "kk"); (case mfTurnRule___init__ => walk_at "kk"); (case kcTurnRule => walk_at "kk"); (case rTurnRule => walk_at "kk")
    (case sTurnRule => walk_at "kk"); (case xMOST_SIGNS => walk_at "kk"); (case xMOST_RULES => walk_at "kk"); (case xMOST_NAMES => walk_at "kk"); (case q01 => walk_at "kk"); (case q02 => walk_at "kk"); (case q03 => walk_at "kk"); (case q10 => walk_at "kk")
    (case q12 => walk_at "kk"); (case q13 => walk_at "kk"); (case q20 => walk_at "kk"); (case q21 => walk_at "kk"); (case q23 => walk_at "kk"); (case q30 => walk_at "kk"); (case q31 => walk_at "kk"); (case q32 => walk_at "kk")
    (case fmCellRule_head => walk_at "kk"); (case mlRule_head => walk_at "kk"); (case mcRule_head => walk_at "kk"); (case mkRule_head => walk_at "kk"); (case mfRule_head => walk_at "kk"); (case fmCellRule_parts => walk_at "kk"); (case mlRule_parts => walk_at "kk"); (case mcRule_parts => walk_at "kk")
    (case mkRule_parts => walk_at "kk"); (case mfRule_parts => walk_at "kk"); (case fmCellRule_told => walk_at "kk"); (case mlCellRule_told => walk_at "kk"); (case mcCellRule_told => walk_at "kk"); (case mkCellRule_told => walk_at "kk"); (case mfCellRule_told => walk_at "kk"); (case fmBesideRule_head => walk_at "kk")
    (case fmBesideRule_parts => walk_at "kk"); (case fmBesideRule_told => walk_at "kk"); (case mlBesideRule_told => walk_at "kk"); (case mcBesideRule_told => walk_at "kk"); (case mkBesideRule_told => walk_at "kk"); (case mfBesideRule_told => walk_at "kk"); (case fmAboveRule_head => walk_at "kk"); (case fmAboveRule_parts => walk_at "kk")
    (case fmAboveRule_told => walk_at "kk"); (case mlAboveRule_told => walk_at "kk"); (case mcAboveRule_told => walk_at "kk"); (case mkAboveRule_told => walk_at "kk"); (case mfAboveRule_told => walk_at "kk"); (case fmTurnRule_head => walk_at "kk"); (case fmTurnRule_parts => walk_at "kk"); (case fmTurnRule_told => walk_at "kk")
    (case mlTurnRule_told => walk_at "kk"); (case mcTurnRule_told => walk_at "kk"); (case mkTurnRule_told => walk_at "kk"); (case mfTurnRule_told => walk_at "kk"); (case xGrammar => walk_at "kk"); (case pgGrammar => walk_at "kk"); (case hdGrammar => walk_at "kk"); (case poGrammar => walk_at "kk")
    (case saGrammar => walk_at "kk"); (case haGrammar => walk_at "kk"); (case moGrammar => walk_at "kk"); (case naGrammar_signs => walk_at "kk"); (case naGrammar_start => walk_at "kk"); (case naGrammar_kept => walk_at "kk"); (case naGrammar_numbers => walk_at "kk"); (case miGrammar => walk_at "kk")
    (case fiGrammar => walk_at "kk"); (case mlGrammar___init__ => walk_at "kk"); (case mcGrammar___init__ => walk_at "kk"); (case mkGrammar___init__ => walk_at "kk"); (case mfGrammar___init__ => walk_at "kk"); (case kcGrammar => walk_at "kk"); (case fmGrammar_rules => walk_at "kk"); (case mlGrammar_rules => walk_at "kk")
    (case mcGrammar_rules => walk_at "kk"); (case mkGrammar_rules => walk_at "kk"); (case mfGrammar_rules => walk_at "kk"); (case fmGrammar_rule => walk_at "kk"); (case mlGrammar_rule => walk_at "kk"); (case mcGrammar_rule => walk_at "kk"); (case mkGrammar_rule => walk_at "kk"); (case mfGrammar_rule => walk_at "kk")
    (case fmGrammar_many => walk_at "kk"); (case mlGrammar_many => walk_at "kk"); (case mcGrammar_many => walk_at "kk"); (case mkGrammar_many => walk_at "kk"); (case mfGrammar_many => walk_at "kk"); (case fmGrammar_names => walk_at "kk"); (case mlGrammar_names => walk_at "kk"); (case mcGrammar_names => walk_at "kk")
    (case mkGrammar_names => walk_at "kk"); (case mfGrammar_names => walk_at "kk"); (case fmGrammar_told => walk_at "kk"); (case mlGrammar_told => walk_at "kk"); (case mcGrammar_told => walk_at "kk"); (case mkGrammar_told => walk_at "kk"); (case mfGrammar_told => walk_at "kk"); (case kg => walk_at "kk")
    (case fmCellRule_made => walk_at "kk"); (case mlCellRule_made => walk_at "kk"); (case mcCellRule_made => walk_at "kk"); (case mkCellRule_made => walk_at "kk"); (case mfCellRule_made => walk_at "kk"); (case fmCellRule_turned_whole => walk_at "kk"); (case mlCellRule_turned_whole => walk_at "kk"); (case mcCellRule_turned_whole => walk_at "kk")
    (case mkCellRule_turned_whole => walk_at "kk"); (case mfCellRule_turned_whole => walk_at "kk"); (case fmBesideRule_made => walk_at "kk"); (case mlBesideRule_made => walk_at "kk"); (case mcBesideRule_made => walk_at "kk"); (case mkBesideRule_made => walk_at "kk"); (case mfBesideRule_made => walk_at "kk"); (case fmBesideRule_turned_whole => walk_at "kk")
    (case mlBesideRule_turned_whole => walk_at "kk"); (case mcBesideRule_turned_whole => walk_at "kk"); (case mkBesideRule_turned_whole => walk_at "kk"); (case mfBesideRule_turned_whole => walk_at "kk"); (case fmAboveRule_made => walk_at "kk"); (case mlAboveRule_made => walk_at "kk"); (case mcAboveRule_made => walk_at "kk"); (case mkAboveRule_made => walk_at "kk")
    (case mfAboveRule_made => walk_at "kk"); (case fmAboveRule_turned_whole => walk_at "kk"); (case mlAboveRule_turned_whole => walk_at "kk"); (case mcAboveRule_turned_whole => walk_at "kk"); (case mkAboveRule_turned_whole => walk_at "kk"); (case mfAboveRule_turned_whole => walk_at "kk"); (case fmTurnRule_made => walk_at "kk"); (case mlTurnRule_made => walk_at "kk")
    (case mcTurnRule_made => walk_at "kk"); (case mkTurnRule_made => walk_at "kk"); (case mfTurnRule_made => walk_at "kk"); (case fmTurnRule_turned_whole => walk_at "kk"); (case mlTurnRule_turned_whole => walk_at "kk"); (case mcTurnRule_turned_whole => walk_at "kk"); (case mkTurnRule_turned_whole => walk_at "kk"); (case mfTurnRule_turned_whole => walk_at "kk")
    (case z0 => k_is); (case z1 => k_is); (case z2 => k_is); (case z3 => k_is); (case z4 => k_is); (case z5 => k_is); (case z6 => k_is); (case z7 => k_is)
    (case z8 => k_is); (case z9 => k_is); (case z10 => k_is); (case z11 => k_is); (case z12 => k_is); (case z13 => k_is); (case z14 => k_is); (case z15 => k_is)
    (case z16 => k_is); (case z17 => k_is); (case z18 => k_is)
