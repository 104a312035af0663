import PyProof.Rows.All
import Wide.All
import OpenK.AllK
import Wide.FinOn
import Lean
import PyProof.EqAt
import PyProof.EqKinds
import PyProof.TupleCall
import PySem.Challenge.RW_voucherstack_k45_rules_read
set_option Elab.async false
set_option linter.all false
set_option compiler.extract_closed false
set_option maxHeartbeats 4000000
set_option maxRecDepth 100000
namespace PySem.W.Fast
def tw10891832162847521679:=Nat
def tw8205921478930665647:=Nat
def tw4125366037688262095:=Nat
def tw7763899285281672527:=Nat
def tw15029859658887854703:=Nat
def tw12917602261620915119:=Nat
def tw6990771862922980847:=Nat
def tw12996529852237374959:=Nat
def tw16014629909880642031:=Nat
def tw16117101471947578159:=Nat
def tw2735950946520093487:=Nat
def tw12568553590447402063:=Nat
def tw17360954937172739151:=Nat
def tw12919030836724000111:=Nat
def tw4351698689999212943:=Nat
def tw18176348818000382351:=Nat
def tw7060385967723963791:=Nat
def tw8388551247895793903:=Nat
def tw13277521807035383343:=Nat
def tw6675016913736227663:=Nat
def tw13758886572044511055:=Nat
def tw14720310561434911567:=Nat
def tw5274323582478993231:=Nat
def tw11281166094575822959:=Nat
def tw15722570886316303471:=Nat
def tw8526556107057633423:=Nat
def tw12762170892830866863:=Nat
def tw3914406624783610863:=Nat
def tw7238199903790224975:=Nat
def tw14370623580232250223:=Nat
def tw3315807339538290543:=Nat
def tw3480722528122395503:=Nat
def tw13921026743781489350:=Nat
def tw6225532646710409926:=Nat
def tw10114581784142391270:=Nat
def tw13092458314787671302:=Nat
def tw14750715127685337350:=Nat
def tw15829146534619486502:=Nat
def tw6562163041563323974:=Nat
def tw10323030359388251718:=Nat
def tw13326879605935550310:=Nat
def tw12646201633312866470:=Nat
def tw13434053614691055782:=Nat
def tw2678024054365153734:=Nat
def tw17651009731352378086:=Nat
def tw17635371195831389510:=Nat
def tw3553067781159141254:=Nat
def tw3817821955130038182:=Nat
def tw3950208620310107622:=Nat
def tw6663884981914486566:=Nat
def tw1154789214664153894:=Nat
def tw17663733220292016198:=Nat
def tw7714284404807913830:=Nat
def tw14870904656566379462:=Nat
def tw2184249255590281158:=Nat
def tw11585649523587300294:=Nat
def tw17688860007147443142:=Nat
def tw447093242552960518:=Nat
def tw4661913934292462982:=Nat
def tw2121349194463633830:=Nat
def tw1140207687960164541:=Nat
def tw7827199926834777277:=Nat
def tw4304239475801117149:=Nat
def tw15490462642937693661:=Nat
def tw16596641175946223069:=Nat
def tw4011314796010634301:=Nat
def tw14261395577504839005:=Nat
def tw9983935760241172829:=Nat
def tw12541263485161198205:=Nat
def tw3013017930218729373:=Nat
def tw11131438894556832701:=Nat
def tw7409449517156564925:=Nat
def tw5427752009003261149:=Nat
def tw17039802215442961917:=Nat
def tw13402522320126215837:=Nat
def tw4811901259312654301:=Nat
def tw2949498761637404189:=Nat
def tw8462681007095224893:=Nat
def tw1887009147814325085:=Nat
def tw15673245096592354141:=Nat
def tw2955376334476329085:=Nat
def tw17081802016425712061:=Nat
def tw15151388737255375293:=Nat
def tw17944799468427730365:=Nat
def tw1445692441522581213:=Nat
def tw13195202737579115229:=Nat
def tw11536218870955491037:=Nat
def tw7010526503082130429:=Nat
def tw11404760823959024637:=Nat
def tw9660912392891133213:=Nat
def tw2911320888559986973:=Nat
def tw18405930110733475709:=Nat
def tw3188100966474836500:=Nat
def tw16019340086341950996:=Nat
def tw12595480688123338580:=Nat
def tw5417864108911599316:=Nat
def tw16881123178058997748:=Nat
def tw909209579666521076:=Nat
def tw9254505162750572084:=Nat
def tw2913251735764065844:=Nat
def tw13317453229417335380:=Nat
def tw4822694746110587764:=Nat
def tw13361512355217181844:=Nat
def tw14970073533921190324:=Nat
def tw16255528225217334740:=Nat
def tw15097151832389050100:=Nat
def tw2555765356103515764:=Nat
def tw9140988504525319348:=Nat
def tw13342077861458292948:=Nat
def tw4353868233986003444:=Nat
def tw4478221943781944084:=Nat
def tw13781860696532641876:=Nat
def tw14258859123568034900:=Nat
def tw12967348301036314611:=Nat
def tw6634899264410076467:=Nat
def tw4373041477043209523:=Nat
def tw2815197545554746675:=Nat
def tw14702387184267075635:=Nat
def tw8379114615066680659:=Nat
def tw5471733285990082195:=Nat
def tw1031769153753950867:=Nat
def tw10903336093356984243:=Nat
def tw13943940324916339923:=Nat
def tw3911240729315104563:=Nat
def tw12124372697101007219:=Nat
def tw14097661504929121555:=Nat
def tw16080738308621765907:=Nat
def tw10797328515250830899:=Nat
def tw10884504835522081619:=Nat
def tw11047751347631091827:=Nat
def tw18049346029238642890:=Nat
def tw3981664305713050090:=Nat
def tw12993480101637167594:=Nat
def tw16074364638510360330:=Nat
def tw1580821563346652234:=Nat
def tw17777448705439763082:=Nat
def tw17052796983068791434:=Nat
def tw15583261048998747082:=Nat
def tw16293240915958999274:=Nat
def tw15688806055493148170:=Nat
def tw7991381263852058442:=Nat
def tw18208548051911198538:=Nat
def tw16177564472515902282:=Nat
def tw383423134575877226:=Nat
def tw12307263872765737386:=Nat
def tw11850468176616010314:=Nat
def tw8890067713494089578:=Nat
def tw10296619520700962666:=Nat
def tw3702636365320745834:=Nat
def tw4500830113821270154:=Nat
def tw10265172942697640106:=Nat
def tw4783908821541004746:=Nat
def tw5989964689434597098:=Nat
def tw12863423857544739882:=Nat
def tw10959502279142616385:=Nat
def tw12414909999554087841:=Nat
def tw10973713330888040641:=Nat
def tw2321890973721436353:=Nat
def tw251693618919451137:=Nat
def tw772657874765288961:=Nat
def tw15549063411931563809:=Nat
def tw9143438935812720737:=Nat
def tw946666905105473633:=Nat
def tw10336500330731997569:=Nat
def tw4603454429747954337:=Nat
def tw15107956728174687201:=Nat
def tw16447386301716905953:=Nat
def tw2993589644520889473:=Nat
def tw12101052481348987297:=Nat
def tw5111093149239417569:=Nat
def tw4550551621403207681:=Nat
def tw14259238945965199361:=Nat
def tw11314678246958923041:=Nat
def tw7471782390009903681:=Nat
def tw12682829802529747521:=Nat
def tw11035741090231338881:=Nat
def tw9183540738264401345:=Nat
def tw12678559733846235617:=Nat
def tw9573448417746933505:=Nat
def tw15635021653711906561:=Nat
def tw15865710152223597601:=Nat
def tw9157589350751304737:=Nat
def tw15663630889631930456:=Nat
def tw14378632588247297144:=Nat
def tw12544126094507759576:=Nat
def tw403469109178599704:=Nat
def tw9513884694578321976:=Nat
def tw10363861559899566648:=Nat
def tw6079156697666800184:=Nat
def tw12613960377730603896:=Nat
def tw12628102944767399064:=Nat
def tw12255659254239988888:=Nat
def tw2154145614821177048:=Nat
def tw12994980737285001976:=Nat
def tw10926737936791278328:=Nat
def tw10130480449728179960:=Nat
def tw660990302595897368:=Nat
def tw14604571660382628760:=Nat
def tw18135836161813606872:=Nat
def tw17223318302666654168:=Nat
def tw3019469949455086360:=Nat
def tw1916129475366820216:=Nat
def tw1000842258696149368:=Nat
def tw3704838835784390008:=Nat
def tw9308976407678652887:=Nat
def tw3212918311393277687:=Nat
def tw472602114130254167:=Nat
def tw14267397464398516855:=Nat
def tw17440565668709887607:=Nat
def tw7046939658872891319:=Nat
def tw18058020925672519607:=Nat
def tw11294671346631836439:=Nat
def tw12493575998441812055:=Nat
def tw1189539267523017815:=Nat
def tw9929082231814192823:=Nat
def tw11230721723131433943:=Nat
def tw3127482724838381079:=Nat
def tw6414095585446062615:=Nat
def tw1181643626572399127:=Nat
def tw14371329252656936503:=Nat
def tw17486924553695584823:=Nat
def tw6413406722038281655:=Nat
def tw11070629219782796279:=Nat
def tw15460715612218767639:=Nat
def tw8339506708182586647:=Nat
def tw18318756707950350615:=Nat
def tw8022574053685436727:=Nat
def tw12086055875710105966:=Nat
def tw14677674703312933230:=Nat
def tw5618704081367992974:=Nat
def tw11867774271635991182:=Nat
def tw14662796988938758670:=Nat
def tw15200283316858162990:=Nat
def tw2433751605603644526:=Nat
def tw15328714800068425390:=Nat
def tw17257756357986011854:=Nat
def tw7913487494982484974:=Nat
def tw9682464776232955886:=Nat
def tw4762493607081529614:=Nat
def tw2027890759060547854:=Nat
def tw47161570704036718:=Nat
def tw2420187410074616686:=Nat
def tw3421782300755063950:=Nat
def tw15472832328593567886:=Nat
def tw12340193212181549070:=Nat
def tw4635823014501852462:=Nat
def tw18429356701781453102:=Nat
def tw7213798057053142318:=Nat
def tw11733010074683813198:=Nat
def tw10562180289629063342:=Nat
def tw6460456378033172654:=Nat
def tw834649287068003534:=Nat
def tw3104085137606496750:=Nat
def tw14481191599206851054:=Nat
def tw466552999653821486:=Nat
def tw4690365415497170053:=Nat
def tw13980391716373973125:=Nat
def tw4174351403395228357:=Nat
def tw15089149639592806085:=Nat
def tw1047169307133417189:=Nat
def tw5421079637615113093:=Nat
def tw10536315786308224165:=Nat
def tw7081219217070067141:=Nat
def tw5343293065085866469:=Nat
def tw7993358469165024741:=Nat
def tw14790328825060177381:=Nat
def tw7601485478738791909:=Nat
def tw5789531465213741093:=Nat
def tw6310702670083243333:=Nat
def tw7071702286961227077:=Nat
def tw6773530256975149701:=Nat
def tw13861638413835968133:=Nat
def tw8953054115125885861:=Nat
def tw3230255935634896069:=Nat
def tw14867779229519569989:=Nat
def tw9437125512719922277:=Nat
def tw7874091595998357893:=Nat
def tw10385178431912962437:=Nat
def tw13176548739873058469:=Nat
def tw5754295190014058437:=Nat
def tw17449641897893137788:=Nat
def tw7344481309288299740:=Nat
def tw3153598760386040636:=Nat
def tw8167933767058860124:=Nat
def tw15750463272130842748:=Nat
def tw557800904671392444:=Nat
def tw1326919124409768924:=Nat
def tw2258593686898844636:=Nat
def tw5849149631420937180:=Nat
def tw17732300699792209884:=Nat
def tw6635356975490421724:=Nat
def tw12527379406950342492:=Nat
def tw10519803351992640348:=Nat
def tw17138128272288735676:=Nat
def tw12582483905660042972:=Nat
def tw7151346068378958876:=Nat
def tw10000473865394507068:=Nat
def tw11192207417348626012:=Nat
def tw13045148607265153628:=Nat
def tw15924254888507374492:=Nat
def tw16421494399651180444:=Nat
def tw9617132747901357244:=Nat
def tw3423665176513870012:=Nat
def tw6056029131129928188:=Nat
def tw12651480319358766588:=Nat
def tw10625121284533075740:=Nat
def tw17166262168132331292:=Nat
def tw16576805125047158556:=Nat
def tw5923337977515078716:=Nat
def tw6292772210794946620:=Nat
def tw17805204519472412955:=Nat
def tw11426107929586903643:=Nat
def tw8961496663214428027:=Nat
def tw11403076821752195099:=Nat
def tw8796100428091466779:=Nat
def tw18090807682035260763:=Nat
def tw1869324414925723995:=Nat
def tw5135736572065235579:=Nat
def tw13343983028027684475:=Nat
def tw8935234141450513339:=Nat
def tw13042987009090369755:=Nat
def tw2488668148265196763:=Nat
def tw9774171697980739067:=Nat
def tw15698690082600969019:=Nat
def tw4090890459014202459:=Nat
def tw3031157900614732155:=Nat
def tw8124644221008253179:=Nat
def tw9487836372720062715:=Nat
def tw7691898122354419227:=Nat
def tw3065183089253288475:=Nat
def tw164787516728447835:=Nat
def tw12253003181905998971:=Nat
def tw13320229121842498971:=Nat
def tw1583082192504555227:=Nat
def tw8954937720878738642:=Nat
def tw4643641504793591570:=Nat
def tw6336810315096831058:=Nat
def tw18254640258553435794:=Nat
def tw11690546079099957906:=Nat
def tw13044338302448507538:=Nat
def tw17462214875643844242:=Nat
def tw15690082421701309362:=Nat
def tw493912871080457170:=Nat
def tw17644102203623948242:=Nat
def tw1669564008409280018:=Nat
def tw8070561562121879058:=Nat
def tw11242382462594640402:=Nat
def tw6534638269923451698:=Nat
def tw12761712647346565970:=Nat
def tw17875217992876123986:=Nat
def tw1927804982681963218:=Nat
def tw2576865675407354130:=Nat
def tw1703398147701914194:=Nat
def tw4179403959270058450:=Nat
def tw6004682707738375634:=Nat
def tw9737242364353111794:=Nat
def tw10098641603088904210:=Nat
def tw11046849234308919314:=Nat
def tw5394526506303646002:=Nat
def tw6004625546920555698:=Nat
def tw16701378434368947881:=Nat
def tw13289688069668668681:=Nat
def tw9054799140208093033:=Nat
def tw1474243260737092745:=Nat
def tw15565610502640361193:=Nat
def tw1935916103710862345:=Nat
def tw16894146059907710441:=Nat
def tw12107526965478557161:=Nat
def tw17320941017906573961:=Nat
def tw11319303867104629961:=Nat
def tw12733668384243040457:=Nat
def tw15408887054200226025:=Nat
def tw7925368042667894281:=Nat
def tw17840212178563232553:=Nat
def tw7164401465345759305:=Nat
def tw8759779739261265001:=Nat
def tw8247423950291047529:=Nat
def tw11616818752273162345:=Nat
def tw12983577058836091273:=Nat
def tw912186354986331529:=Nat
def tw6292235332581950857:=Nat
def tw3830430188680812704:=Nat
def tw4147172054237745600:=Nat
def tw88063179690124736:=Nat
def tw13330442626456223456:=Nat
def tw1020594836707305216:=Nat
def tw3617444270187431968:=Nat
def tw6003258108348354880:=Nat
def tw6376334250559595104:=Nat
def tw7602320758946591936:=Nat
def tw10992941346252378176:=Nat
def tw16357710459693451616:=Nat
def tw11684820928529727840:=Nat
def tw13597934890418969952:=Nat
def tw1164568200766807424:=Nat
def tw11078359832463643296:=Nat
def tw1495973284965917952:=Nat
def tw15637743083601356320:=Nat
def tw16677949721291169600:=Nat
def tw5472503011569244256:=Nat
def tw8073348059362966656:=Nat
def tw11314527338411894176:=Nat
def tw889705868374196224:=Nat
def tw14370488679881809184:=Nat
def tw201112943527709536:=Nat
def tw15598745593903741727:=Nat
def tw13598295994346881823:=Nat
def tw4403616445492249983:=Nat
def tw4600893715883540127:=Nat
def tw3481125642421782495:=Nat
def tw2363476461658947551:=Nat
def tw16738802809170340383:=Nat
def tw6456229382141864479:=Nat
def tw6583059497908401695:=Nat
def tw7583253911553056191:=Nat
def tw11771786638190741503:=Nat
def tw16838607783343589375:=Nat
def tw10522808958651416895:=Nat
def tw5383940708330879871:=Nat
def tw13940807443798281087:=Nat
def tw16939963862100655999:=Nat
def tw2421380606649744575:=Nat
def tw550970613757312479:=Nat
def tw17833299349283812095:=Nat
def tw17281034017135819807:=Nat
def tw1517375393440214367:=Nat
def tw5286631185430878847:=Nat
def tw17832646336276477855:=Nat
def tw992578291410507126:=Nat
def tw16496239058014000790:=Nat
def tw14188994159716540630:=Nat
def tw4141486778271463222:=Nat
def tw1134355931635142742:=Nat
def tw18008403900301762646:=Nat
def tw12511479064813894742:=Nat
def tw15601038672103190646:=Nat
def tw5299695273483502998:=Nat
def tw756343350686418326:=Nat
def tw2693249061775602646:=Nat
def tw1035959643508858870:=Nat
def tw2011555492112828246:=Nat
def tw8179984010025559478:=Nat
def tw9280559720540160438:=Nat
def tw5117503310810416566:=Nat
def tw4435536550739958806:=Nat
def tw9735821931208282710:=Nat
def tw12021309773596684918:=Nat
def tw7394711482365575798:=Nat
def tw9531923861127612310:=Nat
def tw6923828956726058166:=Nat
def tw15484327021457262774:=Nat
def tw11920347305827331542:=Nat
def tw3813410779409231638:=Nat
def tw10773560197866110006:=Nat
def tw1713719311164216662:=Nat
def tw13426165663420723542:=Nat
def tw7171795642936334445:=Nat
def tw7926837570122743213:=Nat
def tw13572190104796226573:=Nat
def tw7206778218585899309:=Nat
def tw17258161852213530925:=Nat
def tw15535141418324576845:=Nat
def tw8884381631845321293:=Nat
def tw502495836982246989:=Nat
def tw10412657837850371981:=Nat
def tw11539796253598170573:=Nat
def tw14066418565532519149:=Nat
def tw1690556929594071821:=Nat
def tw524048258799688333:=Nat
def tw15982107626169768877:=Nat
def tw7194236489510154445:=Nat
def tw15451142527754384749:=Nat
def tw5720408105953493389:=Nat
def tw17843169904580934029:=Nat
def tw7307169189179478989:=Nat
def tw5187851378665936109:=Nat
def tw11337560497185653293:=Nat
def tw14843347528962581828:=Nat
def tw3906453053357832964:=Nat
def tw8669215622948848420:=Nat
def tw5075138786544600868:=Nat
def tw8676383313225913412:=Nat
def tw5806640567653160004:=Nat
def tw14901276094066464836:=Nat
def tw13715859635340528996:=Nat
def tw14459524483717283460:=Nat
def tw11371428006593430020:=Nat
def tw8661331799219899908:=Nat
def tw12483065339515936260:=Nat
def tw6952005599824648004:=Nat
def tw4698872473200378980:=Nat
def tw1037332379286702180:=Nat
def tw3580542493968091524:=Nat
def tw18272578698108203428:=Nat
def tw16122719051663199940:=Nat
def tw7693210366351761092:=Nat
def tw17457693847405686756:=Nat
def tw10267624684649909220:=Nat
def tw18193419165384346596:=Nat
def tw7359527180395260068:=Nat
def tw13424009735776669124:=Nat
def tw5268945621321606819:=Nat
def tw15093368838134435:=Nat
def tw15500475492585482179:=Nat
def tw18440469551446415907:=Nat
def tw9716621485308279651:=Nat
def tw10405599694063812739:=Nat
def tw9817034422625372291:=Nat
def tw12114802680203865219:=Nat
def tw10407878547908496803:=Nat
def tw13280436945506912963:=Nat
def tw13112545718370287331:=Nat
def tw16328061554116807395:=Nat
def tw1960071925450109955:=Nat
def tw13886701811110005027:=Nat
def tw4631560925069724547:=Nat
def tw9490309155736654723:=Nat
def tw18057817570977750915:=Nat
def tw7665099563914829251:=Nat
def tw8037144080647753475:=Nat
def tw7549185056150610979:=Nat
def tw6435011190466058563:=Nat
def tw8469289235347653251:=Nat
def tw1616768606006173315:=Nat
def tw13570624376945991299:=Nat
def tw10078535381358991267:=Nat
def tw6701432391914766563:=Nat
def tw1275438384871646307:=Nat
def tw8831107261841256154:=Nat
def tw9534376928585669338:=Nat
def tw10457604097178000090:=Nat
def tw12671018709270084346:=Nat
def tw16601209679299077434:=Nat
def tw13656463070701899354:=Nat
def tw3761220389164215930:=Nat
def tw4462982360607491994:=Nat
def tw5074069062847868090:=Nat
def tw690076699259883706:=Nat
def tw108875523471179226:=Nat
def tw11215009313291275738:=Nat
def tw9436253516641276986:=Nat
def tw17053860226579071322:=Nat
def tw10619459019615730042:=Nat
def tw13354989398945762970:=Nat
def tw9855546673499806938:=Nat
def tw14360820061282994426:=Nat
def tw13537983921936202266:=Nat
def tw8990612356016395962:=Nat
def tw12299434865328294874:=Nat
def tw9704961292572253178:=Nat
def tw12549439521719691834:=Nat
def tw680058372725772241:=Nat
def tw7087325668119058385:=Nat
def tw6327129590609866705:=Nat
def tw14139705462525784017:=Nat
def tw11033132431750008081:=Nat
def tw14352405326576224817:=Nat
def tw2721299129095634481:=Nat
def tw9949440491145687473:=Nat
def tw3310003191857137361:=Nat
def tw6881199765267097585:=Nat
def tw2791213684194550961:=Nat
def tw11674666907471650257:=Nat
def tw14568153936693026545:=Nat
def tw15040187060045286449:=Nat
def tw10617170859555720529:=Nat
def tw2906630234987049585:=Nat
def tw15104624696282731153:=Nat
def tw6208920300388165265:=Nat
def tw8358627711272145:=Nat
def tw2490022422658820593:=Nat
def tw12270565483142773553:=Nat
def tw665817556643461201:=Nat
def tw6934088958044369265:=Nat
def tw10320752571988328849:=Nat
def tw779113297265156232:=Nat
def tw13395928122616157352:=Nat
def tw1080543337418065352:=Nat
def tw16478268676386189032:=Nat
def tw10634526335260786408:=Nat
def tw2525549545224435720:=Nat
def tw5858000700953837608:=Nat
def tw16650694349510481960:=Nat
def tw15067804596592201768:=Nat
def tw18395447249889284424:=Nat
def tw16571092839454270792:=Nat
def tw16363336715343844968:=Nat
def tw12361726279443604072:=Nat
def tw11199050923389281160:=Nat
def tw5729232211589872520:=Nat
def tw15048338034750435528:=Nat
def tw7627212981247519944:=Nat
def tw9864361017826416104:=Nat
def tw9411876675700126472:=Nat
def tw4474616014057159464:=Nat
def tw12910276793347104840:=Nat
def tw5627785730299278696:=Nat
def tw15060618180971034984:=Nat
def tw8831346728554376552:=Nat
def tw7659585480339107464:=Nat
def tw7212101128037845672:=Nat
def tw14948527255426834952:=Nat
def tw8231816844342502952:=Nat
def tw10404248668069894984:=Nat
def tw11584462806950388552:=Nat
def tw2938962504937143400:=Nat
def tw9979345423554215016:=Nat
def tw2342888240321614952:=Nat
def tw16242180749082060776:=Nat
def tw12801123224838943016:=Nat
def tw12854131776258026056:=Nat
def tw8229999116681756232:=Nat
def tw14404858087532498792:=Nat
def tw17582750052093101928:=Nat
def tw16863946444375655495:=Nat
def tw9612827761230984295:=Nat
def tw2562458989861277799:=Nat
def tw1275434879665898887:=Nat
def tw7856366617642422951:=Nat
def tw8564130097255318471:=Nat
def tw8086150835256151911:=Nat
def tw15623470801223620455:=Nat
def tw4062561085211183239:=Nat
def tw17199159853307523207:=Nat
def tw6075535063484946855:=Nat
def tw1572067167231927719:=Nat
def tw10215046895910327015:=Nat
def tw9115257845933391431:=Nat
def tw11506243208582673287:=Nat
def tw11368553027025492135:=Nat
def tw12277332928456287399:=Nat
def tw1435658892294650183:=Nat
def tw17287578785476044135:=Nat
def tw9507497468520644574:=Nat
def tw9016096609202252766:=Nat
def tw66229536854496254:=Nat
def tw4401646162212403486:=Nat
def tw2826637604550941246:=Nat
def tw5822687539928157022:=Nat
def tw2761972055565042846:=Nat
def tw11446110343686128798:=Nat
def tw728065926670824606:=Nat
def tw1513064457842467550:=Nat
def tw5532230830803253278:=Nat
def tw11636221238593173086:=Nat
def tw6031122854090520158:=Nat
def tw15829547997167673982:=Nat
def tw4145090975588637310:=Nat
def tw9631540382743967934:=Nat
def tw15989004983770298846:=Nat
def tw17097572129063985214:=Nat
def tw11766006601110418814:=Nat
def tw17681586605411435902:=Nat
def tw1541844247297520286:=Nat
def tw10683490133551891102:=Nat
def tw7828550130083368062:=Nat
def tw13180622021081830814:=Nat
def tw18136632320070044350:=Nat
def tw214071248524568254:=Nat
def tw13626213748686574037:=Nat
def tw6221288335226394357:=Nat
def tw7140191852301065845:=Nat
def tw7265332195313137301:=Nat
def tw10579450980366007829:=Nat
def tw14373597996661344341:=Nat
def tw3046179306497516629:=Nat
def tw9197304658949117301:=Nat
def tw5423673438373497237:=Nat
def tw16422885669886887605:=Nat
def tw4607666237618533621:=Nat
def tw14156178658299049237:=Nat
def tw3178918529748216085:=Nat
def tw13549170709803225205:=Nat
def tw5226688397888932757:=Nat
def tw17785672518948880277:=Nat
def tw8994995011787857516:=Nat
def tw3973855673088287084:=Nat
def tw5877932351855386572:=Nat
def tw5245458672508240684:=Nat
def tw14212290332656510764:=Nat
def tw12679218988453564108:=Nat
def tw6331806841128723724:=Nat
def tw12535168219514665516:=Nat
def tw2651009156585927212:=Nat
def tw195891658498221932:=Nat
def tw11099970509632848620:=Nat
def tw4026542770199859212:=Nat
def tw8199544070925167628:=Nat
def tw1791285225760201387:=Nat
def tw10026078362063973035:=Nat
def tw17505102322485654475:=Nat
def tw3882083040895872235:=Nat
def tw14195979810670126923:=Nat
def tw11830953610265975627:=Nat
def tw5444062622818644811:=Nat
def tw17184842903354257515:=Nat
def tw393471854193599595:=Nat
def tw12185636834206920843:=Nat
def tw2432359130636177099:=Nat
def tw17001882099196446411:=Nat
def tw7222261686387887083:=Nat
def tw12863453198581934059:=Nat
def tw8481434109733685259:=Nat
def tw12703518704471188779:=Nat
def tw2376146251339899467:=Nat
def tw11183548262532885067:=Nat
def tw1809605570951312235:=Nat
def tw17777881538788370283:=Nat
def tw9004952083450644523:=Nat
def tw8620533275595119947:=Nat
def tw7969766742950106731:=Nat
def tw12335069993343294091:=Nat
def tw9552550088043454955:=Nat
def tw6568488023317353995:=Nat
def tw5861541601230951947:=Nat
def tw6060218190050778635:=Nat
def tw11515949675175457867:=Nat
def tw14792473070074900555:=Nat
def tw4029000634431701355:=Nat
def tw11152937896425033067:=Nat
def tw6640562318882502786:=Nat
def tw6605370575164079266:=Nat
def tw15920540932329065186:=Nat
def tw1969275052281309186:=Nat
def tw15672753558651411490:=Nat
def tw8653984309956016162:=Nat
def tw12502990643044651330:=Nat
def tw2948660161862062690:=Nat
def tw13009865538204708450:=Nat
def tw13839079010758941282:=Nat
def tw4713069534419796162:=Nat
def tw14093311460744618466:=Nat
def tw9030311337530289954:=Nat
def tw9686717592022487106:=Nat
def tw11435391619590941314:=Nat
def tw2219824416027681282:=Nat
def tw8231027407842749250:=Nat
def tw10660875178754560258:=Nat
def tw10447469443959813410:=Nat
def tw1496774940065082946:=Nat
def tw13795265417779787673:=Nat
def tw17118432125596628921:=Nat
def tw2326957903603665113:=Nat
def tw5535123962138349785:=Nat
def tw4183472169726157305:=Nat
def tw15968170299271303673:=Nat
def tw3479252073681782265:=Nat
def tw14215123122354833209:=Nat
def tw8799843197480935225:=Nat
def tw4858342798584191801:=Nat
def tw5355366707231505081:=Nat
def tw3757273602488508377:=Nat
def tw2664406493659040729:=Nat
def tw15603082487305424121:=Nat
def tw2730991201691382297:=Nat
def tw7968951724926223929:=Nat
def tw979802283104947033:=Nat
def tw6631215429657517785:=Nat
def tw8527514369018007257:=Nat
def tw16308144090708329177:=Nat
def tw4921485098770574649:=Nat
def tw15311386704708405849:=Nat
def tw7463806764515090297:=Nat
def tw10717283139417537689:=Nat
def tw17932610595878791321:=Nat
def tw1028674323301138617:=Nat
def tw3890045312479836345:=Nat
def tw103882420914111513:=Nat
def tw15709728047924150064:=Nat
def tw2891220202907601008:=Nat
def tw749535203436275088:=Nat
def tw6035021663363207568:=Nat
def tw15591314052181491088:=Nat
def tw1911850124083651984:=Nat
def tw11433929975891882672:=Nat
def tw17539524990856458832:=Nat
def tw2354034852605817712:=Nat
def tw1514344064824093552:=Nat
def tw3188044218953437616:=Nat
def tw6832014229881987696:=Nat
def tw8289201723033672784:=Nat
def tw5898995299599593840:=Nat
def tw6113925179972931504:=Nat
def tw12738888062330648496:=Nat
def tw11911766056863592368:=Nat
def tw9577353047086436272:=Nat
def tw13903356248417799167:=Nat
def tw5637435495531166951:=Nat
end PySem.W.Fast
section
open PySem PySem.W PyProof.Rows
set_option maxHeartbeats 0
open_top Tp for PySem.Challenge.rw_voucherstack_k45_rules_read
end
open Array renaming getElem?_eq_some_iff -> ED, length_toList -> E8
open Bool renaming false_ne_true -> MD, and_eq_true -> Ew, false_eq_true -> Ey, eq_iff_iff -> EV, or_false -> Df, false_and -> DC
open List renaming length_map -> Mu, mem_cons_self -> Mx, replicate -> My, mem_cons -> MB, map_append -> MC, mem_singleton -> ME, range -> MG, mem_cons_of_mem -> MH, mem_of_getElem? -> MK, length_append -> ML, getElem?_map -> MN, getElem?_eq_some_iff -> MO, map_cons -> MQ, not_mem_nil -> MR, size_toArray -> MS, length_take -> MU, length_cons -> MV, mem_append -> MY, mem_map -> MZ, take_length -> M0, append_assoc -> M6, getD_eq_getElem?_getD -> M9, mem_append_right -> Ea, nodup_cons -> Ed, flatten_cons -> Ef, lookup_cons -> Eg, zipWith -> Ei, append_nil -> El, map_nil -> Ep, lookup -> Er, any_cons -> Es, replicate_succ -> Et, getElem?_eq_getElem -> Ez, length_replicate -> EB, take_add_one -> EC, getElem_of_mem -> EE, range_succ -> EF, filter_append -> EG, filterMap_cons -> EH, getElem?_append_right -> EJ, filter_cons -> EM, getElem?_append_left -> EO, take_of_length_le -> ER, nodup_nil -> ES, find?_cons -> ET, nil_append -> EW, all_eq_true -> EY, cons_append -> EZ, filter_nil -> E3, replicate_succ' -> E4, map_set -> E5, mem_filter -> E6, getElem?_set_self -> E7, of_mem_zip -> Dc, length -> Dd, getElem?_replicate -> De, Pairwise -> Dg, zipIdx_cons -> Dk, length_nil -> Dl, cons -> Dm, length_filter_le -> Do, ext_getElem -> Dp, pairwise_cons -> Dq, Perm -> Dr, Sublist -> Dt, mem_append_left -> Dz, getElem?_set_ne -> DB, length_set -> DJ, forIn_nil -> DM, forIn_cons -> DN, count_cons -> DQ, getElem?_inj -> DR, flatten_append -> DU, nodup_range -> DV, pairwise_iff_getElem -> DW, length_zipWith -> DX, sublist_append_left -> DY, mem_flatten -> DZ, map_map -> D0, getElem?_take -> D7, drop_eq_getElem_cons -> D8, drop_length -> D9, nodup_append -> Ab, getLast?_eq_getElem? -> Ac, getLast?_map -> Ad, getElem?_eq_none_iff -> Ae, length_singleton -> Am, getElem?_zipWith -> Ap, getElem_cons_drop -> Aq, take_append_drop -> Ar, getElem?_eq_none -> As, mem_iff_getElem? -> Au, drop_of_length_le -> Av, length_eq_zero_iff -> AA
open Nat renaming le_refl -> Mv, le_trans -> Mz, le_of_lt -> MI, ne_of_lt -> MT, lt_of_lt_of_le -> MX, zero_le -> M7, ne_of_gt -> Ek, lt_irrefl -> Em, lt_of_le_of_lt -> Ex, min_self -> EL, le_succ -> Da, lt_trans -> Dh, not_lt -> Dj, min_eq_left -> Du, lt_succ_self -> DG, add_sub_cancel -> DT
open Option renaming map_some -> EK, getD_none -> DK, map_eq_some_iff -> Aa, isSome_iff_exists -> Ai
open PySem.F renaming plainAttrs_list -> MW, slot_list_append -> M1, type_list_append -> M3, slot_dict_get -> EU, plainAttrs_str -> Dv, plainAttrs_dict -> Dw, type_dict_get -> Dx, slot_tuple_add -> Aj, entry_tuple_add -> Ak, args_tuple_add_2 -> Al, attrBase_ValueError -> An, entry_dict_get -> Ao, slot_list_extend -> Aw, type_list_extend -> Ax, slot_str_split -> Ay, type_str_split -> Az, slot_str_join -> AB, type_str_join -> AC
open PySem.W renaming Frag -> Mt, findIn -> Mw, nsIn -> MA, mg_of -> MF, keepIn -> MJ, mroIn -> MM, fnOf -> MP, mg_none_of -> M4, typeIn -> M5, plainGet -> M8, hasDictIn -> Eb, makesIn -> Ec, codeIn -> Ee, plainOver -> Eh, isFn -> Ej, kitOne -> En, kia_one -> Eo, emptyDict -> Eu, instObj -> EA, callWith_K -> EI, specialIn -> EN, tabObj -> E1, exmOne -> E2, lookIn -> E9, methodObj -> Dy, plainGet_of -> DD, takerIn -> DE, Looks -> DF, takesIn -> DH, methodCall_KW -> DI, subIn -> DL, readsIn -> DO, findCls -> DP, excIn -> DS, findObj_own -> Af, callWith_K0 -> Ag, cellsFrom_some -> Ah
set_option hygiene false
noncomputable section
local macro_rules|`(tactic|exists $a,$b)=>`(tactic|refine FunD.ok $a $b (by intro _ _ _ _ h;cases h;subst_vars;rfl) (fun cdv A outer s H vs Q E hr h=>?_))
local macro_rules|`(tactic|ac_rfl)=>`(tactic|exact⟨rfl,rfl,rfl,by decide +kernel,rfl,by decide +kernel,by decide +kernel⟩)
local macro_rules|`(tactic|exists $a:ident,$b,$c)=>`(tactic|have $a:ident:=$b (P:=P) (w:=w) $c)
local macro_rules|`(tactic|exists $a:ident)=>`(tactic|try refine sN fun _ $a=>?_)
local macro_rules|`(tactic|exists $a,$b,$c:ident,$d:ident,$e:ident,$f)=>`(tactic|(generalize hg9:upd $a $b _=$c;obtain⟨$d:ident,$e:ident⟩:=ka0 hg9 $f;clear hg9))
local macro_rules|`(tactic|ac_nf)=>`(tactic|(repeat (first|rw[kab,if_pos rfl]|rw[kab,if_neg (by decide +kernel)])))
local macro_rules|`(tactic|symm)=>`(tactic|try apply Y4)
local macro_rules|`(tactic|nofun)=>`(tactic|try first|apply Y6|apply Y4)
local macro_rules|`(tactic|exists 3)=>`(tactic|try first|apply Y8|apply Y6|apply Y4)
local macro_rules|`(tactic|exists $a:ident,$b,$_,$_,$_)=>`(tactic|(case $a:ident=>refine' Vs.dn_mk KX G ?_ ?_ ?_ ?_ (fun _ _ _ _ _ _=>$b);any_goals k_is))
local macro_rules|`($a>>$b)=>`($a=some $b)
local macro_rules|`(tactic|rwa[$[$t:term],*])=>do let u<-`(_);let r<-`(rfl);let d<-`(⟨by decide,by decide⟩);let x:=t.flatMap fun y:Lean.Term=>match y with|`(6)=>#[r]|`(7)=>#[u,u,r,r,d]|`(8)=>#[u,r]|`(9)=>#[u,u,r,r]|_=>#[y];`(tactic|refine⟨$x,*⟩)
local macro_rules|`(tactic|nomatch $[$t],*)=>`(tactic|(symm;exists Y4;rwa[8,$[$t:term],*]))
local macro_rules|`(tactic|lia)=>`(tactic|omega)
local macro_rules|`(tactic|cutsat)=>`(tactic|decide +kernel)
theorem Zjz(h:0=0:=by rfl):0=0:=rfl
def jz:Lean.Syntax:=Zjz._auto_1
theorem ZjQ(h:0=0:=by decide):0=0:=rfl
def jQ:Lean.Syntax:=ZjQ._auto_1
theorem ZjJ(h:∀x:Nat,x=x:=by intro _;rfl):0=0:=rfl
def jJ:Lean.Syntax:=ZjJ._auto_1
theorem ZjX(h:0=0∨0=1:=by first|exact .inl rfl|exact .inr rfl|assumption):0=0:=rfl
def jX:Lean.Syntax:=ZjX._auto_1
theorem ZjZ(h:0=0∨0=1:=by first|exact Or.inl rfl|exact Or.inr rfl):0=0:=rfl
def jZ:Lean.Syntax:=ZjZ._auto_1
namespace Lake
namespace L2
open PySem PySem.Spec PyProof.Rows
abbrev Key:=Sum Int Str
noncomputable def keyIs:Key->Value->Bool
 | .inl k,v=>Value.isInt k v
 | .inr x,v=>Value.isStrOf x v
noncomputable def keyH(w:World):Key->Int
 | .inl k=>hashInt k
 | .inr x=>hashStr w x
theorem ka6:∀{k:Key}{v:Value},keyIs k v=true->(∃i t,k=Sum.inl i/\v=Value.int i t)∨(∃x t,k=Sum.inr x/\v=Value.str x t)
 | .inl i,v,h=>by
  obtain⟨t,e⟩:=Value.isInt_shape (k:=i) (v:=v) h
  exact .inl ⟨i,t,rfl,e⟩
 | .inr x,v,h=>by
  obtain⟨t,e⟩:=Value.isStrOf_shape (x:=x) (v:=v) h
  exact .inr ⟨x,t,rfl,e⟩
def kke(i:Int)(t:Tok):keyIs (.inl i) (.int i t)=true:=by simp[keyIs,Value.isInt]
def kkd(x:Str)(t:Tok):keyIs (.inr x) (.str x t)=true:=by simp[keyIs,Value.isStrOf]
def koa(a b:Int):decide ((Sum.inl a:Key)=Sum.inl b)=(a==b):=by
 by_cases e:a=b
 ·subst e;simp
 ·have h:¬(Sum.inl a:Key)=Sum.inl b:=fun q=>e (Sum.inl.inj q)
  rw[decide_eq_false h]
  exact(beq_eq_false_iff_ne.mpr e).symm
def kn7(a b:Str):decide ((Sum.inr a:Key)=Sum.inr b)=decide (a=b):=by
 by_cases e:a=b
 ·subst e;simp
 ·have h:¬(Sum.inr a:Key)=Sum.inr b:=fun q=>e (Sum.inr.inj q)
  rw[decide_eq_false h,decide_eq_false e]
def kn9(a:Int)(b:Str):decide ((Sum.inl a:Key)=Sum.inr b)=false:=decide_eq_false (fun q=>nomatch q)
def kn8(a:Str)(b:Int):decide ((Sum.inr a:Key)=Sum.inl b)=false:=decide_eq_false (fun q=>nomatch q)
noncomputable def kbA(prog:Program)(w:World):PySem.KeyKind prog w Key where
 is:=keyIs
 hash:=keyH w
 inj:=fun v a b ha hb=>by
  rcases ka6 ha with⟨i,t,rfl,rfl⟩|⟨x,t,rfl,rfl⟩
  ·rcases ka6 hb with⟨j,u,rfl,e⟩|⟨y,u,rfl,e⟩
   ·injection e with e1 _;rw[e1]
   ·exact nomatch e
  ·rcases ka6 hb with⟨j,u,rfl,e⟩|⟨y,u,rfl,e⟩
   ·exact nomatch e
   ·injection e with e1 _;rw[e1]
 byValue:=fun k v h=>by
  rcases ka6 h with⟨i,t,rfl,rfl⟩|⟨x,t,rfl,rfl⟩ <;> rfl
 pyHash:=fun hv h=>by
  rcases ka6 hv with⟨i,t,rfl,rfl⟩|⟨x,t,rfl,rfl⟩
  ·exact wpAny_pyHash_int h
  ·exact wpAny_pyHash_str h
 eqBool:=fun hu hv h=>by
  rcases ka6 hu with⟨i,t,rfl,rfl⟩|⟨x,t,rfl,rfl⟩
  ·rcases ka6 hv with⟨j,u,rfl,rfl⟩|⟨y,u,rfl,rfl⟩
   ·rw[koa] at h;exact wpAny_eqBool_int h
   ·rw[kn9] at h;exact SeqAt.EqAt.int_str i t y u _ _ _ _ h
  ·rcases ka6 hv with⟨j,u,rfl,rfl⟩|⟨y,u,rfl,rfl⟩
   ·rw[kn8] at h;exact SeqAt.EqAt.str_int x t j u _ _ _ _ h
   ·rw[kn7] at h;exact wpAny_eqBool_str h
 «strs» :=fun k x t v h=>by
  rcases ka6 h with⟨i,u,rfl,e⟩|⟨y,u,rfl,e⟩
  ·exact nomatch e
  ·injection e with e1 _
   subst e1
   cases v <;> rfl
def khn(prog:Program)(w:World)(i:Int)(t:Tok):(kbA prog w).is (.inl i) (.int i t)=true:=kke i t
def khm(prog:Program)(w:World)(x:Str)(t:Tok):(kbA prog w).is (.inr x) (.str x t)=true:=kkd x t
inductive V where
 |non|bl (b:Bool)|int (i:Int)|str (x:Str)|byt (b:Array UInt8)|flt (b:UInt64)|ref (a:Addr)|ty (n:String)
 deriving DecidableEq
def RelV:V->Value->Prop
 | .non,u=>u=Value.none
 | .bl b,u=>u=Value.bool b
 | .int i,u=>∃t,u=Value.int i t
 | .str x,u=>∃t,u=Value.str x t
 | .byt b,u=>∃t,u=Value.bytes b t
 | .flt b,u=>∃t,u=Value.float b t
 | .ref a,u=>u=Value.ref a
 | .ty n,u=>u=Value.type n
abbrev Vals:List V->List Value->Prop:=Paired RelV
def Vals.length{xs:List V}{us:List Value}(r:Vals xs us):xs.length=us.length:=Paired.length r
theorem Vals.get:∀{xs:List V}{us:List Value}{i:Nat}{x:V},Vals xs us->xs[i]?>>x->∃u,us[i]?>>u/\RelV x u
 |_,_,_,_, .nil,e=>by simp at e
 |_,_,0,_, .cons r _,e=>by simp at e;subst e;exact⟨_,rfl,r⟩
 |_,_,i+1,x, .cons _ t,e=>by
  obtain⟨u,h1,h2⟩:=Vals.get (i:=i) (x:=x) t (by simpa using e)
  rwa[u,by simpa using h1,h2]
theorem Vals.set{x:V}{u:Value}(r:RelV x u):∀{xs:List V}{us:List Value}(i:Nat),Vals xs us->Vals (xs.set i x) (us.set i u)
 |_,_,_, .nil=>.nil
 |_,_,0, .cons _ t=>.cons r t
 |_,_,i+1, .cons q t=>.cons q (Vals.set r i t)
theorem Vals.append:∀{xs ys:List V}{us ws:List Value},Vals xs us->Vals ys ws->Vals (xs++ys) (us++ws)
 |_,_,_,_, .nil,s=>s
 |_,_,_,_, .cons r t,s=>.cons r (Vals.append t s)
theorem Vals.take:∀{xs:List V}{us:List Value}(n:Nat),Vals xs us->Vals (xs.take n) (us.take n)
 |_,_,0,_=>.nil
 |_,_,_+1, .nil=>.nil
 |_,_,n+1, .cons r t=>.cons r (Vals.take n t)
theorem Vals.drop:∀{xs:List V}{us:List Value}(n:Nat),Vals xs us->Vals (xs.drop n) (us.drop n)
 |_,_,0,r=>r
 |_,_,_+1, .nil=>.nil
 |_,_,n+1, .cons _ t=>Vals.drop n t
def RelO:Option V->Option Value->Prop
 |some v,some u=>RelV v u
 |none,none=>True
 |_,_=>False
def KV{κ:Type}:List (κ×V)->List (κ×Value)->Prop:=Paired fun(p: κ×V)(q: κ×Value)=>p.1=q.1/\RelV p.2 q.2
noncomputable def kV:Key->V
 | .inl i=>.int i
 | .inr x=>.str x
inductive HO where
 |lst (xs:List V)
 |tup (xs:List V)
 |dK (kvs:List (Key×V))|dT (kvs:List (List Key×V))
 |set (S:Int->Bool) (n:Nat)
 |ins (C dx:Addr) (fs:List (Str×V))
 |own (x:Addr)
 |xd (fs:List (Str×V))
 |met (f x:Addr)
 |rng (lo hi:Int)
 |frz (o:Obj) (u:HO)
 |tbl (ps:Array Value)
 |ext (φ:Heap->Prop)
abbrev Hp:=Addr->Option HO
noncomputable def upd(H:Hp)(a:Addr)(o:HO):Hp:=fun b=>if b=a then some o else H b
def kad{H:Hp}{a:Addr}{o:HO}:upd H a o a>>o:=by unfold upd;rw[if_pos rfl]
def kah{H:Hp}{a b:Addr}{o:HO}(h:b≠a):upd H a o b=H b:=by unfold upd;rw[if_neg h]
def kmI{H:Hp}{a:Addr}{o u:HO}:upd (upd H a o) a u=upd H a u:=by
 funext b;unfold upd;split <;> rfl
def ne_of{H:Hp}{a b:Addr}{o u:HO}(h:H a>>o)(h':H b>>u)(d:o≠u):a≠b:=by
 intro e;subst e;rw[h] at h';exact d (Option.some.inj h')
def kak{H:Hp}{a b:Addr}{o:HO}(h:H a>>o)(h':H b=none):a≠b:=by
 intro e;subst e;rw[h] at h';cases h'
section
variable(P:Program)(w:World)
def ObjOk(H:Hp)(h:Heap)(a:Addr):HO->Prop
 | .lst xs=>xs.length<=sizeLine/\∃(its:List Value)(n:Nat),Vals xs its/\h.get? a>>{cls:=.type "list",data:=.seq its.toArray n}
 | .tup xs=>xs.length<=sizeLine/\∃its:List Value,Vals xs its/\IsTup h a its.toArray
 | .dK kvs=>kvs.length<=sizeLine/\(a==sysModules)=false/\∃vs,KV kvs vs/\h.DictOf (kbA P w) a vs
 | .dT kvs=>kvs.length<=sizeLine/\(a==sysModules)=false/\∃xs:List (List Key×Addr×Value),
   Paired (fun(p:List Key×V)(q:List Key×Addr×Value)=>p.1=q.1/\H q.2.1>>(.tup (p.1.map kV))/\RelV p.2 q.2.2) kvs xs/\
   ∃o es ep,h.get? a>>o/\o.ExactDict/\o.data=.dict es ep/\es.toList=xs.map (entryOfKey (tupleKind (kbA P w)))/\(xs.map (·.1)).Nodup
 | .set S n=>h.SetOf (intKind P w) a S n
 | .ins C dx fs=>H dx>>(.own a)/\fs.length<=1000/\dx≠a/\h.get? a>>(EA C dx)/\
   ∃mA,h.Ns1 dx mA/\(∀f,RelO (fs.lookup f) (mA f))/\PySem.Within mA (fs.map (·.1))
 | .own _=>∃o,h.get? a>>o
 | .xd fs=>∃mA,h.Ns1 a mA/\∀f,RelO (fs.lookup f) (mA f)
 | .rng lo hi=>∃t u v,h.get? a>>{cls:=.type "range",data:=.fields #[.int lo t, .int hi u, .int 1 v]}
 | .frz o u=>h.get? a>>o/\ObjOk H h a u
 | .tbl ps=>h.get? a>>{cls:=.none,data:=.fields ps}
 | .met f x=>h.get? a>>(Dy (.ref f) (.ref x))
 | .ext φ=>φ h/\(∃o,h.get? a>>o)/\∀h1 h2:Heap,φ h1->(∀o,h1.get? a>>o->h2.get? a>>o)->φ h2
def HOk(H:Hp)(h:Heap):Prop:=∀a o,H a>>o->ObjOk P w H h a o
end
section
variable{P:Program}{w:World}{H H':Hp}{h h':Heap}{a:Addr}{o:HO}
theorem ObjOk.lt(x:ObjOk P w H h a o):a<h.objs.size:=by
 cases o with
 |lst xs=>obtain⟨_,_,_,_,e⟩:=x;exact Heap.lt_size e
 |tup xs=>obtain⟨_,_,_,p⟩:=x;exact p.lt
 |dK kvs=>obtain⟨_,_,_,_,o,_,_,e,_⟩:=x;exact Heap.lt_size e
 |dT kvs=>obtain⟨_,_,_,_,o,_,_,e,_⟩:=x;exact Heap.lt_size e
 |set S n=>obtain⟨o,_,_,_,e,_⟩:=x;exact Heap.lt_size e
 |ins C dx fs=>obtain⟨_,_,_,e,_⟩:=x;exact Heap.lt_size e
 |own y=>obtain⟨_,e⟩:=x;exact Heap.lt_size e
 |xd fs=>obtain⟨_,⟨_,_,_,e,_⟩,_⟩:=x;exact Heap.lt_size e
 |rng lo hi=>obtain⟨_,_,_,e⟩:=x;exact Heap.lt_size e
 |frz ob u=>obtain⟨e,_⟩:=x;exact Heap.lt_size e
 |tbl ps=>exact Heap.lt_size (show h.get? a>>_ from x)
 |met f y=>exact Heap.lt_size (show h.get? a>>_ from x)
 |ext φ=>obtain⟨_,⟨_,e⟩,_⟩:=x;exact Heap.lt_size e
theorem Paired.mapP{α β:Type}{F G: α->β->Prop}:∀{l₁:List α}{l₂:List β},Paired F l₁ l₂->(∀a b,F a b->G a b)->Paired G l₁ l₂
 |_,_, .nil,_=>.nil
 |_,_, .cons r t,f=>.cons (f _ _ r) (Paired.mapP t f)
theorem ObjOk.stay(x:ObjOk P w H h a o)(k:∀b u,(b=a∨H b>>(.own a))->h.get? b>>u->h'.get? b>>u)
  (ho:∀b,H b>>(.own a)->H' b>>(.own a))(ht:∀b xs,H b>>(.tup xs)->H' b>>(.tup xs)):ObjOk P w H' h' a o:=by
 induction o with
 |lst xs=>obtain⟨z,its,n,r,e⟩:=x;exact⟨z,its,n,r,k _ _ (.inl rfl) e⟩
 |tup xs=>obtain⟨z,its,r,ob,e,c⟩:=x;exact⟨z,its,r,ob,k _ _ (.inl rfl) e,c⟩
 |dK kvs=>obtain⟨z,y,vs,r,ob,es,ep,e,c⟩:=x;exact⟨z,y,vs,r,ob,es,ep,k _ _ (.inl rfl) e,c⟩
 |dT kvs=>
  obtain⟨z,y,xs,r,ob,es,ep,e,c⟩:=x
  rwa[z,y,xs,Paired.mapP r fun p q z=>⟨z.1,ht _ _ z.2.1,z.2.2⟩,ob,es,ep,k _ _ (.inl rfl) e,c]
 |set S n=>obtain⟨ob,es,ep,t,e,c⟩:=x;exact⟨ob,es,ep,t,k _ _ (.inl rfl) e,c⟩
 |ins C dx fs=>
  obtain⟨d,z,ne,e,mA,⟨od,es,ep,e2,c⟩,r⟩:=x
  rwa[ho _ d,z,ne,k _ _ (.inl rfl) e,mA,⟨od,es,ep,k _ _ (.inr d) e2,c⟩,r]
 |own y=>obtain⟨ob,e⟩:=x;exact⟨ob,k _ _ (.inl rfl) e⟩
 |xd fs=>obtain⟨mA,⟨od,es,ep,e,c⟩,r⟩:=x;exact⟨mA,⟨od,es,ep,k _ _ (.inl rfl) e,c⟩,r⟩
 |rng lo hi=>obtain⟨t,u,v,e⟩:=x;exact⟨t,u,v,k _ _ (.inl rfl) e⟩
 |frz ob u ih=>obtain⟨e,q⟩:=x;exact⟨k _ _ (.inl rfl) e,ih q⟩
 |tbl ps=>
  have e:h.get? a>>{cls:=.none,data:=.fields ps}:=x
  show h'.get? a>>{cls:=.none,data:=.fields ps}
  exact k a _ (.inl rfl) e
 |met f y=>
  have e:h.get? a>>(Dy (.ref f) (.ref y)):=x
  show h'.get? a>>(Dy (.ref f) (.ref y))
  exact k a _ (.inl rfl) e
 |ext φ=>obtain⟨p,⟨o,e⟩,st⟩:=x;exact⟨st _ _ p fun o q=>k _ _ (.inl rfl) q,⟨o,k _ _ (.inl rfl) e⟩,st⟩
theorem HOk.lt(x:HOk P w H h)(e:H a>>o):a<h.objs.size:=(x a o e).lt
theorem HOk.fresh(x:HOk P w H h)(e:h.objs.size<=a):H a=none:=by
 cases q:H a with
 |none=>rfl
 |some u=>exact absurd (MX (x.lt q) e) (Em _)
theorem HOk.kept(x:HOk P w H h)(k:∀b u,h.get? b>>u->h'.get? b>>u):HOk P w H h':=fun a o e=>
 (x a o e).stay (fun b u _ q=>k b u q) (fun _ q=>q) fun _ _ q=>q
theorem HOk.laid(x:HOk P w H h)(k:∀b u,h.get? b>>u->h'.get? b>>u)(hp:h.objs.size<=a)(new:ObjOk P w (upd H a o) h' a o):HOk P w (upd H a o) h':=fun b u e=>by
 have hn:=x.fresh hp
 by_cases hb:b=a
 ·subst hb;rw[kad] at e;cases e;exact new
 ·rw[kah hb] at e
  exact(x b u e).stay (fun c v _ q=>k c v q) (fun c q=>by rw[kah (kak q hn)];exact q) fun c xs q=>by rw[kah (kak q hn)];exact q
end
def Rd(H:Hp)(a:Addr)(u:HO):Prop:=H a>>u∨∃o,H a>>(.frz o u)
def Rd.ok{P:Program}{w:World}{H:Hp}{h:Heap}{a:Addr}{u:HO}(r:Rd H a u)(x:HOk P w H h):ObjOk P w H h a u:=by
 rcases r with r|⟨o,r⟩
 ·exact x a u r
 ·obtain⟨_,q⟩:=x a _ r
  exact q
def Mut:Option HO->Prop
 |some (.lst _)=>True
 |some (.dK _)=>True
 |some (.dT _)=>True
 |some (.set _ _)=>True
 |some (.ins _ _ _)=>True
 |some (.ext _)=>True
 |_=>False
section
variable{P:Program}{w:World}{H:Hp}{h h':Heap}{x e:Addr}{o':HO}
theorem HOk.write(ok:HOk P w H h)(mu:Mut (H x))(he:e=x∨H e>>(.own x))(k:∀b u,b≠e->h.get? b>>u->h'.get? b>>u)(heo:∃u,h'.get? e>>u)
  (new:ObjOk P w (upd H x o') h' x o'):HOk P w (upd H x o') h':=fun b u q=>by
 have nown:∀c y,H c>>(.own y)->c≠x:=fun c y r z=>by subst z;rw[r] at mu;exact mu
 have ntup:∀c xs,H c>>(.tup xs)->c≠x:=fun c xs r z=>by subst z;rw[r] at mu;exact mu
 by_cases hb:b=x
 ·subst hb;rw[kad] at q;cases q;exact new
 ·rw[kah hb] at q
  by_cases hbe:b=e
  ·have q':H b>>(.own x):=by
    rcases he with z|z
    ·exact absurd (hbe.trans z) hb
    ·rw[hbe];exact z
   rw[q] at q';cases q'
   obtain⟨v,hv⟩:=heo
   rwa[v,by rw[hbe];exact hv]
  ·refine(ok b u q).stay (fun c v hc r=>k c v ?_ r) (fun c r=>by rw[kah (nown c b r)];exact r) fun c xs r=>by rw[kah (ntup c xs r)];exact r
   rcases hc with rfl|hc
   ·exact hbe
   ·rintro rfl
    rcases he with z|z
    ·exact nown c b hc z
    ·rw[hc] at z;cases z;exact hb rfl
end
structure Un(fs ex:List Addr)(H H':Hp)(h h':Heap):Prop where
 keep:∀b o,h.get? b>>o->H b=none->b∉fs->b∉ex->h'.get? b>>o
 slot:∀b o,h.get? b>>o->H b=none->b∈fs->b∉ex->∃sl,h'.get? b>>{o with slots:=sl}
 free:∀b o,h.get? b>>o->H b=none->b∉ex->H' b=none
 there:∀b o,h.get? b>>o->b∉ex->∃o',h'.get? b>>o'
 tups:∀b xs,H b>>(.tup xs)->H' b>>(.tup xs)
 frzs:∀b o u,H b>>(.frz o u)->H' b>>(.frz o u)
 tbls:∀b ps,H b>>(.tbl ps)->∃more,H' b>>(.tbl (ps++more))
section
variable{fs fs' ex ex':List Addr}{H H1 H2:Hp}{h h1 h2 h':Heap}{a x e:Addr}{o:HO}
theorem Un.any(u:Un fs ex H H1 h h1){b:Addr}{ob:Obj}(q:h.get? b>>ob)(n:H b=none)(hx:b∉ex):∃sl,h1.get? b>>{ob with slots:=sl}:=by
 by_cases hb:b∈fs
 ·exact u.slot b ob q n hb hx
 ·rwa[ob.slots,u.keep b ob q n hb hx]
theorem Un.kept(k:∀b u,h.get? b>>u->h'.get? b>>u):Un fs ex H H h h':=
 ⟨fun b ob q _ _ _=>k b ob q,fun b ob q _ _ _=>⟨ob.slots,k b ob q⟩,fun _ _ _ n _=>n,fun b ob q _=>⟨ob,k b ob q⟩,fun _ _ q=>q,fun _ _ _ q=>q,fun _ ps q=>⟨#[],by rw[q];simp⟩⟩
theorem Un.refl:Un fs ex H H h h:=Un.kept fun _ _ q=>q
theorem Un.laid(k:∀b u,h.get? b>>u->h'.get? b>>u)(hp:h.objs.size<=a)(hn:H a=none):Un fs ex H (upd H a o) h h' where
 keep:=fun b u q _ _ _=>k b u q
 slot:=fun b u q _ _ _=>⟨u.slots,k b u q⟩
 free:=fun b u q n _=>by rw[kah (MT (MX (Heap.lt_size q) hp))];exact n
 there:=fun b u q _=>⟨u,k b u q⟩
 tups:=fun b xs q=>by rw[kah (kak q hn)];exact q
 frzs:=fun b u xs q=>by rw[kah (kak q hn)];exact q
 tbls:=fun b ps q=>⟨#[],by rw[kah (kak q hn),q];simp⟩
theorem Un.write(mu:Mut (H x))(he:e=x∨H e>>(.own x))(k:∀b u,b≠e->h.get? b>>u->h'.get? b>>u)(heo:∃u,h'.get? e>>u):Un fs ex H (upd H x o) h h':=by
 have hx:∀b,H b=none->b≠x:=fun b n z=>by subst z;rw[n] at mu;exact mu
 have hb:∀b,H b=none->b≠e:=fun b n z=>by
  subst z
  rcases he with r|r
  ·exact hx b n r
  ·rw[n] at r;cases r
 have hm:∀b u,H b>>u->¬Mut (some u)->b≠x:=fun b u q nm z=>by subst z;rw[q] at mu;exact nm mu
 refine⟨fun b u q n _ _=>k b u (hb b n) q,fun b u q n _ _=>⟨u.slots,k b u (hb b n) q⟩,fun b u q n _=>by rw[kah (hx b n)];exact n,fun b u q _=>?_,
  fun b xs q=>by rw[kah (hm b _ q fun z=>z)];exact q,fun b u xs q=>by rw[kah (hm b _ q fun z=>z)];exact q,fun b ps q=>⟨#[],by rw[kah (hm b _ q fun z=>z),q];simp⟩⟩
 by_cases hbe:b=e
 ·subst hbe;exact heo
 ·rwa[u,k b u hbe q]
end
noncomputable def trk(h:Heap)(H:Hp):List Addr:=(MG h.objs.size).filter fun a=>(H a).isSome
noncomputable def hidT(h:Heap)(H:Hp):Heap:=PySem.W.hideAll h (trk h H)
def kkk(h:Heap)(H:Hp):(hidT h H).objs.size=h.objs.size:=PySem.W.hideAll_size _ _
def klD{h:Heap}{H:Hp}{b:Addr}{o:Obj}(e:h.get? b>>o)(n:H b=none):(hidT h H).get? b>>o:=
 PySem.W.hideAll_get _ e fun hm=>by
  have q:(H b).isSome=true:=(E6.mp hm).2
  rw[n] at q;simp at q
theorem kna{h:Heap}{H:Hp}{b:Addr}{o:Obj}(e:(hidT h H).get? b>>o):h.get? b>>o/\H b=none:=by
 have e':h.get? b>>o:=PySem.W.of_hideAll (trk h H) e
 rwa[e',?_]
 cases q:H b with
 |none=>rfl
 |some x=>
  have hm:b∈trk h H:=E6.mpr ⟨List.mem_range.mpr (Heap.lt_size e'),by simp[q]⟩
  have z:(hidT h H).get? b=none:=PySem.W.hideAll_none (trk h H) hm
  rw[z] at e;cases e
noncomputable def knr(g h:Heap)(L:Addr):List (Addr×Obj):=(MG h.objs.size).filterMap fun a=>if a=L∨(g.get? a).isSome=true then none else(h.get? a).map fun o=>(a,o)
noncomputable def rest(g h:Heap)(L d:Addr):List (Addr×Obj):=(knr g h L).filter fun p=>decide (p.1≠d)
structure Mod(K:Mt)(mg:Str->Option Value)(base:Heap):Prop where
 kin:K.In base
 glob:base.Ns mainGlobals mg
 blt:∃mb,base.Ns builtinsNs mb/\∀x:Str,x≠"__name__"->mb x=bootBuiltins x
 nolimit:base.NoLimit
structure Cx where
 prog:Program
 w:World
 K:Mt
 mg:Str->Option Value
 base:Heap
 A:Around
 N:List Str
 s₀:Shared
 H₀:Hp
 env:Env
 outer:List Env
 stack:List Env
 ex:List Addr
 fn:Str->Bool
 calm:Bool
 pn:List (Addr×Obj)
 xe:Value->Shared->Prop
noncomputable def frs(l:List Env):List Addr:=l.filterMap (·.frame)
abbrev Cx.fs(X:Cx):List Addr:=frs X.outer
def Vis(sc:Scope)(x:Str):Prop:=sc.names.lookup x>>.local∨sc.names.lookup x>>.cell∨sc.names.lookup x>>.free
def Loc(sc:Scope)(x:Str):Prop:=sc.names.lookup x>>.local∨sc.names.lookup x>>.cell
def Look(env:Env)(h:Heap)(m:Str->Option Value)(x:Str)(u:Value):Prop:=
 (env.kindOf x>>.local/\m x>>u)∨((env.kindOf x>>.cell∨env.kindOf x>>.free)/\∃c,env.cells.lookup x>>c/\h.IsCell c (some u))
structure Cx.Ok(X:Cx):Prop where
 mod:Mod X.K X.mg X.base
 kind:X.env.scope.kind=.function
 glob:X.env.globals=mainGlobals
 blt:X.env.builtins=builtinsNs
 above:X.s₀.heap.objs.size<=X.env.locals
 inj:∀x y c,X.env.cells.lookup x>>c->X.env.cells.lookup y>>c->x=y
 has:∀x,(X.env.kindOf x>>.cell∨X.env.kindOf x>>.free)->∃c,X.env.cells.lookup x>>c
 cab:∀x c,X.fn x=true->X.env.cells.lookup x>>c->X.s₀.heap.objs.size<=c
 hd:X.calm=true->X.A.handled=none
 frames:X.A.frames>>X.stack
 stk:X.stack=X.outer∨(X.stack=X.env::X.outer/\X.env.frame>>X.env.locals)
 exf:∀b∈X.ex,b≠X.env.locals/\∀x c,X.env.cells.lookup x>>c->c≠b
 bs:∀b o,X.base.get? b>>o->X.s₀.heap.get? b>>o/\X.H₀ b=none
 bsz:X.base.objs.size<=X.s₀.heap.objs.size
 noex:∀b o,X.base.get? b>>o->b∉X.ex
 exfs:∀b∈X.ex,b∉X.fs
 funs:X.s₀.heap.FunFrames X.base X.outer
 frf:∀b∈X.fs,X.H₀ b=none
structure Inv(X:Cx)(pins:List (Addr×Obj))(σ:List (Option V))(H:Hp)(s:Shared):Prop where
 ok:X.Ok
 os:s.os=X.s₀.os
 bare:AllBare s.gens
 base:Un X.fs X.ex X.H₀ H X.s₀.heap s.heap
 loc:∃m,s.heap.Ns X.env.locals m/\∀(i:Nat)(x:Str)(v:V),X.N[i]?>>x->σ[i]?>>(some v)->Vis X.env.scope x->∃u,RelV v u/\Look X.env s.heap m x u
 cell:∀x c,X.env.cells.lookup x>>c->∃v,s.heap.IsCell c v
 free:H X.env.locals=none
 freeC:∀x c,X.env.cells.lookup x>>c->H c=none
 pin:∀p∈X.pn++pins,s.heap.get? p.1>>p.2/\H p.1=none/\p.1≠X.env.locals/\p.1∉X.fs/\∀v,p.2.data≠.cell v
 hok:HOk X.prog X.w H s.heap
 len: σ.length=X.N.length
section
variable{X:Cx}{pins:List (Addr×Obj)}{σ:List (Option V)}{H H':Hp}{s:Shared}{h':Heap}
theorem Cx.Ok.nofr(ok:X.Ok){b:Addr}{o:Obj}(e:X.base.get? b>>o):b∉X.fs:=fun hb=>by
 have:=(ok.funs.mem hb).1
 rw[e] at this;cases this
theorem Inv.bs(I:Inv X pins σ H s):∀b o,X.base.get? b>>o->s.heap.get? b>>o/\H b=none:=fun b o e=>
 ⟨I.base.keep b o (I.ok.bs b o e).1 (I.ok.bs b o e).2 (I.ok.nofr e) (I.ok.noex b o e),I.base.free b o (I.ok.bs b o e).1 (I.ok.bs b o e).2 (I.ok.noex b o e)⟩
theorem Inv.bk(I:Inv X pins σ H s):∀b o,X.base.get? b>>o->s.heap.get? b>>o:=fun b o e=>(I.bs b o e).1
theorem Inv.mod(I:Inv X pins σ H s):Mod X.K X.mg X.base:=I.ok.mod
theorem Inv.kIn(I:Inv X pins σ H s):X.K.In s.heap:=I.ok.mod.kin.keeps I.bk
theorem Inv.lt(I:Inv X pins σ H s):X.env.locals<s.heap.objs.size:=let⟨_,hn,_⟩:=I.loc;hn.lt
theorem Inv.sz(I:Inv X pins σ H s):X.s₀.heap.objs.size<=s.heap.objs.size:=Mz I.ok.above (MI I.lt)
theorem Inv.nofs(I:Inv X pins σ H s){a:Addr}(h:s.heap.objs.size<=a):a∉X.fs:=fun hb=>by
 obtain⟨_,o,ho,_⟩:=I.ok.funs.mem hb
 exact absurd (MX (Heap.lt_size ho) (Mz I.sz h)) (Em _)
theorem Inv.cne(I:Inv X pins σ H s):∀x c,X.env.cells.lookup x>>c->c≠X.env.locals:=fun x c e z=>by
 obtain⟨v,o,ho,hd⟩:=I.cell x c e
 obtain⟨m,⟨o',es,ep,ho',hd',_⟩,_⟩:=I.loc
 rw[z,ho'] at ho;cases ho;rw[hd'] at hd;cases hd
theorem Inv.funs(I:Inv X pins σ H s):s.heap.FunFrames X.base X.outer:=by
 have all:∀(l:List Env),(∀b∈frs l,b∈X.fs)->X.s₀.heap.FunFrames X.base l->s.heap.FunFrames X.base l:=by
  intro l
  induction l with
  |nil=>intro _ _;trivial
  |cons env r ih=>
   intro hs hl
   obtain⟨hk,⟨L,o,hf,hn,ho,hd⟩,hr⟩:=hl
   have hL:L∈X.fs:=hs L (by unfold frs;rw[EH,hf];exact Mx)
   obtain⟨sl,e⟩:=I.base.slot L o ho (I.ok.frf L hL) hL fun z=>I.ok.exfs L z hL
   rwa[hk,⟨L,_,hf,hn,e,hd⟩,ih (fun b hb=>hs b (by unfold frs;rw[EH,hf];exact MH _ hb)) hr]
 exact all X.outer (fun _ hb=>hb) I.ok.funs
theorem Inv.stack(I:Inv X pins σ H s):s.heap.FunFrames X.base X.stack:=by
 rcases I.ok.stk with e|⟨e,hf⟩
 ·rw[e];exact I.funs
 ·rw[e]
  obtain⟨m,hn,_⟩:=I.loc
  refine .cons (by rw[I.ok.kind];decide) hf hn ?_ I.funs
  exact Heap.get?_none_of_le (Mz I.ok.bsz I.ok.above)
theorem Inv.stkSub(I:Inv X pins σ H s):∀b∈frs X.stack,b∈X.env.locals::X.fs:=fun b hb=>by
 rcases I.ok.stk with e|⟨e,hf⟩
 ·rw[e] at hb;exact MH _ hb
 ·rw[e] at hb
  unfold frs at hb
  rw[EH,hf] at hb
  exact hb
theorem Inv.stkFree(I:Inv X pins σ H s):∀b∈frs X.stack,H b=none:=fun b hb=>by
 rcases MB.mp (I.stkSub b hb) with e|hb
 ·rw[e];exact I.free
 ·obtain⟨_,o,ho,_⟩:=I.ok.funs.mem hb
  exact I.base.free b o ho (I.ok.frf b hb) fun z=>I.ok.exfs b z hb
theorem Inv.step{g':Array GenState}{t':Nat}{d':Drawn}{ch:List Addr}(I:Inv X pins σ H s)
  (hch:∀b∈ch,(b∈X.ex∨X.s₀.heap.objs.size<=b)/\b≠X.env.locals/\(∀x c,X.env.cells.lookup x>>c->c≠b)/\∀p∈X.pn++pins,p.1≠b)
  (keep:∀b o,b≠X.env.locals->b∉X.fs->b∉ch->s.heap.get? b>>o->H b=none->h'.get? b>>o)
  (slot:∀b o,b≠X.env.locals->b∈X.fs->b∉ch->s.heap.get? b>>o->H b=none->∃sl,h'.get? b>>{o with slots:=sl})(free:∀b o,b∉ch->s.heap.get? b>>o->H b=none->H' b=none)
  (there:∀b o,b∉ch->s.heap.get? b>>o->∃o',h'.get? b>>o')
  (tups:∀b xs,H b>>(.tup xs)->H' b>>(.tup xs))(frzs:∀b o u,H b>>(.frz o u)->H' b>>(.frz o u))(tbls:∀b ps,H b>>(.tbl ps)->∃more,H' b>>(.tbl (ps++more)))
  (ns:∀m,s.heap.Ns X.env.locals m->h'.Ns X.env.locals m)(hok:HOk X.prog X.w H' h')(hg:AllBare g'):
  Inv X pins σ H' {s with heap:=h',gens:=g',drawn:=d',toks:=t'}:=by
 have neL:∀b o,X.s₀.heap.get? b>>o->b≠X.env.locals:=fun b o e=>MT (MX (Heap.lt_size e) I.ok.above)
 have neC:∀b o,X.s₀.heap.get? b>>o->b∉X.ex->b∉ch:=fun b o e hx hb=>by
  rcases(hch b hb).1 with z|z
  ·exact hx z
  ·exact absurd (MX (Heap.lt_size e) z) (Em _)
 have cellK:∀x c,X.env.cells.lookup x>>c->∀v,s.heap.IsCell c v->h'.IsCell c v:=fun x c e v ⟨o,ho,hd⟩=>by
  have nch:c∉ch:=fun z=>(hch c z).2.2.1 x c e rfl
  by_cases hc:c∈X.fs
  ·obtain⟨sl,q⟩:=slot c o (I.cne x c e) hc nch ho (I.freeC x c e)
   rwa[_,q,hd]
  ·rwa[o,keep c o (I.cne x c e) hc nch ho (I.freeC x c e),hd]
 rwa[I.ok,I.os,hg,⟨fun b o e n hb hx=>?_,fun b o e n hb hx=>?_,fun b o e n hx=>?_,fun b o e hx=>?_,fun b xs e=>tups b xs (I.base.tups b xs e),fun b o xs e=>frzs b o xs (I.base.frzs b o xs e),fun b ps e=>?_⟩,?_,fun x c e=>?_,?_,fun x c e=>?_,fun p hp=>?_,hok,I.len]
 ·exact keep b o (neL b o e) hb (neC b o e hx) (I.base.keep b o e n hb hx) (I.base.free b o e n hx)
 ·obtain⟨sl,e1⟩:=I.base.slot b o e n hb hx
  obtain⟨sl',e2⟩:=slot b _ (neL b o e) hb (neC b o e hx) e1 (I.base.free b o e n hx)
  rwa[sl',e2]
 ·obtain⟨o',e1⟩:=I.base.there b o e hx
  exact free b o' (neC b o e hx) e1 (I.base.free b o e n hx)
 ·obtain⟨o',e1⟩:=I.base.there b o e hx
  exact there b o' (neC b o e hx) e1
 ·obtain⟨m1,e1⟩:=I.base.tbls b ps e
  obtain⟨m2,e2⟩:=tbls b _ e1
  rwa[m1++m2,by rw[e2,Array.append_assoc]]
 ·obtain⟨m,hn,hl⟩:=I.loc
  rwa[m,ns m hn,fun i x v e1 e2 e3=>?_]
  obtain⟨u,r,l⟩:=hl i x v e1 e2 e3
  rwa[u,r,?_]
  rcases l with l|⟨k,c,e,z⟩
  ·exact .inl l
  ·exact .inr ⟨k,c,e,cellK x c e _ z⟩
 ·obtain⟨v,z⟩:=I.cell x c e
  rwa[v,cellK x c e v z]
 ·obtain⟨m,⟨o,_,_,ho,_⟩,_⟩:=I.loc
  exact free _ o (fun z=>(hch _ z).2.1 rfl) ho I.free
 ·obtain⟨v,o,ho,hd⟩:=I.cell x c e
  exact free c o (fun z=>(hch c z).2.2.1 x c e rfl) ho (I.freeC x c e)
 ·obtain⟨e,n,ne,nf,d⟩:=I.pin p hp
  have nch:p.1∉ch:=fun z=>(hch p.1 z).2.2.2 p hp rfl
  rwa[keep p.1 p.2 ne nf nch e n,free p.1 p.2 nch e n,ne,nf,d]
theorem Inv.un{t':Nat}(I:Inv X pins σ H s)(u:Un X.fs [] H H' s.heap h')(hok:HOk X.prog X.w H' h'):Inv X pins σ H' {s with heap:=h',toks:=t'}:=by
 obtain⟨m,⟨o,es,ep,ho,r⟩,_⟩:=id I.loc
 obtain⟨sl,hL⟩:=u.any ho I.free (by simp)
 exact I.step (g':=s.gens) (d':=s.drawn) (ch:=[]) (fun _ z=>nomatch z) (fun b o _ hb _ e n=>u.keep b o e n hb (by simp)) (fun b o _ hb _ e n=>u.slot b o e n hb (by simp)) (fun b o _ e n=>u.free b o e n (by simp)) (fun b o _ e=>u.there b o e (by simp)) u.tups u.frzs u.tbls (fun m' hm=>by
  obtain⟨o',es',ep',ho',r'⟩:=hm
  rw[ho] at ho';cases ho'
  exact⟨_,es',ep',hL,r'⟩) hok I.bare
theorem Inv.call{g':Array GenState}{t':Nat}{d':Drawn}{ch:List Addr}(I:Inv X pins σ H s)(u:Un (frs X.stack) ch H H' s.heap h')(hok:HOk X.prog X.w H' h')(hg:AllBare g')
  (hch:∀b∈ch,(b∈X.ex∨X.s₀.heap.objs.size<=b)/\b≠X.env.locals/\(∀x c,X.env.cells.lookup x>>c->c≠b)/\∀p∈X.pn++pins,p.1≠b):
  Inv X pins σ H' {s with heap:=h',gens:=g',drawn:=d',toks:=t'}:=by
 obtain⟨m,⟨o,es,ep,ho,r⟩,_⟩:=id I.loc
 obtain⟨sl,hL⟩:=u.any ho I.free fun z=>(hch _ z).2.1 rfl
 exact I.step (ch:=ch) hch (fun b o hL hb hc e n=>u.keep b o e n (fun z=>(MB.mp (I.stkSub b z)).elim hL hb) hc) (fun b o _ _ hc e n=>u.any e n hc) (fun b o hc e n=>u.free b o e n hc) (fun b o hc e=>u.there b o e hc) u.tups u.frzs u.tbls (fun m' hm=>by
  obtain⟨o',es',ep',ho',r'⟩:=hm
  rw[ho] at ho';cases ho'
  exact⟨_,es',ep',hL,r'⟩) hok hg
theorem Inv.turned{t':Nat}{it:Addr}(I:Inv X pins σ H s)(k:∀b o,b≠it->s.heap.get? b>>o->h'.get? b>>o)(hn:H it=none)(hL:it≠X.env.locals)
  (h1:it∈X.ex∨X.s₀.heap.objs.size<=it)(h2:∀x c,X.env.cells.lookup x>>c->c≠it)(h3:∀p∈X.pn++pins,p.1≠it):Inv X pins σ H {s with heap:=h',toks:=t'}:=by
 have nit:∀b u,H b>>u->b≠it:=fun b u e z=>by rw[z,hn] at e;cases e
 refine I.step (g':=s.gens) (d':=s.drawn) (ch:=[it]) (fun b hb=>?_) (fun b o _ _ hc e _=>k b o (fun z=>hc (by simp[z])) e) (fun b o _ _ hc e _=>⟨o.slots,k b o (fun z=>hc (by simp[z])) e⟩) (fun _ _ _ _ n=>n)
  (fun b o hc e=>⟨o,k b o (fun z=>hc (by simp[z])) e⟩) (fun _ _ e=>e) (fun _ _ _ e=>e) (fun b ps e=>⟨#[],by rw[e];simp⟩) (fun m hm=>?_) (fun b u e=>?_) I.bare
 ·have e:b=it:=by simpa using hb
  subst e
  rwa[h1,hL,h2,h3]
 ·obtain⟨o,es,ep,ho,r⟩:=hm
  rwa[o,es,ep,k _ o (Ne.symm hL) ho,r]
 ·refine(I.hok b u e).stay (fun c v hc q=>k c v ?_ q) (fun _ q=>q) fun _ _ q=>q
  rcases hc with z|z
  ·rw[z];exact nit b u e
  ·exact nit c _ z
theorem Inv.tok(I:Inv X pins σ H s)(t:Nat):Inv X pins σ H {s with toks:=t}:=I.un (h':=s.heap) (t':=t) Un.refl I.hok
theorem Inv.kept{t':Nat}(I:Inv X pins σ H s)(k:∀b u,s.heap.get? b>>u->h'.get? b>>u):Inv X pins σ H {s with heap:=h',toks:=t'}:=I.un (Un.kept k) (I.hok.kept k)
theorem Inv.laid{a:Addr}{o:HO}{t':Nat}(I:Inv X pins σ H s)(k:∀b u,s.heap.get? b>>u->h'.get? b>>u)(hp:s.heap.objs.size<=a)(new:ObjOk X.prog X.w (upd H a o) h' a o):
  Inv X pins σ (upd H a o) {s with heap:=h',toks:=t'}:=I.un (Un.laid k hp (I.hok.fresh hp)) (I.hok.laid k hp new)
theorem Inv.write{x e:Addr}{o:HO}{t':Nat}(I:Inv X pins σ H s)(mu:Mut (H x))(he:e=x∨H e>>(.own x))(k:∀b u,b≠e->s.heap.get? b>>u->h'.get? b>>u)(heo:∃u,h'.get? e>>u)
  (new:ObjOk X.prog X.w (upd H x o) h' x o):Inv X pins σ (upd H x o) {s with heap:=h',toks:=t'}:=I.un (Un.write mu he k heo) (I.hok.write mu he k heo new)
theorem Inv.pins_of{pins':List (Addr×Obj)}(I:Inv X pins σ H s)(h:∀p∈pins',s.heap.get? p.1>>p.2/\H p.1=none/\p.1≠X.env.locals/\p.1∉X.fs/\∀v,p.2.data≠.cell v):Inv X pins' σ H s:=
 ⟨I.ok,I.os,I.bare,I.base,I.loc,I.cell,I.free,I.freeC,fun p hp=>(MY.mp hp).elim (fun z=>I.pin p (Dz _ z)) (h p),I.hok,I.len⟩
theorem kie{N:List Str}(hN:N.Nodup){i j:Nat}{x:Str}(a:N[i]?>>x)(b:N[j]?>>x):i=j:=by
 obtain⟨h1,e1⟩:=MO.mp a
 obtain⟨h2,e2⟩:=MO.mp b
 exact(List.getElem_inj hN).mp (e1.trans e2.symm)
theorem ki7{M:Model}{A:Around}{E:Value->Shared->Prop}{i:Nat}{x:Str}{v:V}{u:Value}{Q:Unit->Shared->Prop}(I:Inv X pins σ H s)(hN:X.N.Nodup)(hi:X.N[i]?>>x)(hx:Loc X.env.scope x)(r:RelV v u)
  (h:∀s',Inv X pins (σ.set i (some v)) H s'->(∃a,Heap.SameBut a s.heap s'.heap/\(a=X.env.locals∨X.env.cells.lookup x>>a))->Q () s')(hf:autoParam (X.fn x=true∨X.env.scope.names.lookup x>>.local) jX):wpAny M A (storeName X.env x u) Q E s:=by
 obtain⟨m,hn,hl⟩:=id I.loc
 have hcls:(X.env.scope.kind== .class||(X.env.scope.kind== .module&&X.env.locals !=X.env.globals))=false:=by rw[I.ok.kind];rfl
 have hiσ:i< σ.length:=by rw[I.len];exact(MO.mp hi).1
 have cne:=I.cne
 have tracked:∀{a:Addr}{h':Heap},(∃o,s.heap.get? a>>o/\H a=none)->Heap.SameBut a s.heap h'->HOk X.prog X.w H h':=fun {a h'} ha hs b ob e=>by
  obtain⟨_,_,hfree⟩:=ha
  refine(I.hok b ob e).stay (fun c w' hc q=>(hs.2 c ?_).trans q) (fun _ q=>q) fun _ _ q=>q
  rintro rfl
  rcases hc with rfl|hc
  ·rw[hfree] at e;cases e
  ·rw[hfree] at hc;cases hc
 rcases hx with hk|hk
 ·refine wpAny_storeName_local hk hn (fun h' hn' hs=>?_) hcls
  obtain⟨oL,_,_,hoL,_⟩:=id hn
  refine h _ ⟨I.ok,I.os,I.bare,⟨fun b o e n hb hx=>?_,fun b o e n hb hx=>?_,I.base.free,fun b o e hx=>?_,I.base.tups,I.base.frzs,I.base.tbls⟩,⟨_,hn',fun j y v' e1 e2 e3=>?_⟩,fun y c e=>?_,I.free,I.freeC,fun p hp=>?_,tracked ⟨oL,hoL,I.free⟩ hs,by simpa using I.len⟩ ⟨_,hs, .inl rfl⟩
  ·exact(hs.2 b (MT (MX (Heap.lt_size e) I.ok.above))).trans (I.base.keep b o e n hb hx)
  ·obtain⟨sl,e1⟩:=I.base.slot b o e n hb hx
   rwa[sl,(hs.2 b (MT (MX (Heap.lt_size e) I.ok.above))).trans e1]
  ·obtain⟨o',e1⟩:=I.base.there b o e hx
   rwa[o',(hs.2 b (MT (MX (Heap.lt_size e) I.ok.above))).trans e1]
  ·by_cases hj:j=i
   ·subst hj
    rw[hi] at e1;cases e1
    rw[E7 hiσ] at e2
    cases e2
    rwa[u,r, .inl ⟨hk,by simp⟩]
   ·rw[DB (Ne.symm hj)] at e2
    obtain⟨u',r',q⟩:=hl j y v' e1 e2 e3
    rwa[u',r',?_]
    rcases q with⟨k,e⟩|⟨k,c,e,z⟩
    ·refine .inl ⟨k,?_⟩
     have:y≠x:=fun e=>hj (kie hN e1 (e▸hi))
     simp[this,e]
    ·exact .inr ⟨k,c,e,z.sameBut hs (cne y c e)⟩
  ·obtain⟨w',z⟩:=I.cell y c e
   rwa[w',z.sameBut hs (cne y c e)]
  ·obtain⟨e,n,ne,nf,d⟩:=I.pin p hp
   rwa[(hs.2 p.1 ne).trans e,n,ne,nf,d]
 ·have hfn:X.fn x=true:=by
   rcases hf with z|z
   ·exact z
   ·rw[z] at hk;cases hk
  obtain⟨c,hc⟩:=I.ok.has x (.inl hk)
  obtain⟨w',z⟩:=I.cell x c hc
  refine wpAny_storeName_cell I.ok.kind hk hc z (fun h' hc' hs=>?_)
  obtain⟨oc,hoc,hocd⟩:=id z
  refine h {s with heap:=h'} ⟨I.ok,I.os,I.bare,⟨fun b o e n hb hx=>?_,fun b o e n hb hx=>?_,I.base.free,fun b o e hx=>?_,I.base.tups,I.base.frzs,I.base.tbls⟩,⟨m,hn.sameBut hs (Ne.symm (cne x c hc)),fun j y v' e1 e2 e3=>?_⟩,fun y c' e=>?_,I.free,I.freeC,fun p hp=>?_,tracked ⟨oc,hoc,I.freeC x c hc⟩ hs,by simpa using I.len⟩ ⟨c,hs, .inr hc⟩
  ·exact(hs.2 b (MT (MX (Heap.lt_size e) (I.ok.cab x c hfn hc)))).trans (I.base.keep b o e n hb hx)
  ·obtain⟨sl,e1⟩:=I.base.slot b o e n hb hx
   rwa[sl,(hs.2 b (MT (MX (Heap.lt_size e) (I.ok.cab x c hfn hc)))).trans e1]
  ·obtain⟨o',e1⟩:=I.base.there b o e hx
   rwa[o',(hs.2 b (MT (MX (Heap.lt_size e) (I.ok.cab x c hfn hc)))).trans e1]
  ·by_cases hj:j=i
   ·subst hj
    rw[hi] at e1;cases e1
    rw[E7 hiσ] at e2
    cases e2
    rwa[u,r, .inr ⟨.inl hk,c,hc,hc'⟩]
   ·rw[DB (Ne.symm hj)] at e2
    obtain⟨u',r',q⟩:=hl j y v' e1 e2 e3
    rwa[u',r',?_]
    rcases q with q|⟨k,c',e,z'⟩
    ·exact .inl q
    ·refine .inr ⟨k,c',e,z'.sameBut hs ?_⟩
     rintro rfl
     exact hj (kie hN e1 (I.ok.inj _ _ _ e hc▸hi))
  ·by_cases hcc:c'=c
   ·subst hcc;exact⟨_,hc'⟩
   ·obtain⟨w2,z2⟩:=I.cell y c' e
    rwa[w2,z2.sameBut hs hcc]
  ·obtain⟨e,n,ne,nf,d⟩:=I.pin p hp
   rwa[(hs.2 p.1 ?_).trans e,n,ne,nf,d]
   intro q
   rw[q,hoc] at e
   have q':oc=p.2:=Option.some.inj e
   exact d w' (by rw[<-q'];exact hocd)
theorem kdE{M:Model}{A:Around}{E:Value->Shared->Prop}{i:Nat}{x:Str}{v:V}{u:Value}{Q:Unit->Shared->Prop}(I:Inv X pins σ H s)(hN:X.N.Nodup)(hi:X.N[i]?>>x)(hx:Loc X.env.scope x)(r:RelV v u)
  (h:∀s',Inv X pins (σ.set i (some v)) H s'->Q () s')(hf:autoParam (X.fn x=true∨X.env.scope.names.lookup x>>.local) jX):wpAny M A (storeName X.env x u) Q E s:=
 ki7 I hN hi hx r (fun s' I' _=>h s' I') hf
theorem Inv.call'{s':Shared}{ch:List Addr}(I:Inv X pins σ H s)(ho:s'.os=s.os)(u:Un (frs X.stack) ch H H' s.heap s'.heap)(hok:HOk X.prog X.w H' s'.heap)(hg:AllBare s'.gens)
  (hch:∀b∈ch,(b∈X.ex∨X.s₀.heap.objs.size<=b)/\b≠X.env.locals/\(∀x c,X.env.cells.lookup x>>c->c≠b)/\∀p∈X.pn++pins,p.1≠b):Inv X pins σ H' s':=by
 obtain⟨h',g',d',t',o'⟩:=s'
 have e:o'=s.os:=ho
 subst e
 exact I.call (g':=g') (t':=t') (d':=d') u hok hg hch
end
abbrev XK:=Value->Option Addr->Hp->Prop
abbrev St:=List (Option V)
abbrev VK:=V->Hp->Prop
abbrev TE:=St->Hp->VK->Prop
abbrev TT:=St->Hp->(Bool->Hp->Prop)->Prop
abbrev TA:=St->Hp->(List V->Hp->Prop)->Prop
structure Ends where
 nx:St->Hp->Prop
 rt:VK
 bk:St->Hp->Prop:=fun _ _=>False
 ct:St->Hp->Prop:=fun _ _=>False
abbrev TS:=Ends->St->Hp->Prop
def EP(X:Cx)(pins:List (Addr×Obj))(σ:St)(Q:VK)(u:Value)(s':Shared):Prop:=∃v H',Inv X pins σ H' s'/\RelV v u/\Q v H'
def TP(X:Cx)(pins:List (Addr×Obj))(σ:St)(Q:Bool->Hp->Prop)(b:Bool)(s':Shared):Prop:=∃H',Inv X pins σ H' s'/\Q b H'
def AP(X:Cx)(pins:List (Addr×Obj))(σ:St)(Q:List V->Hp->Prop)(us:List Value)(s':Shared):Prop:=∃vs H',Inv X pins σ H' s'/\Vals vs us/\Q vs H'
def SP(X:Cx)(pins:List (Addr×Obj))(D:Ends)(f:Flow)(s':Shared):Prop:=
 match f with
 | .next=>∃σ' H',Inv X pins σ' H' s'/\D.nx σ' H'
 | .brk=>∃σ' H',Inv X pins σ' H' s'/\D.bk σ' H'
 | .cont=>∃σ' H',Inv X pins σ' H' s'/\D.ct σ' H'
 | .ret u=>∃v σ' H',Inv X pins σ' H' s'/\RelV v u/\D.rt v H'
def PE(X:Cx)(e:Expr)(t:TE):Prop:=
 ∀(pins:List (Addr×Obj))(s:Shared)(σ:St)(H:Hp)(Q:VK),Inv X pins σ H s->t σ H Q->wpAny (model X.prog X.w) X.A (eval e X.env) (EP X pins σ Q) X.xe s
def PT(X:Cx)(e:Expr)(t:TT):Prop:=
 ∀(pins:List (Addr×Obj))(s:Shared)(σ:St)(H:Hp)(Q:Bool->Hp->Prop),Inv X pins σ H s->t σ H Q->wpAny (model X.prog X.w) X.A (isTrue e X.env (eval e X.env)) (TP X pins σ Q) X.xe s
def PW(X:Cx)(e:Expr)(t:TT):Prop:=
 ∀(whole:Sem Value)(pins:List (Addr×Obj))(s:Shared)(σ:St)(H:Hp)(Q:Bool->Hp->Prop),Inv X pins σ H s->t σ H Q->wpAny (model X.prog X.w) X.A (isTrue e X.env whole) (TP X pins σ Q) X.xe s
def PW.pt{X:Cx}{e:Expr}{t:TT}(h:PW X e t):PT X e t:=h _
def PA(X:Cx)(es:List Expr)(t:TA):Prop:=
 ∀(pos:Pos)(pins:List (Addr×Obj))(s:Shared)(σ:St)(H:Hp)(Q:List V->Hp->Prop),Inv X pins σ H s->t σ H Q->wpAny (model X.prog X.w) X.A (spliced (backTo pos (starEach es X.env))) (AP X pins σ Q) X.xe s
def PS(X:Cx)(st:Stmt)(t:TS):Prop:=
 ∀(pins:List (Addr×Obj))(s:Shared)(σ:St)(H:Hp)(D:Ends),Inv X pins σ H s->t D σ H->wpAny (model X.prog X.w) X.A (exec st X.env) (SP X pins D) X.xe s
def PSs(X:Cx)(st:List Stmt)(t:TS):Prop:=
 ∀(pins:List (Addr×Obj))(s:Shared)(σ:St)(H:Hp)(D:Ends),Inv X pins σ H s->t D σ H->wpAny (model X.prog X.w) X.A (execs st X.env) (SP X pins D) X.xe s
def thn{α:Type}{t:Sem α}{Q Q': α->Shared->Prop}{M:Model}{A:Around}{E:Value->Shared->Prop}{s:Shared}(h:wpAny M A t Q E s)(hQ:∀a s,Q a s->Q' a s):wpAny M A t Q' E s:=wpAny_mono h hQ fun _ _ x=>x
section
variable{X:Cx}
inductive QtVar(i:Nat)(σ:St)(H:Hp)(Q:VK):Prop
 |ct v (_: σ[i]?>>(some v)) (_:Q v H):QtVar i σ H Q
def tVar(i:Nat):TE:=fun σ H Q=>QtVar i σ H Q
def tC(v:V):TE:=fun _ H Q=>Q v H
theorem knX{i:Nat}{x:Str}{pos:Pos}(hN:X.N[i]?>>x)(hv:Vis X.env.scope x)(hd:autoParam ((x==("__debug__" :Str))=false) jQ)(hcd:autoParam ((x==("__classdict__" :Str))=false) jQ):PE X (.Name x pos) (tVar i):=by
 intro pins s σ H Q I h
 obtain⟨v,e,h⟩:=h
 obtain⟨m,hn,hl⟩:=I.loc
 obtain⟨u,r,l⟩:=hl i x v hN e hv
 have fin:EP X pins σ Q u s:=⟨v,H,I,r,h⟩
 rcases l with⟨hk,hm⟩|⟨hk,c,hc,hcell⟩
 ·exact wpAny_Name (wpAny_loadName_local I.ok.kind hk hn hm fin) hd
 ·rcases hk with hk|hk
  ·exact wpAny_Name (wpAny_loadName_cell I.ok.kind hk hc hcell fin) hd
  ·exact wpAny_Name (wpAny_loadName_free I.ok.kind hk hc hcell fin hcd) hd
theorem kaq{i j pos}:PE X (.Constant (.int i) j pos) (tC (.int i)):=fun _ _ _ H _ I h=>wpAny_Constant_int ⟨.int i,H,I.tok _,⟨_,rfl⟩,h⟩
theorem pe_bl{b j pos}:PE X (.Constant (.bool b) j pos) (tC (.bl b)):=fun _ _ _ H _ I h=>Constant_bool ⟨.bl b,H,I,rfl,h⟩
theorem kbg{j pos}:PE X (.Constant .none j pos) (tC .non):=fun _ _ _ H _ I h=>Constant_none ⟨.non,H,I,rfl,h⟩
theorem kat{x j pos}:PE X (.Constant (.str x) j pos) (tC (.str x)):=fun _ _ _ H _ I h=>Calls.Constant_str ⟨.str x,H,I.tok _,⟨_,rfl⟩,h⟩
def Gl(X:Cx)(x:Str):Prop:=X.env.kindOf x>>.globalImplicit
theorem kdA{E:Value->Shared->Prop}{pins:List (Addr×Obj)}{s:Shared}{σ:St}{H:Hp}{x:Str}{u:Value}{pos:Pos}{Q:Value->Shared->Prop}(I:Inv X pins σ H s)(hg:Gl X x)(hm:X.mg x>>u)(h:Q u s)
  (hd:autoParam ((x==("__debug__" :Str))=false) jQ):wpAny (model X.prog X.w) X.A (eval (.Name x pos) X.env) Q E s:=
 Calls.Name_function_global I.ok.kind hg (Calls.loadGlobal_global (by rw[I.ok.glob];exact I.mod.glob.keeps I.bk) hm h) hd
theorem kef{E:Value->Shared->Prop}{pins:List (Addr×Obj)}{s:Shared}{σ:St}{H:Hp}{x:Str}{u:Value}{pos:Pos}{Q:Value->Shared->Prop}(I:Inv X pins σ H s)(hg:Gl X x)(hm:X.mg x=none)(hv:bootBuiltins x>>u)(h:Q u s)
  (hn:autoParam (x≠"__name__") jQ)(hd:autoParam ((x==("__debug__" :Str))=false) jQ):wpAny (model X.prog X.w) X.A (eval (.Name x pos) X.env) Q E s:=by
 obtain⟨mb,h1,h2⟩:=I.mod.blt
 exact Calls.Name_function_global I.ok.kind hg (Calls.loadGlobal_builtin (by rw[I.ok.glob];exact I.mod.glob.keeps I.bk) hm (by rw[I.ok.blt];exact h1.keeps I.bk) ((h2 x hn).trans hv) h) hd
theorem kaI{x:Str}{v:V}{u:Value}{pos:Pos}(hg:Gl X x)(hm:X.mg x>>u)(r:RelV v u)(hd:autoParam ((x==("__debug__" :Str))=false) jQ):PE X (.Name x pos) (tC v):=
 fun _ _ _ H _ I h=>kdA I hg hm ⟨v,H,I,r,h⟩ hd
theorem kbK{x:Str}{v:V}{u:Value}{pos:Pos}(hg:Gl X x)(hm:X.mg x=none)(hv:bootBuiltins x>>u)(r:RelV v u)(hn:autoParam (x≠"__name__") jQ)(hd:autoParam ((x==("__debug__" :Str))=false) jQ):PE X (.Name x pos) (tC v):=
 fun _ _ _ H _ I h=>kef I hg hm hv ⟨v,H,I,r,h⟩ hn hd
variable{a b:Expr}{ta tb:TE}{pos:Pos}
def PC(X:Cx)(op:CmpOp)(a b:Expr)(t:TE):Prop:=
 ∀(pins:List (Addr×Obj))(s:Shared)(σ:St)(H:Hp)(Q:VK),Inv X pins σ H s->t σ H Q->
  wpAny (model X.prog X.w) X.A (eval a X.env) (fun v s₁=>wpAny (model X.prog X.w) X.A (eval b X.env) (fun u s₂=>wpAny (model X.prog X.w) X.A (compareOp op v u) (EP X pins σ Q) X.xe s₂) X.xe s₁) X.xe s
theorem kif(b:Expr){op:CmpOp}(h:op≠.In)(h2:op≠.NotIn):behindInMarks op b=false:=by
 have e1:(op==CmpOp.In)=false:=by cases op <;> first|rfl|exact absurd rfl h
 have e2:(op==CmpOp.NotIn)=false:=by cases op <;> first|rfl|exact absurd rfl h2
 cases b <;> simp[behindInMarks,e1,e2]
inductive QtB(Q:Bool->Hp->Prop)(x:V)(H1:Hp):Prop
 |ct c (_:x=.bl c) (_:Q c H1):QtB Q x H1
def tB(t:TE):TT:=fun σ H Q=>t σ H fun x H1=>QtB Q x H1
theorem kjX{op:CmpOp}{t:TE}(h:PC X op a b t)(h1:behindInMarks op b=false:=by first|exact kif _ (by decide) (by decide)|rfl):PE X (.Compare a [op] [b] pos) t:=fun pins s σ H Q I hw=>wpAny_Compare1 (h pins s σ H Q I hw) h1
theorem knQ{op:CmpOp}{t:TE}(h:PC X op a b t)(h1:behindInMarks op b=false:=by first|exact kif _ (by decide) (by decide)|rfl):PT X (.Compare a [op] [b] pos) (tB t):=by
 intro pins s σ H Q I hw
 refine wpAny_isTrue_Compare1 (thn (h pins s σ H _ I hw) fun v s1 h1=>thn h1 fun u s2 h2=>thn h2 fun c s3 zz=>?_) h1
 obtain⟨x,H1,I1,r1,q1⟩:=zz
 obtain⟨d,rfl,q⟩:=q1
 cases r1
 exact wpAny_truthy_bool ⟨H1,I1,q⟩
theorem kaX{e:Expr}{t:TE}(h:PE X e t)(he:autoParam (∀whole,isTrue e X.env whole=(do let v <-whole;standAt e.pos;holding [v] (truthy v))) jJ):PT X e (tB t):=by
 intro pins s σ H Q I hw
 refine isTrue_plain (thn (h pins s σ H _ I hw) fun v s1 zz=>?_) (he _)
 obtain⟨x,H1,I1,r1,q1⟩:=zz
 obtain⟨d,rfl,q⟩:=q1
 cases r1
 exact wpAny_truthy_bool ⟨H1,I1,q⟩
variable{tA tB':TT}{rest:List Expr}
def tAnd(t u:TT):TT:=fun σ H Q=>t σ H fun c H1=>if c=true then u σ H1 Q else Q false H1
def tOr(t u:TT):TT:=fun σ H Q=>t σ H fun c H1=>if c=true then Q true H1 else u σ H1 Q
def tNot(t:TT):TT:=fun σ H Q=>t σ H fun c H1=>Q (!c) H1
theorem kbX(ha:PT X a tA):PW X (.BoolOp .And [a] pos) tA:=by
 intro wh pins s σ H Q I h
 refine isTrue_and (thn (ha pins s σ H Q I h) fun c s1 e=>?_)
 cases c with
 |true=>exact isTrue_and_nil e
 |false=>exact e
theorem kh0(ha:PT X a tA):PW X (.BoolOp .Or [a] pos) tA:=by
 intro wh pins s σ H Q I h
 refine isTrue_or (thn (ha pins s σ H Q I h) fun c s1 e=>?_)
 cases c with
 |false=>exact isTrue_or_nil e
 |true=>exact e
theorem kcn(ha:PT X a tA)(hb:PW X (.BoolOp .And (b::rest) pos) tB'):PW X (.BoolOp .And (a::b::rest) pos) (tAnd tA tB'):=by
 intro wh pins s σ H Q I h
 refine isTrue_and (thn (ha pins s σ H _ I h) fun c s1 zz=>?_)
 obtain⟨H1,I1,q1⟩:=zz
 cases c with
 |true=>exact hb wh pins s1 σ H1 Q I1 q1
 |false=>exact⟨H1,I1,q1⟩
theorem pw_or(ha:PT X a tA)(hb:PW X (.BoolOp .Or (b::rest) pos) tB'):PW X (.BoolOp .Or (a::b::rest) pos) (tOr tA tB'):=by
 intro wh pins s σ H Q I h
 refine isTrue_or (thn (ha pins s σ H _ I h) fun c s1 zz=>?_)
 obtain⟨H1,I1,q1⟩:=zz
 cases c with
 |true=>exact⟨H1,I1,q1⟩
 |false=>exact hb wh pins s1 σ H1 Q I1 q1
theorem kfl(ha:PT X a tA):PT X (.UnaryOp .Not a pos) (tNot tA):=by
 intro pins s σ H Q I h
 exact isTrue_not (ha pins s σ H (fun c H1=>Q (!c) H1) I h)
inductive kmu(tb:TE)(σ:St)(Q:VK)(x:V)(H1:Hp):Prop
 |ct c (_:x=.bl c) (_:if c=true then tb σ H1 Q else Q (.bl false) H1):kmu tb σ Q x H1
def tAndV(ta tb:TE):TE:=fun σ H Q=>ta σ H fun x H1=>kmu tb σ Q x H1
inductive QtOrV(tb:TE)(σ:St)(Q:VK)(x:V)(H1:Hp):Prop
 |ct c (_:x=.bl c) (_:if c=true then Q (.bl true) H1 else tb σ H1 Q):QtOrV tb σ Q x H1
def tOrV(ta tb:TE):TE:=fun σ H Q=>ta σ H fun x H1=>QtOrV tb σ Q x H1
inductive kmr(Q:VK)(x:V)(H1:Hp):Prop
 |ct c (_:x=.bl c) (_:Q (.bl (!c)) H1):kmr Q x H1
def tNotV(ta:TE):TE:=fun σ H Q=>ta σ H fun x H1=>kmr Q x H1
theorem kd5{op}{t:TE}(h:PE X a t):PE X (.BoolOp op [a] pos) t:=fun pins s σ H Q I hw=>BoolOp_one (h pins s σ H Q I hw)
theorem kdK(ha:PE X a ta)(hb:PE X (.BoolOp .And (b::rest) pos) tb):PE X (.BoolOp .And (a::b::rest) pos) (tAndV ta tb):=by
 intro pins s σ H Q I h
 refine BoolOp_and (thn (ha pins s σ H _ I h) fun v s1 zz=>?_)
 obtain⟨x,H1,I1,r1,q1⟩:=zz
 obtain⟨c,rfl,q1⟩:=q1
 cases r1
 refine wpAny_truthy_bool ?_
 cases c with
 |true=>exact hb pins s1 σ H1 Q I1 q1
 |false=>exact⟨.bl false,H1,I1,rfl,q1⟩
theorem pe_or(ha:PE X a ta)(hb:PE X (.BoolOp .Or (b::rest) pos) tb):PE X (.BoolOp .Or (a::b::rest) pos) (tOrV ta tb):=by
 intro pins s σ H Q I h
 refine BoolOp_or (thn (ha pins s σ H _ I h) fun v s1 zz=>?_)
 obtain⟨x,H1,I1,r1,q1⟩:=zz
 obtain⟨c,rfl,q1⟩:=q1
 cases r1
 refine wpAny_truthy_bool ?_
 cases c with
 |false=>exact hb pins s1 σ H1 Q I1 q1
 |true=>exact⟨.bl true,H1,I1,rfl,q1⟩
theorem knY(ha:PE X a ta):PE X (.UnaryOp .Not a pos) (tNotV ta):=by
 intro pins s σ H Q I h
 refine UnaryOp_ (thn (ha pins s σ H _ I h) fun v s1 zz=>?_)
 obtain⟨x,H1,I1,r1,q1⟩:=zz
 obtain⟨c,rfl,q1⟩:=q1
 cases r1
 exact not_of (wpAny_truthy_bool ⟨.bl (!c),H1,I1,rfl,q1⟩)
def tIf(t:TT)(ta tb:TE):TE:=fun σ H Q=>t σ H fun c H1=>if c=true then ta σ H1 Q else tb σ H1 Q
theorem kfU{c:Expr}(hc:PT X c tA)(ha:PE X a ta)(hb:PE X b tb):PE X (.IfExp c a b pos) (tIf tA ta tb):=by
 intro pins s σ H Q I h
 refine wpAny_IfExp (thn (hc pins s σ H _ I h) fun d s1 zz=>?_)
 obtain⟨H1,I1,q1⟩:=zz
 cases d with
 |true=>exact ha pins s1 σ H1 Q I1 q1
 |false=>exact hb pins s1 σ H1 Q I1 q1
end
def SqL(K:Mt)(H:Hp)(a:Addr)(xs:List V):Prop:=
 Rd H a (.lst xs)∨
  ∃(o:Obj)(its:Array Value)(n:Nat),K.lookup a>>o/\o.cls=.type "list"/\o.dict=none/\o.data=.seq its n/\its.size<=sizeLine/\Vals xs its.toList
def SqT(K:Mt)(H:Hp)(a:Addr)(xs:List V):Prop:=
 Rd H a (.tup xs)∨
  ∃(o:Obj)(its:Array Value)(n:Nat),K.lookup a>>o/\o.cls=.type "tuple"/\o.data=.seq its n/\its.size<=sizeLine/\Vals xs its.toList
noncomputable def absV:Value->Option V
 | .none=>some .non
 | .bool b=>some (.bl b)
 | .int i _=>some (.int i)
 | .str x _=>some (.str x)
 | .bytes b _=>some (.byt b)
 | .float b _=>some (.flt b)
 | .ref a=>some (.ref a)
 | .type n=>some (.ty n)
 |_=>none
theorem RelV.abs{x:V}{u:Value}(r:RelV x u):absV u>>x:=by
 cases x with
 |non=>cases r;rfl
 |bl _=>cases r;rfl
 |int _=>obtain⟨t,rfl⟩:=r;rfl
 |str _=>obtain⟨t,rfl⟩:=r;rfl
 |byt _=>obtain⟨t,rfl⟩:=r;rfl
 |flt _=>obtain⟨t,rfl⟩:=r;rfl
 |ref _=>cases r;rfl
 |ty _=>cases r;rfl
def RelV.inj{x y:V}{u:Value}(r:RelV x u)(q:RelV y u):x=y:=Option.some.inj (r.abs.symm.trans q.abs)
theorem Vals.inj:∀{xs ys:List V}{us:List Value},Vals xs us->Vals ys us->xs=ys
 |_,_,_, .nil, .nil=>rfl
 |_,_,_, .cons r t, .cons r' t'=>by rw[r.inj r',Vals.inj t t']
section
variable{X:Cx}{pins:List (Addr×Obj)}{σ:St}{H:Hp}{s:Shared}{a:Addr}{xs ys:List V}
theorem SqL.of{K:Mt}(h:H a>>(.lst xs)):SqL K H a xs:=.inl (.inl h)
theorem SqT.of{K:Mt}(h:H a>>(.tup xs)):SqT K H a xs:=.inl (.inl h)
theorem Inv.list(I:Inv X pins σ H s)(h:SqL X.K H a xs):∃its:List Value,Vals xs its/\PlainL s.heap a its.toArray/\xs.length<=sizeLine:=by
 rcases h with h|⟨o,its,n,hk,hc,hd,hs,hz,r⟩
 ·obtain⟨z,its,n,r,e⟩:=h.ok I.hok
  rwa[its,r,⟨_,n,e,rfl,rfl,rfl⟩,z]
 ·rwa[its.toList,r,⟨o,n,I.kIn a o hk,hc,hd,by simpa using hs⟩,?_]
  have e:=r.length
  simp only[E8] at e
  lia
theorem Inv.tuple(I:Inv X pins σ H s)(h:SqT X.K H a xs):∃its:List Value,Vals xs its/\IsTup s.heap a its.toArray/\xs.length<=sizeLine:=by
 rcases h with h|⟨o,its,n,hk,hc,hs,hz,r⟩
 ·obtain⟨z,its,r,p⟩:=h.ok I.hok
  rwa[its,r,p,z]
 ·rwa[its.toList,r,⟨o,I.kIn a o hk,hc,n,by simpa using hs⟩,?_]
  have e:=r.length
  simp only[E8] at e
  lia
theorem Inv.list_inj(I:Inv X pins σ H s)(h:SqL X.K H a xs)(h':SqL X.K H a ys):xs=ys:=by
 obtain⟨its,r,⟨o,n,e,_,_,d⟩,_⟩:=I.list h
 obtain⟨its',r',⟨o',n',e',_,_,d'⟩,_⟩:=I.list h'
 rw[e] at e';cases e'
 rw[d] at d'
 injection d' with d1 _
 have:its=its':=by simpa using congrArg Array.toList d1
 subst this
 exact r.inj r'
end
abbrev Cx.wish(X:Cx)(E:Value->Shared->Prop):Cx:={X with xe:=E}
abbrev Cx.nox(X:Cx):Cx:=X.wish fun _ _=>False
def Cx.Ok.wish{X:Cx}(ok:X.Ok)(E:Value->Shared->Prop):(X.wish E).Ok:=
 ⟨ok.mod,ok.kind,ok.glob,ok.blt,ok.above,ok.inj,ok.has,ok.cab,ok.hd,ok.frames,ok.stk,ok.exf,ok.bs,ok.bsz,ok.noex,ok.exfs,ok.funs,ok.frf⟩
def Cx.Ok.unwish{X:Cx}{E:Value->Shared->Prop}(ok:(X.wish E).Ok):X.Ok:=
 ⟨ok.mod,ok.kind,ok.glob,ok.blt,ok.above,ok.inj,ok.has,ok.cab,ok.hd,ok.frames,ok.stk,ok.exf,ok.bs,ok.bsz,ok.noex,ok.exfs,ok.funs,ok.frf⟩
section
variable{X:Cx}{pins:List (Addr×Obj)}{σ:St}{H:Hp}{s:Shared}{E:Value->Shared->Prop}
theorem Inv.wish(I:Inv X pins σ H s)(E:Value->Shared->Prop):Inv (X.wish E) pins σ H s:=⟨I.ok.wish E,I.os,I.bare,I.base,I.loc,I.cell,I.free,I.freeC,I.pin,I.hok,I.len⟩
theorem Inv.unwish(I:Inv (X.wish E) pins σ H s):Inv X pins σ H s:=⟨I.ok.unwish,I.os,I.bare,I.base,I.loc,I.cell,I.free,I.freeC,I.pin,I.hok,I.len⟩
theorem SP.unwish{D:Ends}{f:Flow}{s':Shared}(h:SP (X.wish E) pins D f s'):SP X pins D f s':=by
 cases f with
 |next=>obtain⟨σ',H',I,q⟩:=h;exact⟨σ',H',I.unwish,q⟩
 |brk=>obtain⟨σ',H',I,q⟩:=h;exact⟨σ',H',I.unwish,q⟩
 |cont=>obtain⟨σ',H',I,q⟩:=h;exact⟨σ',H',I.unwish,q⟩
 |ret u=>obtain⟨v,σ',H',I,r,q⟩:=h;exact⟨v,σ',H',I.unwish,r,q⟩
theorem PSs.nox{st:List Stmt}{t:TS}(h:PSs X.nox st t):PSs X st t:=fun pins s σ H D I hw=>
 wpAny_mono (h pins s σ H D (I.wish _) hw) (fun _ _ q=>q.unwish) fun _ _ z=>False.elim z
end
section
variable{X:Cx}{st:Stmt}{rest:List Stmt}{t u:TS}{e:Expr}{te:TE}{pos:Pos}
def tNext:TS:=fun D σ H=>D.nx σ H
def tSeq(t u:TS):TS:=fun D σ H=>t {D with nx:=u D} σ H
theorem kau:PSs X [] tNext:=fun _ _ σ H _ I h=>wpAny_execs_nil ⟨σ,H,I,h⟩
theorem kac(h1:PS X st t)(h2:PSs X rest u):PSs X (st::rest) (tSeq t u):=by
 intro pins s σ H D I h
 refine wpAny_execs_cons (thn (h1 pins s σ H {D with nx:=u D} I h) fun f s1 q=>?_)
 cases f with
 |next=>
  obtain⟨σ',H',I',q⟩:=q
  exact h2 pins s1 σ' H' D I' q
 |ret v=>exact q
 |brk=>exact q
 |cont=>exact q
theorem kag(h1:PS X st t):PSs X [st] t:=by
 intro pins s σ H D I h
 refine wpAny_execs_cons (thn (h1 pins s σ H D I h) fun f s1 q=>?_)
 cases f with
 |next=>exact wpAny_execs_nil q
 |ret v=>exact q
 |brk=>exact q
 |cont=>exact q
theorem Inv.quiet{pins:List (Addr×Obj)}{σ:St}{H:Hp}{s:Shared}(I:Inv X pins σ H s):interactive X.env=false:=by simp[interactive,I.ok.kind]
def tDrop(te:TE):TS:=fun D σ H=>te σ H fun _ H1=>D.nx σ H1
theorem kay(he:PE X e te)(hs:autoParam (swapsWith e none pos.line X.env=pure false) jz):PS X (.Expr e pos) (tDrop te):=by
 intro pins s σ H D I h
 exact wpAny_Expr_any (thn (he pins s σ H _ I h) fun v s1 ⟨x,H1,I1,r1,q1⟩=>⟨σ,H1,I1,q1⟩) I.quiet hs
def tRet(te:TE):TS:=fun D σ H=>te σ H D.rt
theorem kao(he:PE X e te):PS X (.Return (some e) pos) (tRet te):=by
 intro pins s σ H D I h
 exact wpAny_Return_some (thn (he pins s σ H _ I h) fun v s1 ⟨x,H1,I1,r1,q1⟩=>⟨x,σ,H1,I1,r1,q1⟩)
def tIfS(c:TT)(t u:TS):TS:=fun D σ H=>c σ H fun b H1=>if b=true then t D σ H1 else u D σ H1
theorem ps_if{c:Expr}{a b:List Stmt}{tc:TT}(hc:PT X c tc)(ha:PSs X a t)(hb:PSs X b u):PS X (.If c a b pos) (tIfS tc t u):=by
 intro pins s σ H D I h
 refine wpAny_If (thn (hc pins s σ H _ I h) fun d s1 zz=>?_)
 obtain⟨H1,I1,q1⟩:=zz
 cases d with
 |true=>exact ha pins s1 σ H1 D I1 q1
 |false=>exact hb pins s1 σ H1 D I1 q1
end
abbrev TG:=V->St->Hp->(St->Hp->Prop)->Prop
abbrev TGs:=List V->St->Hp->(St->Hp->Prop)->Prop
def PG(X:Cx)(target:Expr)(t:TG):Prop:=
 ∀(pins:List (Addr×Obj))(s:Shared)(σ:St)(H:Hp)(v:V)(u:Value)(Q:St->Hp->Prop),Inv X pins σ H s->RelV v u->t v σ H Q->
  wpAny (model X.prog X.w) X.A (assign target X.env u) (fun _ s'=>∃σ' H',Inv X pins σ' H' s'/\Q σ' H') X.xe s
def PGs(X:Cx)(ts:List Expr)(t:TGs):Prop:=
 ∀(pins:List (Addr×Obj))(s:Shared)(σ:St)(H:Hp)(vs:List V)(us:List Value)(Q:St->Hp->Prop),Inv X pins σ H s->Vals vs us->t vs σ H Q->
  wpAny (model X.prog X.w) X.A (assignInOrder ((assignEach ts X.env).map (·.2)) us) (fun _ s'=>∃σ' H',Inv X pins σ' H' s'/\Q σ' H') X.xe s
abbrev TSet:=V->V->V->Hp->(Hp->Prop)->Prop
def PSet(X:Cx)(t:TSet):Prop:=
 ∀(pins:List (Addr×Obj))(s:Shared)(σ:St)(H:Hp)(o i v:V)(ov iv u:Value)(Q:Hp->Prop),Inv X pins σ H s->RelV o ov->RelV i iv->RelV v u->t o i v H Q->
  wpAny (model X.prog X.w) X.A (setItem ov iv u) (fun _ s'=>∃H',Inv X pins σ H' s'/\Q H') X.xe s
abbrev TIp:=V->V->Hp->VK->Prop
def PIp(X:Cx)(op:Operator)(t:TIp):Prop:=
 ∀(pins:List (Addr×Obj))(s:Shared)(σ:St)(H:Hp)(x y:V)(v u:Value)(Q:VK),Inv X pins σ H s->RelV x v->RelV y u->t x y H Q->
  wpAny (model X.prog X.w) X.A (inplaceOp op v u) (EP X pins σ Q) X.xe s
section
variable{X:Cx}{pos:Pos}
def gName(i:Nat):TG:=fun v σ H Q=>Q (σ.set i (some v)) H
theorem km4{i:Nat}{x:Str}(hN:X.N.Nodup)(hi:X.N[i]?>>x)(hx:Loc X.env.scope x)(hf:autoParam (X.fn x=true∨X.env.scope.names.lookup x>>.local) jX):PG X (.Name x pos) (gName i):=by
 intro pins s σ H v u Q I r h
 exact wpAny_assign_Name (kdE I hN hi hx r (fun s' I'=>⟨_,H,I',h⟩) hf)
def gNil:TGs:=fun vs σ H Q=>vs=[]/\Q σ H
inductive kmE(t:TG)(u:TGs)(vs:List V)(σ:St)(H:Hp)(Q:St->Hp->Prop):Prop
 |ct v r (_:vs=v::r) (_:t v σ H fun σ' H'=>u r σ' H' Q):kmE t u vs σ H Q
def gCons(t:TG)(u:TGs):TGs:=fun vs σ H Q=>kmE t u vs σ H Q
theorem kbl:PGs X [] gNil:=by
 intro pins s σ H vs us Q I r h
 obtain⟨e,h⟩:=h
 subst e
 cases r
 exact assignInOrder_nil ⟨σ,H,I,h⟩
theorem kaw{e:Expr}{es:List Expr}{t:TG}{u:TGs}(h1:PG X e t)(h2:PGs X es u)
  (hs:autoParam ((assignEach (e::es) X.env).map (·.2)=assign e X.env::(assignEach es X.env).map (·.2)) jz):PGs X (e::es) (gCons t u):=by
 intro pins s σ H vs us Q I r h
 obtain⟨v,vr,e1,h⟩:=h
 subst e1
 cases r with
 |cons r rr=>
  rw[hs]
  refine assignInOrder_cons (thn (h1 pins s σ H _ _ _ I r h) fun _ s1 zz=>?_)
  obtain⟨σ1,H1,I1,q1⟩:=zz
  exact h2 pins s1 σ1 H1 _ _ Q I1 rr q1
inductive QgTup(K:Mt)(n:Nat)(t:TGs)(v:V)(σ:St)(H:Hp)(Q:St->Hp->Prop):Prop
 |ct a xs (_:v=.ref a) (_:SqT K H a xs) (_:xs.length=n) (_:t xs σ H Q):QgTup K n t v σ H Q
def gTup(K:Mt)(n:Nat)(t:TGs):TG:=fun v σ H Q=>QgTup K n t v σ H Q
theorem knW{es:List Expr}{k:Nat}{t:TGs}{n:Nat}(hc:X.calm=true)(h:PGs X es t)
  (hn:autoParam ((assignEach es X.env).length=n) jz) (hst:autoParam ((assignEach es X.env).findIdx? (·.1)=none) jz):PG X (.Tuple es k pos) (gTup X.K n t):=by
 intro pins s σ H v u Q I r hw
 obtain⟨a,xs,e1,hq,hl,hw⟩:=hw
 subst e1
 cases r
 obtain⟨its,rv,ht,hz⟩:=I.tuple hq
 refine assign_Tuple_tuple (I.ok.hd hc) ht (by simp[hn,<-hl,rv.length]) hst fun h' hx=>?_
 have I1:Inv X pins σ H {s with heap:=h'}:=I.kept (t':=s.toks) fun b o e=>hx b o (MT (Heap.lt_size e)) e
 exact h pins _ σ H xs _ Q I1 (by simpa using rv) hw
def gSub(to ti:TE)(t:TSet):TG:=fun v σ H Q=>to σ H fun o H1=>ti σ H1 fun i H2=>t o i v H2 fun H3=>Q σ H3
theorem kh4{o i:Expr}{to ti:TE}{t:TSet}(ho:PE X o to)(hi:PE X i ti)(hs:PSet X t)
  (ha:autoParam (∀v,assign (.Subscript o i pos) X.env v=(do
   let ov <-holding [v] (eval o X.env)
   let iv <-holding [v,ov] (eval i X.env)
   standAt pos
   holding [v,ov,iv] (setItem ov iv v)
   release [v,ov,iv] [])) jJ):PG X (.Subscript o i pos) (gSub to ti t):=by
 intro pins s σ H v u Q I r h
 rw[ha]
 refine wpAny_bind (wpAny_holding (thn (ho pins s σ H _ I h) fun ov s1 zz=>?_))
 obtain⟨x,H1,I1,r1,q1⟩:=zz
 refine wpAny_bind (wpAny_holding (thn (hi pins s1 σ H1 _ I1 q1) fun iv s2 zz=>?_))
 obtain⟨y,H2,I2,r2,q2⟩:=zz
 refine wpAny_bind (wpAny_standAt (wpAny_bind (wpAny_holding (thn (hs pins s2 σ H2 x y v ov iv u _ I2 r1 r2 r q2) fun _ s3 zz=>?_))))
 obtain⟨H3,I3,q3⟩:=zz
 exact wpAny_release ⟨σ,H3,I3,q3⟩
def tAsg(te:TE)(g:TG):TS:=fun D σ H=>te σ H fun x H1=>g x σ H1 D.nx
theorem kh1{tg e:Expr}{te:TE}{g:TG}(he:PE X e te)(hg:PG X tg g)(hs:autoParam (swapsWithSole [tg] e pos.line X.env=pure false) jz)(hw:autoParam (swappedStores [tg] e X.env=pure none) jz)
  (h1:autoParam ((assignEach [tg] X.env).map (·.2)=[assign tg X.env]) jz):PS X (.Assign [tg] e pos) (tAsg te g):=by
 intro pins s σ H D I h
 refine wpAny_Assign_stores (thn (he pins s σ H _ I h) fun v s1 zz=>?_) hs hw
 obtain⟨x,H1,I1,r1,q1⟩:=zz
 rw[h1]
 exact thn (hg pins s1 σ H1 x v _ I1 r1 q1) fun _ s2 q=>q
theorem knS{i:Nat}{x:Str}{e:Expr}{te:TE}{pos':Pos}(hN:X.N.Nodup)(hi:X.N[i]?>>x)(hx:Loc X.env.scope x)(he:PE X e te)(hs:autoParam (swapsWith e (some (.Name x pos')) pos.line X.env=pure false) jz)(hf:autoParam (X.fn x=true∨X.env.scope.names.lookup x>>.local) jX):
  PS X (.Assign [.Name x pos'] e pos) (tAsg te (gName i)):=by
 intro pins s σ H D I h
 refine wpAny_Assign_Name (thn (he pins s σ H _ I h) fun v s1 zz=>?_) hs
 obtain⟨y,H1,I1,r1,q1⟩:=zz
 exact kdE I1 hN hi hx r1 (fun s2 I2=>⟨_,H1,I2,q1⟩) hf
inductive QtAug(i:Nat)(te:TE)(ti:TIp)(D:Ends)(σ:St)(H:Hp):Prop
 |ct x (_: σ[i]?>>(some x)) (_:te σ H fun y H1=>ti x y H1 fun z H2=>D.nx (σ.set i (some z)) H2):QtAug i te ti D σ H
def tAug(i:Nat)(te:TE)(ti:TIp):TS:=fun D σ H=>QtAug i te ti D σ H
theorem knU{i:Nat}{x:Str}{e:Expr}{te:TE}{op:Operator}{ti:TIp}{pos':Pos}(hN:X.N.Nodup)(hi:X.N[i]?>>x)(hx:Loc X.env.scope x)(he:PE X e te)(ho:PIp X op ti)(hf:autoParam (X.fn x=true∨X.env.scope.names.lookup x>>.local) jX):
  PS X (.AugAssign (.Name x pos') op e pos) (tAug i te ti):=by
 intro pins s σ H D I h
 obtain⟨v,e1,h⟩:=h
 obtain⟨m,hn,hl⟩:=I.loc
 have vis:Vis X.env.scope x:=by rcases hx with k|k;exact .inl k;exact .inr (.inl k)
 obtain⟨u,r,l⟩:=hl i x v hi e1 vis
 refine wpAny_AugAssign_Name ?_
 have go:wpAny (model X.prog X.w) X.A (eval e X.env) (fun w s₂=>wpAny (model X.prog X.w) X.A (inplaceOp op u w) (fun r s₃=>wpAny (model X.prog X.w) X.A (storeName X.env x r) (fun _=>SP X pins D .next) X.xe s₃) X.xe s₂) X.xe s:=by
  refine thn (he pins s σ H _ I h) fun w s1 zz=>?_
  obtain⟨y,H1,I1,r1,q1⟩:=zz
  refine thn (ho pins s1 σ H1 v y u w _ I1 r r1 q1) fun z s2 zz=>?_
  obtain⟨zv,H2,I2,r2,q2⟩:=zz
  exact kdE I2 hN hi hx r2 (fun s3 I3=>⟨_,H2,I3,q2⟩) hf
 rcases l with⟨hk,hm⟩|⟨hk,c,hc,hcell⟩
 ·exact wpAny_loadName_local I.ok.kind hk hn hm go
 ·rcases hk with hk|hk
  ·exact wpAny_loadName_cell I.ok.kind hk hc hcell go
  ·rcases hx with k|k
   ·have:X.env.scope.names.lookup x>>.free:=hk
    rw[k] at this;cases this
   ·have:X.env.scope.names.lookup x>>.free:=hk
    rw[k] at this;cases this
inductive QipI(f:Int->Int->Int)(x:V)(y:V)(H:Hp)(Q:VK):Prop
 |ct i j (_:x=.int i) (_:y=.int j) (_:Q (.int (f i j)) H):QipI f x y H Q
def ipI(f:Int->Int->Int):TIp:=fun x y H Q=>QipI f x y H Q
theorem kod:PIp X .Add (ipI fun i j=>i+j):=by
 intro pins s σ H x y v u Q I r1 r2 h
 obtain⟨i,j,e1,e2,q⟩:=h
 subst e1;subst e2
 obtain⟨t,rfl⟩:=r1
 obtain⟨t',rfl⟩:=r2
 exact iadd_int ⟨.int _,H,I.tok _,⟨_,rfl⟩,q⟩
end
section
variable{X:Cx}{pos:Pos}
def klT(c:TT)(tb:TS):TS:=fun D σ H=>∃W:Nat->St->Hp->Prop,(∃m,W m σ H)/\∀m σ H,W m σ H->
 c σ H fun b H1=>if b=true then ∃N:St->Hp->Prop,(∀σ' H',N σ' H'->∃m',m'<m/\W m' σ' H')/\tb {D with nx:=N,ct:=N,bk:=D.nx} σ H1 else D.nx σ H1
theorem kfQ{c:Expr}{body:List Stmt}{tc:TT}{tb:TS}(hp:PassesOwn (model X.prog X.w) X.A X.env X.xe)(hc:PT X c tc)(hb:PSs X body tb):PS X (.While c body [] pos) (klT tc tb):=by
 intro pins s σ H D I h
 obtain⟨W,⟨m0,w0⟩,turn⟩:=h
 refine wpAny_While (codeAny_whileLoop (fun n s'=>∃σ' H',Inv X pins σ' H' s'/\W n σ' H') ?_ m0 ⟨σ,H,I,w0⟩)
 rintro n s1 ⟨σ1,H1,I1,w1⟩
 refine wpAny_passesOwn hp (thn (hc pins s1 σ1 H1 _ I1 (turn n σ1 H1 w1)) fun b s2 zz=>?_)
 obtain⟨H2,I2,q2⟩:=zz
 cases b with
 | true=>
  obtain⟨N,hN,q2⟩:=q2
  rw[if_pos rfl]
  refine wpAny_passesOwn hp (thn (hb pins s2 σ1 H2 _ I2 q2) fun f s3 q3=>?_)
  cases f with
  |next=>
   obtain⟨σ3,H3,I3,n3⟩:=q3
   obtain⟨m',hm,w3⟩:=hN σ3 H3 n3
   rwa[m',hm,σ3,H3,I3,w3]
  |cont=>
   obtain⟨σ3,H3,I3,n3⟩:=q3
   obtain⟨m',hm,w3⟩:=hN σ3 H3 n3
   rwa[m',hm,σ3,H3,I3,w3]
  |brk=>exact q3
  |ret v=>exact q3
 |false=>
  rw[if_neg MD]
  exact wpAny_execs_nil ⟨σ1,H2,I2,q2⟩
end
structure It where
 go:Nat->Hp->Prop
 yld:Nat->Hp->V->Hp->Prop
 stop:Nat->Hp->Prop
def FpOk(X:Cx)(pins:List (Addr×Obj))(H:Hp)(b:Addr):Prop:=
 H b=none/\b≠X.env.locals/\b∉X.fs/\(b∈X.ex∨X.s₀.heap.objs.size<=b)/\(∀x c,X.env.cells.lookup x>>c->c≠b)/\∀p∈X.pn++pins,p.1≠b
def Inv.fpOk{X:Cx}{pins:List (Addr×Obj)}{σ:St}{H H':Hp}{s:Shared}{b:Addr}(I:Inv X pins σ H s)(hb:s.heap.objs.size<=b)(hn:H' b=none):FpOk X pins H' b:=by
 rwa[hn,Ek (MX I.lt hb),I.nofs hb, .inr (Mz I.sz hb),fun x c e z=>?_,fun p hp z=>?_]
 ·obtain⟨v,q⟩:=I.cell x c e
  exact absurd (MX q.lt (by rw[z];exact hb)) (Em _)
 ·exact absurd (MX (Heap.lt_size (I.pin p hp).1) (by rw[z];exact hb)) (Em _)
structure Turn(P:Program)(w:World)(K:Mt)(tg:Expr)(J:It)(fp:List Addr)(it:Addr)(tn:Nat->Heap->Prop):Prop where
 mem:it∈fp
 obj:∀i h,tn i h->∀b∈fp,∃o,h.get? b>>o/\∀v,o.data≠.cell v
 keep:∀i h h',tn i h->(∀b∈fp,∀o,h.get? b>>o->h'.get? b>>o)->tn i h'
 item:∀(X:Cx),X.prog=P->X.w=w->X.K=K->X.calm=true->∀(i:Nat)(pins:List (Addr×Obj))(s:Shared)(σ:St)(H:Hp)(E:Value->Shared->Prop),Inv X pins σ H s->(∀b∈fp,FpOk X pins H b)->tn i s.heap->J.go i H->
  wpAny (model P w) X.A (pyNext (.ref it)) (fun r s1=>∃u,r>>u/\
   wpAny (model P w) X.A (letOwnedTupleGo tg (.ref it) u) (fun _ s2=>∃x H',Inv X pins σ H' s2/\RelV x u/\J.yld i H x H'/\tn (i+1) s2.heap/\∀b∈fp,H' b=none) E s1) E s
 done:∀(X:Cx),X.prog=P->X.w=w->X.K=K->X.calm=true->∀(i:Nat)(pins:List (Addr×Obj))(s:Shared)(σ:St)(H:Hp)(E:Value->Shared->Prop),Inv X pins σ H s->(∀b∈fp,FpOk X pins H b)->tn i s.heap->J.stop i H->
  wpAny (model P w) X.A (pyNext (.ref it)) (fun r s1=>r=none/\Inv X pins σ H s1) E s
 self:∀(A:Around)(i:Nat)(s:Shared)(Q:Value->Shared->Prop)(E:Value->Shared->Prop),tn i s.heap->Q (.ref it) s->wpAny (model P w) A (pyIter (.ref it)) Q E s
abbrev TI:=St->Hp->(It->Hp->Prop)->Prop
def PIE(X:Cx)(pins:List (Addr×Obj))(σ:St)(tg:Expr)(R:It->Hp->Prop)(itv:Value)(s2:Shared):Prop:=
 ∃(it:Addr)(fp:List Addr)(tn:Nat->Heap->Prop)(J:It)(H':Hp),itv=.ref it/\Inv X pins σ H' s2/\Turn X.prog X.w X.K tg J fp it tn/\tn 0 s2.heap/\(∀b∈fp,FpOk X pins H' b)/\R J H'
def PI(X:Cx)(tg iter:Expr)(wi:TI):Prop:=
 ∀(pins:List (Addr×Obj))(s:Shared)(σ:St)(H:Hp)(R:It->Hp->Prop),Inv X pins σ H s->wi σ H R->
  wpAny (model X.prog X.w) X.A (eval iter X.env) (fun v s1=>wpAny (model X.prog X.w) X.A (pyIter v) (PIE X pins σ tg R) X.xe s1) X.xe s
theorem go_of{M:Model}{A:Around}{E:Value->Shared->Prop}{s:Shared}{tg:Expr}{it:Addr}{u:Value}{o:Obj}{n:String}{vs:Array Value}{Q:Unit->Shared->Prop}(ho:s.heap.get? it>>o)(hc:o.cls=.type n)(hd:o.data=.fields vs)
    (hn:["enumerate","zip","dict_itemiterator","dict_reverseitemiterator","odict_iterator","itertools.zip_longest","itertools.pairwise"].contains n=false)(hQ:Q () s):wpAny M A (letOwnedTupleGo tg (.ref it) u) Q E s:=by
  unfold letOwnedTupleGo
  cases tg <;> first
    |exact wpAny_pure hQ
    |(cases u <;> first
        |exact wpAny_pure hQ
        | (refine wpAny_bind (wpAny_load ho ?_)
           rw[hc,hd]
           show wpAny M A (if(["enumerate","zip","dict_itemiterator","dict_reverseitemiterator","odict_iterator","itertools.zip_longest","itertools.pairwise"].contains n&&vs[0]? ==some (rawInt _))=true then _ else _) Q E s
           rw[if_neg (by intro h;rw[hn,DC] at h;cases h)]
           exact wpAny_pure hQ))
noncomputable def Itl(K:Mt)(a:Addr):It:=
 ⟨fun i H=>∃xs x,SqL K H a xs/\xs[i]?>>x,fun i H x H'=>H'=H/\∀xs,SqL K H a xs->xs[i]?>>x,fun i H=>∃xs,SqL K H a xs/\xs.length<=i⟩
noncomputable def Itr(lo:Int)(n:Nat):It:=⟨fun i _=>i<n,fun i H x H'=>H'=H/\x=.int (lo+i),fun i _=>n<=i⟩
theorem ki2{P:Program}{w:World}{K:Mt}{tg:Expr}(a it:Addr):Turn P w K tg (Itl K a) [it] it (fun i h=>h.IsListIter it a i) where
 mem:=by simp
 obj:=fun i h st b hb=>by
  have e:b=it:=by simpa using hb
  subst e
  obtain⟨o,e,c,d⟩:=st
  rwa[o,e,fun v z=>by rw[d] at z;cases z]
 keep:=fun i h h' st k=>st.at fun o e=>k it (by simp) o e
 item:=by
  intro X hP hw hK hc i pins s σ H E I hf st hg
  subst hP hw hK
  obtain⟨xs,x,hq,hx⟩:=hg
  obtain⟨its,rv,p,hz⟩:=I.list hq
  obtain⟨u,hu,ru⟩:=rv.get hx
  obtain⟨f0,f1,f2,f3,f4,f5⟩:=hf it (by simp)
  refine wpAny_pyNext_list_item st p.isList (x:=u) (by simpa using hu) fun h' st' sb=>?_
  have I1:Inv X pins σ H {s with heap:=h'}:=I.turned (t':=s.toks) (fun b o hb e=>(sb.2 b hb).trans e) f0 f1 f3 f4 f5
  obtain⟨o,e,c,d⟩:=id st'
  rwa[u,6,go_of (s:={s with heap:=h'}) e c d (by decide) ⟨x,H,I1,ru,⟨rfl,fun ys hy=>by rw[I.list_inj hy hq];exact hx⟩,st',fun b hb=>(hf b hb).1⟩]
 done:=by
  intro X hP hw hK hc i pins s σ H E I hf st hg
  subst hP hw hK
  obtain⟨xs,hq,hx⟩:=hg
  obtain⟨its,rv,p,hz⟩:=I.list hq
  obtain⟨f0,f1,f2,f3,f4,f5⟩:=hf it (by simp)
  have hl:=rv.length
  exact wpAny_pyNext_list_end (I.ok.hd hc) st p.isList (by simp;lia) fun h' eb=>⟨rfl,I.turned (t':=s.toks) (fun b o hb e=>eb b o hb e) f0 f1 f3 f4 f5⟩
 self:=fun _ _ _ _ _ st h=>wpAny_pyIter_listiter st h
theorem kiI{P:Program}{w:World}{K:Mt}{tg:Expr}(it:Addr)(lo:Int)(n:Nat):Turn P w K tg (Itr lo n) [it] it (fun i h=>IsRangeIter h it (lo+(i:Nat)*1) ((n:Int)-(i:Nat)) 1) where
 mem:=by simp
 obj:=fun i h st b hb=>by
  have e:b=it:=by simpa using hb
  subst e
  exact⟨_,st,fun v z=>by
   have z':Data.fields _=Data.cell v:=z
   cases z'⟩
 keep:=fun i h h' st k=>k it (by simp) _ st
 item:=by
  intro X hP hw hK hc i pins s σ H E I hf st hg
  subst hP hw hK
  obtain⟨f0,f1,f2,f3,f4,f5⟩:=hf it (by simp)
  have W:=Walks.range (prog:=X.prog) (w:=X.w) (I.ok.hd hc) it lo 1 n
  refine W.item i s _ _ hg st fun v h' tk hv st' kk=>?_
  obtain⟨t,rfl⟩:=hv
  have I1:Inv X pins σ H {s with heap:=h',toks:=tk}:=I.turned (fun b o hb e=>kk b o (by simpa using hb) e) f0 f1 f3 f4 f5
  rwa[8,go_of (s:={s with heap:=h',toks:=tk}) (n:="range_iterator") st' rfl rfl (by decide) ⟨.int (lo+i),H,I1,⟨t,?_⟩,⟨rfl,rfl⟩,st',fun b hb=>(hf b hb).1⟩]
  rw[Int.mul_one]
 done:=by
  intro X hP hw hK hc i pins s σ H E I hf st hg
  subst hP hw hK
  obtain⟨f0,f1,f2,f3,f4,f5⟩:=hf it (by simp)
  exact wpAny_pyNext_range_end (I.ok.hd hc) st (by have:n<=i:=hg;lia) fun h' eb=>⟨rfl,I.turned (t':=s.toks) (fun b o hb e=>eb b o hb e) f0 f1 f3 f4 f5⟩
 self:=fun _ _ _ _ _ st h=>wpAny_pyIter_rangeiter st h
section
variable{X:Cx}{tg:Expr}
inductive kmC(K:Mt)(R:It->Hp->Prop)(x:V)(H1:Hp):Prop
 |ct a (_:x=.ref a) (_:(∃xs,SqL K H1 a xs)) (_:R (Itl K a) H1):kmC K R x H1
def iList(K:Mt)(tl:TE):TI:=fun σ H R=>tl σ H fun x H1=>kmC K R x H1
theorem km3{l:Expr}{tl:TE}(hl:PE X l tl):PI X tg l (iList X.K tl):=by
 intro pins s σ H R I h
 refine thn (hl pins s σ H _ I h) fun v s1 zz=>?_
 obtain⟨x,H1,I1,r1,q1⟩:=zz
 obtain⟨a,e,⟨xs,hq⟩,q⟩:=q1
 subst e
 cases r1
 obtain⟨its,rv,p,hz⟩:=I1.list hq
 refine wpAny_pyIter_list p.isList ?_
 rwa[s1.heap.objs.size,[s1.heap.objs.size],_,_,H1,6,I1.kept (t':=s1.toks) fun b o e=>Heap.get?_push_of_some _ e,ki2 a _,⟨_,Heap.get?_push_size _ rfl,rfl,rfl⟩,fun b hb=>?_,q]
 have e:b=s1.heap.objs.size:=by simpa using hb
 subst e
 exact I1.fpOk (Mv _) (I1.hok.fresh (Mv _))
theorem klb{pins:List (Addr×Obj)}{σ:St}{H:Hp}{s:Shared}{R:It->Hp->Prop}{E:Value->Shared->Prop}{lo hi:Int}{t u v:Tok}{tk:Nat}(I:Inv X pins σ H s)(h1: -(2 ^ 62)<=lo)(h2:lo<2 ^ 62)(h3: -(2 ^ 62)<=hi)(h4:hi<2 ^ 62)
  (q:R (Itr lo (hi-lo).toNat) H):wpAny (model X.prog X.w) X.A (pyIter (.ref s.heap.objs.size)) (PIE X pins σ tg R) E {s with heap:=s.heap.push {cls:=.type "range",data:=.fields #[.int lo t, .int hi u, .int 1 v]},toks:=tk}:=by
 refine wpAny_pyIter_range (IsRange.new ..) (small_one h1 h2 h3 h4) ?_
 have I1:Inv X pins σ H {s with heap:=s.heap.push {cls:=.type "range",data:=.fields #[.int lo t, .int hi u, .int 1 v]},toks:=tk}:=I.kept fun b o e=>Heap.get?_push_of_some _ e
 refine⟨(s.heap.push {cls:=.type "range",data:=.fields #[.int lo t, .int hi u, .int 1 v]}).objs.size,[(s.heap.push {cls:=.type "range",data:=.fields #[.int lo t, .int hi u, .int 1 v]}).objs.size],_,_,H,rfl,
  I1.kept (t':=tk) fun b o e=>Heap.get?_push_of_some _ e,kiI _ lo (hi-lo).toNat,?_,fun b hb=>?_,q⟩
 ·have e1:lo+((0:Nat):Int)*1=lo:=by simp
  have e2:(((hi-lo).toNat:Nat):Int)-((0:Nat):Int)=Builtin.Range.rangeSize lo hi 1:=by rw[rangeSize_one];split <;> lia
  show IsRangeIter _ _ (lo+((0:Nat):Int)*1) ((((hi-lo).toNat:Nat):Int)-((0:Nat):Int)) 1
  rw[e1,e2]
  exact Heap.get?_push_size _ rfl
 ·have e:b=(s.heap.push {cls:=.type "range",data:=.fields #[.int lo t, .int hi u, .int 1 v]}).objs.size:=by simpa using hb
  subst e
  exact I1.fpOk (Mv _) (I1.hok.fresh (Mv _))
inductive kmB(R:It->Hp->Prop)(vs:List V)(H1:Hp):Prop
 |ct(j:Int)(_:vs=[.int j])(_: -(2 ^ 62)<=j)(_:j<2 ^ 62)(_:R (Itr 0 j.toNat) H1):kmB R vs H1
def iRng1(ta:TA):TI:=fun σ H R=>ta σ H fun vs H1=>kmB R vs H1
theorem kdJ{a:Expr}{ta:TA}{p pos:Pos}(hg:Gl X "range")(hm:X.mg "range"=none)(ha:PA X [a] ta)(hs:autoParam (starEach [a] X.env=[(false,eval a X.env)]) jz):PI X tg (.Call (.Name "range" p) [a] [] pos) (iRng1 ta):=by
 intro pins s σ H R I h
 refine Call_ (kef I hg hm boot_range (PyProof.Rows.callWith_type1 (thn (ha pos pins s σ H _ I h) fun us s1 zz=>?_) hs rfl))
 obtain⟨vs,H1,I1,r1,q1⟩:=zz
 obtain⟨j,e,q1,q2,q⟩:=q1
 subst e
 cases r1 with
 |cons r rr=>
  cases rr
  obtain⟨t,rfl⟩:=r
  exact call_range_1 (klb I1 (by lia) (by lia) q1 q2 (by simpa using q))
def tFor(wi:TI)(g:TG)(tb:TS):TS:=fun D σ H=>wi σ H fun J H1=>∃W:Nat->Nat->St->Hp->Prop,(∃m,W 0 m σ H1)/\∀i m σ H,W i m σ H->
 (J.stop i H/\D.nx σ H)∨(J.go i H/\∃N:St->Hp->Prop,(∀σ' H',N σ' H'->∃m',m'<m/\W (i+1) m' σ' H')/\∀x H',J.yld i H x H'->g x σ H' fun σ2 H2=>tb {D with nx:=N,ct:=N,bk:=D.nx} σ2 H2)
noncomputable def kh3(fp:List Addr)(h:Heap):List (Addr×Obj):=fp.filterMap fun b=>(h.get? b).map fun o=>(b,o)
theorem kc9{fp:List Addr}{h:Heap}{b:Addr}{o:Obj}(hb:b∈fp)(e:h.get? b>>o):(b,o)∈kh3 fp h:=List.mem_filterMap.mpr ⟨b,hb,by rw[e];rfl⟩
theorem kj7{fp:List Addr}{h:Heap}{p:Addr×Obj}(hp:p∈kh3 fp h):p.1∈fp/\h.get? p.1>>p.2:=by
 obtain⟨b,hb,e⟩:=List.mem_filterMap.mp hp
 cases q:h.get? b with
 |none=>rw[q] at e;cases e
 |some o=>
  rw[q] at e
  have e':(b,o)=p:=Option.some.inj e
  subst e'
  rwa[hb,q]
theorem Inv.pinned{pins:List (Addr×Obj)}{σ:St}{H:Hp}{s:Shared}{fp:List Addr}(I:Inv X pins σ H s)(hf:∀b∈fp,FpOk X pins H b)(ho:∀b∈fp,∃o,s.heap.get? b>>o/\∀v,o.data≠.cell v):Inv X (pins++kh3 fp s.heap) σ H s:=
 I.pins_of fun p hp=>(MY.mp hp).elim (fun z=>I.pin p (Ea _ z)) fun z=>by
  obtain⟨hb,e⟩:=kj7 z
  obtain⟨f0,f1,f2,_⟩:=hf p.1 hb
  obtain⟨o,e',d⟩:=ho p.1 hb
  rw[e] at e';cases e'
  rwa[e,f0,f1,f2,d]
theorem Inv.unpinned{pins pl:List (Addr×Obj)}{σ:St}{H:Hp}{s:Shared}(I:Inv X (pins++pl) σ H s):Inv X pins σ H s:=I.pins_of fun p hp=>I.pin p (Ea _ (Dz _ hp))
theorem kcF{iter:Expr}{body:List Stmt}{wi:TI}{g:TG}{tb:TS}{pos:Pos}(hp:PassesOwn (model X.prog X.w) X.A X.env X.xe)(hc:X.calm=true)(hi:PI X tg iter wi)(hg:PG X tg g)(hb:PSs X body tb)
  (hs:autoParam (∀x,foldedSetIterable iter X.env x=pure x) jJ):PS X (.For tg iter body [] pos) (tFor wi g tb):=by
 intro pins s σ H D I h
 refine wpAny_For (thn (hi pins s σ H _ I h) fun v s1 h1=>thn h1 fun itv s2 h2=>?_) hs
 obtain⟨it,fp,tn,J,H2,e,I2,T,st2,f2,W,⟨m0,w0⟩,turn⟩:=h2
 subst e
 have stat:∀{H':Hp},(∀b∈fp,H' b=none)->∀b∈fp,FpOk X pins H' b:=fun hn b hb=>⟨hn b hb,(f2 b hb).2⟩
 refine codeAny_forLoop_any (fun n s'=>∃i σ' H',Inv X pins σ' H' s'/\tn i s'.heap/\(∀b∈fp,H' b=none)/\W i n σ' H') ?_ m0 ⟨0,σ,H2,I2,st2,fun b hb=>(f2 b hb).1,w0⟩
 rintro n s3 ⟨i,σ3,H3,I3,st3,fr3,w3⟩
 rcases turn i n σ3 H3 w3 with⟨stop,qn⟩|⟨go,N,hN,step⟩
 ·refine wpAny_passesOwn hp (thn (T.done X rfl rfl rfl hc i pins s3 σ3 H3 X.xe I3 (stat fr3) st3 stop) fun r s4 zz=>?_)
  obtain⟨hr,I4⟩:=zz
  subst hr
  exact wpAny_execs_nil ⟨σ3,H3,I4,qn⟩
 ·refine wpAny_passesOwn hp (thn (T.item X rfl rfl rfl hc i pins s3 σ3 H3 X.xe I3 (stat fr3) st3 go) fun r s4 zz=>?_)
  obtain⟨u,hr,h4⟩:=zz
  subst hr
  refine wpAny_passesOwn hp (thn h4 fun _ s5 zz=>?_)
  obtain⟨x,H5,I5,r5,y5,st5,fr5⟩:=zz
  have I5':=I5.pinned (stat fr5) (T.obj _ _ st5)
  refine wpAny_passesOwn hp (thn (hg _ s5 σ3 H5 x u _ I5' r5 (step x H5 y5)) fun _ s6 zz=>?_)
  obtain⟨σ6,H6,I6,q6⟩:=zz
  refine wpAny_passesOwn hp (thn (hb _ s6 σ6 H6 _ I6 q6) fun f s7 q7=>?_)
  have again:∀{σ7:St}{H7:Hp},Inv X (pins++kh3 fp s5.heap) σ7 H7 s7->N σ7 H7->∃m,m<n/\∃i σ' H',Inv X pins σ' H' s7/\tn i s7.heap/\(∀b∈fp,H' b=none)/\W i m σ' H':=fun {σ7 H7} I7 n7=>by
   obtain⟨m',hm,w7⟩:=hN σ7 H7 n7
   rwa[m',hm,i+1,σ7,H7,I7.unpinned,T.keep _ _ _ st5 fun b hb o e=>(I7.pin (b,o) (Ea _ (Ea _ (kc9 hb e)))).1,fun b hb=>?_,w7]
   obtain⟨o,e,d⟩:=T.obj _ _ st5 b hb
   exact(I7.pin (b,o) (Ea _ (Ea _ (kc9 hb e)))).2.1
  cases f with
  |next=>obtain⟨σ7,H7,I7,n7⟩:=q7;exact again I7 n7
  |cont=>obtain⟨σ7,H7,I7,n7⟩:=q7;exact again I7 n7
  |brk=>obtain⟨σ7,H7,I7,q7⟩:=q7;exact⟨σ7,H7,I7.unpinned,q7⟩
  |ret v=>obtain⟨x7,σ7,H7,I7,r7,q7⟩:=q7;exact⟨x7,σ7,H7,I7.unpinned,r7,q7⟩
end
theorem kca{K:Mt}{a:Addr}{xs:List V}{g:TG}{tb:TS}{D:Ends}{σ:St}{H:Hp}(Pv:Nat->St->Hp->Prop)(h0:Pv 0 σ H)(hl:∀i σ H,i<=xs.length->Pv i σ H->SqL K H a xs)
  (hs:∀i x σ H,xs[i]?>>x->Pv i σ H->g x σ H fun σ2 H2=>tb {D with nx:=Pv (i+1),ct:=Pv (i+1),bk:=D.nx} σ2 H2)(hd:∀σ H,Pv xs.length σ H->D.nx σ H):
  ∃W:Nat->Nat->St->Hp->Prop,(∃m,W 0 m σ H)/\∀i m σ H,W i m σ H->
   ((Itl K a).stop i H/\D.nx σ H)∨((Itl K a).go i H/\∃N:St->Hp->Prop,(∀σ' H',N σ' H'->∃m',m'<m/\W (i+1) m' σ' H')/\∀x H',(Itl K a).yld i H x H'->g x σ H' fun σ2 H2=>tb {D with nx:=N,ct:=N,bk:=D.nx} σ2 H2):=by
 rwa[fun i m σ H=>m=xs.length-i/\i<=xs.length/\Pv i σ H,⟨xs.length,by simp,M7 _,h0⟩,?_]
 rintro i m σ H ⟨rfl,hi,p⟩
 have q:=hl i σ H hi p
 by_cases hlt:i<xs.length
 ·refine .inr ⟨⟨xs,xs[i],q,by simp[hlt]⟩,Pv (i+1),fun σ' H' p'=>⟨xs.length-(i+1),by lia,rfl,hlt,p'⟩,fun x H' y=>?_⟩
  obtain⟨e,y⟩:=y
  subst e
  exact hs i x σ _ (y xs q) p
 ·have e:i=xs.length:=by lia
  subst e
  exact .inl ⟨⟨xs,q,Mv _⟩,hd σ H p⟩
theorem kfD{c:TT}{tb:TS}{D:Ends}{σ:St}{H:Hp}(Pv:St->Hp->Prop)(μ:St->Hp->Nat)(h0:Pv σ H)
  (hs:∀σ H,Pv σ H->c σ H fun b H1=>if b=true then tb {D with nx:=fun σ' H'=>Pv σ' H'/\μ σ' H'< μ σ H,ct:=fun σ' H'=>Pv σ' H'/\μ σ' H'< μ σ H,bk:=D.nx} σ H1 else D.nx σ H1)
  (mono:∀σ H Q Q',(∀b H1,Q b H1->Q' b H1)->c σ H Q->c σ H Q'):klT c tb D σ H:=by
 rwa[fun m σ H=>m= μ σ H/\Pv σ H,⟨_,rfl,h0⟩,?_]
 rintro m σ H ⟨rfl,p⟩
 refine mono σ H _ _ (fun b H1 q=>?_) (hs σ H p)
 cases b with
 |true=>exact⟨_,fun σ' H' ⟨p',l⟩=>⟨_,l,rfl,p'⟩,q⟩
 |false=>exact q
abbrev R2:=V->V->Hp->VK->Prop
def OpR(X:Cx)(f:Value->Value->Sem Value)(r:R2):Prop:=
 ∀(pins:List (Addr×Obj))(s:Shared)(σ:St)(H:Hp)(x y:V)(v u:Value)(Q:VK),Inv X pins σ H s->RelV x v->RelV y u->r x y H Q->
  wpAny (model X.prog X.w) X.A (f v u) (EP X pins σ Q) X.xe s
def UnR(X:Cx)(f:Value->Sem Value)(r:V->Hp->VK->Prop):Prop:=
 ∀(pins:List (Addr×Obj))(s:Shared)(σ:St)(H:Hp)(x:V)(v:Value)(Q:VK),Inv X pins σ H s->RelV x v->r x H Q->
  wpAny (model X.prog X.w) X.A (f v) (EP X pins σ Q) X.xe s
def CallR(X:Cx)(f:Value)(r:List V->Hp->VK->Prop):Prop:=
 ∀(pins:List (Addr×Obj))(s:Shared)(σ:St)(H:Hp)(xs:List V)(us:List Value)(Q:VK),Inv X pins σ H s->Vals xs us->r xs H Q->
  wpAny (model X.prog X.w) X.A (call f us) (EP X pins σ Q) X.xe s
def tOp(r:R2)(ta tb:TE):TE:=fun σ H Q=>ta σ H fun x H1=>tb σ H1 fun y H2=>r x y H2 Q
def tUn(r:V->Hp->VK->Prop)(ta:TE):TE:=fun σ H Q=>ta σ H fun x H1=>r x H1 Q
inductive QrI(C:Int->Int->Prop)(g:Int->Int->V)(x:V)(y:V)(H:Hp)(Q:VK):Prop
 |ct i j (_:x=.int i) (_:y=.int j) (_:C i j) (_:Q (g i j) H):QrI C g x y H Q
def rI(C:Int->Int->Prop)(g:Int->Int->V):R2:=fun x y H Q=>QrI C g x y H Q
inductive QrI0(g:Int->Int->V)(x:V)(y:V)(H:Hp)(Q:VK):Prop
 |ct i j (_:x=.int i) (_:y=.int j) (_:Q (g i j) H):QrI0 g x y H Q
def rI0(g:Int->Int->V):R2:=fun x y H Q=>QrI0 g x y H Q
inductive QrU(g:Int->V)(x:V)(H:Hp)(Q:VK):Prop
 |ct i (_:x=.int i) (_:Q (g i) H):QrU g x H Q
def rU(g:Int->V):V->Hp->VK->Prop:=fun x H Q=>QrU g x H Q
section
variable{X:Cx}{a b c:Expr}{ta tb tc:TE}{pos:Pos}
theorem binT(ha:PE X a ta)(hb:PE X b tb){pins:List (Addr×Obj)}{s:Shared}{σ:St}{H:Hp}{R:V->V->Hp->Prop}(I:Inv X pins σ H s)
  (h:ta σ H fun x H1=>tb σ H1 fun y H2=>R x y H2){Q:Value->Shared->Prop}{f:Value->Value->Sem Value}
  (hf:∀v u s2 x y H2,Inv X pins σ H2 s2->RelV x v->RelV y u->R x y H2->wpAny (model X.prog X.w) X.A (f v u) Q X.xe s2):
  wpAny (model X.prog X.w) X.A (eval a X.env) (fun v s₁=>wpAny (model X.prog X.w) X.A (eval b X.env) (fun u s₂=>wpAny (model X.prog X.w) X.A (f v u) Q X.xe s₂) X.xe s₁) X.xe s:=by
 refine thn (ha pins s σ H _ I h) fun v s1 zz=>?_
 obtain⟨x,H1,I1,r1,q1⟩:=zz
 refine thn (hb pins s1 σ H1 _ I1 q1) fun u s2 zz=>?_
 obtain⟨y,H2,I2,r2,q2⟩:=zz
 exact hf v u s2 x y H2 I2 r1 r2 q2
theorem pe_op{op:Operator}{r:R2}(ho:OpR X (binaryOp op) r)(ha:PE X a ta)(hb:PE X b tb):PE X (.BinOp a op b pos) (tOp r ta tb):=by
 intro pins s σ H Q I h
 exact wpAny_BinOp (binT ha hb I h fun v u s2 x y H2 I2 rx ry q=>ho pins s2 σ H2 x y v u Q I2 rx ry q)
theorem pe_un{op:UnaryOp}{r:V->Hp->VK->Prop}(ho:UnR X (unaryOp op) r)(ha:PE X a ta):PE X (.UnaryOp op a pos) (tUn r ta):=by
 intro pins s σ H Q I h
 exact UnaryOp_ (thn (ha pins s σ H _ I h) fun v s1 ⟨x,H1,I1,r1,q1⟩=>ho pins s1 σ H1 x v Q I1 r1 q1)
theorem opI{f:Value->Value->Sem Value}{C:Int->Int->Prop}{g:Int->Int->Int}
  (rule:∀(i j:Int)(t u:Tok)(s:Shared)(Q:Value->Shared->Prop)(E:Value->Shared->Prop),C i j->Q (.int (g i j) s.toks) {s with toks:=s.toks+1}->wpAny (model X.prog X.w) X.A (f (.int i t) (.int j u)) Q E s):
  OpR X f (rI C fun i j=>.int (g i j)):=by
 intro pins s σ H x y v u Q I rx ry h
 obtain⟨i,j,rfl,rfl,hc,q⟩:=h
 obtain⟨t,rfl⟩:=rx
 obtain⟨t',rfl⟩:=ry
 exact rule i j t t' s _ _ hc ⟨.int (g i j),H,I.tok _,⟨_,rfl⟩,q⟩
theorem opI0{f:Value->Value->Sem Value}{g:Int->Int->Int}
  (rule:∀(i j:Int)(t u:Tok)(s:Shared)(Q:Value->Shared->Prop)(E:Value->Shared->Prop),Q (.int (g i j) s.toks) {s with toks:=s.toks+1}->wpAny (model X.prog X.w) X.A (f (.int i t) (.int j u)) Q E s):
  OpR X f (rI0 fun i j=>.int (g i j)):=by
 intro pins s σ H x y v u Q I rx ry h
 obtain⟨i,j,rfl,rfl,q⟩:=h
 obtain⟨t,rfl⟩:=rx
 obtain⟨t',rfl⟩:=ry
 exact rule i j t t' s _ _ ⟨.int (g i j),H,I.tok _,⟨_,rfl⟩,q⟩
theorem opB0{f:Value->Value->Sem Value}{g:Int->Int->Bool}
  (rule:∀(i j:Int)(t u:Tok)(s:Shared)(Q:Value->Shared->Prop)(E:Value->Shared->Prop),Q (.bool (g i j)) s->wpAny (model X.prog X.w) X.A (f (.int i t) (.int j u)) Q E s):
  OpR X f (rI0 fun i j=>.bl (g i j)):=by
 intro pins s σ H x y v u Q I rx ry h
 obtain⟨i,j,rfl,rfl,q⟩:=h
 obtain⟨t,rfl⟩:=rx
 obtain⟨t',rfl⟩:=ry
 exact rule i j t t' s _ _ ⟨.bl (g i j),H,I,rfl,q⟩
def CDiv(i j:Int):Prop:=0<j/\j<1073741824
def CMul(i j:Int):Prop:=(-(2 ^ 64)<i/\i<2 ^ 64)∨(-(2 ^ 64)<j/\j<2 ^ 64)
theorem CMul.ok{i j:Int}(h:CMul i j):IntMulOk i j:=by
 rcases h with⟨h1,h2⟩|⟨h1,h2⟩
 ·exact .of_left (intBits_le_64 h1 h2)
 ·exact .of_right (intBits_le_64 h1 h2)
theorem kbC:OpR X (binaryOp .Add) (rI0 fun i j=>.int (i+j)):=opI0 fun _ _ _ _ _ _ _ q=>add_int q
theorem kfn:OpR X (binaryOp .Sub) (rI0 fun i j=>.int (i-j)):=opI0 fun _ _ _ _ _ _ _ q=>sub_int q
theorem kgC:OpR X (binaryOp .Mult) (rI CMul fun i j=>.int (i*j)):=opI fun _ _ _ _ _ _ _ hc q=>mul_int q hc.ok
theorem kcz:OpR X (binaryOp .FloorDiv) (rI CDiv fun i j=>.int (i/j)):=opI fun i j _ _ _ _ _ hc q=>by
 have h1:(0:Int)<j:=hc.1
 have h2:j<1073741824:=hc.2
 exact floordiv_int (by lia) (by rw[Int.fdiv_eq_ediv_of_nonneg i (by lia)];exact q) (.inl (PyProof.noPylong_small (by lia)))
theorem kbB:OpR X (binaryOp .Mod) (rI (fun _ j=>0<j) fun i j=>.int (i%j)):=opI fun i j _ _ _ _ _ hc q=>by
 have h1:(0:Int)<j:=hc
 exact mod_int' (by lia) (by rw[Int.fmod_eq_emod_of_nonneg i (by lia)];exact q)
theorem unI{f:Value->Sem Value}{g:Int->Int}
  (rule:∀(i:Int)(t:Tok)(s:Shared)(Q:Value->Shared->Prop)(E:Value->Shared->Prop),Q (.int (g i) s.toks) {s with toks:=s.toks+1}->wpAny (model X.prog X.w) X.A (f (.int i t)) Q E s):
  UnR X f (rU fun i=>.int (g i)):=by
 intro pins s σ H x v Q I rx h
 obtain⟨i,rfl,q⟩:=h
 obtain⟨t,rfl⟩:=rx
 exact rule i t s _ _ ⟨.int (g i),H,I.tok _,⟨_,rfl⟩,q⟩
theorem kgf:UnR X (unaryOp .USub) (rU fun i=>.int (-i)):=unI fun _ _ _ _ _ q=>neg_int q
end
noncomputable def scal:V->V->Bool
 | .non, .non=>true| .non, .int _=>true| .int _, .non=>true| .non, .bl _=>true| .bl _, .non=>true| .non, .str _=>true| .str _, .non=>true
 | .int _, .int _=>true| .bl _, .bl _=>true| .str _, .str _=>true| .byt _, .byt _=>true
 | .int _, .str _=>true| .str _, .int _=>true| .bl _, .str _=>true| .str _, .bl _=>true
 |_,_=>false
def rEq:R2:=fun x y H Q=>scal x y=true/\Q (.bl (decide (x=y))) H
def rNe:R2:=fun x y H Q=>scal x y=true/\Q (.bl (!decide (x=y))) H
def kkw{i j:Int}:decide (V.int i=V.int j)=(i==j):=by
 rw[EV]
 simp
def kmh{i j:Bool}:decide (V.bl i=V.bl j)=(i==j):=by
 rw[EV]
 simp
def kkv{i j:Str}:decide (V.str i=V.str j)=(i==j):=by
 rw[EV]
 simp
def kkx{i j:Array UInt8}:decide (V.byt i=V.byt j)=(i.toList==j.toList):=by
 rw[EV]
 cases i
 cases j
 simp
section
variable{X:Cx}{a b c:Expr}{ta tb tc:TE}{pos:Pos}
theorem kaT{pins:List (Addr×Obj)}{σ:St}{H:Hp}{s:Shared}{Q:VK}{k k':Bool}(I:Inv X pins σ H s)(q:Q (.bl k) H)(e:k=k'):EP X pins σ Q (.bool k') s:=by
 subst e
 rwa[.bl k,H,I,6,q]
theorem op_eq:OpR X (compareOp .Eq) rEq:=by
 intro pins s σ H x y v u Q I rx ry h
 obtain⟨hs,q⟩:=h
 cases x with
 |non=>
  cases rx
  cases y with
  |non=>cases ry;exact PySem.EqNone.eq_none_none (kaT I q (by simp))
  |bl j=>cases ry;exact PySem.EqNone.eq_none_bool (kaT I q (by simp))
  |int j=>obtain⟨t',rfl⟩:=ry;exact PySem.EqNone.eq_none_int (kaT I q (by simp))
  |str j=>obtain⟨t',rfl⟩:=ry;exact PySem.EqNone.eq_none_str (kaT I q (by simp))
  |_=>exact absurd (show false=true from hs) MD
 |bl i=>
  cases rx
  cases y with
  |non=>cases ry;exact PySem.EqNone.eq_bool_none (kaT I q (by simp))
  |bl j=>cases ry;exact eq_bool (kaT I q kmh)
  |str j=>obtain⟨t',rfl⟩:=ry;exact PySem.EqMixed.eq_bool_str (kaT I q (by simp))
  |_=>exact absurd (show false=true from hs) MD
 |int i=>
  obtain⟨t,rfl⟩:=rx
  cases y with
  |non=>cases ry;exact PySem.EqNone.eq_int_none (kaT I q (by simp))
  |int j=>obtain⟨t',rfl⟩:=ry;exact eq_int (kaT I q kkw)
  |str j=>obtain⟨t',rfl⟩:=ry;exact PySem.EqMixed.eq_int_str (kaT I q (by simp))
  |_=>exact absurd (show false=true from hs) MD
 |str i=>
  obtain⟨t,rfl⟩:=rx
  cases y with
  |non=>cases ry;exact PySem.EqNone.eq_str_none (kaT I q (by simp))
  |bl j=>cases ry;exact PySem.EqMixed.eq_str_bool (kaT I q (by simp))
  |int j=>obtain⟨t',rfl⟩:=ry;exact PySem.EqMixed.eq_str_int (kaT I q (by simp))
  |str j=>obtain⟨t',rfl⟩:=ry;exact eq_str (kaT I q kkv)
  |_=>exact absurd (show false=true from hs) MD
 |byt i=>
  obtain⟨t,rfl⟩:=rx
  cases y with
  |byt j=>obtain⟨t',rfl⟩:=ry;exact PySem.W.eq_bytes (kaT I q kkx)
  |_=>exact absurd (show false=true from hs) MD
 |_=>cases y <;> exact absurd (show false=true from hs) MD
theorem op_ne:OpR X (compareOp .NotEq) rNe:=by
 intro pins s σ H x y v u Q I rx ry h
 obtain⟨hs,q⟩:=h
 cases x with
 |non=>
  cases rx
  cases y with
  |non=>cases ry;exact PySem.EqNone.ne_none_none (kaT I q (by simp))
  |bl j=>cases ry;exact PySem.EqNone.ne_none_bool (kaT I q (by simp))
  |int j=>obtain⟨t',rfl⟩:=ry;exact PySem.EqNone.ne_none_int (kaT I q (by simp))
  |str j=>obtain⟨t',rfl⟩:=ry;exact PySem.EqNone.ne_none_str (kaT I q (by simp))
  |_=>exact absurd (show false=true from hs) MD
 |bl i=>
  cases rx
  cases y with
  |non=>cases ry;exact PySem.EqNone.ne_bool_none (kaT I q (by simp))
  |bl j=>cases ry;exact ne_bool (kaT I q (congrArg not kmh))
  |str j=>obtain⟨t',rfl⟩:=ry;exact PySem.EqMixed.ne_bool_str (kaT I q (by simp))
  |_=>exact absurd (show false=true from hs) MD
 |int i=>
  obtain⟨t,rfl⟩:=rx
  cases y with
  |non=>cases ry;exact PySem.EqNone.ne_int_none (kaT I q (by simp))
  |int j=>obtain⟨t',rfl⟩:=ry;exact ne_int (kaT I q (congrArg not kkw))
  |str j=>obtain⟨t',rfl⟩:=ry;exact PySem.EqMixed.ne_int_str (kaT I q (by simp))
  |_=>exact absurd (show false=true from hs) MD
 |str i=>
  obtain⟨t,rfl⟩:=rx
  cases y with
  |non=>cases ry;exact PySem.EqNone.ne_str_none (kaT I q (by simp))
  |bl j=>cases ry;exact PySem.EqMixed.ne_str_bool (kaT I q (by simp))
  |int j=>obtain⟨t',rfl⟩:=ry;exact PySem.EqMixed.ne_str_int (kaT I q (by simp))
  |str j=>obtain⟨t',rfl⟩:=ry;exact ne_str (kaT I q (congrArg not kkv))
  |_=>exact absurd (show false=true from hs) MD
 |byt i=>
  obtain⟨t,rfl⟩:=rx
  cases y with
  |byt j=>obtain⟨t',rfl⟩:=ry;exact PySem.W.ne_bytes (kaT I q (congrArg not kkx))
  |_=>exact absurd (show false=true from hs) MD
 |_=>cases y <;> exact absurd (show false=true from hs) MD
theorem op_lt:OpR X (compareOp .Lt) (rI0 fun i j=>.bl (decide (i<j))):=opB0 fun _ _ _ _ _ _ _ q=>lt_int q
theorem op_le:OpR X (compareOp .LtE) (rI0 fun i j=>.bl (decide (i<=j))):=opB0 fun _ _ _ _ _ _ _ q=>le_int q
theorem op_gt:OpR X (compareOp .Gt) (rI0 fun i j=>.bl (decide (j<i))):=opB0 fun _ _ _ _ _ _ _ q=>gt_int q
theorem kfo:OpR X (compareOp .Is) (fun x y H Q=>y=.non/\Q (.bl (decide (x=.non))) H):=by
 intro pins s σ H x y v u Q I rx ry h
 obtain⟨rfl,q⟩:=h
 cases ry
 refine is_none_gen (kaT I q ?_)
 cases x <;> first
  |(cases rx;rfl)
  |(obtain⟨t,rfl⟩:=rx;rfl)
theorem kdy:OpR X (compareOp .IsNot) (fun x y H Q=>y=.non/\Q (.bl (!decide (x=.non))) H):=by
 intro pins s σ H x y v u Q I rx ry h
 obtain⟨rfl,q⟩:=h
 cases ry
 refine isnot_none_gen (kaT I q ?_)
 cases x <;> first
  |(cases rx;rfl)
  |(obtain⟨t,rfl⟩:=rx;rfl)
theorem kaB(b:Expr){op:CmpOp}(h:autoParam (op≠.In) jQ)(h2:autoParam (op≠.NotIn) jQ):behindInMarks op b=false:=by
 have e1:(op==CmpOp.In)=false:=by cases op <;> first|rfl|exact absurd rfl h
 have e2:(op==CmpOp.NotIn)=false:=by cases op <;> first|rfl|exact absurd rfl h2
 cases b <;> simp[behindInMarks,e1,e2]
theorem kbJ{op:CmpOp}{r:R2}(ho:OpR X (compareOp op) r)(ha:PE X a ta)(hb:PE X b tb)(hm:behindInMarks op b=false):PE X (.Compare a [op] [b] pos) (tOp r ta tb):=by
 intro pins s σ H Q I h
 exact wpAny_Compare1 (binT ha hb I h fun v u s2 x y H2 I2 rx ry q=>ho pins s2 σ H2 x y v u Q I2 rx ry q) hm
inductive kmo(Q:Bool->Hp->Prop)(x:V)(H':Hp):Prop
 |ct k (_:x=.bl k) (_:Q k H'):kmo Q x H'
def tTest(t:TE):TT:=fun σ H Q=>t σ H fun x H'=>kmo Q x H'
theorem kav{op:CmpOp}{r:R2}(ho:OpR X (compareOp op) r)(ha:PE X a ta)(hb:PE X b tb)(hm:behindInMarks op b=false):PT X (.Compare a [op] [b] pos) (tTest (tOp r ta tb)):=by
 intro pins s σ H Q I h
 refine wpAny_isTrue_Compare1 (thn (ha pins s σ H _ I h) fun v s1 ⟨x,H1,I1,r1,q1⟩=>thn (hb pins s1 σ H1 _ I1 q1) fun u s2 ⟨y,H2,I2,r2,q2⟩=>
  thn (ho pins s2 σ H2 x y v u _ I2 r1 r2 q2) fun c s3 ⟨z,H3,I3,r3,k,e,q3⟩=>?_) hm
 subst e
 cases r3
 exact wpAny_truthy_bool ⟨H3,I3,q3⟩
inductive kkP(r':R2)(tc:TE)(σ:St)(Q:VK)(y:V)(z:V)(H3:Hp):Prop
 |ct k (_:z=.bl k) (_:(if k=true then tc σ H3 fun w' H4=>r' y w' H4 Q else Q (.bl false) H3)):kkP r' tc σ Q y z H3
def klU(r r':R2)(ta tb tc:TE):TE:=fun σ H Q=>ta σ H fun x H1=>tb σ H1 fun y H2=>r x y H2 fun z H3=>kkP r' tc σ Q y z H3
theorem kh7{op op':CmpOp}{r r':R2}(ho:OpR X (compareOp op) r)(ho':OpR X (compareOp op') r')(ha:PE X a ta)(hb:PE X b tb)(hc:PE X c tc)
  (hm:lastMarks [op,op'] [b,c]=false:=by with_unfolding_all rfl):PE X (.Compare a [op,op'] [b,c] pos) (klU r r' ta tb tc):=by
 intro pins s σ H Q I h
 refine Compare_chain (thn (ha pins s σ H _ I h) fun v s1 ⟨x,H1,I1,r1,q1⟩=>chain_link (thn (hb pins s1 σ H1 _ I1 q1) fun u s2 ⟨y,H2,I2,r2,q2⟩=>
  thn (ho pins s2 σ H2 x y v u _ I2 r1 r2 q2) fun d s3 ⟨z,H3,I3,r3,k,e,q3⟩=>?_)) hm
 subst e
 cases r3
 refine wpAny_truthy_bool ?_
 cases k with
 |false=>exact ite_ff ⟨.bl false,H3,I3,rfl,q3⟩
 |true=>exact ite_tt (chain_last (thn (hc pins s3 σ H3 _ I3 q3) fun w' s4 ⟨z',H4,I4,r4,q4⟩=>ho' pins s4 σ H4 y z' u w' Q I4 r2 r4 q4))
theorem klc{op op':CmpOp}{r r':R2}(ho:OpR X (compareOp op) r)(ho':OpR X (compareOp op') r')(ha:PE X a ta)(hb:PE X b tb)(hc:PE X c tc)
  (hm:lastMarks [op,op'] [b,c]=false:=by with_unfolding_all rfl):PT X (.Compare a [op,op'] [b,c] pos) (tTest (klU r r' ta tb tc)):=by
 intro pins s σ H Q I h
 refine isTrue_chain (thn (ha pins s σ H _ I h) fun v s1 ⟨x,H1,I1,r1,q1⟩=>test_link (thn (hb pins s1 σ H1 _ I1 q1) fun u s2 ⟨y,H2,I2,r2,q2⟩=>
  thn (ho pins s2 σ H2 x y v u _ I2 r1 r2 q2) fun d s3 ⟨z,H3,I3,r3,k,e,q3⟩=>?_)) hm
 subst e
 cases r3
 refine wpAny_truthy_bool ?_
 cases k with
 |false=>
  obtain⟨k',e',q'⟩:=q3
  cases e'
  exact ite_ff ⟨H3,I3,q'⟩
 |true=>
  refine ite_tt (test_last (thn (hc pins s3 σ H3 _ I3 q3) fun w' s4 ⟨z',H4,I4,r4,q4⟩=>thn (ho' pins s4 σ H4 y z' u w' _ I4 r2 r4 q4) fun d' s5 zz=>?_))
  obtain⟨z2,H5,I5,r5,k2,e2,q5⟩:=zz
  subst e2
  cases r5
  exact wpAny_truthy_bool ⟨H5,I5,q5⟩
theorem kfw:(sizeLine:Nat)<2 ^ 63:=by rw[sizeLine_eq];decide
theorem kaN:OpR X (binaryOp .Add) (fun x y H Q=>∃i j,x=.str i/\y=.str j/\i.length+j.length<=sizeLine/\Q (.str (i++j)) H):=by
 intro pins s σ H x y v u Q I rx ry h
 obtain⟨i,j,rfl,rfl,hz,q⟩:=h
 obtain⟨t,rfl⟩:=rx
 obtain⟨t',rfl⟩:=ry
 exact add_str (fun t' tk=>⟨.str (i++j),H,I.tok _,⟨_,rfl⟩,q⟩) hz
theorem vals1{x:V}{us:List Value}(r:Vals [x] us):∃u,us=[u]/\RelV x u:=by
 cases r with
 |cons r1 r2=>cases r2;exact⟨_,rfl,r1⟩
theorem vals2{x y:V}{us:List Value}(r:Vals [x,y] us):∃u w',us=[u,w']/\RelV x u/\RelV y w':=by
 cases r with
 |cons r1 r2=>
  cases r2 with
  |cons r3 r4=>cases r4;exact⟨_,_,rfl,r1,r3⟩
theorem kkF(hc:X.calm=true):CallR X (.builtin "max") (fun xs H Q=>∃i j,xs=[.int i, .int j]/\Q (.int (if j > i then j else i)) H):=by
 intro pins s σ H xs us Q I r h
 obtain⟨i,j,rfl,q⟩:=h
 obtain⟨u,w',rfl,⟨t,rfl⟩,⟨t',rfl⟩⟩:=vals2 r
 refine max_two_ints (I.ok.hd hc) fun h' tk k=>⟨_,H,I.kept k,?_,q⟩
 by_cases hj:j > i
 ·rw[if_pos hj,if_pos hj];exact⟨_,rfl⟩
 ·rw[if_neg hj,if_neg hj];exact⟨_,rfl⟩
theorem kgY(hc:X.calm=true):CallR X (.builtin "min") (fun xs H Q=>∃i j,xs=[.int i, .int j]/\Q (.int (if j<i then j else i)) H):=by
 intro pins s σ H xs us Q I r h
 obtain⟨i,j,rfl,q⟩:=h
 obtain⟨u,w',rfl,⟨t,rfl⟩,⟨t',rfl⟩⟩:=vals2 r
 refine min_two_ints (I.ok.hd hc) fun h' tk k=>⟨_,H,I.kept k,?_,q⟩
 by_cases hj:j<i
 ·rw[if_pos hj,if_pos hj];exact⟨_,rfl⟩
 ·rw[if_neg hj,if_neg hj];exact⟨_,rfl⟩
theorem keh:CallR X (.type "str") (fun xs H Q=>∃i,xs=[.int i]/\i.natAbs.log2<1920/\Q (.str (toString i)) H):=by
 intro pins s σ H xs us Q I r h
 obtain⟨i,rfl,hz,q⟩:=h
 obtain⟨u,rfl,t,rfl⟩:=vals1 r
 exact PySem.P.str_of_int hz ⟨.str _,H,I.tok _,⟨_,rfl⟩,q⟩
end
structure ObjM(h:Heap)(x dx C:Addr)(mA:Str->Option Value):Prop where
 obj:h.get? x>>(EA C dx)
 ns:h.Ns1 dx mA
 ne:dx≠x
def keY{h:Heap}{dx:Addr}{mA:Str->Option Value}(n:h.Ns1 dx mA):∃od,h.get? dx>>od/\∀name,E9 name od>>(mA name):=by
 obtain⟨o,es,ep,ho,hd,hk,_,hm⟩:=n
 rwa[o,ho,fun name=>?_]
 have e:=hm name
 unfold nsFind findBy at e
 rw[<-Array.find?_toList] at e
 unfold E9
 rw[hd]
 dsimp only
 split
 ·rename_i y q
  rw[q] at e
  exact congrArg some e
 ·rename_i q
  rw[q] at e
  have a:es.toList.any (·.refKey)=false:=by
   rw[List.any_eq_false]
   intro y hy
   obtain⟨z,t,hkey⟩:=hk y (Array.mem_toList_iff.mp hy)
   simp[DictEntry.refKey,hkey]
  have a':¬es.toList.any (·.refKey)=true:=by rw[a];exact MD
  rw[if_neg a']
  exact congrArg some e
def ObjM.look{h:Heap}{x dx C:Addr}{mA:Str->Option Value}(I:ObjM h x dx C mA):∃od,PySem.W.InstAt h x (EA C dx) C (some od)/\∀name,E9 name od>>(mA name):=
 let⟨od,ho,hl⟩:=keY I.ns
 ⟨od,⟨I.obj,rfl,rfl,ho⟩,hl⟩
section
variable{prog:Program}{w:World}{A:Around}{E:Value->Shared->Prop}{s:Shared}{K:Mt}{x dx C f:Addr}{mA:Str->Option Value}{name:Str}{v:Value}
theorem get_map{expr:Bool}{Q:Value->Shared->Prop}(X:K.In s.heap)(I:ObjM s.heap x dx C mA)(hg:M8 K C name=true)(hh:Eb K C=true)
  (ha:Mw K (.ref C) name>>none)(hv:mA name>>v)(hv':PySem.W.handedIn v=true)(h:Q v {s with toks:=s.toks+1}):
  wpAny (model prog w) A (getAttr (.ref x) name expr) Q E s:=by
 obtain⟨od,J,hl⟩:=I.look
 exact PySem.W.get_value X J (DD hg).1 (Af hh ha rfl (by rw[hl,hv])) hv' h
theorem klF{pl:Sem Bool}{Q:Value×List Value->Shared->Prop}(X:K.In s.heap)(I:ObjM s.heap x dx C mA)(hg:M8 K C name=true)
  (hf:Mw K (.ref C) name>>(some (.ref f)))(ht:Ej K (.ref f)=true)(hv:mA name=none)(h:Q (.ref f,[.ref x]) s):
  wpAny (model prog w) A (getMethod (.ref x) name pl) Q E s:=by
 obtain⟨od,J,hl⟩:=I.look
 exact PySem.W.method_fn X J (DD hg).1 (DD hg).2 hf (beq_iff_eq.mp ht) (by show(E9 name od).map (·.isSome)>>false;rw[hl,hv];rfl) h
theorem kmQ{ns:List Str}{Q:Unit->Shared->Prop}(X:K.In s.heap)(I:ObjM s.heap x dx C mA)
  (hs:Mw K (.ref C) "__setattr__">>(some (.builtin "object.__setattr__")))(hp:Eh K C=true)(ht:DE K C name>>none)(hh:Eb K C=true)
  (hw:PySem.Within mA ns)(hsz:ns.length<=sizeLine)
  (h:∀h',ObjM h' x dx C (fun y=>if y=name then some v else mA y)->Heap.SameBut dx s.heap h'->Q () {s with heap:=h',toks:=s.toks+2}):
  wpAny (model prog w) A (setAttr (.ref x) name v) Q E s:=by
 obtain⟨od,J,hl⟩:=I.look
 refine PySem.W.set_plain X J hs (PySem.W.osa_open (s:={s with toks:=s.toks+1}) (r:=none) X J hp ht fun b=>?_)
 obtain⟨cd,hc,hd'⟩:=PySem.W.any_some hh
 have hx:s.heap.get? x>>⟨.ref C,some dx, .plain,#[]⟩:=I.obj
 refine wpAny_bind (wpAny_pure (wpAny_bind (wpAny_bind (wpAny_loadPart hx (wpAny_bind (DF.here (s:={s with toks:=s.toks+1}) (PySem.W.looks_clsIn X hc) ?_))))))
 rw[hd']
 refine wpAny_pure (a:=some dx) (wpAny_bind (wpAny_pure (wpAny_bind ?_)))
 refine wpAny_nsSet1 (s:={s with toks:=s.toks+1}) I.ns fun h' hn2 hs2=>?_
 obtain⟨oD,esD,epD,hoD,hdD,hcD⟩:=hn2.count (PySem.Within.cons name v hw)
 refine wpAny_bind (wpAny_lookBehind hoD (by rw[hdD];exact pastItsLine_dict (Mz hcD (by rw[MV];lia))) ?_)
 exact wpAny_pure (h _ ⟨(hs2.2 _ (Ne.symm I.ne)).trans I.obj,hn2,I.ne⟩ hs2)
theorem klx{R:Result->Shared->Prop}{vs:List Value}{kw:List (Str×Value)}(X:K.In s.heap)(hm:Ec K C=true)
  (hi:Mw K (.ref C) "__init__">>(some (.ref f)))(hf:M5 K (.ref f)>>(.type "function"))
  (h:codeAny (model prog w) (A.under (.builtin "type.__call__" ⟨.ref C::vs,kw⟩)) (.call (.ref f) ⟨.ref (s.heap.objs.size+1)::vs,kw⟩) (PySem.W.InitBack (s.heap.objs.size+1) R)
   {s with heap:=(s.heap.push Eu).push (EA C s.heap.objs.size)}):
  codeAny (model prog w) A (.call (.ref C) ⟨vs,kw⟩) R s:=by
 obtain⟨hh,g,d,t,os⟩:=s
 exact PySem.W.make_core (PySem.W.makes_of X hm) (PySem.W.looks_findIn X hi) (fun self=>PySem.W.bind_fn X self hf) (.inl rfl) h
end
noncomputable def putF(f:Str)(v:V):List (Str×V)->List (Str×V)
 |[]=>[(f,v)]
 |(g,x)::r=>if g=f then(g,v)::r else(g,x)::putF f v r
theorem kab(f g:Str)(v:V):∀fs:List (Str×V),(putF f v fs).lookup g=if g=f then some v else fs.lookup g
 | []=>by
  show Er g [(f,v)]=_
  by_cases h:g=f
  ·have hb:(g==f)=true:=beq_iff_eq.mpr h
   simp only[Er,hb,if_pos h]
  ·have hb:(g==f)=false:=beq_eq_false_iff_ne.mpr h
   simp only[Er,hb,if_neg h]
 | (k,x)::r=>by
  have ih:=kab f g v r
  rw[show putF f v ((k,x)::r)=(if k=f then(k,v)::r else(k,x)::putF f v r) from rfl]
  by_cases hk:k=f
  ·rw[if_pos hk]
   by_cases h:g=k
   ·have hb:(g==k)=true:=beq_iff_eq.mpr h
    simp only[Er,hb,if_pos (h.trans hk)]
   ·have hb:(g==k)=false:=beq_eq_false_iff_ne.mpr h
    simp only[Er,hb,if_neg (fun e:g=f=>h (e.trans hk.symm))]
  ·rw[if_neg hk]
   by_cases h:g=k
   ·have hb:(g==k)=true:=beq_iff_eq.mpr h
    simp only[Er,hb,if_neg (fun e:g=f=>hk (h.symm.trans e))]
   ·have hb:(g==k)=false:=beq_eq_false_iff_ne.mpr h
    simp only[Er,hb]
    exact ih
theorem kcX(f:Str)(v:V):∀fs:List (Str×V),f∈(putF f v fs).map (·.1)/\∀g,g∈fs.map (·.1)->g∈(putF f v fs).map (·.1)
 |[]=>⟨by simp[putF],fun g h=>by simp at h⟩
 | (k,x)::r=>by
  obtain⟨i1,i2⟩:=kcX f v r
  rw[show putF f v ((k,x)::r)=(if k=f then(k,v)::r else(k,x)::putF f v r) from rfl]
  by_cases hk:k=f
  ·rw[if_pos hk]
   subst hk
   rwa[by simp,fun g h=>by simpa using h]
  ·rw[if_neg hk]
   rwa[?_,fun g h=>?_]
   ·rw[MQ]
    exact MH _ i1
   ·rw[MQ] at h⊢
    rcases MB.mp h with e|e
    ·exact MB.mpr (.inl e)
    ·exact MH _ (i2 g e)
theorem keZ(f:Str)(v:V):∀fs:List (Str×V),(putF f v fs).length<=fs.length+1
 |[]=>by simp[putF]
 |(k,x)::r=>by
  have ih:=keZ f v r
  rw[show putF f v ((k,x)::r)=(if k=f then(k,v)::r else(k,x)::putF f v r) from rfl]
  by_cases hk:k=f
  ·rw[if_pos hk,MV,MV];lia
  ·rw[if_neg hk,MV,MV];lia
theorem RelO.some_of{v:V}{o:Option Value}(r:RelO (some v) o):∃u,o>>u/\RelV v u:=by
 cases o with
 |none=>exact(show False from r).elim
 |some u=>exact⟨u,rfl,r⟩
theorem RelO.none_of{o:Option Value}(r:RelO none o):o=none:=by
 cases o with
 |none=>rfl
 |some u=>exact(show False from r).elim
theorem kgS{v:V}{u:Value}(r:RelV v u):PySem.W.handedIn u=true:=by
 cases v with
 |non=>cases(show u=Value.none from r);rfl
 |bl b=>cases(show u=Value.bool b from r);rfl
 |int i=>obtain⟨t,e⟩:=(show ∃t,u=Value.int i t from r);cases e;rfl
 |str x=>obtain⟨t,e⟩:=(show ∃t,u=Value.str x t from r);cases e;rfl
 |byt b=>obtain⟨t,e⟩:=(show ∃t,u=Value.bytes b t from r);cases e;rfl
 |flt b=>obtain⟨t,e⟩:=(show ∃t,u=Value.float b t from r);cases e;rfl
 |ref a=>cases(show u=Value.ref a from r);rfl
 |ty n=>cases(show u=Value.type n from r);rfl
section
variable{P:Program}{w:World}{H H':Hp}{h h':Heap}{a C dx:Addr}{fs fs':List (Str×V)}
theorem kf2(hok:HOk P w H h)(e:H a>>(.ins C dx fs)):∃mA,ObjM h a dx C mA/\(∀f,RelO (fs.lookup f) (mA f))/\PySem.Within mA (fs.map (·.1))/\fs.length<=1000/\H dx>>(.own a):=by
 obtain⟨d,z,ne,ob,mA,n,r,q⟩:=(show ObjOk P w H h a (.ins C dx fs) from hok a _ e)
 rwa[mA,⟨ob,n,ne⟩,r,q,z,d]
end
structure Cls(K:Mt)(C:Addr):Prop where
 pg:M8 K C Str.empty=true
 hd:Eb K C=true
 po:Eh K C=true
 sa:Mw K (.ref C) "__setattr__">>(some (.builtin "object.__setattr__"))
def Cls.get{K:Mt}{C:Addr}(c:Cls K C)(f:Str):M8 K C f=true:=c.pg
def NoAttr(K:Mt)(C:Addr)(f:Str):Prop:=Mw K (.ref C) f>>none
def NoAttr.taker{K:Mt}{C:Addr}{f:Str}(n:NoAttr K C f):DE K C f>>none:=by
 unfold DE
 rw[show Mw K (.ref C) f>>none from n]
 rfl
structure Meth(K:Mt)(C:Addr)(m:Str)(f:Addr):Prop where
 at_:Mw K (.ref C) m>>(some (.ref f))
 fn:Ej K (.ref f)=true
 kp:MJ K (.ref f)=true
section
variable{X:Cx}{pins:List (Addr×Obj)}{σ:St}{H:Hp}{s:Shared}{a C dx:Addr}{fs:List (Str×V)}{f:Str}{v:V}{A:Around}{E:Value->Shared->Prop}
theorem kfy{b:Bool}{Q:Value->Shared->Prop}(I:Inv X pins σ H s)(e:H a>>(.ins C dx fs))(c:Cls X.K C)(n:NoAttr X.K C f)(l:fs.lookup f>>v)
  (h:∀u s',Inv X pins σ H s'->RelV v u->Q u s'):wpAny (model X.prog X.w) A (getAttr (.ref a) f b) Q E s:=by
 obtain⟨mA,O,r,_,_,_⟩:=kf2 I.hok e
 obtain⟨u,hu,ru⟩:=RelO.some_of (v:=v) (o:=mA f) (by rw[<-l];exact r f)
 exact get_map I.kIn O (c.get f) c.hd n hu (kgS ru) (h u _ (I.tok _) ru)
theorem kfx{m:Str}{g:Addr}{pl:Sem Bool}{Q:Value×List Value->Shared->Prop}(I:Inv X pins σ H s)(e:H a>>(.ins C dx fs))(c:Cls X.K C)(k:Meth X.K C m g)(l:fs.lookup m=none)
  (h:Q (.ref g,[.ref a]) s):wpAny (model X.prog X.w) A (getMethod (.ref a) m pl) Q E s:=by
 obtain⟨mA,O,r,_,_,_⟩:=kf2 I.hok e
 have hn:mA m=none:=RelO.none_of (by rw[<-l];exact r m)
 exact klF I.kIn O (c.get m) k.at_ k.fn hn h
theorem kfi{y:V}{u:Value}{Q:Unit->Shared->Prop}(I:Inv X pins σ H s)(e:H a>>(.ins C dx fs))(c:Cls X.K C)(n:NoAttr X.K C f)(hl:fs.length<1000)(ry:RelV y u)
  (h:∀s',Inv X pins σ (upd H a (.ins C dx (putF f y fs))) s'->Q () s'):wpAny (model X.prog X.w) A (setAttr (.ref a) f u) Q E s:=by
 obtain⟨mA,O,r,wi,_,ho⟩:=kf2 I.hok e
 have hz:(fs.map (·.1)).length<=sizeLine:=by rw[Mu,sizeLine_eq];lia
 refine kmQ I.kIn O c.sa c.po n.taker c.hd wi hz fun h' O' sb=>h _ ?_
 have hd:∃o,h'.get? dx>>o:=let⟨o,_,_,e',_⟩:=O'.ns;⟨o,e'⟩
 refine I.write (x:=a) (e:=dx) (by rw[e];exact True.intro) (.inr ho) (fun b q hb z=>(sb.2 b hb).trans z) hd ?_
 rwa[by rw[kah O.ne];exact ho,?_,O.ne,O'.obj,_,O'.ns,fun g=>?_,fun g hg=>?_]
 ·have:=keZ f y fs;lia
 ·show RelO ((putF f y fs).lookup g) (if g=f then some u else mA g)
  rw[kab]
  by_cases q:g=f
  ·rw[if_pos q,if_pos q];exact ry
  ·rw[if_neg q,if_neg q];exact r g
 ·by_cases q:g=f
  ·rw[q];exact(kcX f y fs).1
  ·refine(kcX f y fs).2 g (wi g fun z=>hg ?_)
   show(if g=f then some u else mA g)=none
   rw[if_neg q];exact z
theorem Inv.made(I:Inv X pins σ H s):Inv X pins σ (upd (upd H s.heap.objs.size (.own (s.heap.objs.size+1))) (s.heap.objs.size+1) (.ins C s.heap.objs.size []))
  {s with heap:=(s.heap.push Eu).push (EA C s.heap.objs.size)}:=by
 have e1:(s.heap.push Eu).get? s.heap.objs.size>>Eu:=Heap.get?_push_size s.heap rfl
 have e2:((s.heap.push Eu).push (EA C s.heap.objs.size)).get? (s.heap.objs.size+1)>>(EA C s.heap.objs.size):=by
  have:=Heap.get?_push_size (s.heap.push Eu) (o:=EA C s.heap.objs.size) rfl
  rwa [Heap.size_push] at this
 have e3:(s.heap.push Eu).Ns s.heap.objs.size (fun _=>none):=⟨Eu,#[],_,e1,rfl,(fun e he=>absurd he (by simp)),fun _=>rfl⟩
 have I1:=I.laid (a:=s.heap.objs.size) (o:=.own (s.heap.objs.size+1)) (h':=s.heap.push Eu) (t':=s.toks) (fun b u q=>Heap.get?_push_of_some _ q) (Mv _) ⟨_,e1⟩
 refine I1.laid (a:=s.heap.objs.size+1) (o:=.ins C s.heap.objs.size []) (t':=s.toks) (fun b u q=>Heap.get?_push_of_some _ q) (Nat.le_of_eq (Heap.size_push _ _)) ?_
 have ne:s.heap.objs.size≠s.heap.objs.size+1:=MT (DG _)
 rwa[by rw[kah ne,kad],M7 _,ne,e2,fun _=>none,(Heap.Ns1.of_empty e3).at fun o q=>Heap.get?_push_of_some _ q,fun _=>True.intro,fun y hy=>absurd rfl hy]
theorem kkK{prog:Program}{w:World}{env:Env}{e:Expr}{f:Str}{pos:Pos}{s:Shared}{Q:Value->Shared->Prop}(hb:attributeBase e f env (eval e env)=eval e env)
  (h:wpAny (model prog w) A (eval e env) (fun o s₁=>wpAny (model prog w) A (getAttr o f true) Q E s₁) E s):wpAny (model prog w) A (eval (.Attribute e f pos) env) Q E s:=
 Attribute_any_ h (by rw[arm_eval_Attribute,hb])
end
inductive QtFld(K:Mt)(f:Str)(Q:VK)(x:V)(H1:Hp):Prop
 |ct a C dx fs v (_:x=.ref a) (_:H1 a>>(.ins C dx fs)) (_:Cls K C) (_:NoAttr K C f) (_:fs.lookup f>>v) (_:Q v H1):QtFld K f Q x H1
def tFld(K:Mt)(ta:TE)(f:Str):TE:=fun σ H Q=>ta σ H fun x H1=>QtFld K f Q x H1
inductive QsFld(K:Mt)(f:Str)(D:Ends)(σ:St)(y:V)(x:V)(H2:Hp):Prop
 |ct a C dx fs (_:x=.ref a) (_:H2 a>>(.ins C dx fs)) (_:Cls K C) (_:NoAttr K C f) (_:fs.length<1000) (_:D.nx σ (upd H2 a (.ins C dx (putF f y fs)))):QsFld K f D σ y x H2
def sFld(K:Mt)(ta tv:TE)(f:Str):TS:=fun D σ H=>tv σ H fun y H1=>ta σ H1 fun x H2=>QsFld K f D σ y x H2
def InOp(X:Cx)(op:Operator)(rd:V->V->Hp->VK->Prop):Prop:=
 ∀(pins:List (Addr×Obj))(s:Shared)(σ:St)(H:Hp)(x y:V)(u v:Value)(Q:VK),Inv X pins σ H s->RelV x u->RelV y v->rd x y H Q->wpAny (model X.prog X.w) X.A (inplaceOp op u v) (EP X pins σ Q) X.xe s
inductive kiB(K:Mt)(tv:TE)(rd:V->V->Hp->VK->Prop)(f:Str)(D:Ends)(σ:St)(x:V)(H1:Hp):Prop
 |ct a C dx fs v (_:x=.ref a) (_:H1 a>>(.ins C dx fs)) (_:Cls K C) (_:NoAttr K C f) (_:fs.lookup f>>v) (_:tv σ H1 fun y H2=>rd v y H2 fun z H3=>∃dx' fs',H3 a>>(.ins C dx' fs')/\fs'.length<1000/\D.nx σ (upd H3 a (.ins C dx' (putF f z fs')))):kiB K tv rd f D σ x H1
def kmU(K:Mt)(ta tv:TE)(rd:V->V->Hp->VK->Prop)(f:Str):TS:=fun D σ H=>ta σ H fun x H1=>kiB K tv rd f D σ x H1
section
variable{X:Cx}{o e value:Expr}{f:Str}{pos pos' tpos:Pos}{ta tv:TE}
theorem knZ(he:PE X e ta)(hb:attributeBase e f X.env (eval e X.env)=eval e X.env):PE X (.Attribute e f pos) (tFld X.K ta f):=by
 intro pins s σ H Q I h
 refine kkK hb (thn (he pins s σ H _ I h) fun u s1 zz=>?_)
 obtain⟨x,H1,I1,rx,a,C,dx,fs,v,ex,ea,c,n,l,q⟩:=zz
 subst ex
 obtain rfl:u=Value.ref a:=rx
 exact kfy I1 ea c n l fun u' s2 I2 ru=>⟨v,H1,I2,ru,q⟩
theorem kaA(ha:PE X o ta)(hv:PE X value tv)(hs:swapsWith value (some (.Attribute o f pos')) pos.line X.env=pure false):PS X (.Assign [.Attribute o f pos'] value pos) (sFld X.K ta tv f):=by
 intro pins s σ H D I h
 refine plainObj_wpAny_Assign_Attribute (thn (hv pins s σ H _ I h) fun u s1 ⟨y,H1,I1,ry,q⟩=>thn (ha pins s1 σ H1 _ I1 q) fun ov s2 zz=>?_) hs
 obtain⟨x,H2,I2,rx,a,C,dx,fs,ex,ea,c,n,l,q2⟩:=zz
 subst ex
 obtain rfl:ov=Value.ref a:=rx
 exact kfi I2 ea c n l ry fun s3 I3=>⟨σ,_,I3,q2⟩
theorem kjN{op:Operator}{rd:V->V->Hp->VK->Prop}(ha:PE X o ta)(hv:PE X value tv)(hop:InOp X op rd):PS X (.AugAssign (.Attribute o f tpos) op value pos) (kmU X.K ta tv rd f):=by
 intro pins s σ H D I h
 refine wpAny_AugAssign_AttributeAny (thn (ha pins s σ H _ I h) fun ov s1 zz=>?_)
 obtain⟨x,H1,I1,rx,a,C,dx,fs,v,ex,ea,c,n,l,q⟩:=zz
 subst ex
 obtain rfl:ov=Value.ref a:=rx
 refine kfy I1 ea c n l fun u s2 I2 ru=>thn (hv pins s2 σ H1 _ I2 q) fun w3 s3 ⟨y,H2,I3,ry,q3⟩=>thn (hop pins s3 σ H2 v y u w3 _ I3 ru ry q3) fun w4 s4 zz=>?_
 obtain⟨z,H3,I4,rz,dx',fs',ea',l',q4⟩:=zz
 exact kfi I4 ea' c n l' rz fun s5 I5=>⟨σ,_,I5,q4⟩
inductive QrAdd(x:V)(y:V)(H:Hp)(Q:VK):Prop
 |ct i j (_:x=.int i) (_:y=.int j) (_:Q (.int (i+j)) H):QrAdd x y H Q
def rAdd:V->V->Hp->VK->Prop:=fun x y H Q=>QrAdd x y H Q
theorem koe:InOp X .Add rAdd:=by
 rintro pins s σ H x y u v Q I rx ry ⟨i,j,rfl,rfl,q⟩
 obtain⟨t,rfl⟩:=(show ∃t,u=Value.int i t from rx)
 obtain⟨t',rfl⟩:=(show ∃t',v=Value.int j t' from ry)
 exact PyProof.Rows.iadd_int ⟨.int (i+j),H,I.tok _,⟨_,rfl⟩,q⟩
end
section
variable{X:Cx}{pins:List (Addr×Obj)}{σ:St}{H:Hp}{s:Shared}{A:Around}{E:Value->Shared->Prop}{Q:Value->Shared->Prop}{c:Value}{b:Bool}
inductive TyOf(K:Mt)(H:Hp):V->Value->Prop where
 |non:TyOf K H .non (.type "NoneType")
 |bl (x:Bool):TyOf K H (.bl x) (.type "bool")
 |int (i:Int):TyOf K H (.int i) (.type "int")
 |str (x:Str):TyOf K H (.str x) (.type "str")
 |flt (x:UInt64):TyOf K H (.flt x) (.type "float")
 |lst {a:Addr} {xs:List V} (e:H a>>(.lst xs)):TyOf K H (.ref a) (.type "list")
 |frz {a:Addr} {o:Obj} {xs:List V} (e:H a>>(.frz o (.lst xs))):TyOf K H (.ref a) (.type "list")
 |tup {a:Addr} {xs:List V} (e:H a>>(.tup xs)):TyOf K H (.ref a) (.type "tuple")
 |dK {a:Addr} {kvs:List (Key×V)} (e:H a>>(.dK kvs)):TyOf K H (.ref a) (.type "dict")
 |dT {a:Addr} {kvs:List (List Key×V)} (e:H a>>(.dT kvs)):TyOf K H (.ref a) (.type "dict")
 | ins {a C dx:Addr} {fs:List (Str×V)} (e:H a>>(.ins C dx fs)) (cl:Cls K C) (ha:Mw K (.ref C) "__class__">>(some (.builtin "object.__class__")))
   (hn:EN K (.builtin "object.__class__") "__get__">>(some (.builtin "getset_descriptor.__get__")))(htk:DH K (.builtin "object.__class__")>>true)
   (hm:MM K C (.type "object")>>true):TyOf K H (.ref a) (.ref C)
theorem kkh{x:V}{u t:Value}(I:Inv X pins σ H s)(rx:RelV x u)(ty:TyOf X.K H x t)(e:En X.K t c>>b)(h:∀tk,Q (.bool b) {s with toks:=tk}):
  wpAny (model X.prog X.w) A (call (.builtin "isinstance") [u,c]) Q E s:=by
 cases ty with
 |non=>cases(show u=Value.none from rx);exact Eo PySem.W.kitx_none I.kIn True.intro e (fun z=>nomatch z) h
 |bl y=>cases(show u=Value.bool y from rx);exact Eo PySem.W.kitx_bool I.kIn True.intro e (fun z=>nomatch z) h
 |int i=>obtain⟨t,q⟩:=(show ∃t,u=Value.int i t from rx);cases q;exact Eo PySem.W.kitx_int I.kIn True.intro e (fun z=>nomatch z) h
 |str y=>obtain⟨t,q⟩:=(show ∃t,u=Value.str y t from rx);cases q;exact Eo PySem.W.kitx_str I.kIn True.intro e (fun z=>nomatch z) h
 |flt y=>obtain⟨t,q⟩:=(show ∃t,u=Value.float y t from rx);cases q;exact Eo PySem.W.kitx_float I.kIn True.intro e (fun z=>nomatch z) h
 | @lst a xs ea=>
  cases(show u=Value.ref a from rx)
  obtain⟨_,_,n,_,h1⟩:=(show ObjOk X.prog X.w H s.heap a (.lst xs) from I.hok a _ ea)
  exact Eo PySem.W.kitx_list I.kIn ⟨_,h1,rfl⟩ e (fun z=>nomatch z) h
 | @frz a ob xs ea=>
  cases(show u=Value.ref a from rx)
  obtain⟨_,_,_,n,_,h1⟩:=(show ObjOk X.prog X.w H s.heap a (.frz ob (.lst xs)) from I.hok a _ ea)
  exact Eo PySem.W.kitx_list I.kIn ⟨_,h1,rfl⟩ e (fun z=>nomatch z) h
 | @tup a xs ea=>
  cases(show u=Value.ref a from rx)
  obtain⟨_,_,_,p⟩:=(show ObjOk X.prog X.w H s.heap a (.tup xs) from I.hok a _ ea)
  obtain⟨o,h1,h2,_⟩:=p
  exact Eo PySem.W.kitx_tuple I.kIn ⟨o,h1,h2⟩ e (fun z=>nomatch z) h
 | @dK a kvs ea=>
  cases(show u=Value.ref a from rx)
  obtain⟨_,_,vs,_,p⟩:=(show ObjOk X.prog X.w H s.heap a (.dK kvs) from I.hok a _ ea)
  obtain⟨o,es,ep,h1,h2,_⟩:=p
  exact Eo PySem.W.kitx_dict I.kIn ⟨o,h1,h2.1⟩ e (fun z=>nomatch z) h
 | @dT a kvs ea=>
  cases(show u=Value.ref a from rx)
  obtain⟨_,_,xs,_,o,es,ep,h1,h2,_⟩:=(show ObjOk X.prog X.w H s.heap a (.dT kvs) from I.hok a _ ea)
  exact Eo PySem.W.kitx_dict I.kIn ⟨o,h1,h2.1⟩ e (fun z=>nomatch z) h
 | @ins a C dx fs ea cl ha hn htk hm=>
  cases(show u=Value.ref a from rx)
  obtain⟨mA,O,_⟩:=kf2 I.hok ea
  obtain⟨od,J,_⟩:=O.look
  exact Eo (PySem.W.kitx_own (cl.get _) cl.hd ha hn htk hm) I.kIn J e (fun z=>nomatch z) h
end
structure Room(k:Nat)(A:Around):Prop where
 hd:A.handled=none
 dp:A.depth+3*k+5<recursionLimit
 un:A.units+16*k+200<cLine
def Room.mono{j k:Nat}{A:Around}(r:Room k A)(h:j<=k):Room j A:=⟨r.hd,by have:=r.dp;lia,by have:=r.un;lia⟩
def Room.deeper{k:Nat}{A:Around}(r:Room (k+1) A)(env:Env):Room k (A.deeper env):=
 ⟨r.hd,by have:=r.dp;show A.depth+1+3*k+5<_;lia,by have:=r.un;show A.units+3+16*k+200<_;lia⟩
def kiV{A:Around}{C:Addr}{us:List Value}{kw:List (Str×Value)}:(A.under (.builtin "type.__call__" ⟨.ref C::us,kw⟩)).depth=A.depth+1:=by
 first|rfl|simp[Around.under,Code.weight,Code.isCreation,Code.isGuard,Code.isCaller,Code.frames,Code.isFrame,guardIds]
def kiU{A:Around}{C:Addr}{us:List Value}{kw:List (Str×Value)}:(A.under (.builtin "type.__call__" ⟨.ref C::us,kw⟩)).units=A.units+1:=by
 first|rfl|simp[Around.under,Code.cUnits,Code.frames,Code.isFrame]
def Room.make{k:Nat}{A:Around}(r:Room (k+1) A)(C:Addr)(us:List Value)(kw:List (Str×Value)):Room k (A.under (.builtin "type.__call__" ⟨.ref C::us,kw⟩)):=
 ⟨r.hd,by have:=r.dp;rw[kiV];lia,by have:=r.un;rw[kiU];lia⟩
def Room.depth{k:Nat}{A:Around}(r:Room k A):A.depth<recursionLimit:=by have:=r.dp;lia
def Room.units{k:Nat}{A:Around}(r:Room k A):A.units+64<cLine:=by have:=r.un;lia
def tNil:TA:=fun _ H Q=>Q [] H
def tCons(ta:TE)(tr:TA):TA:=fun σ H Q=>ta σ H fun x H1=>tr σ H1 fun xs H2=>Q (x::xs) H2
section
variable{X:Cx}{e:Expr}{es:List Expr}{te:TE}{t:TA}{pos:Pos}
theorem kae:PA X [] tNil:=fun _ _ _ _ H Q I h=>Calls.spliced_nil ⟨[],H,I, .nil,h⟩
theorem kaa(ha:PE X e te)(hr:PA X es t)(hs:autoParam (starEach (e::es) X.env=(false,eval e X.env)::starEach es X.env) jz):PA X (e::es) (tCons te t):=by
 intro pos pins s σ H Q I h
 rw[hs]
 show wpAny _ _ (spliced ((false,eval e X.env)::backTo pos (starEach es X.env))) _ _ s
 refine Calls.spliced_cons (thn (ha pins s σ H _ I h) fun u s1 zz=>?_)
 obtain⟨x,H1,I1,r1,q1⟩:=zz
 exact thn (hr pos pins s1 σ H1 _ I1 q1) fun us s2 ⟨xs,H2,I2,r2,q2⟩=>⟨x::xs,H2,I2, .cons r1 r2,q2⟩
def tTup(t:TA):TE:=fun σ H Q=>t σ H fun xs H1=>xs.length<=sizeLine/\∀p,H1 p=none->Q (.ref p) (upd H1 p (.tup xs))
def tLst(t:TA):TE:=fun σ H Q=>t σ H fun xs H1=>xs.length<=sizeLine/\∀p,H1 p=none->Q (.ref p) (upd H1 p (.lst xs))
theorem ka7{x1}(h:PA X es t):PE X (.Tuple es x1 pos) (tTup t):=by
 intro pins s σ H Q I hq
 refine wpAny_Tuple_spliced (thn (h pos pins s σ H _ I hq) fun us s1 ⟨xs,H1,I1,r,z,q⟩=>⟨by rw[<-r.length];exact z,?_⟩)
 have hf:H1 s1.heap.objs.size=none:=I1.hok.fresh (Mv _)
 rwa[.ref s1.heap.objs.size,upd H1 s1.heap.objs.size (.tup xs),I1.laid (t':=s1.toks) (fun b u e=>Heap.get?_push_of_some _ e) (Mv _) ?_,6,q _ hf]
 rwa[z,us,r,⟨_,Heap.get?_push_size _ rfl,rfl,_,rfl⟩]
theorem kaJ(h:PA X es t):PE X (.List es pos) (tLst t):=by
 intro pins s σ H Q I hq
 refine wpAny_List_spliced (thn (h pos pins s σ H _ I hq) fun us s1 ⟨xs,H1,I1,r,z,q⟩=>⟨by rw[<-r.length];exact z,?_⟩)
 have hf:H1 s1.heap.objs.size=none:=I1.hok.fresh (Mv _)
 rwa[.ref s1.heap.objs.size,upd H1 s1.heap.objs.size (.lst xs),I1.laid (t':=s1.toks) (fun b u e=>Heap.get?_push_of_some _ e) (Mv _) ?_,6,q _ hf]
 rwa[z,us,0,r,Heap.get?_push_size _ rfl]
end
abbrev Sp:=List V->Hp->VK->XK->Prop
abbrev CXT:=List Env->Hp->Shared->XK->Value->Shared->Prop
structure Env0(P:Program)(w:World)(K:Mt)(mg:Str->Option Value)(base:Heap)(A:Around)(outer:List Env)(s:Shared)(H:Hp):Prop where
 frames:A.frames>>outer
 mod:Mod K mg base
 bs:∀b o,base.get? b>>o->s.heap.get? b>>o/\H b=none
 bsz:base.objs.size<=s.heap.objs.size
 funs:s.heap.FunFrames base outer
 frf:∀b∈frs outer,H b=none
 hok:HOk P w H s.heap
 bare:AllBare s.gens
def CE(outer:List Env)(P:Program)(w:World)(H:Hp)(s:Shared)(Q:VK)(u:Value)(s':Shared):Prop:=
 ∃v H',s'.os=s.os/\AllBare s'.gens/\Un (frs outer) [] H H' s.heap s'.heap/\HOk P w H' s'.heap/\RelV v u/\Q v H'
def CR(CX:CXT)(outer:List Env)(P:Program)(w:World)(H:Hp)(s:Shared)(Q:VK)(E:XK)(r:Result)(s':Shared):Prop:=
 match r with
 | .ok (.ret u)=>CE outer P w H s Q u s'
 | .ok _=>False
 | .error e=>CX outer H s E e s'
structure FnOk(P:Program)(w:World)(K:Mt)(mg:Str->Option Value)(base:Heap)(CX:CXT)(k:Nat)(f:Addr)(fd:FuncData)(ps:List Str)(sp:Sp):Prop where
 len:∀vs H Q E,sp vs H Q E->vs.length=ps.length
 run:∀(A:Around)(outer:List Env)(s:Shared)(H:Hp)(args:Args)(us:List Value)(vs:List V)(Q:VK)(E:XK),Room k A->Env0 P w K mg base A outer s H->BindsTo s fd args (ps.zip us)->Vals vs us->sp vs H Q E->
  codeAny (model P w) A (.call (.ref f) args) (CR CX outer P w H s Q E) s
theorem FnOk.mono{P:Program}{w:World}{K:Mt}{mg:Str->Option Value}{base:Heap}{CX:CXT}{j k:Nat}{f:Addr}{fd:FuncData}{ps:List Str}{sp:Sp}(F:FnOk P w K mg base CX j f fd ps sp)(h:j<=k):
  FnOk P w K mg base CX k f fd ps sp:=⟨F.len,fun A outer s H args us vs Q E hr=>F.run A outer s H args us vs Q E (hr.mono h)⟩
theorem Env0.make{P:Program}{w:World}{K:Mt}{mg:Str->Option Value}{base:Heap}{A:Around}{outer:List Env}{s:Shared}{H:Hp}(e:Env0 P w K mg base A outer s H)(C:Addr)(us:List Value)(kw:List (Str×Value)):
  Env0 P w K mg base (A.under (.builtin "type.__call__" ⟨.ref C::us,kw⟩)) outer s H:=⟨by first|exact e.frames|(simpa[Around.under,Code.envs,Code.isFrame,pushEnvs] using e.frames),e.mod,e.bs,e.bsz,e.funs,e.frf,e.hok,e.bare⟩
section
variable{X:Cx}{pins:List (Addr×Obj)}{σ:St}{H:Hp}{s s':Shared}
theorem Inv.env0(I:Inv X pins σ H s):Env0 X.prog X.w X.K X.mg X.base X.A X.stack s H:=
 ⟨I.ok.frames,I.ok.mod,I.bs,Mz I.ok.bsz I.sz,I.stack,I.stkFree,I.hok,I.bare⟩
theorem Inv.after{Q:VK}{u:Value}(I:Inv X pins σ H s)(h:CE X.stack X.prog X.w H s Q u s'):EP X pins σ Q u s':=by
 obtain⟨v,H',os,bare,un,hok,r,q⟩:=h
 obtain⟨hh,g,d,t,os'⟩:=s'
 obtain rfl:os'=s.os:=os
 rwa[v,H',I.call (h':=hh) (g':=g) (d':=d) (t':=t) (ch:=[]) un hok bare (fun b z=>absurd z (by simp)),r,q]
end
def tCall(sp:Sp)(dvs:List V)(E:XK)(t:TA):TE:=fun σ H Q=>t σ H fun vs H1=>sp (vs++dvs) H1 Q E
inductive kms(C:Addr)(m:Str)(sp:Sp)(dvs:List V)(E:XK)(t:TA)(σ:St)(Q:VK)(x:V)(H1:Hp):Prop
 |ct a dx fs (_:x=.ref a) (_:H1 a>>(.ins C dx fs)) (_:fs.lookup m=none) (_:t σ H1 fun vs H2=>sp (x::(vs++dvs)) H2 Q E):kms C m sp dvs E t σ Q x H1
def tMeth(C:Addr)(m:Str)(sp:Sp)(dvs:List V)(E:XK)(ta:TE)(t:TA):TE:=fun σ H Q=>ta σ H fun x H1=>kms C m sp dvs E t σ Q x H1
def tMake(C:Addr)(sp:Sp)(dvs:List V)(E:XK)(t:TA):TE:=fun σ H Q=>t σ H fun vs H1=>∀x dx,H1 x=none->H1 dx=none->dx≠x->
 sp (.ref x::(vs++dvs)) (upd (upd H1 dx (.own x)) x (.ins C dx [])) (fun v H2=>v=.non/\Q (.ref x) H2) E
def Binds(K:Mt)(fd:FuncData)(ps:List Str)(ds:List Value):Prop:=
 ∀(s:Shared)(us:List Value),K.In s.heap->(us++ds).length=ps.length->BindsTo s fd ⟨us,[]⟩ (ps.zip (us++ds))
def Binds.all{K:Mt}{fd:FuncData}{ps:List Str}(h:∀us:List Value,us.length=ps.length->bindArgs fd ⟨us,[]⟩=pure (ps.zip us)):Binds K fd ps []:=fun s us _ hl=>by
 rw[El] at hl⊢
 exact .of_eq (h us hl)
def kc2(CX:CXT)(X:Cx)(E:XK):Prop:=∀(pins:List (Addr×Obj))(σ:St)(H:Hp)(s:Shared)(e:Value)(s':Shared),Inv X pins σ H s->CX X.stack H s E e s'->X.xe e s'
section
variable{X:Cx}{CX:CXT}{k:Nat}{f C:Addr}{fd:FuncData}{ps:List Str}{sp:Sp}{dvs:List V}{ds:List Value}{E:XK}{x m:Str}{p pos apos:Pos}{e o:Expr}{es:List Expr}{ta:TE}{t:TA}
theorem kgx{pins:List (Addr×Obj)}{σ:St}{H:Hp}{s:Shared}{Q:VK}{us:List Value}{vs:List V}(F:FnOk X.prog X.w X.K X.mg X.base CX k f fd ps sp)(hr:Room k X.A)(hb:Binds X.K fd ps ds)(hd:Vals dvs ds)(hx:kc2 CX X E)
  (I:Inv X pins σ H s) (r:Vals vs us) (h:sp (vs++dvs) H Q E):wpAny (model X.prog X.w) X.A (call (.ref f) us) (EP X pins σ Q) X.xe s:=by
 have r2:Vals (vs++dvs) (us++ds):=r.append hd
 have hl:(us++ds).length=ps.length:=by rw[<-r2.length];exact F.len _ _ _ _ h
 refine wpAny_call (codeAny_mono (F.run X.A X.stack s H ⟨us,[]⟩ (us++ds) (vs++dvs) Q E hr I.env0 (hb s us I.kIn hl) r2 h) fun r s' hq=>?_)
 cases r with
 |error e=>exact hx pins σ H s e s' I hq
 |ok fl=>
  cases fl with
  |ret u=>exact I.after hq
  |next=>exact False.elim hq
  |brk=>exact False.elim hq
  |cont=>exact False.elim hq
theorem kjY(F:FnOk X.prog X.w X.K X.mg X.base CX k f fd ps sp)(hr:Room k X.A)(hg:Gl X x)(hm:X.mg x>>(.ref f))(hk:MJ X.K (.ref f)=true)(hb:Binds X.K fd ps ds)(hd:Vals dvs ds)(hx:kc2 CX X E)
  (ha:PA X (e::es) t)(hdb:autoParam ((x==("__debug__" :Str))=false) jQ)(he:autoParam (starEach (e::es) X.env=(false,eval e X.env)::starEach es X.env) jz)(hpl:autoParam ((backTo pos (starEach es X.env)).any (·.1)=false) jz):
  PE X (.Call (.Name x p) (e::es) [] pos) (tCall sp dvs E t):=by
 intro pins s σ H Q I h
 refine wpAny_Call_Name_kw (kdA I hg hm ?_ hdb)
 refine EI (h₀:=X.base) I.ok.mod.kin hk (thn (ha pos pins s σ H _ I h) fun us s1 ⟨vs,H1,I1,r,q⟩=>⟨I1.kIn,?_⟩) he hpl
 exact kgx F hr hb hd hx I1 r q
theorem kaH{pl:Sem Bool}(he:PE X o ta)(c:Cls X.K C)(hm:Meth X.K C m f)(F:FnOk X.prog X.w X.K X.mg X.base CX k f fd ps sp)(hr:Room k X.A)(hb:Binds X.K fd ps ds)(hd:Vals dvs ds)(hx:kc2 CX X E)(ha:PA X (e::es) t)
  (hst:autoParam (starEach (e::es) X.env=(false,eval e X.env)::starEach es X.env) jz)(hpl:autoParam ((backTo pos (starEach es X.env)).any (·.1)=false) jz)
  (ht:autoParam (eval (.Call (.Attribute o m apos) (e::es) [] pos) X.env=(do
   let ov <-eval o X.env
   standAt apos.atName
   let(f,first) <-holding [ov] (getMethod ov m pl)
   callWith pos f first (backTo pos (starEach (e::es) X.env)) (backToKw pos (keywordEach [] X.env)))) jz):
  PE X (.Call (.Attribute o m apos) (e::es) [] pos) (tMeth C m sp dvs E ta t):=by
 intro pins s σ H Q I h
 refine DI (pl:=pl) (thn (he pins s σ H _ I h) fun u s1 zz=>?_) ht
 obtain⟨x,H1,I1,rx,a,dx,fs,ex,ea,l,q⟩:=zz
 subst ex
 obtain rfl:u=Value.ref a:=rx
 refine kfx I1 ea c hm l ?_
 refine EI (first:=[.ref a]) (h₀:=X.base) I.ok.mod.kin hm.kp (thn (ha pos pins s1 σ H1 _ I1 q) fun us s2 ⟨vs,H2,I2,r,q2⟩=>⟨I2.kIn,?_⟩) hst hpl
 exact kgx (us:=.ref a::us) (vs:=.ref a::vs) F hr hb hd hx I2 (.cons rfl r) q2
theorem kaz{pl:Sem Bool}(he:PE X o ta)(c:Cls X.K C)(hm:Meth X.K C m f)(F:FnOk X.prog X.w X.K X.mg X.base CX k f fd ps sp)(hr:Room k X.A)(hb:Binds X.K fd ps ds)(hd:Vals dvs ds)(hx:kc2 CX X E)
  (ht:autoParam (eval (.Call (.Attribute o m apos) [] [] pos) X.env=(do
   let ov <-eval o X.env
   standAt apos.atName
   let(f,first) <-holding [ov] (getMethod ov m pl)
   callWith pos f first (backTo pos (starEach [] X.env)) (backToKw pos (keywordEach [] X.env)))) jz):
  PE X (.Call (.Attribute o m apos) [] [] pos) (tMeth C m sp dvs E ta tNil):=by
 intro pins s σ H Q I h
 refine DI (pl:=pl) (thn (he pins s σ H _ I h) fun u s1 zz=>?_) ht
 obtain⟨x,H1,I1,rx,a,dx,fs,ex,ea,l,q⟩:=zz
 subst ex
 obtain rfl:u=Value.ref a:=rx
 refine kfx I1 ea c hm l ?_
 exact Ag (first:=[.ref a]) I1.kIn hm.kp (kgx (us:=[.ref a]) (vs:=[.ref a]) F hr hb hd hx I1 (.cons rfl .nil) q)
structure Mk(K:Mt)(C f:Addr):Prop where
 makes:Ec K C=true
 init:Mw K (.ref C) "__init__">>(some (.ref f))
 fn:Ej K (.ref f)=true
 kp:MJ K (.ref C)=true
theorem khV{pins:List (Addr×Obj)}{σ:St}{H:Hp}{s:Shared}{Q:VK}{us:List Value}{vs:List V}(M:Mk X.K C f)(F:FnOk X.prog X.w X.K X.mg X.base CX k f fd ps sp)(hr:Room (k+1) X.A)(hb:Binds X.K fd ps ds)(hd:Vals dvs ds)
  (hx:kc2 CX X E)(I:Inv X pins σ H s)(r:Vals vs us)
  (h:∀x dx,H x=none->H dx=none->dx≠x->sp (.ref x::(vs++dvs)) (upd (upd H dx (.own x)) x (.ins C dx [])) (fun v H2=>v=.non/\Q (.ref x) H2) E):
  wpAny (model X.prog X.w) X.A (call (.ref C) us) (EP X pins σ Q) X.xe s:=by
 have hq:=h (s.heap.objs.size+1) s.heap.objs.size (I.hok.fresh (Da _)) (I.hok.fresh (Mv _)) (MT (DG _))
 have I2:=Inv.made (C:=C) I
 have r2:Vals (V.ref (s.heap.objs.size+1)::(vs++dvs)) (Value.ref (s.heap.objs.size+1)::(us++ds)):=.cons rfl (r.append hd)
 have hl:(Value.ref (s.heap.objs.size+1)::us++ds).length=ps.length:=by
  have e:=r2.length
  rw[F.len _ _ _ _ hq] at e
  exact e.symm
 refine wpAny_call (klx (f:=f) I.kIn M.makes M.init (beq_iff_eq.mp M.fn) (codeAny_mono (F.run _ X.stack _ _ ⟨Value.ref (s.heap.objs.size+1)::us,[]⟩ (Value.ref (s.heap.objs.size+1)::(us++ds)) _ _ E (hr.make C us [])
  (I2.env0.make C us []) (hb _ (Value.ref (s.heap.objs.size+1)::us) I2.kIn hl) r2 hq) fun r s' hq'=>?_))
 cases r with
 |error e=>exact hx pins σ _ _ e s' I2 hq'
 | ok fl=>
  cases fl with
  |ret u=>
   obtain⟨v,H',I3,rv,ev,q3⟩:=I2.after hq'
   subst ev
   rwa[rv,⟨V.ref (s.heap.objs.size+1),H',I3,rfl,q3⟩]
  |next=>exact False.elim hq'
  |brk=>exact False.elim hq'
  |cont=>exact False.elim hq'
theorem kbc(M:Mk X.K C f)(F:FnOk X.prog X.w X.K X.mg X.base CX k f fd ps sp)(hr:Room (k+1) X.A)(hg:Gl X x)(hm:X.mg x>>(.ref C))(hb:Binds X.K fd ps ds)(hd:Vals dvs ds)(hx:kc2 CX X E)
  (ha:PA X (e::es) t)(hdb:autoParam ((x==("__debug__" :Str))=false) jQ)(he:autoParam (starEach (e::es) X.env=(false,eval e X.env)::starEach es X.env) jz)(hpl:autoParam ((backTo pos (starEach es X.env)).any (·.1)=false) jz):
  PE X (.Call (.Name x p) (e::es) [] pos) (tMake C sp dvs E t):=by
 intro pins s σ H Q I h
 refine wpAny_Call_Name_kw (kdA I hg hm ?_ hdb)
 refine EI (h₀:=X.base) I.ok.mod.kin M.kp (thn (ha pos pins s σ H _ I h) fun us s1 ⟨vs,H1,I1,r,q⟩=>⟨I1.kIn,?_⟩) he hpl
 exact khV M F hr hb hd hx I1 r q
theorem kh5(M:Mk X.K C f)(F:FnOk X.prog X.w X.K X.mg X.base CX k f fd ps sp)(hr:Room (k+1) X.A)(hg:Gl X x)(hm:X.mg x>>(.ref C))(hb:Binds X.K fd ps ds)(hd:Vals dvs ds)(hx:kc2 CX X E)
  (hdb:autoParam ((x==("__debug__" :Str))=false) jQ):PE X (.Call (.Name x p) [] [] pos) (tMake C sp dvs E tNil):=by
 intro pins s σ H Q I h
 refine wpAny_Call_Name_kw (kdA I hg hm ?_ hdb)
 exact Ag I.kIn M.kp (khV (us:=[]) M F hr hb hd hx I .nil h)
end
section
variable{X:Cx}{CX:CXT}{k:Nat}{f C:Addr}{fd:FuncData}{ps ks:List Str}{sp:Sp}{E:XK}{x m:Str}{p pos apos kpos:Pos}{e o:Expr}{es:List Expr}{kws:List Keyword}{te ta:TE}{t tk:TA}{nm:Option Str}
variable{g:List Value->List Value->List Value}{gV:List V->List V->List V}
end
structure kam(N P:List Str)(sc:Scope):Prop where
 kind:sc.kind=.function
 co:sc.isCoroutine=false
 gen:sc.isGenerator=false
 nd:N.Nodup
 pre:N.take P.length=P
 par:∀x∈P,sc.names.lookup x>>.local∨sc.names.lookup x>>.cell
 nofree:∀y∈sc.names,y.2≠.free
theorem kg1{kindOf:Str->Option NameKind}{x:Str}:∀{binds:List (Str×Value)}{m:Str->Option Value},(∀v,(x,v)∉binds)->bindL kindOf binds m x=m x
 |[],_,_=>rfl
 | (n,v)::r,m,h=>by
  unfold bindL
  rw[kg1 fun w hw=>h w (MH _ hw)]
  split
  ·have:x≠n:=by rintro rfl;exact h v Mx
   simp[this]
  ·rfl
theorem kg3{kindOf:Str->Option NameKind}{x:Str}:∀{binds:List (Str×Value)}{m:Str->Option Value},(∀v,(x,v)∉binds)->bindC kindOf binds m x=m x
 |[],_,_=>rfl
 | (n,v)::r,m,h=>by
  unfold bindC
  rw[kg3 fun w hw=>h w (MH _ hw)]
  split
  ·rfl
  ·have:x≠n:=by rintro rfl;exact h v Mx
   simp[this]
theorem kg2{kindOf:Str->Option NameKind}{x:Str}{v:Value}:∀{P:List Str}{vs:List Value}{i:Nat}{m:Str->Option Value},P.Nodup->P[i]?>>x->vs[i]?>>v->kindOf x>>.local->
  bindL kindOf (P.zip vs) m x>>v
 |[],_,_,_,_,h,_,_=>by simp at h
 |_::_,[],_,_,_,_,h,_=>by simp at h
 |p::P,w::vs,0,m,nd,h1,h2,hk=>by
  simp at h1 h2;subst h1;subst h2
  show bindL kindOf ((p,w)::P.zip vs) m p=_
  unfold bindL
  rw[kg1 fun v hv=>(Ed.mp nd).1 (Dc hv).1,if_pos hk]
  simp
 |p::P,w::vs,i+1,m,nd,h1,h2,hk=>by
  show bindL kindOf ((p,w)::P.zip vs) m x=_
  unfold bindL
  exact kg2 (i:=i) (Ed.mp nd).2 (by simpa using h1) (by simpa using h2) hk
theorem kg4{kindOf:Str->Option NameKind}{x:Str}{v:Value}:∀{P:List Str}{vs:List Value}{i:Nat}{m:Str->Option Value},P.Nodup->P[i]?>>x->vs[i]?>>v->kindOf x≠some .local->
  bindC kindOf (P.zip vs) m x>>v
 |[],_,_,_,_,h,_,_=>by simp at h
 |_::_,[],_,_,_,_,h,_=>by simp at h
 |p::P,w::vs,0,m,nd,h1,h2,hk=>by
  simp at h1 h2;subst h1;subst h2
  show bindC kindOf ((p,w)::P.zip vs) m p=_
  unfold bindC
  rw[kg3 fun v hv=>(Ed.mp nd).1 (Dc hv).1,if_neg hk]
  simp
 |p::P,w::vs,i+1,m,nd,h1,h2,hk=>by
  show bindC kindOf ((p,w)::P.zip vs) m x=_
  unfold bindC
  exact kg4 (i:=i) (Ed.mp nd).2 (by simpa using h1) (by simpa using h2) hk
noncomputable def start(N:List Str)(vs:List V):St:=vs.map some++My (N.length-vs.length) none
noncomputable def cxOf(CX:CXT)(P:Program)(w:World)(K:Mt)(mg:Str->Option Value)(base:Heap)(N:List Str)(qual:Str)(scope:Scope)(f:Addr)(cd:Value)(A:Around)(outer:List Env)(s:Shared)(H:Hp)(E:XK):Cx where
 prog:=P
 w:=w
 K:=K
 mg:=mg
 base:=base
 A:=A.deeper (envOfC qual scope s.heap.objs.size f cd)
 N:=N
 s₀:=s
 H₀:=H
 env:=envOfC qual scope s.heap.objs.size f cd
 outer:=outer
 stack:=envOfC qual scope s.heap.objs.size f cd::outer
 ex:=[]
 calm:=true
 fn:=fun _=>true
 pn:=[]
 xe:=fun e s'=>wpAny (model P w) (A.deeper (envOfC qual scope s.heap.objs.size f cd)) (leaving (envOfC qual scope s.heap.objs.size f cd) e) (fun _ s''=>CX outer H s E e s'') (fun e' s''=>CX outer H s E e' s'') s'
def kex{sc:Scope}{n:Nat}{x:Str}(h:sc.names.lookup x>>.cell):∃c,(cellsFrom n sc.names []).lookup x>>c:=by
 have q:=Ah sc.names n [] (.inl h)
 exact Ai.mp q
theorem kki{CX:CXT}{P:Program}{w:World}{K:Mt}{mg:Str->Option Value}{base:Heap}{N ps:List Str}{qual:Str}{scope:Scope}{f:Addr}{cd:Value}{A:Around}{outer:List Env}{s s1:Shared}{H:Hp}{E:XK}{us:List Value}{vs:List V}
  (S:kam N ps scope)(hd:A.handled=none)(e0:Env0 P w K mg base A outer s H)(hl:vs.length=ps.length)(r:Vals vs us)
  (x:InCallC s s.heap.objs.size (bindL (envOfC qual scope s.heap.objs.size f cd).kindOf (ps.zip us) fun _=>none) (cellsFrom (s.heap.objs.size+1) scope.names []) (bindC (envOfC qual scope s.heap.objs.size f cd).kindOf (ps.zip us) fun _=>none) s1):
  Inv (cxOf CX P w K mg base N qual scope f cd A outer s H E) [] (start N vs) H s1:=by
 have hpl:ps.length<=N.length:=by have:=congrArg Dd S.pre;rw[MU] at this;lia
 obtain⟨h1,tk,rfl,hk⟩:=x.done
 have noA:∀b:Addr,b∉(cxOf CX P w K mg base N qual scope f cd A outer s H E).ex:=fun b z=>absurd (show b∈([]:List Addr) from z) (by simp)
 refine⟨⟨e0.mod,S.kind,rfl,rfl,Mv _,fun y z c h1 h2=>?_,fun y hy=>?_,fun y c _ h=>?_,fun _=>hd,Around.frames_deeper e0.frames, .inr ⟨rfl,rfl⟩,fun b z=>absurd z (noA b),e0.bs,e0.bsz,fun b _ _=>noA b,fun b z=>absurd z (noA b),e0.funs,e0.frf⟩,
  rfl,e0.bare,Un.kept hk,⟨_,x.toInCall.ns,fun i y v h1 h2 h3=>?_⟩,fun y c h=>⟨_,x.cell y c h⟩,e0.hok.fresh (Mv _),fun y c h=>?_,fun p hp=>absurd (show p∈([]:List (Addr×Obj)) from hp) (by simp),e0.hok.kept hk,?_⟩
 ·exact name_of_addr x.apart (PySem.mem_of_lookup h1) (PySem.mem_of_lookup h2)
 ·have hy:scope.names.lookup y>>.cell∨scope.names.lookup y>>.free:=hy
  rcases hy with hy|hy
  ·exact kex hy
  ·exact absurd rfl (S.nofree _ (PySem.mem_of_lookup hy))
 ·exact MI (x.above y c (PySem.mem_of_lookup h))
 ·have hi:i<vs.length:=by
   unfold start at h2
   by_cases hi:i<vs.length
   ·exact hi
   ·rw[EJ (by simpa using hi)] at h2
    rw[De] at h2
    split at h2 <;> cases h2
  have ha:vs[i]?>>v:=by
   unfold start at h2
   rw[EO (by simpa using hi),MN] at h2
   cases e:vs[i]? with
   |none=>rw[e] at h2;cases h2
   |some a=>rw[e] at h2;cases h2;rfl
  obtain⟨u,hu,rv⟩:=r.get ha
  have hp:ps[i]?>>y:=by
   rw[<-S.pre,List.getElem?_take_of_lt (by lia)];exact h1
  have ndP:ps.Nodup:=by rw[<-S.pre];exact S.nd.sublist (List.take_sublist _ _)
  rwa[u,rv,?_]
  rcases S.par y (MK hp) with k|k
  ·exact .inl ⟨k,kg2 ndP hp hu k⟩
  ·obtain⟨c,e⟩:=kex (n:=s.heap.objs.size+1) k
   refine .inr ⟨.inl k,c,e,?_⟩
   have q:=x.cell y c e
   rw[kg4 ndP hp hu (by show scope.names.lookup y≠_;rw[k];decide)] at q
   exact q
 ·exact e0.hok.fresh (MI (x.above y c (PySem.mem_of_lookup h)))
 ·unfold start
  show _=N.length
  rw[ML,Mu,EB]
  lia
theorem fn_of{CX:CXT}{P:Program}{w:World}{K:Mt}{mg:Str->Option Value}{base:Heap}{k:Nat}{f:Addr}{name qual:Str}{params:Arguments}{body:List Stmt}{scope:Scope}{dV kV doc pm cdv ct oc:Value}{an od:Option Addr}
  {osl:Array (Option Value)}{N ps:List Str}{sp:Sp}(lk:K.lookup f>>⟨oc,od, .func (MP name qual params body scope dV kV doc pm an cdv ct),osl⟩)(hcd:Ee K cdv qual=true)(S:kam N ps scope)
  (len:∀vs H Q E,sp vs H Q E->vs.length=ps.length)
  (hbody:∀(A:Around)(outer:List Env)(s:Shared)(H:Hp)(vs:List V)(Q:VK)(E:XK),Room k (A.deeper (envOfC qual scope s.heap.objs.size f cdv))->sp vs H Q E->
   ∃t,PSs (cxOf CX P w K mg base N qual scope f cdv A outer s H E) body t/\t {nx:=fun _ H'=>Q .non H',rt:=Q} (start N vs) H):
  FnOk P w K mg base CX (k+1) f (MP name qual params body scope dV kV doc pm an cdv ct) ps sp:=by
 rwa[len,fun A outer s H args us vs Q E hr e0 hb r hsp=>?_]
 have hl:=len _ _ _ _ hsp
 have KX:K.In s.heap:=e0.mod.kin.keeps fun b o e=>(e0.bs b o e).1
 have lim:s.heap.NoLimit:=e0.mod.nolimit.keeps fun b o e=>(e0.bs b o e).1
 have hkind:∀y∈ps.zip us,scope.names.lookup y.1>>.local∨(scope.names.lookup y.1>>.cell/\((cellsFrom (s.heap.objs.size+1) scope.names []).lookup y.1).isSome=true):=fun⟨n,v⟩ hy=>by
  rcases S.par n (Dc hy).1 with q|q
  ·exact .inl q
  ·exact .inr ⟨q,Ah _ _ _ (.inl q)⟩
 refine codeAny_call_function hr.depth (KX _ _ lk) rfl S.co S.gen rfl (PySem.W.codeRec_of KX hcd) (hb _ _ _ _ ?_)
 refine wpAny_newFunctionEnv_cells S.kind hkind fun env he s1 x=>?_
 subst he
 rwa[lim.keeps x.toInCall.keep,codeAny_func ?_]
 obtain⟨t,ht,hq⟩:=hbody A outer s H vs Q E (hr.deeper _) hsp
 have I:Inv (cxOf CX P w K mg base N qual scope f cdv A outer s H E) [] (start N vs) H s1:=kki S hr.hd e0 hl r x
 refine wpAny_mono (ht [] s1 (start N vs) H _ I hq) (fun fl s' hs=>?_) fun e s' hs=>hs
 have fin:∀{σ':St}{H':Hp}{v:V}{u:Value},Inv (cxOf CX P w K mg base N qual scope f cdv A outer s H E) [] σ' H' s'->RelV v u->Q v H'->CE outer P w H s Q u s':=
  fun {σ' H' v u} J rv q=>⟨v,H',J.os,J.bare,J.base,J.hok,rv,q⟩
 cases fl with
 |ret u=>
  obtain⟨v,σ',H',J,rv,q⟩:=hs
  exact fin J rv q
 |next=>
  obtain⟨σ',H',J,q⟩:=hs
  exact fin (v:=V.non) (u:=Value.none) J rfl q
 |brk=>
  obtain⟨_,_,_,q⟩:=hs
  exact False.elim q
 |cont=>
  obtain⟨_,_,_,q⟩:=hs
  exact False.elim q
section
variable{X:Cx}{x:Str}{p pos:Pos}{e:Expr}{es:List Expr}{t:TA}{id T:String}{r:List V->Hp->VK->Prop}
def tCB(r:List V->Hp->VK->Prop)(t:TA):TE:=fun σ H Q=>t σ H fun vs H1=>r vs H1 Q
theorem kap(hc:CallR X (.builtin id) r)(hg:Gl X x)(hm:X.mg x=none)(hv:bootBuiltins x>>(.builtin id))(ha:PA X (e::es) t)(hn:autoParam (x≠"__name__") jQ)(hdb:autoParam ((x==("__debug__" :Str))=false) jQ)
  (he:autoParam (starEach (e::es) X.env=(false,eval e X.env)::starEach es X.env) jz) (hpl:autoParam ((backTo pos (starEach es X.env)).any (·.1)=false) jz):PE X (.Call (.Name x p) (e::es) [] pos) (tCB r t):=by
 intro pins s σ H Q I h
 refine wpAny_Call_Name_kw (kef I hg hm hv ?_ hn hdb)
 exact PyProof.Rows.callWith_builtin1 (thn (ha pos pins s σ H _ I h) fun us s1 ⟨vs,H1,I1,r1,q1⟩=>hc pins s1 σ H1 vs us Q I1 r1 q1) he hpl
theorem kaZ(hc:CallR X (.type T) r)(hg:Gl X x)(hm:X.mg x=none)(hv:bootBuiltins x>>(.type T))(ha:PA X (e::es) t)(hn:autoParam (x≠"__name__") jQ)(hdb:autoParam ((x==("__debug__" :Str))=false) jQ)
  (he:autoParam (starEach (e::es) X.env=(false,eval e X.env)::starEach es X.env) jz) (hpl:autoParam ((backTo pos (starEach es X.env)).any (·.1)=false) jz):PE X (.Call (.Name x p) (e::es) [] pos) (tCB r t):=by
 intro pins s σ H Q I h
 refine wpAny_Call_Name_kw (kef I hg hm hv ?_ hn hdb)
 exact PyProof.Rows.callWith_type1 (thn (ha pos pins s σ H _ I h) fun us s1 ⟨vs,H1,I1,r1,q1⟩=>hc pins s1 σ H1 vs us Q I1 r1 q1) he hpl
end
end L2
namespace HT
open PySem PyProof.Rows
section
open PySem.SeqAt
open PySem.AutoSeq1 (wpAny_loadPart')
open PySem.MeetsSeq PySem.MeetsSeq2 PySem.MeetsSeq3
end
section
variable{prog:Program}{w:World}{A:Around}{E:Value->Shared->Prop}{s:Shared}
theorem cat_tup{t b:Addr}{vs ws:List Value}{Q:Value->Shared->Prop}(ht:IsTup s.heap t vs.toArray)(hb:IsTup s.heap b ws.toArray)(hv:vs≠[])
  (h1:ws=[]->Q (.ref t) s)(h2:ws≠[]->Q (.ref s.heap.objs.size) {s with heap:=s.heap.push {cls:=.type "tuple",data:=.seq (vs++ws).toArray}})
  (hsz:vs.length+ws.length<=sizeLine):wpAny (model prog w) A (binaryOp .Add (.ref t) (.ref b)) Q E s:=by
 obtain⟨⟨cls,dd,data,sl⟩,ho,hc,n,hd⟩:=id ht
 obtain⟨⟨cls2,dd2,data2,sl2⟩,ho2,hc2,n2,hd2⟩:=id hb
 simp only at hc hd hc2 hd2
 subst hc hd hc2 hd2
 have e:vs.toArray++ws.toArray=(vs++ws).toArray:=by simp
 by_cases hw:ws=[]
 ·exact concat_meets ⟨_,ho,rfl⟩ ⟨_,ho2,rfl⟩ noFill_tuple_add seq_tuple_add Aj Ak (Al _ _)
   (tuple_addW1 t b vs.toArray ws.toArray n n2 dd dd2 sl sl2 (by simpa using hv) (by simp[hw])) ⟨ho,ho2,h1 hw⟩
 ·refine concat_meets ⟨_,ho,rfl⟩ ⟨_,ho2,rfl⟩ noFill_tuple_add seq_tuple_add Aj Ak (Al _ _)
   (tuple_addW2 t b vs.toArray ws.toArray n n2 dd dd2 sl sl2 (by simpa using hv) (by simpa using hw) (by rw[MS,MS];exact hsz)) ⟨ho,ho2,?_⟩
  rw[e]
  exact h2 hw
noncomputable def sIx(n d:Nat):Option Int->Nat
 |none=>d
 |some v=>if v<0 then(v+(n:Int)).toNat else min v.toNat n
theorem sIx_nat(n d k:Nat):sIx n d (some (k:Int))=min k n:=by
 show(if(k:Int)<0 then((k:Int)+(n:Int)).toNat else min (k:Int).toNat n)=min k n
 rw[if_neg (by lia),Int.toNat_natCast]
end
end HT
namespace L2
open PySem PySem.Spec PyProof.Rows
abbrev TO:=St->Hp->(Option Int->Hp->Prop)->Prop
def PO(X:Cx)(e:Option Expr)(t:TO):Prop:=
 ∀(pins:List (Addr×Obj))(s:Shared)(σ:St)(H:Hp)(Q:Option Int->Hp->Prop),Inv X pins σ H s->t σ H Q->
  wpAny (model X.prog X.w) X.A (evalPart e X.env) (fun u s'=>∃o H',Inv X pins σ H' s'/\IsPart u o/\Q o H') X.xe s
inductive kmq(Q:Option Int->Hp->Prop)(x:V)(H1:Hp):Prop
 |ct i (_:x=.int i) (_:Q (some i) H1):kmq Q x H1
def tPart(t:TE):TO:=fun σ H Q=>t σ H fun x H1=>kmq Q x H1
theorem intsAre_of{ns:List Int}:∀{us:List Value},Vals (ns.map V.int) us->IntsAre us ns:=by
 induction ns with
 |nil=>intro us r;rw[Ep] at r;cases r;exact .nil
 | cons n ns ih=>
  intro us r
  rw[MQ] at r
  cases r with
  |cons r1 r2=>
   obtain⟨t,e⟩:=r1
   subst e
   exact .cons n t (ih r2)
section
variable{X:Cx}{e:Expr}{te:TE}{lo hi:Option Expr}{tl th:TO}{pos p2:Pos}
theorem kjU(h:PE X e te):PO X (some e) (tPart te):=by
 intro pins s σ H Q I hw
 rw[evalPart_some]
 refine thn (h pins s σ H _ I hw) fun u s1 zz=>?_
 obtain⟨x,H1,I1,r1,q1⟩:=zz
 obtain⟨i,rfl,q⟩:=q1
 obtain⟨t,rfl⟩:=r1
 rwa[some i,H1,I1, .int i t,q]
def SlR(X:Cx)(r:V->Option Int->Option Int->Hp->VK->Prop):Prop:=
 ∀(pins:List (Addr×Obj))(s:Shared)(σ:St)(H:Hp)(x:V)(v vl vu:Value)(lo hi:Option Int)(sl:Addr)(Q:VK),Inv X pins σ H s->RelV x v->s.heap.IsSliceOf sl vl vu .none->IsPart vl lo->IsPart vu hi->r x lo hi H Q->
  ∃T id,typeLookup (.type T) "__getitem__"=pure (some (.builtin id))/\s.TypeIs v T/\wpAny (model X.prog X.w) X.A (getItem v (.ref sl)) (EP X pins σ Q) X.xe s
def tSl(r:V->Option Int->Option Int->Hp->VK->Prop)(te:TE)(tl th:TO):TE:=fun σ H Q=>te σ H fun x H1=>tl σ H1 fun l H2=>th σ H2 fun u H3=>r x l u H3 Q
theorem kli{r:V->Option Int->Option Int->Hp->VK->Prop}(hr:SlR X r)(he:PE X e te)(hl:PO X lo tl)(hu:PO X hi th):PE X (.Subscript e (.Slice lo hi none p2) pos) (tSl r te tl th):=by
 intro pins s σ H Q I h
 refine Subscript_ (thn (he pins s σ H _ I h) fun v s1 zz=>?_)
 obtain⟨x,H1,I1,r1,q1⟩:=zz
 refine wpAny_Slice (thn (hl pins s1 σ H1 _ I1 q1) fun vl s2 ⟨l,H2,I2,pl,q2⟩=>thn (hu pins s2 σ H2 _ I2 q2) fun vu s3 zz=>?_)
 obtain⟨u,H3,I3,pu,q3⟩:=zz
 rw[evalPart_none]
 refine wpAny_pure ?_
 have I4:Inv X pins σ H3 {s3 with heap:=s3.heap.push {cls:=.type "slice",data:=.fields #[vl,vu, .none]}}:=I3.kept (t':=s3.toks) fun b ob q=>Heap.get?_push_of_some _ q
 obtain⟨T,id,hT,ht,hg⟩:=hr pins {s3 with heap:=s3.heap.push {cls:=.type "slice",data:=.fields #[vl,vu, .none]}} σ H3 x v vl vu l u s3.heap.objs.size Q I4 r1 (Heap.IsSliceOf.new ..) pl pu q3
 show wpAny (model X.prog X.w) X.A (subscriptTail e (.Slice lo hi none p2) v (.ref s3.heap.objs.size)) (EP X pins σ Q) X.xe {s3 with heap:=s3.heap.push {cls:=.type "slice",data:=.fields #[vl,vu, .none]}}
 exact tail_any (ops:=[.ref s3.heap.objs.size,v]) ht hT hg (by with_unfolding_all rfl)
noncomputable def cutV(xs:List V)(lo hi:Option Int):List V:=(xs.drop (HT.sIx xs.length 0 lo)).take (HT.sIx xs.length xs.length hi-HT.sIx xs.length 0 lo)
theorem khw(xs:List V)(lo hi:Option Int):(cutV xs lo hi).length<=xs.length:=by
 unfold cutV
 rw[MU,List.length_drop]
 lia
inductive kmA(K:Mt)(x:V)(y:V)(H:Hp)(Q:VK):Prop
 |ct a b xs ys (_:x=.ref a) (_:y=.ref b) (_:SqT K H a xs) (_:SqT K H b ys) (_:xs≠[]) (_:xs.length+ys.length<=sizeLine) (_:(ys=[]->Q (.ref a) H)) (_:(ys≠[]->∀p,H p=none->Q (.ref p) (upd H p (.tup (xs++ys))))):kmA K x y H Q
def rCatT(K:Mt):R2:=fun x y H Q=>kmA K x y H Q
theorem Vals.nil_iff{xs:List V}{us:List Value}(r:Vals xs us):us=[]↔xs=[]:=by
 cases r with
 |nil=>simp
 |cons _ _=>simp
theorem kj5:OpR X (binaryOp .Add) (rCatT X.K):=by
 intro pins s σ H x y v u Q I rx ry h
 obtain⟨a,b,xs,ys,rfl,rfl,ha,hb,hx,hz,q1,q2⟩:=h
 cases rx
 cases ry
 obtain⟨its,r1,p1,_⟩:=I.tuple ha
 obtain⟨its2,r2,p2,_⟩:=I.tuple hb
 refine HT.cat_tup p1 p2 (fun z=>hx (r1.nil_iff.mp z)) (fun z=>⟨.ref a,H,I,rfl,q1 (r2.nil_iff.mp z)⟩) (fun z=>?_) (by rw[<-r1.length,<-r2.length];exact hz)
 rwa[.ref s.heap.objs.size,_,I.laid (t':=s.toks) (o:=.tup (xs++ys)) (fun b ob q=>Heap.get?_push_of_some _ q) (Mv _) ?_,6,q2 (fun w=>z (r2.nil_iff.mpr w)) _ (I.hok.fresh (Mv _))]
 rwa[by rw[ML];exact hz,_,r1.append r2,IsTup.new _ _]
end
noncomputable def ixN(n:Nat)(i:Int):Option Nat:=if 0<=i then(if i<n then some i.toNat else none) else if -(n:Int)<=i then some (i+n).toNat else none
noncomputable def atI{α:Type}(xs:List α)(i:Int):Option α:=(ixN xs.length i).bind fun j=>xs[j]?
def kkg{n:Nat}{i:Int}{j:Nat}(h:ixN n i>>j):seqIndex? i n>>j/\j<n/\-(n:Int)<=i/\i<n:=by
 unfold ixN at h
 by_cases h0:0<=i
 ·rw[if_pos h0] at h
  by_cases h1:i<n
  ·rw[if_pos h1] at h
   have e:i.toNat=j:=Option.some.inj h
   rwa[by rw[seqIndex_of h0 h1,e],by lia,by lia,h1]
  ·rw[if_neg h1] at h;cases h
 ·rw[if_neg h0] at h
  by_cases h1: -(n:Int)<=i
  ·rw[if_pos h1] at h
   have e:(i+n).toNat=j:=Option.some.inj h
   rwa[by rw[seqIndex_neg (by lia) h1,e],by lia,h1,by lia]
  ·rw[if_neg h1] at h;cases h
theorem khz{α:Type}{xs:List α}{i:Int}{v: α}(h:atI xs i>>v):∃j,seqIndex? i xs.length>>j/\xs[j]?>>v/\j<xs.length/\-(xs.length:Int)<=i/\i<xs.length:=by
 unfold atI at h
 cases e:ixN xs.length i with
 |none=>rw[e] at h;cases h
 |some j=>
  rw[e] at h
  obtain⟨h1,h2,h3,h4⟩:=kkg e
  rwa[j,h1,h,h2,h3,h4]
def ka4{α:Type}{xs:List α}{j:Nat}{v: α}(h:xs[j]?>>v):atI xs (j:Int)>>v:=by
 have hj:j<xs.length:=(MO.mp h).1
 have e:ixN xs.length (j:Int)>>j:=by
  unfold ixN
  rw[if_pos (by lia),if_pos (by lia)];simp
 unfold atI;rw[e];exact h
def kez{α:Type}(xs:List α)(v: α):atI (xs++[v]) (-1)>>v:=by
 have hl:(xs++[v]).length=xs.length+1:=by simp
 have e:ixN (xs++[v]).length (-1)>>xs.length:=by
  unfold ixN
  rw[hl,if_neg (by decide),if_pos (by lia)]
  congr 1
  lia
 unfold atI
 rw[e]
 show(xs++[v])[xs.length]?>>v
 simp
def knu(b:Expr):Prop:=∀o i,subscripted b false o i=operate [o,i] (getItem o i)
def IxR(X:Cx)(r:R2):Prop:=
 ∀(value slice:Expr)(pins:List (Addr×Obj))(s:Shared)(σ:St)(H:Hp)(x y:V)(v u:Value)(Q:VK),Inv X pins σ H s->RelV x v->RelV y u->r x y H Q->
  subscripted slice false v u=operate [v,u] (getItem v u)->wpAny (model X.prog X.w) X.A (subscriptTail value slice v u) (EP X pins σ Q) X.xe s
def MtR(X:Cx)(id:String)(r:V->List V->Hp->VK->Prop):Prop:=
 ∀(pins:List (Addr×Obj))(s:Shared)(σ:St)(H:Hp)(x:V)(xs:List V)(v:Value)(us:List Value)(Q:VK),Inv X pins σ H s->RelV x v->Vals xs us->r x xs H Q->
  wpAny (model X.prog X.w) X.A (call (.builtin id) (v::us)) (EP X pins σ Q) X.xe s
section
variable{X:Cx}{a b:Expr}{ta tb:TE}{pos:Pos}
theorem pe_ix{r:R2}(hr:IxR X r)(ha:PE X a ta)(hb:PE X b tb)(hs:knu b):PE X (.Subscript a b pos) (tOp r ta tb):=by
 intro pins s σ H Q I h
 exact Subscript_ (binT ha hb I h fun v u s2 x y H2 I2 rx ry q=>hr a b pins s2 σ H2 x y v u Q I2 rx ry q (hs _ _))
inductive QrIxL(K:Mt)(x:V)(y:V)(H:Hp)(Q:VK):Prop
 |ct p xs i v (_:x=.ref p) (_:y=.int i) (_:SqL K H p xs) (_:atI xs i>>v) (_:Q v H):QrIxL K x y H Q
def rIxL(K:Mt):R2:=fun x y H Q=>QrIxL K x y H Q
inductive QrIxT(K:Mt)(x:V)(y:V)(H:Hp)(Q:VK):Prop
 |ct p xs i v (_:x=.ref p) (_:y=.int i) (_:SqT K H p xs) (_:atI xs i>>v) (_:Q v H):QrIxT K x y H Q
def rIxT(K:Mt):R2:=fun x y H Q=>QrIxT K x y H Q
inductive QrIxS(x:V)(y:V)(H:Hp)(Q:VK):Prop
 |ct z i c (_:x=.str z) (_:y=.int i) (_:z.length<=sizeLine) (_:atI z.cps.toList i>>c) (_:Q (.str ⟨#[c]⟩) H):QrIxS x y H Q
def rIxS:R2:=fun x y H Q=>QrIxS x y H Q
theorem kaR:IxR X (rIxL X.K):=by
 intro value slice pins s σ H x y v u Q I rx ry h hs
 obtain⟨p,xs,i,z,rfl,rfl,hq,he,q⟩:=h
 cases rx
 obtain⟨t,rfl⟩:=ry
 obtain⟨its,r,pl,hz⟩:=I.list hq
 obtain⟨j,h1,h2,h3,h4,h5⟩:=khz he
 obtain⟨w,ew,rw'⟩:=r.get h2
 have hl:=r.length
 have hn:=kfw
 have fin:EP X pins σ Q w s:=⟨z,H,I,rw',q⟩
 by_cases h0:0<=i
 ·have hj:i.toNat=j:=by
   rw[seqIndex_of h0 h5] at h1
   exact Option.some.inj h1
  exact item_listR pl.isList h0 (by lia) (by rw[hj];simpa using ew) fin hs
 ·have hj:(i+(its.toArray.size:Int)).toNat=j:=by
   rw[seqIndex_neg (by lia) h4] at h1
   rw[MS,<-hl]
   exact Option.some.inj h1
  exact subscriptTail_builtinR (x:=w) pl.isList.typeIs slot_list_getitem.lookup
   (wpAny_getItem_list_neg (Q:=fun r s'=>r=w/\EP X pins σ Q r s') pl.isList (by lia) (by rw[MS] <;> lia) (by lia) (by rw[hj];simpa using ew) ⟨rfl,fin⟩) hs
theorem kil:IxR X (rIxT X.K):=by
 intro value slice pins s σ H x y v u Q I rx ry h hs
 obtain⟨p,xs,i,z,rfl,rfl,hq,he,q⟩:=h
 cases rx
 obtain⟨t,rfl⟩:=ry
 obtain⟨its,r,pl,hz⟩:=I.tuple hq
 obtain⟨j,h1,h2,h3,h4,h5⟩:=khz he
 obtain⟨w,ew,rw'⟩:=r.get h2
 have hl:=r.length
 have hn:=kfw
 have fin:EP X pins σ Q w s:=⟨z,H,I,rw',q⟩
 exact subscriptTail_builtinR (x:=w) pl.typeIs slot_tuple_getitem.lookup
  (getItem_tuple (j:=j) (Q:=fun r s'=>r=w/\EP X pins σ Q r s') pl (by lia) (by lia) (by rw[MS,<-hl];exact h1) (by simpa using ew) ⟨rfl,fin⟩) hs
theorem kkf:IxR X rIxS:=by
 intro value slice pins s σ H x y v u Q I rx ry h hs
 obtain⟨z,i,c,rfl,rfl,hz,he,q⟩:=h
 obtain⟨t,rfl⟩:=rx
 obtain⟨t',rfl⟩:=ry
 obtain⟨j,h1,h2,h3,h4,h5⟩:=khz he
 have hl:z.cps.toList.length=z.length:=by simp[Str.length]
 rw[hl] at h1 h4 h5
 have hn:=kfw
 exact tail_any (typeIs_str s z t) slot_str_getitem.lookup (getItem_str (c:=c) (by
  have e1:decide (i< -(2 ^ 63:Int))=false:=decide_eq_false (by lia)
  have e2:decide (i≥2 ^ 63)=false:=decide_eq_false (by lia)
  rw[e1,e2,Df]) (by rw[h1];simpa using h2) ⟨.str ⟨#[c]⟩,H,I.tok _,⟨_,rfl⟩,q⟩) hs
theorem kiT(its:List Value)(n j:Nat)(u:Value):Obj.mapSeq (·.setIfInBounds j u) {cls:=.type "list",data:=.seq its.toArray n}= {cls:=.type "list",data:=.seq (its.set j u).toArray n}:=by
 simp[Obj.mapSeq]
theorem Inv.lst{pins:List (Addr×Obj)}{σ:St}{H:Hp}{s:Shared}{p:Addr}{xs:List V}(I:Inv X pins σ H s)(h:H p>>(.lst xs)):
  ∃(its:List Value)(n:Nat),Vals xs its/\s.heap.get? p>>{cls:=.type "list",data:=.seq its.toArray n}/\xs.length<=sizeLine:=by
 obtain⟨z,its,n,r,e⟩:=I.hok p _ h
 rwa[its,n,r,e,z]
theorem Inv.lstUpd{pins:List (Addr×Obj)}{σ:St}{H:Hp}{s:Shared}{p:Addr}{xs ys:List V}{its its':List Value}{n n':Nat}{f:Obj->Obj}(I:Inv X pins σ H s)(h:H p>>(.lst xs))
  (ho:s.heap.get? p>>{cls:=.type "list",data:=.seq its.toArray n})(hf:f {cls:=.type "list",data:=.seq its.toArray n}= {cls:=.type "list",data:=.seq its'.toArray n'})(r:Vals ys its')(hz:ys.length<=sizeLine)(t:Nat):
  Inv X pins σ (upd H p (.lst ys)) {s with heap:=s.heap.update p f,toks:=t}:=by
 have e:(s.heap.update p f).get? p>>{cls:=.type "list",data:=.seq its'.toArray n'}:=by
  rw[Heap.get?_update_self f ho (by rw[hf] <;> rfl),hf]
 refine I.write (x:=p) (e:=p) (by rw[h];trivial) (.inl rfl) (fun b u hb q=>(Heap.get?_update_other _ _ (Ne.symm hb)).trans q) ⟨_,e⟩ ?_
 rwa[hz,its',n',r,e]
inductive kmx(o:V)(i:V)(v:V)(H:Hp)(Q:Hp->Prop):Prop
 |ct p xs k j (_:o=.ref p) (_:i=.int k) (_:H p>>(.lst xs)) (_:ixN xs.length k>>j) (_:Q (upd H p (.lst (xs.set j v)))):kmx o i v H Q
def rSetL:V->V->V->Hp->(Hp->Prop)->Prop:=fun o i v H Q=>kmx o i v H Q
theorem set_list:PSet X rSetL:=by
 intro pins s σ H o i v ov iv u Q I ro ri rv h
 obtain⟨p,xs,k,j,rfl,rfl,hp,hj,q⟩:=h
 cases ro
 obtain⟨t,rfl⟩:=ri
 obtain⟨its,n,r,ho,hz⟩:=I.lst hp
 obtain⟨h1,h2,h3,h4⟩:=kkg hj
 have hl:=r.length
 have hn:=kfw
 have I':Inv X pins σ (upd H p (.lst (xs.set j v))) {s with heap:=s.heap.update p (Obj.mapSeq (·.setIfInBounds j u))}:=
  I.lstUpd hp ho (kiT its n j u) (r.set rv j) (by rw[DJ];exact hz) s.toks
 by_cases h0:0<=k
 ·have hk:k.toNat=j:=by
   rw[seqIndex_of h0 h4] at h1
   exact Option.some.inj h1
  exact PySem.W.ki_setAt ho h0 (by lia) (by rw[MS,<-hl];exact h4) (by rw[hk];exact⟨_,I',q⟩)
 ·have hk:(k+(its.toArray.size:Int)).toNat=j:=by
   rw[seqIndex_neg (by lia) h3] at h1
   rw[MS,<-hl]
   exact Option.some.inj h1
  exact PySem.W.ki_setBack ho (by lia) (by rw[MS,<-hl];exact h3) (by lia) (by rw[hk];exact⟨_,I',q⟩)
theorem kgp(lo hi:Option Int)(n:Nat):(sliceBounds lo hi none n).1=((HT.sIx n 0 lo:Nat):Int)/\(sliceBounds lo hi none n).2.1=((HT.sIx n n hi:Nat):Int)/\(sliceBounds lo hi none n).2.2=1:=by
 rwa[?_,?_,6]
 ·cases lo with
  |none=>simp[sliceBounds,HT.sIx]
  |some i=>
   simp only[sliceBounds,HT.sIx,DK,show(1:Int) > 0 by decide,if_true]
   by_cases h:i<0
   ·simp only[h,if_true] <;> lia
   ·simp only[h,if_false] <;> lia
 ·cases hi with
  |none=>simp[sliceBounds,HT.sIx]
  |some i=>
   simp only[sliceBounds,HT.sIx,DK,show(1:Int) > 0 by decide,if_true]
   by_cases h:i<0
   ·simp only[h,if_true] <;> lia
   ·simp only[h,if_false] <;> lia
theorem kfI(its:List Value)(lo hi:Option Int):slicePick its.toArray lo hi none=((its.drop (HT.sIx its.length 0 lo)).take (HT.sIx its.length its.length hi-HT.sIx its.length 0 lo)).toArray:=by
 obtain⟨h1,h2,h3⟩:=kgp lo hi its.toArray.size
 unfold slicePick
 rw[h1,h2,h3]
 simp only[sliceRange_one,pick_run,MS] <;> rfl
inductive QrSlL(K:Mt)(x:V)(lo:Option Int)(hi:Option Int)(H:Hp)(Q:VK):Prop
 |ct a xs (_:x=.ref a) (_:SqL K H a xs) (_:∀p,H p=none->Q (.ref p) (upd H p (.lst (cutV xs lo hi)))):QrSlL K x lo hi H Q
def rSlL(K:Mt):V->Option Int->Option Int->Hp->VK->Prop:=fun x lo hi H Q=>QrSlL K x lo hi H Q
theorem kmP:SlR X (rSlL X.K):=by
 intro pins s σ H x v vl vu lo hi sl Q I rx hs pl pu h
 obtain⟨a,xs,rfl,hx,q⟩:=h
 cases rx
 obtain⟨its,r,ht,hz⟩:=I.list hx
 have hlen:=r.length
 rwa["list",_,slot_list_getitem.lookup,ht.isList.typeIs,?_]
 refine wpAny_getItem_list_slice ht.isList hs pl pu .none (by simp) ?_ (by rw[MS] <;> lia)
 rw[kfI,<-hlen]
 rwa[.ref s.heap.objs.size,_,I.laid (t':=s.toks) (o:=.lst (cutV xs lo hi)) (fun b ob q=>Heap.get?_push_of_some _ q) (Mv _) ?_,6,q _ (I.hok.fresh (Mv _))]
 rwa[Mz (khw xs lo hi) hz,_,0,(r.drop (HT.sIx xs.length 0 lo)).take (HT.sIx xs.length xs.length hi-HT.sIx xs.length 0 lo),Heap.get?_push_size _ rfl]
noncomputable def flatV:V->Bool
 | .non=>true
 | .bl _=>true
 | .int _=>true
 | .str _=>true
 |_=>false
noncomputable def eqV:V->V->Bool
 | .non, .non=>true
 | .bl a, .bl b=>a==b
 | .bl a, .int b=>(if a then 1 else 0)==b
 | .int a, .bl b=>a==(if b then 1 else 0)
 | .int a, .int b=>a==b
 | .str a, .str b=>a==b
 |_,_=>false
theorem koh{A:Around}{s:Shared}{y x:V}{u v:Value}(ry:RelV y u)(rx:RelV x v)(fy:flatV y=true)(fx:flatV x=true):SeqAt.EqAt A s u v (eqV y x):=by
 cases y with
 |non=>
  cases ry
  cases x with
  |non=>cases rx;exact SeqAt.EqAt.same _
  |bl b=>cases rx;exact SeqAt.EqAt.none_bool b
  |int b=>obtain⟨t,rfl⟩:=rx;exact SeqAt.EqAt.none_int b t
  |str b=>obtain⟨t,rfl⟩:=rx;exact SeqAt.EqAt.none_str b t
  |_=>exact absurd (show false=true from fx) MD
 |bl a=>
  cases ry
  cases x with
  |non=>cases rx;exact SeqAt.EqAt.bool_none a
  |bl b=>cases rx;exact SeqAt.EqAt.bool_bool a b
  |int b=>obtain⟨t,rfl⟩:=rx;exact SeqAt.EqAt.bool_int a b t
  |str b=>obtain⟨t,rfl⟩:=rx;exact SeqAt.EqAt.bool_str a b t
  |_=>exact absurd (show false=true from fx) MD
 |int a=>
  obtain⟨t',rfl⟩:=ry
  cases x with
  |non=>cases rx;exact SeqAt.EqAt.int_none a t'
  |bl b=>cases rx;exact SeqAt.EqAt.int_bool a t' b
  |int b=>obtain⟨t,rfl⟩:=rx;exact SeqAt.EqAt.int_int a t' b t
  |str b=>obtain⟨t,rfl⟩:=rx;exact SeqAt.EqAt.int_str a t' b t
  |_=>exact absurd (show false=true from fx) MD
 |str a=>
  obtain⟨t',rfl⟩:=ry
  cases x with
  |non=>cases rx;exact SeqAt.EqAt.str_none a t'
  |bl b=>cases rx;exact SeqAt.EqAt.str_bool a t' b
  |int b=>obtain⟨t,rfl⟩:=rx;exact SeqAt.EqAt.str_int a t' b t
  |str b=>obtain⟨t,rfl⟩:=rx;exact SeqAt.EqAt.str_str a t' b t
  |_=>exact absurd (show false=true from fx) MD
 |_=>exact absurd (show false=true from fy) MD
noncomputable def eqU(x:V)(u:Value):Bool:=match u with
 | .none=>eqV .non x
 | .bool b=>eqV (.bl b) x
 | .int i _=>eqV (.int i) x
 | .str z _=>eqV (.str z) x
 |_=>false
theorem kkt{x y:V}{u:Value}(r:RelV y u)(f:flatV y=true):eqU x u=eqV y x:=by
 cases y with
 |non=>cases r;rfl
 |bl b=>cases r;rfl
 |int i=>obtain⟨t,rfl⟩:=r;rfl
 |str z=>obtain⟨t,rfl⟩:=r;rfl
 |_=>exact absurd (show false=true from f) MD
theorem ke7{x:V}:∀{xs:List V}{us:List Value},Vals xs us->xs.all flatV=true->us.any (eqU x)=xs.any fun y=>eqV y x
 |_,_, .nil,_=>rfl
 |y::xs,u::us, .cons r t,f=>by
  rw[List.all_cons,Ew] at f
  rw[Es,Es,kkt r f.1,ke7 t f.2]
theorem kda{A:Around}{s:Shared}{x:V}{v:Value}(rx:RelV x v)(fx:flatV x=true):∀{xs:List V}{us:List Value},Vals xs us->xs.all flatV=true->∀u∈us,SeqAt.EqAt A s u v (eqU x u)
 |_,_, .nil,_=>fun u hu=>by cases hu
 |y::xs,u::us, .cons r t,f=>fun u' hu=>by
  rw[List.all_cons,Ew] at f
  rcases MB.mp hu with rfl|hu
  ·rw[kkt r f.1];exact koh r rx f.1 fx
  ·exact kda rx fx t f.2 u' hu
noncomputable def inV(x:V)(xs:List V):Bool:=xs.any fun y=>eqV y x
inductive QrIn(K:Mt)(neg:Bool)(x:V)(y:V)(H:Hp)(Q:VK):Prop
 |ct p xs (_:y=.ref p) (_:(SqL K H p xs∨SqT K H p xs)) (_:flatV x=true) (_:xs.all flatV=true) (_:Q (.bl (if neg then !inV x xs else inV x xs)) H):QrIn K neg x y H Q
def rIn(K:Mt)(neg:Bool):R2:=fun x y H Q=>QrIn K neg x y H Q
theorem kco:OpR X (compareOp .In) (rIn X.K false):=by
 intro pins s σ H x y v u Q I rx ry h
 obtain⟨p,xs,rfl,hq,fx,fs,q⟩:=h
 cases ry
 rcases hq with hq|hq
 ·obtain⟨its,r,pl,hz⟩:=I.list hq
  refine SeqAt.in_listAt (eqU x) pl.isList (fun w hw=>kda rx fx r fs w (by simpa using hw)) ⟨.bl _,H,I,rfl,?_⟩
  rw[show its.toArray.any (eqU x)=its.any (eqU x) by simp,ke7 r fs]
  exact q
 ·obtain⟨its,r,pl,hz⟩:=I.tuple hq
  refine SeqAt.in_tupleAt (eqU x) pl (fun w hw=>kda rx fx r fs w (by simpa using hw)) ⟨.bl _,H,I,rfl,?_⟩
  rw[show its.toArray.any (eqU x)=its.any (eqU x) by simp,ke7 r fs]
  exact q
theorem kb8:OpR X (compareOp .NotIn) (rIn X.K true):=by
 intro pins s σ H x y v u Q I rx ry h
 obtain⟨p,xs,rfl,hq,fx,fs,q⟩:=h
 cases ry
 rcases hq with hq|hq
 ·obtain⟨its,r,pl,hz⟩:=I.list hq
  refine SeqAt.notIn_listAt (eqU x) pl.isList (fun w hw=>kda rx fx r fs w (by simpa using hw)) ⟨.bl _,H,I,rfl,?_⟩
  rw[show its.toArray.any (eqU x)=its.any (eqU x) by simp,ke7 r fs]
  exact q
 ·obtain⟨its,r,pl,hz⟩:=I.tuple hq
  refine SeqAt.notIn_tupleAt (eqU x) pl (fun w hw=>kda rx fx r fs w (by simpa using hw)) ⟨.bl _,H,I,rfl,?_⟩
  rw[show its.toArray.any (eqU x)=its.any (eqU x) by simp,ke7 r fs]
  exact q
inductive kiD(K:Mt)(xs:List V)(H:Hp)(Q:VK):Prop
 |ct p ys (_:xs=[.ref p]) (_:(SqL K H p ys∨SqT K H p ys)) (_:Q (.int ys.length) H):kiD K xs H Q
def kaQ(K:Mt):List V->Hp->VK->Prop:=fun xs H Q=>kiD K xs H Q
theorem kas:CallR X (.builtin "len") (kaQ X.K):=by
 intro pins s σ H xs us Q I r h
 obtain⟨p,ys,rfl,hq,q⟩:=h
 obtain⟨u,rfl,rx⟩:=vals1 r
 cases rx
 have hn:=kfw
 rcases hq with hq|hq
 ·obtain⟨its,r',pl,hz⟩:=I.list hq
  have hlen:=r'.length
  exact Calls.call_len_list pl.isList (by simp only[MS] <;> lia) ⟨.int ys.length,H,I.tok _,⟨s.toks+1,by rw[MS,hlen]⟩,q⟩
 ·obtain⟨its,r',pl,hz⟩:=I.tuple hq
  have hlen:=r'.length
  exact len_tuple pl (by simp only[MS] <;> lia) ⟨.int ys.length,H,I.tok _,⟨s.toks+1,by rw[MS,hlen]⟩,q⟩
theorem kei:CallR X (.builtin "len") (fun xs H Q=>∃z,xs=[.str z]/\z.length<=sizeLine/\Q (.int z.length) H):=by
 intro pins s σ H xs us Q I r h
 obtain⟨z,rfl,hz,q⟩:=h
 obtain⟨u,rfl,t,rfl⟩:=vals1 r
 have hn:=kfw
 exact len_str (by lia) ⟨.int z.length,H,I.tok _,⟨_,rfl⟩,q⟩
inductive kiC(K:Mt)(xs:List V)(H:Hp)(Q:VK):Prop
 |ct p ys (_:xs=[.ref p]) (_:(SqL K H p ys∨SqT K H p ys)) (_:∀l,H l=none->Q (.ref l) (upd H l (.lst ys))):kiC K xs H Q
def kbW(K:Mt):List V->Hp->VK->Prop:=fun xs H Q=>kiC K xs H Q
theorem kaU:CallR X (.type "list") (kbW X.K):=by
 intro pins s σ H xs us Q I r h
 obtain⟨p,ys,rfl,hq,q⟩:=h
 obtain⟨u,rfl,rx⟩:=vals1 r
 cases rx
 have fin:∀(its:List Value),Vals ys its->ys.length<=sizeLine->∀(h':Heap)(c':Nat),(∀b o',s.heap.get? b>>o'->h'.get? b>>o')->
   h'.get? s.heap.objs.size>>{cls:=.type "list",dict:=none,data:=.seq its.toArray c',slots:=#[]}->EP X pins σ Q (.ref s.heap.objs.size) {s with heap:=h'}:=fun its r' hz h' c' kp e=>
  ⟨.ref s.heap.objs.size,_,I.laid (t':=s.toks) kp (Mv _) (show ObjOk X.prog X.w _ h' _ (.lst ys) from⟨hz,its,c',r',e⟩),rfl,q _ (I.hok.fresh (Mv _))⟩
 rcases hq with hq|hq
 ·obtain⟨its,r',pl,hz⟩:=I.list hq
  have hlen:=r'.length
  obtain⟨o,ho,hc,n,hd⟩:=pl.isList
  exact call_list_seq p (.inl rfl) ho hc hd (fun h' c' kp e=>fin its r' hz h' c' kp e) (by simp only[MS] <;> lia)
 ·obtain⟨its,r',pl,hz⟩:=I.tuple hq
  have hlen:=r'.length
  obtain⟨o,ho,hc,n,hd⟩:=pl
  exact call_list_seq p (.inr rfl) ho hc hd (fun h' c' kp e=>fin its r' hz h' c' kp e) (by simp only[MS] <;> lia)
def tyV(K:Mt)(T:String)(x:V)(H:Hp):Prop:=match x with
 | .str _=>T="str"
 | .int _=>T="int"
 | .ref p=>(T="list"/\∃xs,SqL K H p xs)∨(T="tuple"/\∃o,K.lookup p>>o/\o.cls=.type "tuple"/\o.dict=none)∨
   (T="dict"/\((∃kvs,H p>>(.dK kvs))∨∃kvs,H p>>(.dT kvs)))∨(T="set"/\∃S n,H p>>(.set S n))
 |_=>False
theorem knC{pins:List (Addr×Obj)}{σ:St}{H:Hp}{s:Shared}{T:String}{x:V}{v:Value}(I:Inv X pins σ H s)(r:RelV x v)(ty:tyV X.K T x H):
  s.TypeIs v T/\∀a,v=.ref a->∃ob,s.heap.get? a>>ob/\ob.dict=none:=by
 cases x with
 |str z=>
  obtain⟨t,rfl⟩:=r
  cases(show T="str" from ty)
  rwa[typeIs_str s z t,fun _ e=>nomatch e]
 |int i=>
  obtain⟨t,rfl⟩:=r
  cases(show T="int" from ty)
  rwa[typeIs_int s i t,fun _ e=>nomatch e]
 | ref p=>
  cases r
  rcases ty with⟨rfl,xs,hq⟩|⟨rfl,o,hk,hc,hd⟩|⟨rfl,hk⟩|⟨rfl,S,n,hk⟩
  ·obtain⟨its,_,pl,_⟩:=I.list hq
   rwa[pl.isList.typeIs,fun a e=>?_]
   cases e
   obtain⟨o,n,e,c,hd,_⟩:=pl
   rwa[o,e,hd]
  ·rwa[⟨o,I.kIn p o hk,hc⟩,fun a e=>?_]
   cases e
   rwa[o,I.kIn _ o hk,hd]
  ·have z:∃o,s.heap.get? p>>o/\o.ExactDict:=by
    rcases hk with⟨kvs,hk⟩|⟨kvs,hk⟩
    ·obtain⟨_,_,_,_,o,_,_,e,ex,_⟩:=I.hok p _ hk
     rwa[o,e,ex]
    ·obtain⟨_,_,_,_,o,_,_,e,ex,_⟩:=I.hok p _ hk
     rwa[o,e,ex]
   obtain⟨o,e,ex⟩:=z
   rwa[⟨o,e,ex.1⟩,fun a e2=>?_]
   cases e2
   rwa[o,e,ex.2.1]
  ·obtain⟨o,_,_,_,e,ex,_⟩:=I.hok p _ hk
   rwa[⟨o,e,ex.1⟩,fun a e2=>?_]
   cases e2
   rwa[o,e,ex.2.1]
 |_=>exact False.elim ty
def tBM(K:Mt)(T:String)(r:V->List V->Hp->VK->Prop)(to:TE)(t:TA):TE:=fun σ H Q=>to σ H fun x H1=>tyV K T x H1/\t σ H1 fun xs H2=>r x xs H2 Q
variable{o e:Expr}{es:List Expr}{to:TE}{t:TA}{name:Str}{apos cpos:Pos}{T id:String}{r:V->List V->Hp->VK->Prop}
theorem pe_bm(pa:PlainAttrs T)(slot:Slot T name id)(hty:typeOf (.builtin id)=pure (.type "method_descriptor"))(hm:MtR X id r)(ho:PE X o to)(ha:PA X (e::es) t)
  (hbase:autoParam (attributeBase o name X.env (eval o X.env)=eval o X.env) jz)
  (hfew:autoParam (((backTo cpos (starEach (e::es) X.env)).all (fun x=>!x.1)&&(backToKw cpos (keywordEach [] X.env)).all (fun x=>x.1.isSome)
   &&decide ((e::es).length+([]:List Keyword).length+(if([]:List Keyword).isEmpty then 0 else 1)<30))=true) jz)
  (hline:autoParam ((apos.endLine==cpos.line)=true) jz)(hs:autoParam (starEach (e::es) X.env=(false,eval e X.env)::starEach es X.env) jz)(hplain:autoParam ((backTo cpos (starEach es X.env)).any (·.1)=false) jz):
  PE X (.Call (.Attribute o name apos) (e::es) [] cpos) (tBM X.K T r to t):=by
 intro pins s σ H Q I h
 refine wpAny_Call_method_late hbase hfew hline rfl (thn (ho pins s σ H _ I h) fun v s1 zz=>?_)
 obtain⟨x,H1,I1,r1,ty,q1⟩:=zz
 obtain⟨h1,h2⟩:=knC I1 r1 ty
 rwa[T,id,pa,slot,hty,h1,h2,?_]
 have hA:=ha cpos pins s1 σ H1 _ I1 q1
 rw[hs] at hA⊢
 refine Calls.callWith_builtin (by show(false||(backTo cpos (starEach es X.env)).any (·.1))=false;rw[hplain] <;> rfl) (Calls.evalArgs_plain ?_)
 exact thn hA fun us s2 ⟨vs,H2,I2,r2,q2⟩=>hm pins s2 σ H2 x vs v us Q I2 r1 r2 q2
end
def MtM(X:Cx)(id:String)(r:V->List V->Hp->VK->Prop):Prop:=
 ∀(pins:List (Addr×Obj))(s:Shared)(σ:St)(H:Hp)(x:V)(xs:List V)(v:Value)(us:List Value)(Q:VK),Inv X pins σ H s->RelV x v->Vals xs us->r x xs H Q->
  wpAny (model X.prog X.w) X.A (call (.builtin id) (v::us)) (EP X pins σ Q) X.xe s
theorem Vals.one:∀{x:V}{us:List Value},Vals [x] us->∃u,us=[u]/\RelV x u
 |_,_, .cons r .nil=>⟨_,rfl,r⟩
theorem Vals.rep{xs:List V}{us:List Value}(h:Vals xs us):∀k:Nat,Vals (My k xs).flatten (My k us).flatten
 |0=>.nil
 |k+1=>by
  rw[Et,Et,Ef,Ef]
  exact Vals.append h (Vals.rep h k)
theorem foldl_rep(its:List Value):∀(k:Nat)(acc:List Value),
  List.foldl (fun x1 x2=>x1++x2) acc.toArray (My k its.toArray)=(acc++(My k its).flatten).toArray
 |0,acc=>by simp
 | k+1,acc=>by
  have e:acc.toArray++its.toArray=(acc++its).toArray:=by simp
  have e2:(acc++its)++(My k its).flatten=acc++(My (k+1) its).flatten:=by
   rw[Et,Ef,M6]
  rw[<-e2,<-foldl_rep its k (acc++its),<-e,Et,List.foldl_cons]
section
variable{X:Cx}{pins:List (Addr×Obj)}{σ:St}{H:Hp}{s:Shared}{l b:Addr}{xs ys zs:List V}
theorem Inv.lset{its its':List Value}{n:Nat}{f:Array Value->Array Value}{t':Nat}(I:Inv X pins σ H s)(hH:H l>>(.lst xs))
  (e:s.heap.get? l>>{cls:=.type "list",data:=.seq its.toArray n})(hf:f its.toArray=its'.toArray)(hv:Vals ys its')(hz:ys.length<=sizeLine):
  Inv X pins σ (upd H l (.lst ys)) {s with heap:=s.heap.update l (Obj.mapSeq f),toks:=t'}:=by
 have q:=PySem.IsL.update e f
 rw[hf] at q
 refine I.write (x:=l) (e:=l) (by rw[hH];exact trivial) (.inl rfl) (fun b' u hb hu=>(Heap.get?_update_other s.heap (Obj.mapSeq f) (Ne.symm hb)).trans hu) ⟨_,q⟩ ?_
 rwa[hz,its',_,hv,q]
theorem Inv.lnew{its:List Value}{t':Nat}(I:Inv X pins σ H s)(hv:Vals ys its)(hz:ys.length<=sizeLine):
  Inv X pins σ (upd H s.heap.objs.size (.lst ys)) {s with heap:=s.heap.push {cls:=.type "list",data:=.seq its.toArray},toks:=t'}:=
 I.laid (fun _ _ q=>Heap.get?_push_of_some _ q) (Mv _) ⟨hz,its,0,hv,Heap.get?_push_size _ rfl⟩
theorem Inv.fresh(I:Inv X pins σ H s):H s.heap.objs.size=none:=I.hok.fresh (Mv _)
theorem Inv.lstM(I:Inv X pins σ H s)(hH:H l>>(.lst xs)):xs.length<=sizeLine/\∃(its:List Value)(n:Nat),Vals xs its/\xs.length=its.length/\s.heap.get? l>>{cls:=.type "list",data:=.seq its.toArray n}:=by
 obtain⟨z,its,n,r,e⟩:=I.hok l _ hH
 rwa[z,its,n,r,r.length,e]
theorem kid{n:Nat}(h:n<=sizeLine):Builtin.List.listTooLong n=false:=by
 unfold Builtin.List.listTooLong
 exact decide_eq_false (by lia)
end
section
variable{X:Cx}
inductive kiF(x:V)(vs:List V)(H:Hp)(Q:VK):Prop
 |ct l xs y (_:x=.ref l) (_:vs=[y]) (_:H l>>(.lst xs)) (_:xs.length<sizeLine) (_:Q .non (upd H l (.lst (xs++[y])))):kiF x vs H Q
def kjK:V->List V->Hp->VK->Prop:=fun x vs H Q=>kiF x vs H Q
theorem kaG:MtM X "list.append" kjK:=by
 intro pins s σ H x vs v us Q I rx rv h
 obtain⟨l,xs,y,rfl,rfl,hH,hz,q⟩:=h
 cases rx
 obtain⟨u,rfl,ru⟩:=rv.one
 obtain⟨z,its,n,r,hl,e⟩:=I.lstM hH
 refine call_meets F.slot_list_append ⟨_,e,rfl⟩ F.entry_list_append (F.args_list_append_2 _ _) (PySem.list_append l its.toArray n u (by rw[MS];lia)) ⟨e,?_⟩
 rwa[.non,_,I.lset (its':=its++[u]) hH e (by simp) (r.append (.cons ru .nil)) ?_,6,q]
 rw[ML,Am]
 lia
inductive kiE(x:V)(vs:List V)(H:Hp)(Q:VK):Prop
 |ct l b xs zs (_:x=.ref l) (_:vs=[.ref b]) (_:H l>>(.lst xs)) (_:H b>>(.lst zs)) (_:xs.length+zs.length<=sizeLine) (_:Q .non (upd H l (.lst (xs++zs)))):kiE x vs H Q
def km1:V->List V->Hp->VK->Prop:=fun x vs H Q=>kiE x vs H Q
theorem kgN:MtM X "list.extend" km1:=by
 intro pins s σ H x vs v us Q I rx rv h
 obtain⟨l,b,xs,zs,rfl,rfl,hH,hB,hz,q⟩:=h
 cases rx
 obtain⟨u,rfl,ru⟩:=rv.one
 cases ru
 obtain⟨z,its,n,r,hl,e⟩:=I.lstM hH
 obtain⟨z2,its2,n2,r2,hl2,e2⟩:=I.lstM hB
 have hsz:its.toArray.size+its2.toArray.size<=sizeLine:=by rw[MS,MS];lia
 have hlong:¬(!its.toArray.isEmpty&&Builtin.List.listTooLong (its.toArray.size+its2.toArray.size))=true:=by
  rw[kid hsz,Bool.and_false]
  exact MD
 refine call_meets F.slot_list_extend ⟨_,e,rfl⟩ F.entry_list_extend (F.args_list_extend_2 _ _)
  (AutoSeq1.list_extend_list_list_0 l its.toArray n b its2.toArray n2 hlong (by rw[MS];lia) (by lia)) ⟨e,e2,?_⟩
 rwa[.non,_,I.lset (its':=its++its2) hH e (by simp) (r.append r2) ?_,6,q]
 rw[ML]
 lia
inductive QrCat(x:V)(y:V)(H:Hp)(Q:VK):Prop
 |ct l b xs zs (_:x=.ref l) (_:y=.ref b) (_:H l>>(.lst xs)) (_:H b>>(.lst zs)) (_:xs.length+zs.length<=sizeLine) (_:∀p,H p=none->Q (.ref p) (upd H p (.lst (xs++zs)))):QrCat x y H Q
def rCat:R2:=fun x y H Q=>QrCat x y H Q
theorem kd6:OpR X (binaryOp .Add) rCat:=by
 intro pins s σ H x y v u Q I rx ry h
 obtain⟨l,b,xs,zs,rfl,rfl,hH,hB,hz,q⟩:=h
 cases rx
 cases ry
 obtain⟨z,its,n,r,hl,e⟩:=I.lstM hH
 obtain⟨z2,its2,n2,r2,hl2,e2⟩:=I.lstM hB
 refine PySem.P.add_list e e2 ?_ (by rw[MS,MS];lia)
 have ea:its.toArray++its2.toArray=(its++its2).toArray:=by simp
 rw[ea]
 rwa[.ref _,_,I.lnew (t':=s.toks) (r.append r2) (by rw[ML];lia),6,q _ I.fresh]
inductive QrRep(x:V)(y:V)(H:Hp)(Q:VK):Prop
 |ct l k xs (_:x=.ref l) (_:y=.int k) (_:H l>>(.lst xs)) (_: -(2 ^ 63)<=k) (_:k<2 ^ 63) (_:xs.length*k.toNat<=sizeLine) (_:∀p,H p=none->Q (.ref p) (upd H p (.lst (My k.toNat xs).flatten))):QrRep x y H Q
def rRep:R2:=fun x y H Q=>QrRep x y H Q
theorem len_rep{α:Type}(xs:List α)(k:Nat):(My k xs).flatten.length=k*xs.length:=by
 induction k with
 |zero=>simp
 |succ k ih=>rw[Et,Ef,ML,ih,Nat.succ_mul,Nat.add_comm]
theorem kj4:OpR X (binaryOp .Mult) rRep:=by
 intro pins s σ H x y v u Q I rx ry h
 obtain⟨l,k,xs,rfl,rfl,hH,h1,h2,hz,q⟩:=h
 cases rx
 obtain⟨t,rfl⟩:=ry
 obtain⟨z,its,n,r,hl,e⟩:=I.lstM hH
 have hlen:its.toArray.size*k.toNat<=sizeLine:=by rw[MS,<-hl];exact hz
 have hcap:¬its.toArray.size*k.toNat > (2 ^ 63-1)/8:=by
  have:(sizeLine:Nat)<=(2 ^ 63-1)/8:=by decide
  lia
 have hfit:¬(!Builtin.List.listFitsIndex k)=true:=by
  rw[fitsIndex_both h1 h2]
  exact MD
 have hlong:¬Builtin.List.listTooLong (its.toArray.size*k.toNat)=true:=by
  rw[kid hlen]
  exact MD
 have hnew:List.foldl (fun x1 x2=>x1++x2) #[] (My (if its.toArray.isEmpty=true then 0 else k.toNat) its.toArray)=(My k.toNat its).flatten.toArray:=by
  have f0:∀m:Nat,List.foldl (fun x1 x2=>x1++x2) #[] (My m its.toArray)=(My m its).flatten.toArray:=fun m=>by
   have:=foldl_rep its m []
   rw[EW] at this
   exact this
  rw[f0]
  cases its with
  |nil=>simp
  |cons a r'=>rw[if_neg (by simp)]
 refine wpAny_binaryOp_repeat_ref (T:="list") (U:="int") (by decide) ⟨_,e,rfl⟩ (fun s'=>typeIs_int s' k t) noFill_list_mul F.fills_int_mul F.slot_int_rmul repeat_list F.slot_int_index.lookup
  (call_meets F.slot_int_rmul (typeIs_int s k t) F.entry_int_rmul (F.args_int_rmul_2 _ _) (int___rmul___int_list k t l its.toArray n)
   ⟨e,rfl,⟨_,e,rfl⟩,call_meets F.slot_list_mul ⟨_,e,rfl⟩ F.entry_list_mul (F.args_list_mul_2 _ _) (AutoListH.list___mul___list_int_3 l its.toArray n k t hfit hcap hlong) ⟨e,?_⟩⟩)
 rw[hnew]
 rwa[.ref _,_,I.lnew (t':=s.toks) (r.rep k.toNat) (by rw[len_rep,Nat.mul_comm];exact hz),6,q _ I.fresh]
end
section
variable{prog:Program}{w:World}{A:Around}{E:Value->Shared->Prop}{s:Shared}
set_option maxRecDepth 100000 in
end
section
variable{X:Cx}
end
end L2
namespace Att
open PySem PySem.W PySem.Calls PyProof.Rows
theorem ke0{P:Params}{h:Heap}:∀(ns:List Int)(vs:List Value),WellAll P h vs (ns.map WData.int)->IntsAre vs ns:=by
 intro ns
 induction ns with
 |nil=>
  intro vs w
  rw[Ep] at w
  cases w
  exact .nil
 | cons n ns ih=>
  intro vs w
  rw[MQ] at w
  cases w with
  |cons a b=>
   cases a
   exact .cons _ _ (ih _ b)
theorem kjB{l:OpenLaw}{n:Nat}(hn:l.most>>n){P:Params}{h:Heap}{args:List WData}{vals:List Value}
  (hpre:l.row.toRowW.claim.pre args=true)(hwl:WellAll P h vals args):
  ∃a vs ns,vals=[Value.ref a]/\args=[WData.list (ns.map WData.int)]/\h.get? a>>{cls:=.type "list",data:=.seq vs.toArray}/\IntsAre vs ns/\ns.length<=n:=by
 have hsh:WShape.hasAll [] args [.list .int]=true:=(pre_splitW hpre).1
 have hc:l.pre.holds [] {args:=args}=true:=(pre_splitW hpre).2
 obtain⟨d,r,rfl,h1,h2⟩:=hasAllW_cons hsh
 obtain rfl:=hasAllW_nil h2
 obtain⟨xs,rfl,h3⟩:=hasW_list h1
 obtain⟨ns,rfl⟩:=items_int h3
 have hlen:ns.length<=n:=by
  unfold OpenLaw.pre at hc
  have h4:(WTm.not (.lt (.lit (.int (n:Int))) (.len (.arg 0)))).holds [] {args:=[.list (ns.map .int)]}=true:=by
   have h4:=(holds_andW hc).1
   rw[hn] at h4
   exact h4
  have h5:=condW_of h4 (w_not (w_lt w_lit (w_len_list (w_arg rfl))))
  rw[Mu] at h5
  refine Nat.le_of_not_lt fun q=>?_
  have q':(n:Int)<((ns.length:Nat):Int):=by lia
  first
   |(rw[decide_eq_true q'] at h5;exact absurd h5 (by decide))
   |(simp at h5;lia)
 cases hwl with
 |cons w1 w2=>
  cases w2
  cases w1 with
  |list ho hall=>exact⟨_,_,ns,rfl,rfl,ho,ke0 ns _ hall,hlen⟩
def kjT(l:OpenLaw)(args:List WData):l.row.toRowW.claim.post args (.bool true) args=true:=
 postW_of (r:=l.row.toRowW) (X:=(true==true))
  (show WShape.has [] (.bool true) .bool=true by first|rfl|decide|simp[WShape.has,WShape.arms,WShape.armsAll])
  (show(WTm.eq .res (.lit (.bool true))).value [] {args:=args,res:=some (.bool true),after:=args}>>(.bool (true==true)) from w_eq_bool (w_res rfl) w_lit) rfl
theorem attach_call{l:OpenLaw}{n:Nat}{q:Program}{loose:List Str}{XP:(Str->Option Value)->Heap->Prop}{YP:World->Heap->Prop}{d:DefRec}
  (hn:l.most>>n)(hdf:d.params.defaults=[])
  (call:∀(w:World)(s₀ s₁:Shared)(mg mb:Str->Option Value)(fa:Addr)(o:Obj)(pm cd doc:Value)(a:Addr)(vs:List Value)(ns:List Int),
   Ground q loose [] XP w s₀ mg mb s₁.heap->YP w s₁.heap->
   s₁.heap.get? fa>>o->o.data=.func (docDef d.name d.params d.body d.scope pm cd doc)->s₁.heap.CodeRec cd d.name->mg d.name>>(.ref fa)->
   s₁.heap.get? a>>{cls:=.type "list",data:=.seq vs.toArray}->IntsAre vs ns->ns.length<=n->s₁.gens= #[]->
   codeAny (model l.prog w) callerA (.call (.ref fa) ⟨[.ref a],[]⟩) (fun r s'=>r=.ok (.ret (.bool true))/\OldK s₁.heap s'.heap/\s'.os=s₁.os/\AllBare s'.gens) s₁):
  WalkO q loose XP YP l.row.toRowW d [] (fun f vs=>PySem.call f vs):=by
 intro w s₀ s₁ mg mb G Y fa o pm cd doc dV kV ho hd hcd hD hmg hg args vals as hpre hlay hrd hwl hlo
 obtain rfl:dV=.none:=Dflts.none hD hdf
 obtain rfl:kV=.none:=Dflts.noKw hD
 obtain⟨a,vs,ns,rfl,rfl,hobj,hints,hlen⟩:=kjB hn hpre hwl
 refine enter_call (codeAny_mono (call w s₀ s₁ mg mb fa o pm cd doc a vs ns G Y ho (fd_plain hd) hcd hmg hobj hints hlen hg) fun r s' hq=>?_)
 obtain⟨rfl,h2,h3,h4⟩:=hq
 rwa[.inl ⟨.bool true, .bool true,[],rfl,fun _=>rfl, .bool true,kjT l _,fun _=>⟨Dg.nil,fun _ hm=>(nomatch hm)⟩⟩,h2,h3,h4]
section
variable{prog:Program}{w:World}{A:Around}{E:Value->Shared->Prop}{s:Shared}{K:Frag}
end
end Att
namespace L2
open PySem PySem.Spec PyProof.Rows
theorem kgc:∀{vs:List Value}{ns:List Int},IntsAre vs ns->Vals (ns.map V.int) vs
 |_,_, .nil=>.nil
 |_,_, .cons n t h=>.cons ⟨t,rfl⟩ (kgc h)
noncomputable def inClass(s:Stmt)(j:Nat):Stmt:=match s with
 | .ClassDef _ _ _ body _ _ _ _ _ _ _=>body.getD j (.Pass ⟨0,0,0,0⟩)
 |_=>.Pass ⟨0,0,0,0⟩
noncomputable def kaE(s:Stmt):Arguments:=match s with
 | .FunctionDef _ a _ _ _ _ _ _ _ _=>a
 |_=>{posonlyargs:=[],args:=[],vararg:=none,kwonlyargs:=[],kw_defaults:=[],kwarg:=none,defaults:=[]}
noncomputable def kaC(s:Stmt):List Stmt:=match s with
 | .FunctionDef _ _ b _ _ _ _ _ _ _=>b
 |_=>[]
noncomputable def kaf(s:Stmt):Scope:=match s with
 | .FunctionDef _ _ _ _ _ _ sc _ _ _=>sc
 |_=>{kind:=.function,names:=[],isGenerator:=false,isCoroutine:=false}
abbrev CX0:CXT:=fun _ _ _ _ _ _=>False
abbrev E0:XK:=fun _ _ _=>False
def pass0{X:Cx}:kc2 CX0 X E0:=fun _ _ _ _ _ _ _ h=>h.elim
section
variable{P:Program}{w:World}{K:Mt}{mg:Str->Option Value}{base:Heap}
end
def hu_of{A:Around}{k:Nat}(hr:Room k A):A.units+1<cLine:=Ex (Nat.add_le_add_left (by decide:1<=64) _) hr.units
def kan{n:Nat}(h:n<=1000):n<sizeLine:=Ex h (by decide)
section
variable{X:Cx}
theorem pv(i:Nat){x:Str}{pos:Pos}(hN:autoParam (X.N[i]?>>x) jz)(hv:Vis X.env.scope x:=by first|exact Or.inl rfl|exact Or.inr (Or.inl rfl)|exact Or.inr (Or.inr rfl))(hd:autoParam ((x==("__debug__" :Str))=false) jQ)
  (hcd:autoParam ((x==("__classdict__" :Str))=false) jQ):PE X (.Name x pos) (tVar i):=knX hN hv hd hcd
end
def iteF{A B:Prop}(h:B):if false=true then A else B:=by
 rw[if_neg MD]
 exact h
def iteT{A B:Prop}(h:A):if true=true then A else B:=by
 rw[if_pos rfl]
 exact h
def ite2{c A B:Prop} [Decidable c] (h1:c->A) (h2:¬c->B):if c then A else B:=by
 by_cases h:c
 ·rw[if_pos h]
  exact h1 h
 ·rw[if_neg h]
  exact h2 h
end L2
namespace L2
open PySem PySem.Spec PyProof.Rows
section
variable{X:Cx}
theorem log2_small{n:Nat}(h:n<2 ^ 200):n.log2<9000:=by
 by_cases h0:n=0
 ·subst h0
  decide
 ·have h1:n.log2<200:=(Nat.log2_lt h0).mpr h
  lia
def CDivB(_ j:Int):Prop:=0<j/\j<2 ^ 199
theorem klo:OpR X (binaryOp .FloorDiv) (rI CDivB fun i j=>.int (i/j)):=opI fun i j _ _ _ _ _ hc q=>by
 have h1:(0:Int)<j:=hc.1
 have h2:j<2 ^ 199:=hc.2
 have h3:j.natAbs<2 ^ 200:=by lia
 exact floordiv_int (by lia) (by rw[Int.fdiv_eq_ediv_of_nonneg i (by lia)];exact q) (.inl (PyProof.noPylong_of_log2 (log2_small h3)))
inductive QrSum(K:Mt)(xs:List V)(H:Hp)(Q:VK):Prop
 |ct(p:Addr)(ns:List Int)(_:xs=[.ref p])(_:SqL K H p (ns.map V.int))(_:Q (.int ns.sum) H):QrSum K xs H Q
def rSum(K:Mt):List V->Hp->VK->Prop:=fun xs H Q=>QrSum K xs H Q
theorem kdQ(hc:X.calm=true):CallR X (.builtin "sum") (rSum X.K):=by
 intro pins s σ H xs us Q I r h
 obtain⟨p,ns,rfl,hq,q⟩:=h
 obtain⟨u,rfl,rx⟩:=vals1 r
 cases rx
 obtain⟨its,r',pl,hz⟩:=I.list hq
 have hi:IntsAre its ns:=intsAre_of r'
 have ha:=hi.allInts
 obtain⟨zs,hx⟩:=ha.items
 have hl:=pl.isList
 rw[hx] at hl
 refine sum_intListG (I.ok.hd hc) hl fun h' tk t' hk=>⟨.int ns.sum,H,I.kept hk,⟨t',?_⟩,q⟩
 have e2:preSum (numAt zs) zs.size=(numsOf (intItems zs).toList).sum:=by
  rw[nums_intItems,preSum_eq,ER (by simp)]
 have e3:numsOf its.toArray.toList=ns:=hi.numsOf
 rw[e2,<-hx,e3]
noncomputable def cV:V->Value
 | .ty n=>.type n
 | .ref a=>.ref a
 |_=>.none
inductive QrIsi(K:Mt)(xs:List V)(H:Hp)(Q:VK):Prop
 |ct x c t b (_:xs=[x,c]) (_:((∃n,c=.ty n)∨∃a,c=.ref a)) (_:TyOf K H x t) (_:En K t (cV c)>>b) (_:Q (.bl b) H):QrIsi K xs H Q
def rIsi(K:Mt):List V->Hp->VK->Prop:=fun xs H Q=>QrIsi K xs H Q
theorem kaD:CallR X (.builtin "isinstance") (rIsi X.K):=by
 intro pins s σ H xs us Q I r h
 obtain⟨x,c,t,b,rfl,hc,ty,e,q⟩:=h
 obtain⟨u,w',rfl,r1,r2⟩:=vals2 r
 have ew:w'=cV c:=by
  rcases hc with⟨n,rfl⟩|⟨a,rfl⟩
  ·exact r2
  ·exact r2
 subst ew
 exact kkh I r1 ty e fun tk=>⟨.bl b,H,I.tok tk,rfl,q⟩
theorem b_isi:bootBuiltins "isinstance">>(.builtin "isinstance"):=by cutsat
theorem b_int:bootBuiltins "int">>(.type "int"):=by cutsat
theorem kkJ:bootBuiltins "bool">>(.type "bool"):=by cutsat
theorem kcr:bootBuiltins "list">>(.type "list"):=by cutsat
theorem b_sum:bootBuiltins "sum">>(.builtin "sum"):=by cutsat
theorem b_min:bootBuiltins "min">>(.builtin "min"):=by cutsat
theorem b_max:bootBuiltins "max">>(.builtin "max"):=by cutsat
theorem b_len:bootBuiltins "len">>(.builtin "len"):=by cutsat
theorem kbi(K:Mt)(t:Value):En K t t>>true:=by
 unfold En
 rw[if_pos (by simp)]
theorem keg(K:Mt):En K (.type "int") (.type "bool")>>false:=by
 have e:(Value.type "int" ==Value.type "bool")=false:=by cutsat
 unfold En PySem.W.kitCls DL
 rw[e,if_neg MD]
 show(if PySem.W.kitMeta "bool"=true then _ else _)=_
 rw[if_pos (by cutsat)]
 show(fastBuiltinMro "int").map (·.contains (Value.type "bool"))>>false
 cutsat
inductive QtCut(t:TS)(D:Ends)(σ:St)(H:Hp):Prop
 |ct(P:St->Hp->Prop)(_:t {D with nx:=P} σ H)(_:∀σ' H',P σ' H'->D.nx σ' H'):QtCut t D σ H
def tCut(t:TS):TS:=fun D σ H=>QtCut t D σ H
theorem kma{st:Stmt}{t:TS}(h:PS X st t):PS X st (tCut t):=by
 intro pins s σ H D I hw
 obtain⟨P,h1,h2⟩:=hw
 refine thn (h pins s σ H {D with nx:=P} I h1) fun f s' q=>?_
 cases f with
 |next=>
  obtain⟨σ',H',I',q'⟩:=q
  rwa[σ',H',I',h2 σ' H' q']
 |brk=>exact q
 |cont=>exact q
 |ret u=>exact q
end
def Inv.adopt{X:Cx}{pins:List (Addr×Obj)}{σ:St}{H:Hp}{s:Shared}{a:Addr}{o:HO}(I:Inv X pins σ H s)(f:FpOk X pins H a)(h0:X.s₀.heap.objs.size<=a)(new:ObjOk X.prog X.w (upd H a o) s.heap a o):Inv X pins σ (upd H a o) s:=by
 obtain⟨hn,hL,_,_,hC,hp⟩:=f
 have nt:∀b u,H b>>u->b≠a:=fun b u e=>kak e hn
 rwa[I.ok,I.os,I.bare,⟨I.base.keep,I.base.slot,fun b ob e n hx=>?_,I.base.there,fun b xs e=>?_,fun b ob u e=>?_,fun b ps e=>?_⟩,I.loc,I.cell,?_,fun x c e=>?_,fun p hp'=>?_,fun b u e=>?_,I.len]
 ·rw[kah (MT (MX (Heap.lt_size e) h0))]
  exact I.base.free b ob e n hx
 ·have q:=I.base.tups b xs e
  rw[kah (nt _ _ q)]
  exact q
 ·have q:=I.base.frzs b ob u e
  rw[kah (nt _ _ q)]
  exact q
 ·obtain⟨m,q⟩:=I.base.tbls b ps e
  rwa[m,by rw[kah (nt _ _ q)];exact q]
 ·rw[kah (Ne.symm hL)]
  exact I.free
 ·rw[kah (hC x c e)]
  exact I.freeC x c e
 ·obtain⟨e,n,r⟩:=I.pin p hp'
  rwa[e,by rw[kah (hp p hp')];exact n,r]
 ·by_cases hb:b=a
  ·subst hb
   rw[kad] at e
   cases e
   exact new
  ·rw[kah hb] at e
   exact(I.hok b u e).stay (fun c v _ q=>q) (fun c q=>by rw[kah (nt _ _ q)];exact q) fun c xs q=>by rw[kah (nt _ _ q)];exact q
noncomputable def capσ(cap:List (Option Nat))(σ:St):St:=cap.map fun o=>match o with
 |some i=>(σ[i]?).getD none
 |none=>none
noncomputable def closL(cells:List (Str×Addr))(names:List (Str×NameKind)):List (Str×Addr)->List (Str×Addr):=fun acc=>names.foldl (fun acc p=>if p.2== .free then(p.1,(cells.lookup p.1).getD 0)::acc else acc) acc
theorem ke2{α β:Type}{f: α->β->Sem (ForInStep β)}{g: β->α->β}:∀(l:List α)(b: β),(∀x∈l,∀b,f x b=pure (.yield (g b x)))->forIn l b f=pure (l.foldl g b)
 |[],b,_=>by rw[DM];rfl
 |x::l,b,h=>by
  rw[DN,h x Mx]
  show forIn l (g b x) f=_
  rw[ke2 l (g b x) fun y hy=>h y (MH _ hy)]
  rfl
def kf6{scope:Scope}{env:Env}(h:∀x∈scope.names,x.2=.free->∃c,env.cells.lookup x.1>>c):closureFor scope env=pure (closL env.cells scope.names []):=by
 unfold closureFor
 dsimp only
 rw[ke2 (g:=fun acc p=>if p.2== .free then(p.1,(env.cells.lookup p.1).getD 0)::acc else acc) scope.names [] fun x hx b=>?_]
 ·rfl
 ·obtain⟨n,k⟩:=x
  by_cases hk:k=.free
  ·subst hk
   obtain⟨c,ec⟩:=h _ hx rfl
   have ec':env.cells.lookup n>>c:=ec
   have e1:cellOf env n=pure c:=by unfold cellOf;rw[ec']
   simp only[beq_self_eq_true,if_true,e1,ec',Option.getD_some]
   rfl
  ·have:(k==NameKind.free)=false:=by simpa using hk
   simp only[this,Ey,if_false]
def kfA(cells:List (Str×Addr))(p:Str×NameKind)(r:List (Str×NameKind))(acc:List (Str×Addr)):closL cells (p::r) acc=closL cells r (if p.2== .free then(p.1,(cells.lookup p.1).getD 0)::acc else acc):=rfl
theorem kf7{cells:List (Str×Addr)}{x:Str}{c:Addr}:∀(names:List (Str×NameKind))(acc:List (Str×Addr)),(closL cells names acc).lookup x>>c->(((x,NameKind.free)∈names/\c=(cells.lookup x).getD 0)∨acc.lookup x>>c)
 |[],acc,h=>.inr h
 | (n,k)::r,acc,h=>by
  rw[kfA] at h
  rcases kf7 r _ h with⟨h1,h2⟩|h1
  ·exact .inl ⟨MH _ h1,h2⟩
  ·by_cases hk:k=.free
   ·subst hk
    simp only[beq_self_eq_true,if_true] at h1
    rw[Eg] at h1
    by_cases hx:x=n
    ·subst hx
     simp only[beq_self_eq_true] at h1
     exact .inl ⟨Mx,(Option.some.inj h1).symm⟩
    ·have hb:(x==n)=false:=beq_eq_false_iff_ne.mpr hx
     rw[hb] at h1
     exact .inr h1
   ·have:(k==NameKind.free)=false:=by simpa using hk
    simp only[this,Ey,if_false] at h1
    exact .inr h1
theorem ke6{cells:List (Str×Addr)}{x:Str}:∀(names:List (Str×NameKind))(acc:List (Str×Addr)),((x,NameKind.free)∈names∨∃c,acc.lookup x>>c)->∃c,(closL cells names acc).lookup x>>c
 |[],acc,h=>by
  rcases h with h|h
  ·cases h
  ·exact h
 | (n,k)::r,acc,h=>by
  rw[kfA]
  refine ke6 r _ ?_
  by_cases hm:(x,NameKind.free)∈r
  ·exact .inl hm
  ·refine .inr ?_
   rcases h with h|⟨c,h⟩
   ·rcases MB.mp h with e|h
    ·cases e
     simp[Eg]
    ·exact absurd h hm
   ·split
    ·rw[Eg]
     by_cases hx:x=n
     ·subst hx
      simp
     ·have hb:(x==n)=false:=beq_eq_false_iff_ne.mpr hx
      rw[hb]
      rwa[c,h]
    ·rwa[c,h]
theorem kcE:∀(names:List (Str×NameKind))(n:Nat)(acc acc':List (Str×Addr)),cellsFrom n names (acc++acc')=cellsFrom n names acc++acc'
 |[],_,_,_=>rfl
 |(m,k)::r,n,acc,acc'=>by
  unfold cellsFrom
  split
  ·exact kcE r (n+1) ((m,n)::acc) acc'
  ·exact kcE r n acc acc'
def kb4(names:List (Str×NameKind))(n:Nat)(acc:List (Str×Addr))(x:Str):(cellsFrom n names acc).lookup x=((cellsFrom n names []).lookup x).or (acc.lookup x):=by
 rw[<-List.lookup_append,<-kcE,EW]
theorem kcD{x:Str}:∀(names:List (Str×NameKind))(n:Nat)(acc:List (Str×Addr)),(x,NameKind.cell)∉names->(cellsFrom n names acc).lookup x=acc.lookup x
 |[],_,_,_=>rfl
 | (m,k)::r,n,acc,h=>by
  unfold cellsFrom
  by_cases hk:k=.cell
  ·subst hk
   simp only[beq_self_eq_true,if_true]
   rw[kcD r _ _ fun z=>h (MH _ z),Eg]
   have hx:x≠m:=fun e=>h (by rw[e];exact Mx)
   have hb:(x==m)=false:=beq_eq_false_iff_ne.mpr hx
   rw[hb]
  ·have:(k==NameKind.cell)=false:=by simpa using hk
   simp only[this,Ey,if_false]
   exact kcD r _ _ fun z=>h (MH _ z)
noncomputable def relN(names ns:List (Str×NameKind)):List (Str×NameKind):=names.map fun(n,k)=>if(k== .free&&ns.lookup n==some .cell) then(n, .cell) else(n,k)
def kdI{scope:Scope}{env:Env}(hk:env.scope.kind=.function):(relabel scope env).names=relN scope.names env.scope.names:=by
 unfold relabel relN
 have e:(ScopeKind.function==ScopeKind.function)=true:=by decide
 simp only[hk,e,Bool.and_true]
 rfl
theorem kdx{ns:List (Str×NameKind)}{x:Str}:∀(names:List (Str×NameKind)),(relN names ns).lookup x=(names.lookup x).map fun k=>if(k== .free&&ns.lookup x==some .cell) then .cell else k
 |[]=>rfl
 | (n,k)::r=>by
  have ih:=kdx (ns:=ns) (x:=x) r
  show Er x ((if(k== .free&&ns.lookup n==some .cell)=true then(n,NameKind.cell) else(n,k))::relN r ns)=_
  by_cases hx:x=n
  ·subst hx
   by_cases hc:(k== .free&&ns.lookup x==some .cell)=true
   ·rw[if_pos hc]
    simp only[Eg,beq_self_eq_true,EK]
    rw[if_pos hc]
   ·rw[if_neg hc]
    simp only[Eg,beq_self_eq_true,EK]
    rw[if_neg hc]
  ·have hb:(x==n)=false:=beq_eq_false_iff_ne.mpr hx
   by_cases hc:(k== .free&&ns.lookup n==some .cell)=true
   ·rw[if_pos hc]
    simp only[Eg,hb]
    exact ih
   ·rw[if_neg hc]
    simp only[Eg,hb]
    exact ih
theorem km0{names ns:List (Str×NameKind)}{x:Str}(h:(relN names ns).lookup x>>.cell∨(relN names ns).lookup x>>.free):names.lookup x>>.cell∨names.lookup x>>.free:=by
 rw[kdx] at h
 cases e:names.lookup x with
 |none=>rw[e] at h;simp at h
 |some k=>
  rw[e] at h
  cases k <;> simp_all
def kjI{names ns:List (Str×NameKind)}{x:Str}(h:names.lookup x>>.free):(relN names ns).lookup x>>.cell∨(relN names ns).lookup x>>.free:=by
 rw[kdx,h]
 by_cases hc:ns.lookup x==some .cell
 ·left;simp[hc]
 ·right;simp[hc]
structure CompScope(X:Cx)(scope:Scope)(N:List Str)(cap:List (Option Nat)):Prop where
 kind:scope.kind=.function
 names:∀x∈scope.names,x.2=.local->scope.names.lookup x.1>>.local
 free:∀x∈scope.names,x.2=.free->X.env.scope.names.lookup x.1>>.cell∨X.env.scope.names.lookup x.1>>.free
 nd:N.Nodup
 len:cap.length=N.length
 cap:∀(j i:Nat)(x:Str),cap[j]?>>(some i)->N[j]?>>x->X.N[i]?>>x/\scope.names.lookup x>>.free/\(x,NameKind.cell)∉scope.names
noncomputable def kej(X:Cx)(scope:Scope)(C:Addr):List (Str×Addr):=cellsFrom (C+1) scope.names (closL X.env.cells scope.names [])
noncomputable def cxC(X:Cx)(scope:Scope)(N:List Str)(fp:List Addr)(s:Shared)(H:Hp)(C:Addr):Cx:=
 {X with N:=N,s₀:=s,H₀:=H,env:=compEnvC scope (kej X scope C) C X.env,outer:=X.stack,ex:=fp,fn:=fun x=>scope.names.lookup x==some .cell,pn:=[],xe:=fun _ _=>False}
theorem kf1{M:Model}{A:Around}{E:Value->Shared->Prop}{s:Shared}{scope:Scope}{globals:Addr}{cl:List (Str×Addr)}{qual:Str}{func:Option Addr}{code:Value}{outer:Env}{builtins:Addr}{Q:Env->Shared->Prop}
  (hQ:Q (newEnv scope s.heap.objs.size globals (cellsFrom (s.heap.objs.size+1) scope.names cl) qual func code (some outer) builtins) {s with heap:=pushCells (s.heap.push {cls:=.type "dict",data:=.dict #[]}) scope.names}):
  wpAny M A (newFunctionEnv scope globals cl [] qual func code (some outer) builtins) Q E s:=by
 simp only[newFunctionEnv,Option.isSome_some,if_true]
 refine wpAny_bind (wpAny_alloc ?_)
 refine wpAny_bind (wpAny_layCells _ (fun name kind cells=>by cases hkc:kind==NameKind.cell <;> simp[hkc]) _ _ _ _ ?_)
 rw[show({s with heap:=s.heap.push {cls:=.type "dict",data:=.dict #[]}}:Shared).heap.objs.size=s.heap.objs.size+1 from Heap.size_push ..]
 exact wpAny_bind (wpAny_pure (wpAny_pure hQ))
section
variable{X:Cx}{scope:Scope}{N:List Str}{cap:List (Option Nat)}{pins:List (Addr×Obj)}{σ:St}{H:Hp}{s:Shared}
theorem klV(I:Inv X pins σ H s){b:Addr}(hb:b∈frs X.stack):b<s.heap.objs.size:=by
 obtain⟨_,o,ho,_⟩:=I.stack.mem hb
 exact Heap.lt_size ho
theorem ke5(S:CompScope X scope N cap)(I:Inv X pins σ H s):closureFor scope X.env=pure (closL X.env.cells scope.names []):=
 kf6 fun x hx hf=>I.ok.has x.1 (S.free x hx hf)
theorem kb5{C:Addr}{x:Str}{c:Addr}(S:CompScope X scope N cap)(I:Inv X pins σ H s)(h:(kej X scope C).lookup x>>c):(cellsFrom (C+1) scope.names []).lookup x>>c∨X.env.cells.lookup x>>c:=by
 unfold kej at h
 rw[kb4] at h
 cases e:(cellsFrom (C+1) scope.names []).lookup x with
 |some c'=>
  rw[e] at h
  exact .inl h
 | none=>
  rw[e] at h
  have h':(closL X.env.cells scope.names []).lookup x>>c:=h
  rcases kf7 _ _ h' with⟨h1,h2⟩|h1
  ·obtain⟨c',ec⟩:=I.ok.has x (S.free _ h1 rfl)
   rw[ec] at h2
   rw[h2]
   exact .inr ec
  ·cases h1
theorem klC{fp:List Addr}{C D:Addr}{o:Obj}{s4:Shared}{m:Str->Option Value}(S:CompScope X scope N cap)(I:Inv X pins σ H s)(f:∀b∈fp,FpOk X pins H b)(hfp:∀b∈fp,b<s.heap.objs.size)
  (hk:∀b u,s.heap.get? b>>u->s4.heap.get? b>>u)(hns:s4.heap.Ns C m)(hC:s.heap.objs.size<=C)(hD:s.heap.objs.size<=D)(hDC:D≠C)(eD:s4.heap.get? D>>o)(hcell:∀v,o.data≠.cell v)
  (hnew:CellsOk s4.heap (C+1) (cellsFrom (C+1) scope.names []))(hos:s4.os=s.os)(hg:s4.gens=s.gens):Inv (cxC X scope N fp s H C) [(D,o)] (capσ cap σ) H s4:=by
 have stkne:∀b∈fp,b∉frs X.stack:=fun b hb hz=>by
  obtain⟨_,h1,h2,_⟩:=f b hb
  rcases MB.mp (I.stkSub b hz) with e|e
  ·exact h1 e
  ·exact h2 e
 have nw:∀{x:Str}{c:Addr},(cellsFrom (C+1) scope.names []).lookup x>>c->s4.heap.IsCell c none/\Nat.lt C c:=fun {x c} h=>hnew.empty x c (PySem.mem_of_lookup h)
 have od:∀{x:Str}{c:Addr},X.env.cells.lookup x>>c->c<s.heap.objs.size:=fun {x c} h=>let⟨_,q⟩:=I.cell x c h;q.lt
 refine⟨⟨I.ok.mod,S.kind,I.ok.glob,I.ok.blt,hC,fun x y c h1 h2=>?_,fun x h=>?_,fun x c h1 h2=>?_,I.ok.hd,I.ok.frames, .inl rfl,fun b hb=>⟨?_,fun x c e=>?_⟩,I.bs,Mz I.ok.bsz I.sz,fun b ob e hb=>?_,stkne,I.stack,I.stkFree⟩,
  hos,by rw[hg];exact I.bare,Un.kept hk,⟨m,hns,fun j x v e1 e2 e3=>?_⟩,fun x c e=>?_,I.hok.fresh hC,fun x c e=>?_,fun p hp=>?_,I.hok.kept hk,?_⟩
 ·rcases kb5 S I h1 with q1|q1 <;> rcases kb5 S I h2 with q2|q2
  ·exact name_of_addr hnew.apart (PySem.mem_of_lookup q1) (PySem.mem_of_lookup q2)
  ·exact absurd (Ex hC (nw q1).2) (Nat.not_lt_of_lt (od q2))
  ·exact absurd (Ex hC (nw q2).2) (Nat.not_lt_of_lt (od q1))
  ·exact I.ok.inj x y c q1 q2
 ·have h':(relabel scope X.env).names.lookup x>>.cell∨(relabel scope X.env).names.lookup x>>.free:=h
  rw[kdI I.ok.kind] at h'
  show ∃c,(cellsFrom (C+1) scope.names (closL X.env.cells scope.names [])).lookup x>>c
  rw[kb4]
  rcases km0 h' with q|q
  ·obtain⟨c,e⟩:=kex (n:=C+1) q
   rwa[c,by rw[e];rfl]
  ·obtain⟨c,e⟩:=ke6 (cells:=X.env.cells) scope.names [] (.inl (PySem.mem_of_lookup q))
   cases e2:(cellsFrom (C+1) scope.names []).lookup x with
   |some c'=>exact⟨c',rfl⟩
   |none=>exact⟨c,e⟩
 ·have h1':(scope.names.lookup x==some .cell)=true:=h1
  have q:scope.names.lookup x>>.cell:=by simpa using h1'
  obtain⟨c',e⟩:=kex (n:=C+1) q
  have h2':(cellsFrom (C+1) scope.names (closL X.env.cells scope.names [])).lookup x>>c:=h2
  rw[kb4,e] at h2'
  have h3:c'=c:=Option.some.inj h2'
  rw[<-h3]
  exact MI (Ex hC (nw e).2)
 ·exact MT (MX (hfp b hb) hC)
 ·rcases kb5 S I e with q|q
  ·exact Ek (Dh (MX (hfp b hb) hC) (nw q).2)
  ·exact(f b hb).2.2.2.2.1 x c q
 ·obtain⟨_,_,_,h4,_⟩:=f b hb
  rcases h4 with h4|h4
  ·exact I.ok.noex b ob e h4
  ·exact absurd (MX (Heap.lt_size e) (Mz I.ok.bsz h4)) (Em _)
 ·
  have e2':(cap.map fun o=>match o with|some i=>(σ[i]?).getD none|none=>none)[j]?>>(some v):=e2
  rw[MN] at e2'
  cases ec:cap[j]? with
  |none=>rw[ec] at e2';cases e2'
  | some oi=>
   rw[ec] at e2'
   cases oi with
   |none=>cases e2'
   | some i=>
    have e4:(σ[i]?).getD none>>v:=Option.some.inj e2'
    have e5: σ[i]?>>(some v):=by
     cases q: σ[i]? with
     |none=>rw[q] at e4;cases e4
     |some w=>rw[q] at e4;exact congrArg some e4
    obtain⟨h1,hf,hnc⟩:=S.cap j i x ec e1
    have hm:=PySem.mem_of_lookup hf
    have h2:=S.free _ hm rfl
    obtain⟨mo,_,hl⟩:=I.loc
    obtain⟨u,ru,lk⟩:=hl i x v h1 e5 (.inr h2)
    have h3:(relabel scope X.env).names.lookup x>>.cell∨(relabel scope X.env).names.lookup x>>.free:=by
     rw[kdI I.ok.kind]
     exact kjI hf
    rwa[u,ru, .inr ⟨h3,?_⟩]
    rcases lk with⟨k1,_⟩|⟨_,c,ec',z⟩
    ·have k1':X.env.scope.names.lookup x>>.local:=k1
     rcases h2 with h2|h2 <;> rw[h2] at k1' <;> cases k1'
    ·obtain⟨c',ec2⟩:=ke6 (cells:=X.env.cells) scope.names [] (.inl hm)
     have ec3:(kej X scope C).lookup x>>c':=by
      unfold kej
      rw[kcD _ _ _ hnc]
      exact ec2
     rcases kf7 _ _ ec2 with⟨_,q2⟩|q2
     ·rw[ec'] at q2
      have q3:c'=c:=q2
      subst q3
      obtain⟨oc,ho,hd⟩:=z
      rwa[c',ec3,oc,hk _ _ ho,hd]
     ·cases q2
 ·rcases kb5 S I e with q|q
  ·rwa[none,(nw q).1]
  ·obtain⟨v,oc,ho,hd⟩:=I.cell x c q
   rwa[v,oc,hk _ _ ho,hd]
 ·rcases kb5 S I e with q|q
  ·exact I.hok.fresh (Mz hC (MI (nw q).2))
  ·exact I.freeC x c q
 ·have e:p=(D,o):=by simpa[cxC] using hp
  subst e
  rwa[eD,I.hok.fresh hD,hDC,fun hz=>absurd (klV I hz) (Dj.mpr hD),hcell]
 ·show(cap.map _).length=N.length
  rw[Mu,S.len]
theorem comp_back{fp:List Addr}{C:Addr}{σ':St}{H':Hp}{s':Shared}(I:Inv X pins σ H s)(f:∀b∈fp,FpOk X pins H b)(J:Inv (cxC X scope N fp s H C) [] σ' H' s'):Inv X pins σ H' s':=
 I.call' (ch:=fp) J.os J.base J.hok J.bare fun b hb=>let⟨_,h1,_,h3,h4,h5⟩:=f b hb;⟨h3,h1,h4,h5⟩
end
def PIf(X:Cx)(ifs:List Expr)(t:TT):Prop:=∀(pins:List (Addr×Obj))(s:Shared)(σ:St)(H:Hp)(Q:Bool->Hp->Prop),Inv X pins σ H s->t σ H Q->
 wpAny (model X.prog X.w) X.A (forIn ifs true fun c r=>if r=true then do let ok <-isTrue c X.env (eval c X.env);pure (ForInStep.yield ok) else pure (ForInStep.yield r)) (TP X pins σ Q) X.xe s
def tYes:TT:=fun _ H Q=>Q true H
def kjV{X:Cx}:PIf X [] tYes:=fun _ _ _ H _ I h=>wpAny_tests_nil ⟨H,I,h⟩
def khj{X:Cx}{c:Expr}{t:TT}(h:PT X c t):PIf X [c] t:=fun pins s σ H Q I hw=>wpAny_tests_one (h pins s σ H Q I hw)
theorem kgX{prog:Program}{w:World}{A:Around}{R:Result->Shared->Prop}{s:Shared}{elt target iter:Expr}{ifs:List Expr}{scope:Scope}{pos:Pos}{it acc:Value}{env:Env}(I:Nat->Shared->Prop)
  (turn:∀n s,I n s->wpAny (model prog w) A (pyNext it) (fun r s₁=>match r with
   |none=>R (.ok .next) s₁
   | some v=>wpAny (model prog w) A (letOwnedTupleGo target it v) (fun _ s₁'=>wpAny (model prog w) A (assign target env v) (fun _ s₂=>
     wpAny (model prog w) A (forIn ifs true fun c r=>if r=true then do let ok <-isTrue c env (eval c env);pure (ForInStep.yield ok) else pure (ForInStep.yield r)) (fun ok s₂'=>
      if ok=true then wpAny (model prog w) A (eval elt env) (fun x s₃=>
       wpAny (model prog w) A (call (.builtin "list.append") [acc,x]) (fun _ s₄=>∃m,m<n/\I m s₄) (fun _ _=>False) s₃) (fun _ _=>False) s₂'
      else ∃m,m<n/\I m s₂') (fun _ _=>False) s₂) (fun _ _=>False) s₁') (fun _ _=>False) s₁) (fun _ _=>False) s)
  (n:Nat)(h:I n s):codeAny (model prog w) A (.compLoop (.ListComp elt [⟨target,iter,ifs,0⟩] scope pos) 0 it acc env) R s:=by
 refine codeAny_loop rfl I (fun n s hI=>?_) n h
 show wpAny _ _ ((compTurn (.ListComp elt [⟨target,iter,ifs,0⟩] scope pos) 0 it acc env).onRaise (fun x=>do noteFrame x env;theTreesLotGoes x)) _ _ s
 refine wpAny_noted ?_
 rw[compTurn_list]
 refine wpAny_bind (wpAny_standAt (wpAny_bind (wpAny_mono (turn n s hI) (fun r s₁ h₁=>?_) fun _ _ h'=>h'.elim)))
 cases r with
 |none=>exact wpAny_pure h₁
 | some v=>
  refine wpAny_bind (wpAny_mono h₁ (fun _ s₁' h₁'=>?_) fun _ _ h'=>h'.elim)
  refine wpAny_bind (wpAny_mono h₁' (fun _ s₂ h₂=>wpAny_bind (wpAny_mono h₂ (fun ok s₂' h₂'=>?_) fun _ _ h'=>h'.elim)) fun _ _ h'=>h'.elim)
  cases ok with
  |false=>exact wpAny_pure ⟨rfl,h₂'⟩
  |true=>
   exact wpAny_bind (wpAny_bind (wpAny_mono h₂' (fun x s₃ h₃=>wpAny_bind (wpAny_mono h₃ (fun _ s₄ h₄=>wpAny_pure (wpAny_pure ⟨rfl,h₄⟩)) fun _ _ h'=>h'.elim)) fun _ _ h'=>h'.elim))
def knI(wi:TI)(cap:List (Option Nat))(g:TG)(tt:TT)(te:TE):TE:=fun σ H Q=>wi σ H fun J H1=>∃W:Nat->Nat->St->List V->Hp->Prop,(∃m,W 0 m (capσ cap σ) [] H1)/\∀i m σ' ys H',W i m σ' ys H'->
 (J.stop i H'/\∀D,H' D=none->Q (.ref D) (upd H' D (.lst ys)))∨(J.go i H'/\ys.length<sizeLine/\∃(N:St->V->Hp->Prop)(N0:St->Hp->Prop),(∀σ2 y H4,N σ2 y H4->∃m',m'<m/\W (i+1) m' σ2 (ys++[y]) H4)/\(∀σ2 H4,N0 σ2 H4->∃m',m'<m/\W (i+1) m' σ2 ys H4)/\
  ∀x H2,J.yld i H' x H2->g x σ' H2 fun σ2 H3=>tt σ2 H3 fun b H4=>if b=true then te σ2 H4 (N σ2) else N0 σ2 H4)
def tComp(wi:TI)(cap:List (Option Nat))(g:TG)(te:TE):TE:=fun σ H Q=>wi σ H fun J H1=>∃W:Nat->Nat->St->List V->Hp->Prop,(∃m,W 0 m (capσ cap σ) [] H1)/\∀i m σ' ys H',W i m σ' ys H'->
 (J.stop i H'/\∀D,H' D=none->Q (.ref D) (upd H' D (.lst ys)))∨(J.go i H'/\ys.length<sizeLine/\∃N:St->V->Hp->Prop,(∀σ2 y H4,N σ2 y H4->∃m',m'<m/\W (i+1) m' σ2 (ys++[y]) H4)/\
  ∀x H2,J.yld i H' x H2->g x σ' H2 fun σ2 H3=>te σ2 H3 (N σ2))
section
variable{X:Cx}{scope:Scope}{N:List Str}{cap:List (Option Nat)}{pins:List (Addr×Obj)}{σ:St}{H2:Hp}{s2:Shared}{tg elt iter:Expr}{ifs:List Expr}{pos:Pos}{g:TG}{tt:TT}{te:TE}
theorem kd2{fp:List Addr}{it:Addr}{tn:Nat->Heap->Prop}{J:It}{Q:VK}{RR:Value->Addr->Result->Shared->Prop}{E:Value->Shared->Prop}(S:CompScope X scope N cap)(hc:X.calm=true)
  (hg:∀fp s H C,PG (cxC X scope N fp s H C) tg g)(ht:∀fp s H C,PIf (cxC X scope N fp s H C) ifs tt)(he:∀fp s H C,PE (cxC X scope N fp s H C) elt te)
  (I2:Inv X pins σ H2 s2)(T:Turn X.prog X.w X.K tg J fp it tn)(st2:tn 0 s2.heap)(f2:∀b∈fp,FpOk X pins H2 b)
  (W:Nat->Nat->St->List V->Hp->Prop){m0:Nat}(w0:W 0 m0 (capσ cap σ) [] H2)
  (turn:∀i m σ' ys H',W i m σ' ys H'->(J.stop i H'/\∀D,H' D=none->Q (.ref D) (upd H' D (.lst ys)))∨(J.go i H'/\ys.length<sizeLine/\∃(N:St->V->Hp->Prop)(N0:St->Hp->Prop),(∀σ2 y H4,N σ2 y H4->∃m',m'<m/\W (i+1) m' σ2 (ys++[y]) H4)/\(∀σ2 H4,N0 σ2 H4->∃m',m'<m/\W (i+1) m' σ2 ys H4)/\
   ∀x H2,J.yld i H' x H2->g x σ' H2 fun σ2 H3=>tt σ2 H3 fun b H4=>if b=true then te σ2 H4 (N σ2) else N0 σ2 H4))
  (hRR:∀(D C:Addr)(H':Hp)(s':Shared)(m:Str->Option Value),Inv X pins σ H' s'->FpOk X pins H' C->C≠D->s'.heap.Ns C m->Q (.ref D) H'->RR (.ref D) C (.ok .next) s'):
  wpAny (model X.prog X.w) X.A (newList []) (fun acc s₃=>wpAny (model X.prog X.w) X.A (newFunctionEnv scope X.env.globals (closL X.env.cells scope.names []) [] X.env.qual none .none (some X.env)) (fun cenv s₄=>
   codeAny (model X.prog X.w) X.A (.compStart (.ListComp elt [⟨tg,iter,ifs,0⟩] scope pos) 0 (.ref it) acc {cenv with scope:=relabel scope X.env}) (RR acc cenv.locals) s₄) E s₃) E s2:=by
 refine wpAny_newObj_type (kf1 ?_)
 dsimp only
 generalize hP:s2.heap.push {cls:=.type "list",dict:=none,data:=.seq ([]:List Value).toArray}=P
 have hnew:CellsOk (pushCells (P.push {cls:=.type "dict",data:=.dict #[]}) scope.names) (P.objs.size+1) (cellsFrom (P.objs.size+1) scope.names []):=by
  have q:=cellsFrom_ok scope.names (P.push {cls:=.type "dict",data:=.dict #[]}) (P.objs.size+1) [] ⟨fun _ _ hm=>(nomatch hm),Dg.nil⟩ (by rw[Heap.size_push];exact Mv _)
  rwa [Heap.size_push] at q
 have hns₁:(pushCells (P.push {cls:=.type "dict",data:=.dict #[]}) scope.names).Ns P.objs.size (fun _=>none):=(Heap.Ns.new P (.type "dict")).keeps (pushCells_keeps _ _)
 have keep₁:∀b o,P.get? b>>o->(pushCells (P.push {cls:=.type "dict",data:=.dict #[]}) scope.names).get? b>>o:=fun b o e=>pushCells_keeps _ _ b o (Heap.get?_push_of_some _ e)
 generalize pushCells (P.push {cls:=.type "dict",data:=.dict #[]}) scope.names=h₁ at hnew hns₁ keep₁⊢
 have hC:P.objs.size=s2.heap.objs.size+1:=by rw[<-hP,Heap.size_push]
 have hDC:s2.heap.objs.size≠P.objs.size:=by rw[hC];exact MT (DG _)
 have hCle:s2.heap.objs.size<=P.objs.size:=by rw[hC];exact Da _
 have hDle:s2.heap.objs.size<=s2.heap.objs.size:=Mv _
 have old:∀b o,s2.heap.get? b>>o->h₁.get? b>>o:=fun b o e=>keep₁ b o (hP▸Heap.get?_push_of_some _ e)
 have hacc:h₁.get? s2.heap.objs.size>>{cls:=.type "list",data:=.seq ([]:List Value).toArray}:=keep₁ _ _ (hP▸Heap.get?_push_size _ rfl)
 have hfp:∀b∈fp,b<s2.heap.objs.size:=fun b hb=>let⟨_,e,_⟩:=T.obj 0 _ st2 b hb;Heap.lt_size e
 generalize hDd:s2.heap.objs.size=D at hacc hDC hDle⊢
 rw[hDd] at hCle hC
 generalize P.objs.size=C at hnew hns₁ hC hDC hCle⊢
 have dne:∀b∈fp,D≠b:=fun b hb=>Ek (hDd▸hfp b hb)
 have cne:∀b∈fp,b≠C:=fun b hb=>MT (MX (hDd▸hfp b hb) hCle)
 have stkne:∀b∈fp,b∉frs X.stack:=fun b hb hz=>by
  obtain⟨_,h1,h2,_⟩:=f2 b hb
  rcases MB.mp (I2.stkSub b hz) with e|e
  ·exact h1 e
  ·exact h2 e
 have dfs:D∉frs X.stack:=fun hz=>absurd (klV I2 hz) (by rw[hDd];exact Em _)
 have dcell:∀x c,(kej X scope C).lookup x>>c->c≠D:=fun x c e z=>by
  rcases kb5 S I2 e with e|e
  ·have q:Nat.lt C c:=(hnew.empty x c (PySem.mem_of_lookup e)).2
   rw[z] at q
   exact absurd (Ex hCle q) (Em _)
  ·obtain⟨v,q⟩:=I2.cell x c e
   have:=q.lt
   rw[z,hDd] at this
   exact absurd this (Em _)
 have bcell:∀b∈fp,∀x c,(kej X scope C).lookup x>>c->c≠b:=fun b hb x c e=>by
  rcases kb5 S I2 e with e|e
  ·have q:Nat.lt C c:=(hnew.empty x c (PySem.mem_of_lookup e)).2
   exact Ek (Dh (MX (hDd▸hfp b hb) hCle) q)
  ·exact(f2 b hb).2.2.2.2.1 x c e
 have stat:∀{o:Obj}{H':Hp},(∀b∈fp,H' b=none)->∀b∈fp,FpOk (cxC X scope N fp s2 H2 C) [(D,o)] H' b:=fun {o H'} hn b hb=>
  ⟨hn b hb,cne b hb,stkne b hb, .inl hb,bcell b hb,fun p hp=>by
   have e:p=(D,o):=by simpa[cxC] using hp
   subst e
   exact dne b hb⟩
 have loop:∀s₃:Shared,s₃= {s2 with heap:=h₁}->
   codeAny (model X.prog X.w) X.A (.compLoop (.ListComp elt [⟨tg,iter,ifs,0⟩] scope pos) 0 (.ref it) (.ref D) (compEnvC scope (kej X scope C) C X.env)) (RR (.ref D) C) s₃:=by
  rintro s₃ rfl
  have I3:Inv (cxC X scope N fp s2 H2 C) [(D,_)] (capσ cap σ) H2 {s2 with heap:=h₁}:=
   klC S I2 f2 hfp old hns₁ (by rw[hDd];exact hCle) (by rw[hDd];exact Mv _) hDC hacc (fun v z=>by cases z) hnew rfl rfl
  refine kgX (fun n s'=>∃i σ' ys H' its k,Inv (cxC X scope N fp s2 H2 C) [] σ' H' s'/\tn i s'.heap/\(∀b∈fp,H' b=none)/\H' D=none/\s'.heap.get? D>>{cls:=.type "list",data:=.seq (its:List Value).toArray k}/\Vals ys its/\ys.length<=sizeLine/\W i n σ' ys H') ?_ m0
   ⟨0,_,[],H2,[],_,I3.pins_of (fun p hp=>nomatch hp),T.keep _ _ _ st2 (fun b hb o e=>old b o e),fun b hb=>(f2 b hb).1,I2.hok.fresh (by rw[hDd];exact Mv _),hacc, .nil,M7 _,w0⟩
  rintro n s3 ⟨i,σ3,ys,H3,its,k,J3,st3,fr3,hD3,e3,r3,z3,w3⟩
  have J3':Inv (cxC X scope N fp s2 H2 C) [(D,{cls:=.type "list",data:=.seq its.toArray k})] σ3 H3 s3:=J3.pins_of fun p hp=>by
   have e:p=(D,{cls:=.type "list",data:=.seq its.toArray k}):=by simpa using hp
   subst e
   rwa[e3,hD3,hDC,dfs,fun v z=>by cases z]
  rcases turn i n σ3 ys H3 w3 with⟨stop,qn⟩|⟨go,hlt,N',N0',hN,hN0,step⟩
  ·refine thn (T.done (cxC X scope N fp s2 H2 C) rfl rfl rfl hc i _ s3 σ3 H3 (fun _ _=>False) J3' (stat fr3) st3 stop) fun r s4 zz=>?_
   obtain⟨hr,I4⟩:=zz
   subst hr
   have e4:=(I4.pin (D,{cls:=.type "list",data:=.seq its.toArray k}) (by simp[cxC])).1
   have B:Inv X pins σ H3 s4:=comp_back I2 f2 (I4.pins_of fun p hp=>nomatch hp)
   obtain⟨m,hm,_⟩:=I4.loc
   have fD:FpOk X pins H3 D:=I2.fpOk (by rw[hDd];exact Mv _) hD3
   have B':Inv X pins σ (upd H3 D (.lst ys)) s4:=B.adopt fD (by rw[<-hDd];exact I2.sz) ⟨z3,its,k,r3,e4⟩
   refine hRR D C _ s4 m B' (I2.fpOk (by rw[hDd];exact hCle) ?_) hDC.symm hm (qn D hD3)
   rw[kah hDC.symm]
   exact I4.free
  ·refine thn (T.item (cxC X scope N fp s2 H2 C) rfl rfl rfl hc i _ s3 σ3 H3 (fun _ _=>False) J3' (stat fr3) st3 go) fun r s4 zz=>?_
   obtain⟨u,hr,h4⟩:=zz
   subst hr
   refine thn h4 fun _ s5 zz=>?_
   obtain⟨x,H5,I5,r5,y5,st5,fr5⟩:=zz
   have I5':=I5.pinned (stat fr5) (T.obj _ _ st5)
   refine thn (hg fp s2 H2 C _ s5 σ3 H5 x u _ I5' r5 (step x H5 y5)) fun _ s6 zz=>?_
   obtain⟨σ6,H6,I6,q6⟩:=zz
   refine thn (ht fp s2 H2 C _ s6 σ6 H6 _ I6 q6) fun ok s6' zz=>?_
   obtain⟨H6',I6',q6'⟩:=zz
   cases ok with
   | false=>
    have q6':N0' σ6 H6':=by simpa using q6'
    obtain⟨m',hm',w7⟩:=hN0 σ6 H6' q6'
    have p7:=I6'.pin (D,{cls:=.type "list",data:=.seq its.toArray k}) (by simp[cxC])
    have e7:s6'.heap.get? D>>{cls:=.type "list",data:=.seq its.toArray k}:=p7.1
    have pf:∀b∈fp,∀o,s5.heap.get? b>>o->s6'.heap.get? b>>o/\H6' b=none:=fun b hb o e=>
     let z:=I6'.pin (b,o) (Ea _ (Ea _ (kc9 hb e)))
     ⟨z.1,z.2.1⟩
    rwa[m',hm',i+1,σ6,ys,H6',its,_,I6'.pins_of (fun p hp=>nomatch hp),T.keep _ _ _ st5 (fun b hb o e=>(pf b hb o e).1),fun b hb=>?_,p7.2.1,e7,r3,z3,w7]
    obtain⟨o,e,_⟩:=T.obj _ _ st5 b hb
    exact(pf b hb o e).2
   |true=>
   have q6':te σ6 H6' (N' σ6):=by simpa using q6'
   refine thn (he fp s2 H2 C _ s6' σ6 H6' _ I6' q6') fun v s7 zz=>?_
   obtain⟨y,H7,I7,r7,q7⟩:=zz
   obtain⟨m',hm',w7⟩:=hN σ6 y H7 q7
   have p7:=I7.pin (D,{cls:=.type "list",data:=.seq its.toArray k}) (by simp[cxC])
   have e7:s7.heap.get? D>>{cls:=.type "list",data:=.seq its.toArray k}:=p7.1
   have hl7:=r3.length
   refine call_meets F.slot_list_append ⟨_,e7,rfl⟩ F.entry_list_append (F.args_list_append_2 _ _) (PySem.list_append D its.toArray k v (by rw[MS];lia)) ⟨e7,?_⟩
   have q8:=PySem.IsL.update e7 (·.push v)
   have ex8:its.toArray.push v=(its++[v]).toArray:=by simp
   rw[ex8] at q8
   have pf:∀b∈fp,∀o,s5.heap.get? b>>o->s7.heap.get? b>>o/\H7 b=none:=fun b hb o e=>
    let z:=I7.pin (b,o) (Ea _ (Ea _ (kc9 hb e)))
    ⟨z.1,z.2.1⟩
   have I7':Inv (cxC X scope N fp s2 H2 C) [] σ6 H7 s7:=I7.pins_of fun p hp=>nomatch hp
   refine⟨m',hm',i+1,σ6,ys++[y],H7,its++[v],_,I7'.turned (it:=D) (fun b o hb e=>(Heap.get?_update_other _ _ (Ne.symm hb)).trans e) p7.2.1 hDC (.inr (by show s2.heap.objs.size<=D;rw[hDd];exact Mv _)) dcell (fun p hp=>nomatch hp),
    T.keep _ _ _ st5 (fun b hb o e=>(Heap.get?_update_other _ _ (dne b hb)).trans (pf b hb o e).1),fun b hb=>?_,p7.2.1,q8,r3.append (.cons r7 .nil),by rw[ML,Am];lia,w7⟩
   obtain⟨o,e,_⟩:=T.obj _ _ st5 b hb
   exact(pf b hb o e).2
 have st1:tn 0 h₁:=T.keep _ _ _ st2 (fun b hb o e=>old b o e)
 exact codeAny_compStart_list (loop _ rfl) (T.self X.A 0 _ _ _ st1 (loop _ rfl))
theorem kfV{wi:TI}(S:CompScope X scope N cap)(hc:X.calm=true)(hi:PI X tg iter wi)(hg:∀fp s H C,PG (cxC X scope N fp s H C) tg g)(ht:∀fp s H C,PIf (cxC X scope N fp s H C) ifs tt)(he:∀fp s H C,PE (cxC X scope N fp s H C) elt te)
  (hs:autoParam (∀x,foldedSetIterable iter X.env x=pure x) jJ):PE X (.ListComp elt [⟨tg,iter,ifs,0⟩] scope pos) (knI wi cap g tt te):=by
 intro pins s σ H Q I h
 rw[eval_ListComp]
 refine wpAny_comprehension_free (use:=none) rfl hs (ke5 S I) S.kind S.names (thn (hi pins s σ H _ I h) fun v s1 h1=>thn h1 fun itv s2 h2=>?_)
 obtain⟨it,fp,tn,J,H2,e,I2,T,st2,f2,W,⟨m0,w0⟩,turn⟩:=h2
 subst e
 refine kd2 (RR:=fun acc C=>compPost (model X.prog X.w) X.A X.xe none (EP X pins σ Q) acc C) S hc hg ht he I2 T st2 f2 W w0 turn fun D C H' s' m B fC hCD hm q=>?_
 obtain⟨c0,c1,c2,c3,c4,c5⟩:=fC
 rwa[m,hm,fun h' hs'=>⟨.ref D,H',B.turned (t':=s'.toks) (fun b o hb e=>(hs'.2 b hb).trans e) c0 c1 c3 c4 c5,rfl,q⟩]
theorem kgW{J:It}{Q:VK}{W:Nat->Nat->St->List V->Hp->Prop}(h:∀i m σ' ys H',W i m σ' ys H'->(J.stop i H'/\∀D,H' D=none->Q (.ref D) (upd H' D (.lst ys)))∨(J.go i H'/\ys.length<sizeLine/\∃N:St->V->Hp->Prop,(∀σ2 y H4,N σ2 y H4->∃m',m'<m/\W (i+1) m' σ2 (ys++[y]) H4)/\
   ∀x H2,J.yld i H' x H2->g x σ' H2 fun σ2 H3=>te σ2 H3 (N σ2))):∀i m σ' ys H',W i m σ' ys H'->(J.stop i H'/\∀D,H' D=none->Q (.ref D) (upd H' D (.lst ys)))∨(J.go i H'/\ys.length<sizeLine/\∃(N:St->V->Hp->Prop)(N0:St->Hp->Prop),(∀σ2 y H4,N σ2 y H4->∃m',m'<m/\W (i+1) m' σ2 (ys++[y]) H4)/\(∀σ2 H4,N0 σ2 H4->∃m',m'<m/\W (i+1) m' σ2 ys H4)/\
   ∀x H2,J.yld i H' x H2->g x σ' H2 fun σ2 H3=>tYes σ2 H3 fun b H4=>if b=true then te σ2 H4 (N σ2) else N0 σ2 H4):=by
 intro i m σ' ys H' w
 rcases h i m σ' ys H' w with h|⟨go,hl,N,hN,st⟩
 ·exact .inl h
 ·refine .inr ⟨go,hl,N,fun _ _=>False,hN,(fun _ _ z=>z.elim),fun x H2 y=>?_⟩
  have e:(fun(σ2:St)(H3:Hp)=>tYes σ2 H3 fun b H4=>if b=true then te σ2 H4 (N σ2) else False)=fun σ2 H3=>te σ2 H3 (N σ2):=by
   funext σ2 H3
   show(if true=true then te σ2 H3 (N σ2) else False)=te σ2 H3 (N σ2)
   rw[if_pos rfl]
  rw[e]
  exact st x H2 y
theorem kbf{wi:TI}(S:CompScope X scope N cap)(hc:X.calm=true)(hi:PI X tg iter wi)(hg:∀fp s H C,PG (cxC X scope N fp s H C) tg g)(he:∀fp s H C,PE (cxC X scope N fp s H C) elt te)
  (hs:autoParam (∀x,foldedSetIterable iter X.env x=pure x) jJ):PE X (.ListComp elt [⟨tg,iter,[],0⟩] scope pos) (tComp wi cap g te):=by
 intro pins s σ H Q I h
 rw[eval_ListComp]
 refine wpAny_comprehension_free (use:=none) rfl hs (ke5 S I) S.kind S.names (thn (hi pins s σ H _ I h) fun v s1 h1=>thn h1 fun itv s2 h2=>?_)
 obtain⟨it,fp,tn,J,H2,e,I2,T,st2,f2,W,⟨m0,w0⟩,turn⟩:=h2
 subst e
 refine kd2 (RR:=fun acc C=>compPost (model X.prog X.w) X.A X.xe none (EP X pins σ Q) acc C) S hc hg (fun _ _ _ _=>kjV) he I2 T st2 f2 W w0 (kgW turn) fun D C H' s' m B fC hCD hm q=>?_
 obtain⟨c0,c1,c2,c3,c4,c5⟩:=fC
 rwa[m,hm,fun h' hs'=>⟨.ref D,H',B.turned (t':=s'.toks) (fun b o hb e=>(hs'.2 b hb).trans e) c0 c1 c3 c4 c5,rfl,q⟩]
theorem keQ{wi:TI}{i:Nat}{y:Str}{py spos:Pos}(S:CompScope X scope N cap)(hc:X.calm=true)(hi:PI X tg iter wi)(hg:∀fp s H C,PG (cxC X scope N fp s H C) tg g)(he:∀fp s H C,PE (cxC X scope N fp s H C) elt te)
  (hA:PG X (.Name y py) (gName i))(hsw:autoParam (swapsWith (.ListComp elt [⟨tg,iter,[],0⟩] scope pos) (some (.Name y py)) spos.line X.env=pure true) jz)
  (hs:autoParam (∀x,foldedSetIterable iter X.env x=pure x) jJ):PS X (.Assign [.Name y py] (.ListComp elt [⟨tg,iter,[],0⟩] scope pos) spos) (tAsg (tComp wi cap g te) (gName i)):=by
 intro pins s σ H D I h
 rw[exec_Assign_Name_used _ _ _ _ hsw]
 refine wpAny_bind (wpAny_standAt (wpAny_bind ?_))
 show wpAny _ X.A (do let _ <-comprehension (.ListComp elt [⟨tg,iter,[],0⟩] scope pos) scope X.env _ (newList []) false (eval iter X.env) (some (assign (.Name y py) X.env))) _ _ s
 refine wpAny_bind (wpAny_mono (wpAny_comprehension_free (use:=some (assign (.Name y py) X.env)) (Q:=fun _ s'=>SP X pins D .next s') rfl hs (ke5 S I) S.kind S.names
  (thn (hi pins s σ H _ I h) fun v s1 h1=>thn h1 fun itv s2 h2=>?_)) (fun _ s' hq=>wpAny_pure (wpAny_pure hq)) fun _ _ e=>e)
 obtain⟨it,fp,tn,J,H2,e,I2,T,st2,f2,W,⟨m0,w0⟩,turn⟩:=h2
 subst e
 refine kd2 (Q:=fun v H'=>gName i v σ H' D.nx) (RR:=fun acc C=>compPost (model X.prog X.w) X.A X.xe (some (assign (.Name y py) X.env)) (fun _ s'=>SP X pins D .next s') acc C) S hc hg (fun _ _ _ _=>kjV) he I2 T st2 f2 W w0 (kgW (Q:=fun v H'=>gName i v σ H' D.nx) turn) fun D' C H' s' m B fC hCD hm q=>?_
 obtain⟨c0,c1,c2,c3,c4,c5⟩:=fC
 obtain⟨oC,es,ep,eC,dC,kC⟩:=hm
 have B':Inv X (pins++[(C,oC)]) σ H' s':=B.pins_of fun p hp=>by
  rcases MY.mp hp with hp|hp
  ·exact B.pin p (Ea _ hp)
  ·have e:p=(C,oC):=by simpa using hp
   subst e
   rwa[eC,c0,c1,c2,fun v z=>by rw[dC] at z;cases z]
 refine thn (hA _ s' σ H' (.ref D') (.ref D') _ B' rfl q) fun _ s'' zz=>?_
 obtain⟨σ2,H3,I3,q3⟩:=zz
 obtain⟨e3,n3,_⟩:=I3.pin (C,oC) (Ea _ (Ea _ (by simp)))
 rwa[m,⟨oC,es,ep,e3,dC,kC⟩,fun h' hs'=>⟨σ2,H3,I3.unpinned.turned (t':=s''.toks) (fun b o hb e=>(hs'.2 b hb).trans e) n3 c1 c3 c4 c5,q3⟩]
end
section
variable{g:TG}{te:TE}{σ:St}{H:Hp}{R:List V->Hp->Addr->Prop}
theorem kb3{K:Mt}{a:Addr}{xs:List V}(Pv:Nat->St->List V->Hp->Prop)(h0:Pv 0 σ [] H)(hz:xs.length<=sizeLine)(hl:∀i σ ys H,i<=xs.length->Pv i σ ys H->SqL K H a xs/\ys.length=i)
  (hs:∀i x σ ys H,xs[i]?>>x->Pv i σ ys H->g x σ H fun σ2 H2=>te σ2 H2 fun y H3=>Pv (i+1) σ2 (ys++[y]) H3)(hd:∀σ ys H,Pv xs.length σ ys H->∀D,H D=none->R ys H D):
  ∃ W:Nat->Nat->St->List V->Hp->Prop,(∃m,W 0 m σ [] H)/\∀i m σ' ys H',W i m σ' ys H'->
   ((Itl K a).stop i H'/\∀D,H' D=none->R ys H' D)∨((Itl K a).go i H'/\ys.length<sizeLine/\∃N:St->V->Hp->Prop,(∀σ2 y H4,N σ2 y H4->∃m',m'<m/\W (i+1) m' σ2 (ys++[y]) H4)/\
    ∀x H2,(Itl K a).yld i H' x H2->g x σ' H2 fun σ2 H3=>te σ2 H3 (N σ2)):=by
 rwa[fun i m σ ys H=>m=xs.length-i/\i<=xs.length/\Pv i σ ys H,⟨xs.length,by simp,M7 _,h0⟩,?_]
 rintro i m σ ys H ⟨rfl,hi,p⟩
 obtain⟨q,el⟩:=hl i σ ys H hi p
 by_cases hlt:i<xs.length
 ·refine .inr ⟨⟨xs,xs[i],q,by simp[hlt]⟩,by lia,fun σ2 y H3=>Pv (i+1) σ2 (ys++[y]) H3,fun σ' y H' p'=>⟨xs.length-(i+1),by lia,rfl,hlt,p'⟩,fun x H' yl=>?_⟩
  obtain⟨e,yl⟩:=yl
  subst e
  exact hs i x σ ys _ (yl xs q) p
 ·have e:i=xs.length:=by lia
  subst e
  exact .inl ⟨⟨xs,q,Mv _⟩,hd σ ys H p⟩
theorem kdb{lo:Int}{n:Nat}(Pv:Nat->St->List V->Hp->Prop)(h0:Pv 0 σ [] H)(hz:n<=sizeLine)(hl:∀i σ ys H,i<=n->Pv i σ ys H->ys.length=i)
  (hs:∀i σ ys H,i<n->Pv i σ ys H->g (.int (lo+i)) σ H fun σ2 H2=>te σ2 H2 fun y H3=>Pv (i+1) σ2 (ys++[y]) H3)(hd:∀σ ys H,Pv n σ ys H->∀D,H D=none->R ys H D):
  ∃ W:Nat->Nat->St->List V->Hp->Prop,(∃m,W 0 m σ [] H)/\∀i m σ' ys H',W i m σ' ys H'->
   ((Itr lo n).stop i H'/\∀D,H' D=none->R ys H' D)∨((Itr lo n).go i H'/\ys.length<sizeLine/\∃N:St->V->Hp->Prop,(∀σ2 y H4,N σ2 y H4->∃m',m'<m/\W (i+1) m' σ2 (ys++[y]) H4)/\
    ∀x H2,(Itr lo n).yld i H' x H2->g x σ' H2 fun σ2 H3=>te σ2 H3 (N σ2)):=by
 rwa[fun i m σ ys H=>m=n-i/\i<=n/\Pv i σ ys H,⟨n,by simp,M7 _,h0⟩,?_]
 rintro i m σ ys H ⟨rfl,hi,p⟩
 have el:=hl i σ ys H hi p
 by_cases hlt:i<n
 ·refine .inr ⟨hlt,by lia,fun σ2 y H3=>Pv (i+1) σ2 (ys++[y]) H3,fun σ' y H' p'=>⟨n-(i+1),by lia,rfl,hlt,p'⟩,fun x H' yl=>?_⟩
  obtain⟨e,yl⟩:=yl
  subst e yl
  exact hs i σ ys _ hlt p
 ·have e:i=n:=by lia
  subst e
  exact .inl ⟨Mv _,hd σ ys H p⟩
end
theorem CompScope.plain{X:Cx}{scope:Scope}{N:List Str}(kind:scope.kind=.function)(names:∀x∈scope.names,x.2=.local->scope.names.lookup x.1>>.local)(_:∀x∈scope.names,x.2≠.cell)(nf:∀x∈scope.names,x.2≠.free)(nd:N.Nodup):
  CompScope X scope N (My N.length none):=by
 rwa[kind,names,fun x hx hf=>absurd hf (nf x hx),nd,by simp,fun j i x e _=>?_]
 rw[De] at e
 split at e
 ·cases e
 ·cases e
noncomputable def kmj(scope:Scope)(ns:List (Str×NameKind))(XN N:List Str)(cap:List (Option Nat)):Bool:=
 scope.kind== .function&&scope.names.all (fun x=>!(x.2== .local)||scope.names.lookup x.1==some .local)&&scope.names.all (fun x=>!(x.2== .free)||(ns.lookup x.1==some .cell||ns.lookup x.1==some .free))&&decide N.Nodup&&decide (cap.length=N.length) &&
  (cap.zip N).all fun p=>match p.1 with
   |none=>true
   |some i=>XN[i]? ==some p.2&&scope.names.lookup p.2==some .free&&scope.names.all fun y=>!(y.1==p.2&&y.2== .cell)
def CompScope.of{X:Cx}{scope:Scope}{N:List Str}{cap:List (Option Nat)}(ns:List (Str×NameKind))(XN:List Str)(hn:X.env.scope.names=ns)(hN:X.N=XN)(h:kmj scope ns XN N cap=true):CompScope X scope N cap:=by
 unfold kmj at h
 simp only[Ew,decide_eq_true_eq,EY,Bool.or_eq_true,Bool.not_eq_true',beq_iff_eq,beq_eq_false_iff_ne] at h
 obtain⟨⟨⟨⟨⟨h1,h2⟩,h3⟩,h4⟩,h5⟩,h6⟩:=h
 rwa[h1,fun x hx hl=>?_,fun x hx hf=>?_,h4,h5,fun j i x e1 e2=>?_]
 ·rcases h2 x hx with q|q
  ·exact absurd hl q
  ·exact q
 ·rw[hn]
  rcases h3 x hx with q|q
  ·exact absurd hf q
  ·exact q
 ·have hz:(cap.zip N)[j]?>>(some i,x):=by
   rw[List.getElem?_zip_eq_some]
   rwa[e1,e2]
  have q:=h6 _ (MK hz)
  simp only[Ew,beq_iff_eq,EY,Bool.not_eq_true',Bool.and_eq_false_iff,beq_eq_false_iff_ne] at q
  obtain⟨⟨q1,q2⟩,q3⟩:=q
  rwa[by rw[hN];exact q1,q2,fun z=>?_]
  rcases q3 _ z with q|q
  ·exact q rfl
  ·exact q rfl
theorem Inv.turnedL{X:Cx}{pins:List (Addr×Obj)}{σ:St}{H:Hp}{s:Shared}{h':Heap}{t':Nat}{ch:List Addr}(I:Inv X pins σ H s)(k:∀b o,b∉ch->s.heap.get? b>>o->h'.get? b>>o)(hf:∀b∈ch,FpOk X pins H b):
  Inv X pins σ H {s with heap:=h',toks:=t'}:=by
 have nch:∀b u,H b>>u->b∉ch:=fun b u e z=>by
  have:=(hf b z).1
  rw[this] at e
  cases e
 refine I.step (g':=s.gens) (d':=s.drawn) (ch:=ch) (fun b hb=>let⟨_,h1,_,h3,h4,h5⟩:=hf b hb;⟨h3,h1,h4,h5⟩) (fun b o _ _ hc e _=>k b o hc e) (fun b o _ _ hc e _=>⟨o.slots,k b o hc e⟩) (fun _ _ _ _ n=>n)
  (fun b o hc e=>⟨o,k b o hc e⟩) (fun _ _ e=>e) (fun _ _ _ e=>e) (fun b ps e=>⟨#[],by rw[e];simp⟩) (fun m hm=>?_) (fun b u e=>?_) I.bare
 ·obtain⟨o,es,ep,ho,r⟩:=hm
  rwa[o,es,ep,k _ o (fun z=>(hf _ z).2.1 rfl) ho,r]
 ·refine(I.hok b u e).stay (fun c v hc q=>k c v ?_ q) (fun _ q=>q) fun _ _ q=>q
  rcases hc with z|z
  ·rw[z];exact nch b u e
  ·exact nch c _ z
noncomputable def Ite(a:Addr):It:=⟨fun i H=>∃xs x,H a>>(.lst xs)/\xs[i]?>>x,fun i H x H'=>∃t y,H t=none/\x=.ref t/\H'=upd H t (.tup [.int i,y])/\∀xs,H a>>(.lst xs)->xs[i]?>>y,fun i H=>∃xs,H a>>(.lst xs)/\xs.length<=i⟩
theorem ki3{P:Program}{w:World}{K:Mt}{es:List Expr}{k:Nat}{pos:Pos}(a e it:Addr)(hne:e≠it):Turn P w K (.Tuple es k pos) (Ite a) [e,it] e (fun i h=>(∃old,IsEnum h e it ((i:Nat):Int) old)/\h.IsListIter it a i) where
 mem:=by simp
 obj:=fun i h st b hb=>by
  obtain⟨⟨old,he⟩,o,eo,c,d⟩:=st
  have hb':b=e∨b=it:=by simpa using hb
  rcases hb' with rfl|rfl
  ·exact⟨_,he,fun v z=>by
    have z':Data.fields _=Data.cell v:=z
    cases z'⟩
  ·rwa[o,eo,fun v z=>by rw[d] at z;cases z]
 keep:=fun i h h' st k=>⟨let⟨old,he⟩:=st.1;⟨old,k e (by simp) _ he⟩,st.2.at fun o eo=>k it (by simp) o eo⟩
 item:=by
  intro X hP hw hK hc i pins s σ H E I hf st hg
  subst hP hw hK
  obtain⟨⟨old,he⟩,hit⟩:=st
  obtain⟨xs,x,hq,hx⟩:=hg
  obtain⟨its,n,r,ho,hz⟩:=I.lst hq
  obtain⟨u,hu,ru⟩:=r.get hx
  have hl:s.heap.IsList a its.toArray:=⟨_,ho,rfl,n,rfl⟩
  refine wpAny_pyNext_enum_item he hit hl (x:=u) (by simpa using hu) hne fun h1 heo hit1 ht1 hz1 hk1=>?_
  rwa[.ref s.heap.objs.size,6,wpAny_letOwnedTupleGo_enum heo fun h2 he2 hs2=>?_]
  have hs2':Heap.SameBut e h1 h2:=hs2
  have el:e<s.heap.objs.size:=Heap.lt_size he
  have kk:∀b o,b∉[e,it]->s.heap.get? b>>o->h2.get? b>>o:=fun b o hb eo=>by
   have hb':b≠e/\b≠it:=by simpa using hb
   exact(hs2'.2 b hb'.1).trans (hk1 b o hb'.1 hb'.2 eo)
  have I1:Inv X pins σ H {s with heap:=h2,toks:=s.toks+1}:=I.turnedL (ch:=[e,it]) kk hf
  have fr:H s.heap.objs.size=none:=I.hok.fresh (Mv _)
  have ft:FpOk X pins H s.heap.objs.size:=I.fpOk (Mv _) fr
  have ht2:h2.get? s.heap.objs.size>>{cls:=.type "tuple",data:=.seq #[.int i s.toks,u]}:=(hs2'.2 _ (Ek el)).trans ht1
  have I2:Inv X pins σ (upd H s.heap.objs.size (.tup [.int i,x])) {s with heap:=h2,toks:=s.toks+1}:=
   I1.adopt ft I.sz ⟨by show 2<=sizeLine;decide,[.int i s.toks,u], .cons ⟨_,rfl⟩ (.cons ru .nil),_,ht2,rfl,_,rfl⟩
  have hit2:h2.IsListIter it a (i+1):=hit1.extBut hs2'.extBut (Ne.symm hne)
  rwa[.ref s.heap.objs.size,_,I2,6,⟨s.heap.objs.size,x,fr,rfl,rfl,fun ys hy=>by rw[hq] at hy;cases hy;exact hx⟩,⟨⟨u,?_⟩,hit2⟩,fun b hb=>?_]
  ·have e1:((i+1:Nat):Int)=(i:Int)+1:=rfl
   rw[e1]
   exact he2
  ·have hbl:b<s.heap.objs.size:=by
    have hb':b=e∨b=it:=by simpa using hb
    rcases hb' with rfl|rfl
    ·exact el
    ·obtain⟨o,eo,_⟩:=hit
     exact Heap.lt_size eo
   rw[kah (MT hbl)]
   exact(hf b hb).1
 done:=by
  intro X hP hw hK hc i pins s σ H E I hf st hg
  subst hP hw hK
  obtain⟨⟨old,he⟩,hit⟩:=st
  obtain⟨xs,hq,hx⟩:=hg
  obtain⟨its,n,r,ho,hz⟩:=I.lst hq
  have hl:s.heap.IsList a its.toArray:=⟨_,ho,rfl,n,rfl⟩
  have hlen:=r.length
  obtain⟨f0,f1,f2,f3,f4,f5⟩:=hf it (by simp)
  exact wpAny_pyNext_enum_end (I.ok.hd hc) he hit hl (by simp;lia) fun h' eb=>⟨rfl,I.turned (t':=s.toks) (fun b o hb e=>eb b o hb e) f0 f1 f3 f4 f5⟩
 self:=fun _ _ _ _ _ st h=>let⟨_,he⟩:=st.1;wpAny_pyIter_enum he h
section
variable{X:Cx}
inductive kmD(R:It->Hp->Prop)(vs:List V)(H1:Hp):Prop
 |ct a xs (_:vs=[.ref a]) (_:H1 a>>(.lst xs)) (_:R (Ite a) H1):kmD R vs H1
def iEnum(ta:TA):TI:=fun σ H R=>ta σ H fun vs H1=>kmD R vs H1
theorem kfT{es:List Expr}{k:Nat}{tpos:Pos}{e:Expr}{ta:TA}{p pos:Pos}(hg:Gl X "enumerate")(hm:X.mg "enumerate"=none)(ha:PA X [e] ta)(he:autoParam (starEach [e] X.env=(false,eval e X.env)::starEach [] X.env) jz)
  (hpl:autoParam ((backTo pos (starEach [] X.env)).any (·.1)=false) jz):PI X (.Tuple es k tpos) (.Call (.Name "enumerate" p) [e] [] pos) (iEnum ta):=by
 intro pins s σ H R I h
 refine Call_ (kef I hg hm boot_enumerate (PyProof.Rows.callWith_type1 (thn (ha pos pins s σ H _ I h) fun us s1 zz=>?_) he hpl))
 obtain⟨vs,H1,I1,r1,q1⟩:=zz
 obtain⟨a,xs,rfl,hq,q⟩:=q1
 obtain⟨u,rfl,rx⟩:=vals1 r1
 cases rx
 obtain⟨its,n,r,ho,hz⟩:=I1.lst hq
 refine call_enumerate_1 ho fun h' he' hit' hsz hk=>wpAny_pyIter_enum he' ?_
 have I2:Inv X pins σ H1 {s1 with heap:=h'}:=I1.kept (t':=s1.toks) hk
 rwa[s1.heap.objs.size+1,[s1.heap.objs.size+1,s1.heap.objs.size],_,_,H1,6,I2,ki3 a (s1.heap.objs.size+1) s1.heap.objs.size (Nat.succ_ne_self _),⟨⟨_,he'⟩,hit'⟩,fun b hb=>?_,q]
 have hb':b=s1.heap.objs.size+1∨b=s1.heap.objs.size:=by simpa using hb
 have hle:s1.heap.objs.size<=b:=by rcases hb' with rfl|rfl <;> lia
 exact I1.fpOk hle (I1.hok.fresh hle)
end
theorem kiq{a:Addr}{xs:List V}{g:TG}{tb:TS}{D:Ends}{σ:St}{H:Hp}(Pv:Nat->St->Hp->Prop)(h0:Pv 0 σ H)(hl:∀i σ H,i<=xs.length->Pv i σ H->H a>>(.lst xs))
  (hs:∀i y t σ H,xs[i]?>>y->Pv i σ H->H t=none->g (.ref t) σ (upd H t (.tup [.int (i:Nat),y])) fun σ2 H2=>tb {D with nx:=Pv (i+1),ct:=Pv (i+1),bk:=D.nx} σ2 H2)(hd:∀σ H,Pv xs.length σ H->D.nx σ H):
  ∃W:Nat->Nat->St->Hp->Prop,(∃m,W 0 m σ H)/\∀i m σ H,W i m σ H->
   ((Ite a).stop i H/\D.nx σ H)∨((Ite a).go i H/\∃N:St->Hp->Prop,(∀σ' H',N σ' H'->∃m',m'<m/\W (i+1) m' σ' H')/\∀x H',(Ite a).yld i H x H'->g x σ H' fun σ2 H2=>tb {D with nx:=N,ct:=N,bk:=D.nx} σ2 H2):=by
 rwa[fun i m σ H=>m=xs.length-i/\i<=xs.length/\Pv i σ H,⟨xs.length,by simp,M7 _,h0⟩,?_]
 rintro i m σ H ⟨rfl,hi,p⟩
 have q:=hl i σ H hi p
 by_cases hlt:i<xs.length
 ·refine .inr ⟨⟨xs,xs[i],q,by simp[hlt]⟩,Pv (i+1),fun σ' H' p'=>⟨xs.length-(i+1),by lia,rfl,hlt,p'⟩,fun x H' y=>?_⟩
  obtain⟨t,y,hn,rfl,rfl,hy⟩:=y
  exact hs i y t σ _ (hy xs q) p hn
 ·have e:i=xs.length:=by lia
  subst e
  exact .inl ⟨⟨xs,q,Mv _⟩,hd σ H p⟩
theorem kkC{a:Addr}{xs:List V}{g:TG}{te:TE}{σ:St}{H:Hp}{R:List V->Hp->Addr->Prop}(Pv:Nat->St->List V->Hp->Prop)(h0:Pv 0 σ [] H)(hz:xs.length<=sizeLine)(hl:∀i σ ys H,i<=xs.length->Pv i σ ys H->H a>>(.lst xs)/\ys.length=i)
  (hs:∀i y t σ ys H,xs[i]?>>y->Pv i σ ys H->H t=none->g (.ref t) σ (upd H t (.tup [.int (i:Nat),y])) fun σ2 H2=>te σ2 H2 fun y H3=>Pv (i+1) σ2 (ys++[y]) H3)(hd:∀σ ys H,Pv xs.length σ ys H->∀D,H D=none->R ys H D):
  ∃ W:Nat->Nat->St->List V->Hp->Prop,(∃m,W 0 m σ [] H)/\∀i m σ' ys H',W i m σ' ys H'->
   ((Ite a).stop i H'/\∀D,H' D=none->R ys H' D)∨((Ite a).go i H'/\ys.length<sizeLine/\∃N:St->V->Hp->Prop,(∀σ2 y H4,N σ2 y H4->∃m',m'<m/\W (i+1) m' σ2 (ys++[y]) H4)/\
    ∀x H2,(Ite a).yld i H' x H2->g x σ' H2 fun σ2 H3=>te σ2 H3 (N σ2)):=by
 rwa[fun i m σ ys H=>m=xs.length-i/\i<=xs.length/\Pv i σ ys H,⟨xs.length,by simp,M7 _,h0⟩,?_]
 rintro i m σ ys H ⟨rfl,hi,p⟩
 obtain⟨q,el⟩:=hl i σ ys H hi p
 by_cases hlt:i<xs.length
 ·refine .inr ⟨⟨xs,xs[i],q,by simp[hlt]⟩,by lia,fun σ2 y H3=>Pv (i+1) σ2 (ys++[y]) H3,fun σ' y H' p'=>⟨xs.length-(i+1),by lia,rfl,hlt,p'⟩,fun x H' yl=>?_⟩
  obtain⟨t,y,hn,rfl,rfl,hy⟩:=yl
  exact hs i y t σ ys _ (hy xs q) p hn
 ·have e:i=xs.length:=by lia
  subst e
  exact .inl ⟨⟨xs,q,Mv _⟩,hd σ ys H p⟩
section
variable{X:Cx}
theorem kiy:∀{bs:List Bool}{us:List Value}{i:Nat}{v:Value},Vals (bs.map V.bl) us->us[i]?>>v->∃b,bs[i]?>>b/\v=.bool b
 |[],_,_,_, .nil,e=>by simp at e
 |b::bs,u::us,0,v, .cons r _,e=>by
  have e':u=v:=by simpa using e
  subst e'
  rwa[b,6,r]
 |b::bs,u::us,i+1,v, .cons _ t,e=>by
  obtain⟨b',h1,h2⟩:=kiy (i:=i) (v:=v) t (by simpa using e)
  rwa[b',by simpa using h1,h2]
theorem kiw(hc:X.calm=true):CallR X (.builtin "all") (fun xs H Q=>∃(p:Addr)(bs:List Bool),xs=[.ref p]/\SqL X.K H p (bs.map V.bl)/\Q (.bl (bs.all id)) H):=by
 intro pins s σ H xs us Q I r h
 obtain⟨p,bs,rfl,hq,q⟩:=h
 obtain⟨u,rfl,rx⟩:=vals1 r
 cases rx
 obtain⟨its,r',pl,hz⟩:=I.list hq
 have hl:=pl.isList
 have hlt:p<s.heap.objs.size:=by obtain⟨_,e,_⟩:=hl;exact Heap.lt_size e
 have hlen:=r'.length
 refine call_all_walk (wpAny_pyIter_list hl ?_)
 refine⟨s.heap.objs.size,[s.heap.objs.size,p],[s.heap.objs.size],its.toArray.size,_,_,fun i=>(bs[i]?).getD true,rfl,Walks.list (A:=X.A.in1) (I.ok.hd hc) _ p (MT hlt) its.toArray,
  ⟨⟨_,Heap.get?_push_size _ rfl,rfl,rfl⟩,hl.push _⟩,fun i v s' Q' E' hP hQ=>?_,fun h' tk hk=>?_⟩
 ·obtain⟨b,e,rfl⟩:=kiy (i:=i) (v:=v) r' (by simpa using hP)
  simp only[e,Option.getD_some] at hQ
  exact wpAny_truthy_bool hQ
 ·have e:((MG its.toArray.size).all fun i=>(bs[i]?).getD true)=bs.all id:=by
   rw[MS,<-hlen,Mu]
   exact LSm.range_all bs
  rw[e]
  rwa[.bl _,H,I.kept (LSm.kept_iter hk),6,q]
theorem b_all:bootBuiltins "all">>(.builtin "all"):=by cutsat
end
section
variable{X:Cx}
end
section
variable{prog:Program}{w:World}{A:Around}{E:Value->Shared->Prop}{s:Shared}
end
section
variable{X:Cx}
end
section
variable{X:Cx}{CX:CXT}{k:Nat}{f C:Addr}{fd:FuncData}{ps ks:List Str}{sp:Sp}{E:XK}{x:Str}{p pos:Pos}{e:Expr}{es:List Expr}{kws:List Keyword}{t tk:TA}{g:List Value->List Value->List Value}{gV:List V->List V->List V}
end
section
variable{X:Cx}{K:Mt}{pos:Pos}
theorem kaj{e:Expr}{ta:TE}{f:Str}(he:PE X e ta)(hb:attributeBase e f X.env (eval e X.env)=eval e X.env)(hK:autoParam (X.K=K) jz):PE X (.Attribute e f pos) (tFld K ta f):=by
 subst hK
 exact knZ he hb
theorem kaK{tg l:Expr}{tl:TE}(hl:PE X l tl)(hK:autoParam (X.K=K) jz):PI X tg l (iList K tl):=by
 subst hK
 exact km3 hl
theorem kbm{es:List Expr}{k:Nat}{t:TGs}{n:Nat}(hc:X.calm=true)(h:PGs X es t)(hK:autoParam (X.K=K) jz)
  (hn:autoParam ((assignEach es X.env).length=n) jz) (hst:autoParam ((assignEach es X.env).findIdx? (·.1)=none) jz):PG X (.Tuple es k pos) (gTup K n t):=by
 subst hK
 exact knW hc h hn hst
end
section
variable{X:Cx}
theorem koc{xs:List V}{us:List Value}(r:Vals xs us){j:Nat}(h:j<us.toArray.size):∃x,xs[j]?>>x/\RelV x us.toArray[j]:=by
 have h':j<us.length:=by simpa using h
 have l:=r.length
 obtain⟨u,e,ru⟩:=r.get (i:=j) (x:=xs[j]'(by lia)) (by simp[show j<xs.length by lia])
 rwa[xs[j]'(by lia),by simp[show j<xs.length by lia],?_]
 have:us.toArray[j]=u:=by
  obtain⟨_,e'⟩:=MO.mp e
  simpa using e'
 rw[this]
 exact ru
end
noncomputable def Itz(a b:Addr):It:=⟨fun i H=>∃xs ys x y,H a>>(.lst xs)/\H b>>(.lst ys)/\xs[i]?>>x/\ys[i]?>>y,
 fun i H v H'=>∃t x y,H t=none/\v=.ref t/\H'=upd H t (.tup [x,y])/\(∀xs,H a>>(.lst xs)->xs[i]?>>x)/\∀ys,H b>>(.lst ys)->ys[i]?>>y,
 fun i H=>∃xs ys,H a>>(.lst xs)/\H b>>(.lst ys)/\(xs.length<=i∨ys.length<=i)⟩
theorem khE{P:Program}{w:World}{K:Mt}{es:List Expr}{k:Nat}{pos:Pos}(a b z TI TO i1 i2:Addr)(nd:[z,TI,TO,i1,i2].Nodup):
  Turn P w K (.Tuple es k pos) (Itz a b) [z,TI,TO,i1,i2] z (fun i h=>IsZip h z TI TO .none/\IsPair h TI (.ref i1) (.ref i2)/\(∃u v,IsPair h TO u v)/\h.IsListIter i1 a i/\h.IsListIter i2 b i) where
 mem:=by simp
 obj:=fun i h st b hb=>by
  obtain⟨hz,hI,⟨_,_,hO⟩,⟨o1,e1,_,d1⟩,⟨o2,e2,_,d2⟩⟩:=st
  simp only[MB,MR,or_false] at hb
  rcases hb with rfl|rfl|rfl|rfl|rfl
  ·rwa[_,hz,fun v q=>by cases(show Data.fields _=Data.cell v from q)]
  ·rwa[_,hI,fun v q=>by cases(show Data.seq _ _=Data.cell v from q)]
  ·rwa[_,hO,fun v q=>by cases(show Data.seq _ _=Data.cell v from q)]
  ·rwa[o1,e1,fun v q=>by rw[d1] at q;cases q]
  ·rwa[o2,e2,fun v q=>by rw[d2] at q;cases q]
 keep:=fun i h h' st kk=>by
  obtain⟨hz,hI,⟨u,v,hO⟩,h1,h2⟩:=st
  rwa[kk z (by simp) _ hz,kk TI (by simp) _ hI,⟨u,v,kk TO (by simp) _ hO⟩,h1.at fun o e=>kk i1 (by simp) o e,h2.at fun o e=>kk i2 (by simp) o e]
 item:=by
  intro X hP hw hK hc i pins s σ H E I hf st hg
  subst hP hw hK
  obtain⟨hz,hI,⟨u,v,hO⟩,h1,h2⟩:=st
  obtain⟨xs,ys,x,y,ha,hb,hx,hy⟩:=hg
  obtain⟨its1,n1,r1,ho1,_⟩:=I.lst ha
  obtain⟨its2,n2,r2,ho2,_⟩:=I.lst hb
  obtain⟨u1,g1,ru1⟩:=r1.get hx
  obtain⟨u2,g2,ru2⟩:=r2.get hy
  have L1:s.heap.IsList a its1.toArray:=⟨_,ho1,rfl,n1,rfl⟩
  have L2':s.heap.IsList b its2.toArray:=⟨_,ho2,rfl,n2,rfl⟩
  have off:∀{l:Addr}{zs:List V},H l>>(.lst zs)->l∉[z,TI,TO,i1,i2]:=fun {l zs} e m=>by
   have:=(hf l m).1
   rw[this] at e
   cases e
  have oa:=off ha
  have ob:=off hb
  have nd':=nd
  simp only[Ed,MB,MR,or_false,not_or,ES,and_true,not_false_eq_true] at nd' oa ob
  obtain⟨⟨nzI,nzO,nz1,nz2⟩,⟨nIO,nI1,nI2⟩,⟨nO1,nO2⟩,n12⟩:=nd'
  have D:ZipApart z TI TO i1 i2 a b:=⟨Ne.symm nzI,Ne.symm nzO,Ne.symm nz1,Ne.symm nz2,nIO,nI1,nI2,nO1,nO2,n12,oa.1,oa.2.2.1,oa.2.2.2.1,oa.2.2.2.2,ob.1,ob.2.2.1,ob.2.2.2.1,ob.2.2.2.2⟩
  refine wpAny_pyNext_zip_item D hz hI hO h1 h2 L1 L2' (x:=u1) (y:=u2) (by simpa using g1) (by simpa using g2) fun h' a1 a2 a3 a4 a5 a6 a7=>?_
  rwa[.ref s.heap.objs.size,6,wpAny_letOwnedTupleGo_zip a1 fun h2' z2 s2=>?_]
  have s2':Heap.SameBut z h' h2':=s2
  have zl:z<s.heap.objs.size:=Heap.lt_size hz
  have kk:∀b o,b∉[z,TI,TO,i1,i2]->s.heap.get? b>>o->h2'.get? b>>o:=fun b o hb eo=>by
   simp only[MB,MR,or_false,not_or] at hb
   exact(s2'.2 b hb.1).trans (a7 b o hb.1 hb.2.2.1 hb.2.2.2.1 hb.2.2.2.2 eo)
  have I1:Inv X pins σ H {s with heap:=h2',toks:=s.toks}:=I.turnedL (ch:=[z,TI,TO,i1,i2]) kk hf
  have fr:H s.heap.objs.size=none:=I.hok.fresh (Mv _)
  have ft:FpOk X pins H s.heap.objs.size:=I.fpOk (Mv _) fr
  have t2:h2'.get? s.heap.objs.size>>{cls:=.type "tuple",data:=.seq #[u1,u2]}:=(s2'.2 _ (Ek zl)).trans a5
  have I2:Inv X pins σ (upd H s.heap.objs.size (.tup [x,y])) {s with heap:=h2',toks:=s.toks}:=
   I1.adopt ft I.sz ⟨by show 2<=sizeLine;decide,[u1,u2], .cons ru1 (.cons ru2 .nil),_,t2,rfl,_,rfl⟩
  have hI2:IsPair h2' TI (.ref i1) (.ref i2):=(s2'.2 _ (Ne.symm nzI)).trans (a7 TI _ (Ne.symm nzI) nIO nI1 nI2 hI)
  refine⟨.ref s.heap.objs.size,_,I2,rfl,⟨s.heap.objs.size,x,y,fr,rfl,rfl,fun ws e=>by rw[ha] at e;cases e;exact hx,fun ws e=>by rw[hb] at e;cases e;exact hy⟩,
   ⟨z2,hI2,⟨_,_,(s2'.2 _ (Ne.symm nzO)).trans a2⟩,a3.extBut s2'.extBut (Ne.symm nz1),a4.extBut s2'.extBut (Ne.symm nz2)⟩,fun b hb=>?_⟩
  have hbl:b<s.heap.objs.size:=by
   simp only[MB,MR,or_false] at hb
   rcases hb with rfl|rfl|rfl|rfl|rfl
   ·exact zl
   ·exact Heap.lt_size hI
   ·exact Heap.lt_size hO
   ·obtain⟨o,e,_⟩:=h1;exact Heap.lt_size e
   ·obtain⟨o,e,_⟩:=h2;exact Heap.lt_size e
  rw[kah (MT hbl)]
  exact(hf b hb).1
 done:=by
  intro X hP hw hK hc i pins s σ H E I hf st hg
  subst hP hw hK
  obtain⟨hz,hI,⟨u,v,hO⟩,h1,h2⟩:=st
  obtain⟨xs,ys,ha,hb,hx⟩:=hg
  obtain⟨its1,n1,r1,ho1,_⟩:=I.lst ha
  obtain⟨its2,n2,r2,ho2,_⟩:=I.lst hb
  have L1:s.heap.IsList a its1.toArray:=⟨_,ho1,rfl,n1,rfl⟩
  have L2':s.heap.IsList b its2.toArray:=⟨_,ho2,rfl,n2,rfl⟩
  have hlen1:=r1.length
  have hlen2:=r2.length
  have off:∀{l:Addr}{zs:List V},H l>>(.lst zs)->l∉[z,TI,TO,i1,i2]:=fun {l zs} e m=>by
   have:=(hf l m).1
   rw[this] at e
   cases e
  have oa:=off ha
  have ob:=off hb
  have nd':=nd
  simp only[Ed,MB,MR,or_false,not_or,ES,and_true,not_false_eq_true] at nd' oa ob
  obtain⟨⟨nzI,nzO,nz1,nz2⟩,⟨nIO,nI1,nI2⟩,⟨nO1,nO2⟩,n12⟩:=nd'
  have D:ZipApart z TI TO i1 i2 a b:=⟨Ne.symm nzI,Ne.symm nzO,Ne.symm nz1,Ne.symm nz2,nIO,nI1,nI2,nO1,nO2,n12,oa.1,oa.2.2.1,oa.2.2.2.1,oa.2.2.2.2,ob.1,ob.2.2.1,ob.2.2.2.1,ob.2.2.2.2⟩
  refine wpAny_pyNext_zip_end (I.ok.hd hc) D hz hI hO h1 h2 L1 L2' ?_ fun h' hk=>⟨rfl,?_⟩
  ·rcases hx with hx|hx
   ·exact .inl (by simp;lia)
   ·exact .inr (by simp;lia)
  ·refine I.turnedL (t':=s.toks) (ch:=[z,TI,TO,i1,i2]) (fun b o hb e=>?_) hf
   simp only[MB,MR,or_false,not_or] at hb
   exact hk b o hb.1 hb.2.2.1 hb.2.2.2.1 hb.2.2.2.2 e
 self:=fun _ _ _ _ _ st h=>wpAny_pyIter_zip st.1 h
def kht(n:Nat):([n+4,n+2,n+3,n,n+1]:List Nat).Nodup:=by
 simp only[Ed,MB,MR,or_false,not_or,ES,and_true,not_false_eq_true]
 lia
def khu{n x:Nat}(h:x∈([n+4,n+2,n+3,n,n+1]:List Nat)):n<=x:=by
 simp only[MB,MR,or_false] at h
 lia
section
variable{X:Cx}
inductive QiZip(R:It->Hp->Prop)(vs:List V)(H1:Hp):Prop
 |ct a b xs ys (_:vs=[.ref a, .ref b]) (_:H1 a>>(.lst xs)) (_:H1 b>>(.lst ys)) (_:R (Itz a b) H1):QiZip R vs H1
def iZip(ta:TA):TI:=fun σ H R=>ta σ H fun vs H1=>QiZip R vs H1
theorem kmm:bootBuiltins "zip">>(.type "zip"):=by cutsat
theorem kfS{es:List Expr}{k:Nat}{tpos:Pos}{e1 e2:Expr}{ta:TA}{p pos:Pos}(hg:Gl X "zip")(hm:X.mg "zip"=none)(ha:PA X [e1,e2] ta)(he:autoParam (starEach [e1,e2] X.env=(false,eval e1 X.env)::starEach [e2] X.env) jz)
  (hpl:autoParam ((backTo pos (starEach [e2] X.env)).any (·.1)=false) jz):PI X (.Tuple es k tpos) (.Call (.Name "zip" p) [e1,e2] [] pos) (iZip ta):=by
 intro pins s σ H R I h
 refine Call_ (kef I hg hm kmm (PyProof.Rows.callWith_type1 (thn (ha pos pins s σ H _ I h) fun us s1 zz=>?_) he hpl))
 obtain⟨vs,H1,I1,r1,q1⟩:=zz
 obtain⟨a,b,xs,ys,rfl,qa,qb,q⟩:=q1
 cases r1 with
 | cons ra rr=>
  cases rr with
  |cons rb rr=>
   cases rr
   cases ra
   cases rb
   obtain⟨its1,n1,_,ho1,_⟩:=I1.lst qa
   obtain⟨its2,n2,_,ho2,_⟩:=I1.lst qb
   refine call_zip_2 (xs:=its1.toArray) (ys:=its2.toArray) ⟨_,ho1,rfl,n1,rfl⟩ ⟨_,ho2,rfl,n2,rfl⟩ fun h' b1 b2 b3 b4 b5 _ hk=>wpAny_pyIter_zip b1 ?_
   have I2:Inv X pins σ H1 {s1 with heap:=h'}:=I1.kept (t':=s1.toks) hk
   rwa[s1.heap.objs.size+4,[s1.heap.objs.size+4,s1.heap.objs.size+2,s1.heap.objs.size+3,s1.heap.objs.size,s1.heap.objs.size+1],_,_,H1,6,I2,khE a b _ _ _ _ _ (kht _),⟨b1,b2,⟨_,_,b3⟩,b4,b5⟩,fun x hx=>?_,q]
   have hle:s1.heap.objs.size<=x:=khu hx
   exact I1.fpOk hle (I1.hok.fresh hle)
end
theorem kkn{a b:Addr}{xs ys:List V}{g:TG}{tb:TS}{D:Ends}{σ:St}{H:Hp}(Pv:Nat->St->Hp->Prop)(h0:Pv 0 σ H)(hl:∀i σ H,i<=min xs.length ys.length->Pv i σ H->H a>>(.lst xs)/\H b>>(.lst ys))
  (hs:∀i x y t σ H,xs[i]?>>x->ys[i]?>>y->Pv i σ H->H t=none->g (.ref t) σ (upd H t (.tup [x,y])) fun σ2 H2=>tb {D with nx:=Pv (i+1),ct:=Pv (i+1),bk:=D.nx} σ2 H2)(hd:∀σ H,Pv (min xs.length ys.length) σ H->D.nx σ H):
  ∃W:Nat->Nat->St->Hp->Prop,(∃m,W 0 m σ H)/\∀i m σ H,W i m σ H->
   ((Itz a b).stop i H/\D.nx σ H)∨((Itz a b).go i H/\∃N:St->Hp->Prop,(∀σ' H',N σ' H'->∃m',m'<m/\W (i+1) m' σ' H')/\∀x H',(Itz a b).yld i H x H'->g x σ H' fun σ2 H2=>tb {D with nx:=N,ct:=N,bk:=D.nx} σ2 H2):=by
 rwa[fun i m σ H=>m=min xs.length ys.length-i/\i<=min xs.length ys.length/\Pv i σ H,⟨min xs.length ys.length,by simp,M7 _,h0⟩,?_]
 rintro i m σ H ⟨rfl,hi,p⟩
 obtain⟨q1,q2⟩:=hl i σ H hi p
 by_cases hlt:i<min xs.length ys.length
 ·refine .inr ⟨⟨xs,ys,xs[i]'(by lia),ys[i]'(by lia),q1,q2,by simp[show i<xs.length by lia],by simp[show i<ys.length by lia]⟩,Pv (i+1),fun σ' H' p'=>⟨min xs.length ys.length-(i+1),by lia,rfl,hlt,p'⟩,fun x H' y=>?_⟩
  obtain⟨t,x,y,hn,rfl,rfl,h1,h2⟩:=y
  exact hs i x y t σ _ (h1 _ q1) (h2 _ q2) p hn
 ·have e:i=min xs.length ys.length:=by lia
  refine .inl ⟨⟨xs,ys,q1,q2,by lia⟩,?_⟩
  rw[e] at p
  exact hd σ H p
theorem kf5{a b:Addr}{xs ys:List V}{g:TG}{te:TE}{σ:St}{H:Hp}{R:List V->Hp->Addr->Prop}(Pv:Nat->St->List V->Hp->Prop)(h0:Pv 0 σ [] H)(hz:min xs.length ys.length<=sizeLine)(hl:∀i σ zs H,i<=min xs.length ys.length->Pv i σ zs H->H a>>(.lst xs)/\H b>>(.lst ys)/\zs.length=i)
  (hs:∀i x y t σ zs H,xs[i]?>>x->ys[i]?>>y->Pv i σ zs H->H t=none->g (.ref t) σ (upd H t (.tup [x,y])) fun σ2 H2=>te σ2 H2 fun z H3=>Pv (i+1) σ2 (zs++[z]) H3)(hd:∀σ zs H,Pv (min xs.length ys.length) σ zs H->∀D,H D=none->R zs H D):
  ∃ W:Nat->Nat->St->List V->Hp->Prop,(∃m,W 0 m σ [] H)/\∀i m σ' zs H',W i m σ' zs H'->
   ((Itz a b).stop i H'/\∀D,H' D=none->R zs H' D)∨((Itz a b).go i H'/\zs.length<sizeLine/\∃N:St->V->Hp->Prop,(∀σ2 y H4,N σ2 y H4->∃m',m'<m/\W (i+1) m' σ2 (zs++[y]) H4)/\
    ∀x H2,(Itz a b).yld i H' x H2->g x σ' H2 fun σ2 H3=>te σ2 H3 (N σ2)):=by
 rwa[fun i m σ zs H=>m=min xs.length ys.length-i/\i<=min xs.length ys.length/\Pv i σ zs H,⟨min xs.length ys.length,by simp,M7 _,h0⟩,?_]
 rintro i m σ zs H ⟨rfl,hi,p⟩
 obtain⟨q1,q2,el⟩:=hl i σ zs H hi p
 by_cases hlt:i<min xs.length ys.length
 ·refine .inr ⟨⟨xs,ys,xs[i]'(by lia),ys[i]'(by lia),q1,q2,by simp[show i<xs.length by lia],by simp[show i<ys.length by lia]⟩,by lia,fun σ2 y H3=>Pv (i+1) σ2 (zs++[y]) H3,fun σ' y H' p'=>⟨min xs.length ys.length-(i+1),by lia,rfl,hlt,p'⟩,fun x H' yl=>?_⟩
  obtain⟨t,x,y,hn,rfl,rfl,h1,h2⟩:=yl
  exact hs i x y t σ zs _ (h1 _ q1) (h2 _ q2) p hn
 ·have e:i=min xs.length ys.length:=by lia
  refine .inl ⟨⟨xs,ys,q1,q2,by lia⟩,?_⟩
  rw[e] at p
  exact hd σ zs H p
section
variable{g:TG}{tt:TT}{te:TE}{σ:St}{H:Hp}{R:List V->Hp->Addr->Prop}
theorem kiv{J:It}{n:Nat}(Pv:Nat->St->List V->Hp->Prop)(h0:Pv 0 σ [] H)(hz:n<=sizeLine)(hl:∀i σ ys H,i<=n->Pv i σ ys H->ys.length<=i)(hgo:∀i σ ys H,i<n->Pv i σ ys H->J.go i H)(hst:∀σ ys H,Pv n σ ys H->J.stop n H)
  (hs:∀i σ ys H x H',i<n->Pv i σ ys H->J.yld i H x H'->g x σ H' fun σ2 H2=>tt σ2 H2 fun b H3=>if b=true then te σ2 H3 (fun y H4=>Pv (i+1) σ2 (ys++[y]) H4) else Pv (i+1) σ2 ys H3)(hd:∀σ ys H,Pv n σ ys H->∀D,H D=none->R ys H D):
  ∃ W:Nat->Nat->St->List V->Hp->Prop,(∃m,W 0 m σ [] H)/\∀i m σ' ys H',W i m σ' ys H'->
   (J.stop i H'/\∀D,H' D=none->R ys H' D)∨(J.go i H'/\ys.length<sizeLine/\∃(N:St->V->Hp->Prop)(N0:St->Hp->Prop),(∀σ2 y H4,N σ2 y H4->∃m',m'<m/\W (i+1) m' σ2 (ys++[y]) H4)/\(∀σ2 H4,N0 σ2 H4->∃m',m'<m/\W (i+1) m' σ2 ys H4)/\
    ∀x H2,J.yld i H' x H2->g x σ' H2 fun σ2 H3=>tt σ2 H3 fun b H4=>if b=true then te σ2 H4 (N σ2) else N0 σ2 H4):=by
 rwa[fun i m σ ys H=>m=n-i/\i<=n/\Pv i σ ys H,⟨n,by simp,M7 _,h0⟩,?_]
 rintro i m σ ys H ⟨rfl,hi,p⟩
 have el:=hl i σ ys H hi p
 by_cases hlt:i<n
 ·refine .inr ⟨hgo i σ ys H hlt p,by lia,fun σ2 y H3=>Pv (i+1) σ2 (ys++[y]) H3,fun σ2 H3=>Pv (i+1) σ2 ys H3,fun σ' y H' p'=>⟨n-(i+1),by lia,rfl,hlt,p'⟩,fun σ' H' p'=>⟨n-(i+1),by lia,rfl,hlt,p'⟩,fun x H' yl=>?_⟩
  exact hs i σ ys H x H' hlt p yl
 ·have e:i=n:=by lia
  subst e
  exact .inl ⟨hst σ ys H p,hd σ ys H p⟩
theorem kfz{K:Mt}{a:Addr}{xs:List V}(Pv:Nat->St->List V->Hp->Prop)(h0:Pv 0 σ [] H)(hz:xs.length<=sizeLine)(hl:∀i σ ys H,i<=xs.length->Pv i σ ys H->SqL K H a xs/\ys.length<=i)
  (hs:∀i x σ ys H,xs[i]?>>x->Pv i σ ys H->g x σ H fun σ2 H2=>tt σ2 H2 fun b H3=>if b=true then te σ2 H3 (fun y H4=>Pv (i+1) σ2 (ys++[y]) H4) else Pv (i+1) σ2 ys H3)(hd:∀σ ys H,Pv xs.length σ ys H->∀D,H D=none->R ys H D):
  ∃ W:Nat->Nat->St->List V->Hp->Prop,(∃m,W 0 m σ [] H)/\∀i m σ' ys H',W i m σ' ys H'->
   ((Itl K a).stop i H'/\∀D,H' D=none->R ys H' D)∨((Itl K a).go i H'/\ys.length<sizeLine/\∃(N:St->V->Hp->Prop)(N0:St->Hp->Prop),(∀σ2 y H4,N σ2 y H4->∃m',m'<m/\W (i+1) m' σ2 (ys++[y]) H4)/\(∀σ2 H4,N0 σ2 H4->∃m',m'<m/\W (i+1) m' σ2 ys H4)/\
    ∀x H2,(Itl K a).yld i H' x H2->g x σ' H2 fun σ2 H3=>tt σ2 H3 fun b H4=>if b=true then te σ2 H4 (N σ2) else N0 σ2 H4):=
 kiv Pv h0 hz (fun i σ ys H hi p=>(hl i σ ys H hi p).2) (fun i σ ys H hi p=>⟨xs,xs[i],(hl i σ ys H (MI hi) p).1,by simp[hi]⟩) (fun σ ys H p=>⟨xs,(hl _ σ ys H (Mv _) p).1,Mv _⟩)
  (fun i σ ys H x H' hi p yl=>by
   obtain⟨e,q⟩:=yl
   subst e
   exact hs i x σ ys _ (q xs (hl i σ ys _ (MI hi) p).1) p) hd
theorem kiY{a:Addr}{xs:List V}(Pv:Nat->St->List V->Hp->Prop)(h0:Pv 0 σ [] H)(hz:xs.length<=sizeLine)(hl:∀i σ ys H,i<=xs.length->Pv i σ ys H->H a>>(.lst xs)/\ys.length<=i)
  (hs:∀i y t σ ys H,xs[i]?>>y->Pv i σ ys H->H t=none->g (.ref t) σ (upd H t (.tup [.int (i:Nat),y])) fun σ2 H2=>tt σ2 H2 fun b H3=>if b=true then te σ2 H3 (fun y H4=>Pv (i+1) σ2 (ys++[y]) H4) else Pv (i+1) σ2 ys H3)(hd:∀σ ys H,Pv xs.length σ ys H->∀D,H D=none->R ys H D):
  ∃ W:Nat->Nat->St->List V->Hp->Prop,(∃m,W 0 m σ [] H)/\∀i m σ' ys H',W i m σ' ys H'->
   ((Ite a).stop i H'/\∀D,H' D=none->R ys H' D)∨((Ite a).go i H'/\ys.length<sizeLine/\∃(N:St->V->Hp->Prop)(N0:St->Hp->Prop),(∀σ2 y H4,N σ2 y H4->∃m',m'<m/\W (i+1) m' σ2 (ys++[y]) H4)/\(∀σ2 H4,N0 σ2 H4->∃m',m'<m/\W (i+1) m' σ2 ys H4)/\
    ∀x H2,(Ite a).yld i H' x H2->g x σ' H2 fun σ2 H3=>tt σ2 H3 fun b H4=>if b=true then te σ2 H4 (N σ2) else N0 σ2 H4):=
 kiv Pv h0 hz (fun i σ ys H hi p=>(hl i σ ys H hi p).2) (fun i σ ys H hi p=>⟨xs,xs[i],(hl i σ ys H (MI hi) p).1,by simp[hi]⟩) (fun σ ys H p=>⟨xs,(hl _ σ ys H (Mv _) p).1,Mv _⟩)
  (fun i σ ys H x H' hi p yl=>by
   obtain⟨t,y,hn,rfl,rfl,hy⟩:=yl
   exact hs i y t σ ys _ (hy xs (hl i σ ys _ (MI hi) p).1) p hn) hd
end
section
variable{X:Cx}
noncomputable def isI(k:Int):Value->Bool
 | .int a _=>a==k
 |_=>false
theorem kgR:∀{ns:List Int}{us:List Value},Vals (ns.map V.int) us->∀(j:Nat)(n:Int),ns[j]?>>n->∃t,us[j]?>>(.int n t)
 |[],_,_,j,n,e=>by simp at e
 | m::ns,u::us, .cons r t,j,n,e=>by
  cases j with
  |zero=>
   have e':m=n:=by simpa using e
   subst e'
   obtain⟨t,rfl⟩:=r
   rwa[t,6]
  |succ j=>
   obtain⟨q,h⟩:=kgR t j n (by simpa using e)
   rwa[q,by simpa using h]
end
structure BaseT(K:Mt)(C:Addr)(m:Str)(f:Addr):Prop where
 rd:DO K C (.type "type")=true
 ga:EN K (.ref C) "__getattribute__">>(some (.builtin "type.__getattribute__"))
 fc:DP K (.ref C) (.type "type") m>>(.val (.ref f))
section
variable{X:Cx}{CX:CXT}{k:Nat}{f C:Addr}{fd:FuncData}{ps:List Str}{sp:Sp}{dvs:List V}{ds:List Value}{E:XK}{x m:Str}{p pos apos:Pos}{e o:Expr}{es:List Expr}{ta:TE}{t:TA}
theorem kjZ{pl:Sem Bool}(B:BaseT X.K C m f)(F:FnOk X.prog X.w X.K X.mg X.base CX k f fd ps sp)(hr:Room k X.A)(hg:Gl X x)(hm:X.mg x>>(.ref C))(hk:MJ X.K (.ref f)=true)(hb:Binds X.K fd ps ds)(hd:Vals dvs ds)(hx:kc2 CX X E)
  (ha:PA X (e::es) t)(hdb:autoParam ((x==("__debug__" :Str))=false) jQ)
  (hst:autoParam (starEach (e::es) X.env=(false,eval e X.env)::starEach es X.env) jz)(hpl:autoParam ((backTo pos (starEach es X.env)).any (·.1)=false) jz)
  (ht:autoParam (eval (.Call (.Attribute (.Name x p) m apos) (e::es) [] pos) X.env=(do
   let ov <-eval (.Name x p) X.env
   standAt apos.atName
   let(f,first) <-holding [ov] (getMethod ov m pl)
   callWith pos f first (backTo pos (starEach (e::es) X.env)) (backToKw pos (keywordEach [] X.env)))) jz):
  PE X (.Call (.Attribute (.Name x p) m apos) (e::es) [] pos) (tCall sp dvs E t):=by
 intro pins s σ H Q I h
 refine DI (pl:=pl) (thn (kaI (v:=.ref C) hg hm rfl hdb pins s σ H (fun y H1=>y=.ref C/\H1=H) I ⟨rfl,rfl⟩) fun u s1 zz=>?_) ht
 obtain⟨y,H1,I1,ry,ey,eH⟩:=zz
 subst ey eH
 obtain rfl:u=Value.ref C:=ry
 refine PySem.W.method_cls I1.kIn B.ga (PySem.W.cls_value I1.kIn B.rd B.fc rfl ?_)
 have I2:=I1.tok (s1.toks+1)
 refine EI (h₀:=X.base) I.ok.mod.kin hk (thn (ha pos pins _ σ H1 _ I2 h) fun us s2 ⟨vs,H2,I3,r,q2⟩=>⟨I3.kIn,?_⟩) hst hpl
 exact kgx F hr hb hd hx I3 r q2
end
def khy:bootBuiltins "tuple">>(.type "tuple"):=by cutsat
def khr{n j:Nat}(h:j<n):ixN n (j:Int)>>j:=by
 unfold ixN
 rw[if_pos (by lia),if_pos (by lia)]
 simp
section
variable{X:Cx}
end
section
variable{X:Cx}
end
section
variable{g:TG}{te:TE}{σ:St}{H:Hp}{R:List V->Hp->Addr->Prop}
end
def b_str:bootBuiltins "str">>(.type "str"):=by cutsat
def pe_no{X:Cx}{e:Expr}:PE X e (fun _ _ _=>False):=fun _ _ _ _ _ _ h=>h.elim
section
variable{X:Cx}{CX:CXT}{k:Nat}{f C:Addr}{fd:FuncData}{ps ks:List Str}{sp:Sp}{E:XK}{x:Str}{p pos:Pos}{kws:List Keyword}{tk:TA}{g:List Value->List Value->List Value}{gV:List V->List V->List V}
end
section
variable{X:Cx}
def knG:TE:=fun _ H Q=>∀p,H p=none->Q (.ref p) (upd H p (.dK []))
theorem kll{pos:Pos}:PE X (.Dict [] [] pos) knG:=fun pins s σ H Q I h=>
 have big:sysModules<s.heap.objs.size:=Dh (by decide) (show mainGlobals<s.heap.objs.size from(I.mod.glob.keeps I.bk).lt)
 wpAny_Dict_empty ⟨.ref s.heap.objs.size,_,I.laid (a:=s.heap.objs.size) (o:=.dK []) (t':=s.toks) (fun _ _ q=>Heap.get?_push_of_some _ q) (Mv _)
  (show ObjOk X.prog X.w _ _ _ (.dK []) from⟨M7 _,beq_eq_false_iff_ne.mpr (Ne.symm (MT big)),[], .nil,Heap.DictOf.new _⟩),rfl,h _ (I.hok.fresh (Mv _))⟩
end
section
variable{X:Cx}
end
end L2
namespace Stb
open PySem PyProof.Rows
section
variable{prog:Program}{w:World}{A:Around}{E:Value->Shared->Prop}{s:Shared}{a₀:Array Keyed}
end
section
variable{prog:Program}{w:World}{A:Around}{E:Value->Shared->Prop}{s:Shared}{J:Shared->Prop}{n0:Nat}{a kS:Addr}{vs:List Value}{kz:List Int}{keys:Array Value}{e e1:Nat}{P:PySem.Fin->Shared->Prop}
end
section
variable{prog:Program}{w:World}{A:Around}{E:Value->Shared->Prop}{s:Shared}{J:Shared->Prop}{n0:Nat}{vs:List Value}{kz:List Int}{Q:Value->Shared->Prop}
end
end Stb
namespace L2
open PySem PySem.Spec PyProof.Rows
section
variable{X:Cx}{A:Around}{scope:Scope}{x:Str}{N:List Str}{cap:List (Option Nat)}{pins:List (Addr×Obj)}{σ:St}{H:Hp}{s s1:Shared}{qual:Str}{f c:Addr}
end
noncomputable def CodeO(c:Addr)(qual:Str):HO:=.ext fun h=>h.CodeRec (.ref c) qual
noncomputable def lamN(p:Pos):Str:=if p.col=38 then "first_use.<locals>.<lambda>" else "falling_groups.<locals>.<lambda>"
def TbAt(P:Addr)(H:Hp):Prop:=∃ps:Array Value,H P>>(.tbl ps)/\TriplesOk ps.toList/\∀pos c,codeAmong pos ps.toList>>c->∃c',c=.ref c'/\H c'>>(CodeO c' (lamN pos))
def CodeK(K:Mt)(c P:Addr):Prop:=
 ∃o vs file tf flags tg inF text tt,K.lookup c>>o/\o.cls=.type "code"/\o.data=.fields vs/\vs[11]?>>(.ref P)/\vs.getD 11 .none=.ref P/\vs.getD 18 .none=.str file tf/\vs.getD 7 .none=.int flags tg/\vs.getD 9 .none=.bool inF/\vs.getD 10 .none=.int text tt/\c≠P
def BltM(mg:Str->Option Value)(base:Heap):Prop:=∃bm ob,mg "__builtins__">>(.ref bm)/\bm≠builtinsNs/\base.get? bm>>ob/\ob.cls=.type "module"/\ob.dict>>builtinsNs/\ob.data=.plain
section
variable{X:Cx}{scope:Scope}{x:Str}{N:List Str}{cap:List (Option Nat)}{pins:List (Addr×Obj)}{σ:St}{H:Hp}{s:Shared}{c0 P:Addr}{params:Arguments}{body:Expr}{lpos:Pos}
end
section
variable{X:Cx}{scope:Scope}{x:Str}{N:List Str}{cap:List (Option Nat)}{pins:List (Addr×Obj)}{σ:St}{H:Hp}{s1:Shared}{f:Addr}{fo:Obj}
end
end L2
namespace L2
open PySem PySem.W PyProof.Rows
section
variable{X:Cx}
inductive kkU(x:V)(vs:List V)(H:Hp)(Q:VK):Prop
 |ct(l:Addr)(ns:List Int)(k:Int)(_:x=.ref l)(_:vs=[.int k])(_:H l>>(.lst (ns.map V.int)))(_:Q (.int (ns.count k:Nat)) H):kkU x vs H Q
def knP:V->List V->Hp->VK->Prop:=fun x vs H Q=>kkU x vs H Q
theorem ke4:∀{ns:List Int}{us:List Value}(k:Int),Vals (ns.map V.int) us->us.countP (isI k)=ns.count k
 |[],_,_, .nil=>rfl
 |m::ns,_::us,k, .cons r t=>by
  obtain⟨tk,rfl⟩:=r
  rw[List.countP_cons,DQ,ke4 k t]
  rfl
theorem klu:MtM X "list.count" knP:=by
 intro pins s σ H x vs v us Q I rx rv h
 obtain⟨l,ns,k,rfl,rfl,hH,q⟩:=h
 cases rx
 obtain⟨u,rfl,ru⟩:=rv.one
 obtain⟨t,rfl⟩:=ru
 obtain⟨z,its,n,r,hl,e⟩:=I.lstM hH
 refine call_meets F.slot_list_count ⟨_,e,rfl⟩ F.entry_list_count (F.args_list_count_2 _ _)
  (MeetsSeq.list_count l its.toArray n (.int k t) (isI k) (fun y hy=>?_)) ⟨e,?_⟩
 ·obtain⟨j,hj',rfl⟩:=Array.mem_iff_getElem.mp hy
  have hjl:j<its.length:=by simpa using hj'
  have hln:its.length=ns.length:=by rw[<-hl,Mu]
  obtain⟨tk,et⟩:=kgR r j ns[j] (by simp)
  obtain⟨_,e'⟩:=MO.mp et
  have e2:its.toArray[j]=.int ns[j] tk:=by simpa using e'
  rw[e2]
  exact MeetsSeq.EqGives.int _ k tk t
 ·rwa[.int (ns.count k:Nat),H,I.tok _,⟨s.toks,?_⟩,q]
  rw[List.toList_toArray,ke4 k r]
end
section
variable{X:Cx}{pins:List (Addr×Obj)}{σ:St}{H:Hp}{s:Shared}{A:Around}{E:Value->Shared->Prop}{Q:Value->Shared->Prop}
theorem knk{x:V}{u t:Value}{tp:Addr}{cs:List Value}{b:Bool}(I:Inv X pins σ H s)(rx:RelV x u)(ty:TyOf X.K H x t)(ht:IsTup s.heap tp cs.toArray)(e:PySem.W.kitAny X.K t cs>>b)
  (h:∀tk,Q (.bool b) {s with toks:=tk})(hx:∀a,x=.ref a->(∃xs,H a>>(.lst xs))∨∃xs,H a>>(.tup xs)):wpAny (model X.prog X.w) A (call (.builtin "isinstance") [u, .ref tp]) Q E s:=by
 obtain⟨⟨oc,od,dt,sl⟩,ho,hc,n,hd⟩:=ht
 have hc':oc=.type "tuple":=hc
 have hd':dt=.seq cs.toArray n:=hd
 subst hc' hd'
 cases ty with
 |non=>
  cases(show u=Value.none from rx)
  exact kia_tup kitx_none I.kIn True.intro ho e (by intro z;cases z) h
 |bl y=>
  cases(show u=Value.bool y from rx)
  exact kia_tup kitx_bool I.kIn True.intro ho e (by intro z;cases z) h
 |int i=>
  obtain⟨t,q⟩:=(show ∃t,u=Value.int i t from rx)
  cases q
  exact kia_tup kitx_int I.kIn True.intro ho e (by intro z;cases z) h
 |str y=>
  obtain⟨t,q⟩:=(show ∃t,u=Value.str y t from rx)
  cases q
  exact kia_tup kitx_str I.kIn True.intro ho e (by intro z;cases z) h
 |flt y=>
  obtain⟨t,q⟩:=(show ∃t,u=Value.float y t from rx)
  cases q
  exact kia_tup kitx_float I.kIn True.intro ho e (by intro z;cases z) h
 | @lst a xs ea=>
  cases(show u=Value.ref a from rx)
  have ok:ObjOk X.prog X.w H s.heap a (.lst xs):=I.hok a _ ea
  obtain⟨_,_,m,_,h1⟩:=ok
  exact kia_tup kitx_list I.kIn ⟨_,h1,rfl⟩ ho e (by intro z;cases z) h
 | @tup a xs ea=>
  cases(show u=Value.ref a from rx)
  have ok:ObjOk X.prog X.w H s.heap a (.tup xs):=I.hok a _ ea
  obtain⟨_,_,_,o,h1,h2,_⟩:=ok
  exact kia_tup kitx_tuple I.kIn ⟨o,h1,h2⟩ ho e (by intro z;cases z) h
 | @frz a o xs ea=>rcases hx a rfl with⟨ys,z⟩|⟨ys,z⟩ <;> rw[ea] at z <;> cases z
 | @dK a o ea=>rcases hx a rfl with⟨ys,z⟩|⟨ys,z⟩ <;> rw[ea] at z <;> cases z
 | @dT a o ea=>rcases hx a rfl with⟨ys,z⟩|⟨ys,z⟩ <;> rw[ea] at z <;> cases z
 | @ins a C dx fs ea=>rcases hx a rfl with⟨ys,z⟩|⟨ys,z⟩ <;> rw[ea] at z <;> cases z
theorem kbZ{K:Mt}{n m:String}(e:(Value.type n==Value.type m)=false)(hk:kitMeta m=true)(hf:(fastBuiltinMro n).map (·.contains (Value.type m))>>false):kitOne K (.type n) (.type m)>>false:=by
 unfold kitOne kitCls subIn
 rw[e,if_neg MD]
 show(if kitMeta m=true then _ else _)=_
 rw[if_pos hk]
 exact hf
theorem kiz{K:Mt}{t c c':Value}(h1:kitOne K t c>>false)(h2:kitOne K t c'>>false):kitAny K t [c,c']>>false:=by simp only[kitAny,h1,h2]
theorem any_t{K:Mt}{t c c':Value}(h1:kitOne K t c>>true):kitAny K t [c,c']>>true:=by simp only[kitAny,h1]
theorem kon{K:Mt}{t c c':Value}(h1:kitOne K t c>>false)(h2:kitOne K t c'>>true):kitAny K t [c,c']>>true:=by simp only[kitAny,h1,h2]
noncomputable def isSeq:Value->Bool
 | .type n=>n== "list" ||n== "tuple"
 |_=>false
inductive kkS(K:Mt)(xs:List V)(H:Hp)(Q:VK):Prop
 |ct(x:V)(tp:Addr)(t:Value)(_:xs=[x, .ref tp])(_:SqT K H tp [.ty "list", .ty "tuple"])(_:TyOf K H x t)(_:(t=.type "NoneType"∨t=.type "bool"∨t=.type "int"∨t=.type "str"∨t=.type "list"∨t=.type "tuple"))(_:(∀a,x=.ref a->(∃xs,H a>>(.lst xs))∨∃xs,H a>>(.tup xs)))(_:Q (.bl (isSeq t)) H):kkS K xs H Q
def kl8(K:Mt):List V->Hp->VK->Prop:=fun xs H Q=>kkS K xs H Q
theorem kiZ:CallR X (.builtin "isinstance") (kl8 X.K):=by
 intro pins s σ H xs us Q I r h
 obtain⟨x,tp,t,rfl,ht,ty,hor,hx,q⟩:=h
 obtain⟨u,w',rfl,r1,r2⟩:=vals2 r
 cases(show w'=Value.ref tp from r2)
 obtain⟨its,rv,pl,hz⟩:=I.tuple ht
 obtain⟨u1,u2,rfl,ra,rb⟩:=vals2 rv
 cases(show u1=Value.type "list" from ra)
 cases(show u2=Value.type "tuple" from rb)
 refine knk I r1 ty pl (b:=isSeq t) ?_ (fun tk=>⟨.bl _,H,I.tok tk,rfl,q⟩) hx
 rcases hor with rfl|rfl|rfl|rfl|rfl|rfl
 ·exact kiz (kbZ (by cutsat) (by cutsat) (by cutsat)) (kbZ (by cutsat) (by cutsat) (by cutsat))
 ·exact kiz (kbZ (by cutsat) (by cutsat) (by cutsat)) (kbZ (by cutsat) (by cutsat) (by cutsat))
 ·exact kiz (kbZ (by cutsat) (by cutsat) (by cutsat)) (kbZ (by cutsat) (by cutsat) (by cutsat))
 ·exact kiz (kbZ (by cutsat) (by cutsat) (by cutsat)) (kbZ (by cutsat) (by cutsat) (by cutsat))
 ·exact any_t (kbi _ _)
 ·exact kon (kbZ (by cutsat) (by cutsat) (by cutsat)) (kbi _ _)
noncomputable def rowV(H:Hp):V->List V
 | .ref b=>match H b with
  |some (.lst zs)=>zs
  |some (.tup zs)=>zs
  |_=>[]
 |_=>[]
theorem ps_no{st:Stmt}:PS X st (fun _ _ _=>False):=fun _ _ _ _ _ _ h=>h.elim
end
section
variable{X:Cx}
end
end L2
namespace L2
open PySem PySem.Spec PyProof.Rows
section
variable{prog:Program}{w:World}{A:Around}{E:Value->Shared->Prop}{s:Shared}
theorem nextT{q t:Addr}{k:Nat}{vs:Array Value}{v:Value}{Q:Value->Shared->Prop}(J:IsTupIter s.heap q t k)(T:IsTup s.heap t vs)(e:vs[k]?>>v)
  (K:∀g,IsTupIter g q t (k+1)->Heap.SameBut q s.heap g->Q v {s with heap:=g}):wpAny (model prog w) A (Builtin.SmallTypes.nextOf (.ref q)) Q E s:=by
 obtain⟨c,hc,c1,c2⟩:=id J
 obtain⟨u,hu,_,nu,du⟩:=T
 unfold Builtin.SmallTypes.nextOf
 refine wpAny_bind (wpAny_callSpecial?_slot (name:=Str.ofString "__next__") J.typeIs slot_tupleiter_next (wpAny_call_entry slot_tupleiter_next J.typeIs entry_tupleiter_next ?_ (args_tupleiter_next _)))
 show wpAny _ _ (field (.ref q) 0 >>= _) _ _ s
 refine wpAny_bind (wpAny_field hc c2 (x:=.ref t) rfl ?_)
 show wpAny _ _ (if(Value.ref t==Value.none)=true then _ else _) _ _ s
 rw[if_neg (show ¬(Value.ref t==Value.none)=true from MD)]
 show wpAny _ _ (field (.ref q) 1 >>= _) _ _ s
 refine wpAny_bind (wpAny_field hc c2 (x:=.int k 0) rfl (?_:wpAny _ _ (seqItems? (.ref t) >>= _) _ _ s))
 refine wpAny_bind (wpAny_seqItems hu du ?_)
 simp only[Int.toNat_natCast,e]
 refine wpAny_bind (wpAny_setField hc c2 (by simp) (wpAny_pure ⟨v,rfl,wpAny_pure (K _ ⟨_,Heap.get?_update_self _ hc (Obj.isFreed_of_fields (Obj.data_mapFields c2 _)),(Obj.cls_mapFields ..).trans c1,?_⟩ (Heap.SameBut.update ..))⟩))
 rw[Obj.data_mapFields c2]
 simp[rawInt]
theorem kgM{q t:Addr}{k:Nat}{vs:Array Value}{Q:Value->Shared->Prop}(n:A.handled=none)(J:IsTupIter s.heap q t k)(T:IsTup s.heap t vs)(e:vs[k]?=none)
  (K:∀g x,Heap.ExtBut q s.heap g->(∃o,g.get? x>>o/\o.cls=.type "StopIteration")->E (.ref x) {s with heap:=g}):wpAny (model prog w) A (Builtin.SmallTypes.nextOf (.ref q)) Q E s:=by
 obtain⟨c,hc,c1,c2⟩:=id J
 obtain⟨u,hu,_,nu,du⟩:=T
 unfold Builtin.SmallTypes.nextOf
 refine wpAny_bind (wpAny_callSpecial?_slot (name:=Str.ofString "__next__") J.typeIs slot_tupleiter_next (wpAny_call_entry slot_tupleiter_next J.typeIs entry_tupleiter_next ?_ (args_tupleiter_next _)))
 show wpAny _ _ (field (.ref q) 0 >>= _) _ _ s
 refine wpAny_bind (wpAny_field hc c2 (x:=.ref t) rfl ?_)
 show wpAny _ _ (if(Value.ref t==Value.none)=true then _ else _) _ _ s
 rw[if_neg (show ¬(Value.ref t==Value.none)=true from MD)]
 show wpAny _ _ (field (.ref q) 1 >>= _) _ _ s
 refine wpAny_bind (wpAny_field hc c2 (x:=.int k 0) rfl (?_:wpAny _ _ (seqItems? (.ref t) >>= _) _ _ s))
 refine wpAny_bind (wpAny_seqItems hu du ?_)
 simp only[Int.toNat_natCast,e]
 refine wpAny_bind (wpAny_rule (wpAny_bind (wpAny_setField hc c2 (by simp) (?_:wpAny _ _ (newExc (.type "StopIteration") [] >>= _) _ _ _))))
 refine wpAny_bind ?_
 simp only[newExc,newTuple]
 refine wpAny_bind (wpAny_newObj_type (wpAny_bind (m:=firstArgMember _ _) (wpAny_of_eq (a:=Value.none) (by first|rfl|(simp only[firstArgMember];rfl)) (wpAny_newObj_type ?_ (by size_fits)))) (by size_fits))
 simp only[raiseNew]
 refine wpAny_bind (wpAny_handled ?_)
 first|rw[n]|rw[show A.in1.handled=none from n]
 exact wpAny_bind (wpAny_pure (wpAny_throw (K _ _ (((Heap.SameBut.update ..).extBut.push _).push _) ⟨_,Heap.get?_push_size _ rfl,rfl⟩)))
theorem zipT{Z P O a b t u:Addr}{j k:Nat}{vs ws:Array Value}{x y c e:Value}{Q:Value->Shared->Prop}(D:ZipApart Z P O a b t u)(Hz:IsZip s.heap Z P O .none)(Hi:IsPair s.heap P (.ref a) (.ref b))(Ho:IsPair s.heap O c e)
  (J:IsTupIter s.heap a t j)(L:IsTupIter s.heap b u k)(T:IsTup s.heap t vs)(U:IsTup s.heap u ws)(hx:vs[j]?>>x)(hy:ws[k]?>>y)
  (K:∀g,IsZip g Z P O (rawInt s.heap.objs.size)->IsPair g O x y->IsTupIter g a t (j+1)->IsTupIter g b u (k+1)->IsPair g s.heap.objs.size x y->
   (∀n o,n≠Z->n≠O->n≠a->n≠b->s.heap.get? n>>o->g.get? n>>o)->Q (.ref s.heap.objs.size) {s with heap:=g}):
  wpAny (model prog w) A (Builtin.«zip.__next__» ⟨[.ref Z],[]⟩) (fun f s'=>∃v,f=.done (.ret v)/\Q v s') E s:=by
 show wpAny _ _ (field (.ref Z) 2 >>= _) _ _ _
 refine wpAny_bind (wpAny_field Hz rfl (x:=.bool false) rfl (?_:wpAny _ _ (field (.ref Z) 3 >>= _) _ _ _))
 refine wpAny_bind (wpAny_field Hz rfl (x:=.ref P) rfl (wpAny_bind (wpAny_seqItems Hi rfl ?_)))
 show wpAny _ _ (Builtin.SmallTypes.ownedTupleIsFree (.ref Z) >>= _) _ _ _
 refine wpAny_bind ?_
 unfold Builtin.SmallTypes.ownedTupleIsFree
 refine wpAny_bind (wpAny_field Hz rfl (x:=.none) rfl (wpAny_pure ?_))
 simp only[if_true]
 refine wpAny_bind (wpAny_rule (wpAny_bind (wpAny_field Hz rfl (x:=.ref O) rfl (wpAny_bind (wpAny_setField_rec Hz (by simp) fun g1 (Z1:IsZip g1 Z P O .ellipsis) r1=>?_)))))
 refine wpAny_bind ?_
 simp only[Dk,List.zipIdx_nil,DN,DM]
 refine wpAny_bind (wpAny_bind (wpAny_onRaise (?_:wpAny _ _ (Builtin.SmallTypes.nextOf (.ref a) >>= _) _ _ _)))
 refine wpAny_bind (nextT (J.extBut r1.extBut D.i1z) (T.extBut r1.extBut D.l1z) hx fun g2 J2 r2=>wpAny_pure ?_)
 have O2:IsPair g2 O c e:=r2.extBut _ _ D.TOi1 (r1.extBut _ _ D.TOz Ho)
 refine wpAny_bind (wpAny_seqItems O2 rfl (wpAny_bind (wpAny_updateSeq_pair O2 fun g3 (O3:IsPair g3 O x e) r3=>wpAny_bind (wpAny_letGo (wpAny_pure ?_)))))
 refine wpAny_bind (wpAny_bind (wpAny_onRaise (?_:wpAny _ _ (Builtin.SmallTypes.nextOf (.ref b) >>= _) _ _ _)))
 refine wpAny_bind (nextT (((L.extBut r1.extBut D.i2z).extBut r2.extBut D.i12.symm).extBut r3.extBut D.TOi2.symm) (((U.extBut r1.extBut D.l2z).extBut r2.extBut D.l2i1).extBut r3.extBut D.l2TO) hy fun g4 L4 r4=>wpAny_pure ?_)
 have O4:IsPair g4 O x e:=r4.extBut _ _ D.TOi2 O3
 refine wpAny_bind (wpAny_seqItems O4 rfl (wpAny_bind (wpAny_updateSeq_pair O4 fun g5 (O5:IsPair g5 O x y) r5=>wpAny_bind (wpAny_letGo (wpAny_pure (wpAny_pure ?_))))))
 refine wpAny_bind (wpAny_seqItems O5 rfl (wpAny_bind (wpAny_newTuple ?_)))
 have sz:g5.objs.size=s.heap.objs.size:=by rw[r5.1,r4.1,r3.1,r2.1,r1.1]
 have Z5:IsZip g5 Z P O .ellipsis:=r5.extBut _ _ D.TOz.symm (r4.extBut _ _ D.i2z.symm (r3.extBut _ _ D.TOz.symm (r2.extBut _ _ D.i1z.symm Z1)))
 have k5:∀n o,n≠Z->n≠O->n≠a->n≠b->s.heap.get? n>>o->g5.get? n>>o:=fun n o m1 m2 m3 m4 m5=>r5.extBut _ _ m2 (r4.extBut _ _ m4 (r3.extBut _ _ m2 (r2.extBut _ _ m3 (r1.extBut _ _ m1 m5))))
 have J5:IsTupIter g5 a t (j+1):=((J2.extBut r3.extBut D.TOi1.symm).extBut r4.extBut D.i12).extBut r5.extBut D.TOi1.symm
 have L5:IsTupIter g5 b u (k+1):=L4.extBut r5.extBut D.TOi2.symm
 have zl:Z<g5.objs.size:=Heap.lt_size Z5
 show wpAny _ _ (Builtin.SmallTypes.ownedTupleHandOut (.ref Z) (.ref g5.objs.size) >>= _) _ _ _
 refine wpAny_bind ?_
 unfold Builtin.SmallTypes.ownedTupleHandOut
 have Z6:IsZip (g5.push {cls:=.type "tuple",data:=.seq #[x,y]}) Z P O .ellipsis:=Heap.get?_push_of_some _ Z5
 refine wpAny_bind (wpAny_setField_rec Z6 (by simp) fun g7 (Z7:IsZip g7 Z P O (rawInt g5.objs.size)) r7=>?_)
 refine wpAny_setField_rec Z7 (by simp) fun g8 (Z8:IsZip g8 Z P O (rawInt g5.objs.size)) r8=>?_
 have up:∀n o,n≠Z->g5.get? n>>o->g8.get? n>>o:=fun n o m1 m2=>r8.extBut _ _ m1 (r7.extBut _ _ m1 (Heap.get?_push_of_some _ m2))
 have T8:IsPair g8 g5.objs.size x y:=r8.extBut _ _ (Ek zl) (r7.extBut _ _ (Ek zl) (Heap.get?_push_size _ rfl))
 rw[sz] at Z8 T8
 refine wpAny_pure ⟨_,rfl,(?_:Q (.ref g5.objs.size) _)⟩
 rw[sz]
 obtain⟨q1,w1,v1⟩:=J5
 obtain⟨q2,w2,v2⟩:=L5
 exact K g8 Z8 (up _ _ D.TOz O5) ⟨q1,up _ _ D.i1z w1,v1⟩ ⟨q2,up _ _ D.i2z w2,v2⟩ T8 fun n o m1 m2 m3 m4 m5=>up n o m1 (k5 n o m1 m2 m3 m4 m5)
theorem kkY{Z P O a b t u:Addr}{j k:Nat}{vs ws:Array Value}{c e:Value}{Q:Fin->Shared->Prop}(n0:A.handled=none)(D:ZipApart Z P O a b t u)(Hz:IsZip s.heap Z P O .none)(Hi:IsPair s.heap P (.ref a) (.ref b))(Ho:IsPair s.heap O c e)
  (J:IsTupIter s.heap a t j)(L:IsTupIter s.heap b u k)(T:IsTup s.heap t vs)(U:IsTup s.heap u ws)(hxy:vs[j]?=none∨ws[k]?=none)
  (K:∀g x,(∀n o,n≠Z->n≠O->n≠a->n≠b->s.heap.get? n>>o->g.get? n>>o)->(∃o,g.get? x>>o/\o.cls=.type "StopIteration")->E (.ref x) {s with heap:=g}):
  wpAny (model prog w) A (Builtin.«zip.__next__» ⟨[.ref Z],[]⟩) Q E s:=by
 show wpAny _ _ (field (.ref Z) 2 >>= _) _ _ _
 refine wpAny_bind (wpAny_field Hz rfl (x:=.bool false) rfl (?_:wpAny _ _ (field (.ref Z) 3 >>= _) _ _ _))
 refine wpAny_bind (wpAny_field Hz rfl (x:=.ref P) rfl (wpAny_bind (wpAny_seqItems Hi rfl ?_)))
 show wpAny _ _ (Builtin.SmallTypes.ownedTupleIsFree (.ref Z) >>= _) _ _ _
 refine wpAny_bind ?_
 unfold Builtin.SmallTypes.ownedTupleIsFree
 refine wpAny_bind (wpAny_field Hz rfl (x:=.none) rfl (wpAny_pure ?_))
 simp only[if_true]
 refine wpAny_bind (wpAny_rule (wpAny_bind (wpAny_field Hz rfl (x:=.ref O) rfl (wpAny_bind (wpAny_setField_rec Hz (by simp) fun g1 (Z1:IsZip g1 Z P O .ellipsis) r1=>?_)))))
 refine wpAny_bind ?_
 simp only[Dk,List.zipIdx_nil,DN,DM]
 refine wpAny_bind (wpAny_bind (wpAny_onRaise (?_:wpAny _ _ (Builtin.SmallTypes.nextOf (.ref a) >>= _) _ _ _)))
 have noZ:∀{g:Heap}{x:Addr}{o:Obj},IsZip g Z P O .ellipsis->g.get? x>>o->o.cls=.type "StopIteration"->x≠Z:=fun hz ho hc z=>by
  subst z
  rw[hz] at ho
  cases ho
  simp at hc
 cases hx:vs[j]? with
 |none=>
  refine wpAny_bind (kgM n0 (J.extBut r1.extBut D.i1z) (T.extBut r1.extBut D.l1z) hx fun g2 x r2 zz=>?_)
  obtain⟨o,ho,hc⟩:=zz
  have Z2:IsZip g2 Z P O .ellipsis:=r2 _ _ D.i1z.symm Z1
  exact wpAny_setField_rec Z2 (by simp) fun g3 _ r3=>K g3 x (fun n o m1 _ m3 _ m5=>r3.extBut _ _ m1 (r2 _ _ m3 (r1.extBut _ _ m1 m5))) ⟨o,r3.extBut _ _ (noZ Z2 ho hc) ho,hc⟩
 |some x=>
  have hy:ws[k]?=none:=hxy.resolve_left (by rw[hx];simp)
  refine wpAny_bind (nextT (J.extBut r1.extBut D.i1z) (T.extBut r1.extBut D.l1z) hx fun g2 J2 r2=>wpAny_pure ?_)
  have O2:IsPair g2 O c e:=r2.extBut _ _ D.TOi1 (r1.extBut _ _ D.TOz Ho)
  refine wpAny_bind (wpAny_seqItems O2 rfl (wpAny_bind (wpAny_updateSeq_pair O2 fun g3 O3 r3=>wpAny_bind (wpAny_letGo (wpAny_pure ?_)))))
  refine wpAny_bind (wpAny_bind (wpAny_onRaise (?_:wpAny _ _ (Builtin.SmallTypes.nextOf (.ref b) >>= _) _ _ _)))
  refine wpAny_bind (kgM n0 (((L.extBut r1.extBut D.i2z).extBut r2.extBut D.i12.symm).extBut r3.extBut D.TOi2.symm) (((U.extBut r1.extBut D.l2z).extBut r2.extBut D.l2i1).extBut r3.extBut D.l2TO) hy fun g4 x' r4 zz=>?_)
  obtain⟨o,ho,hc⟩:=zz
  have Z4:IsZip g4 Z P O .ellipsis:=r4 _ _ D.i2z.symm (r3.extBut _ _ D.TOz.symm (r2.extBut _ _ D.i1z.symm Z1))
  exact wpAny_setField_rec Z4 (by simp) fun g5 _ r5=>K g5 x' (fun n o m1 m2 m3 m4 m5=>r5.extBut _ _ m1 (r4 _ _ m4 (r3.extBut _ _ m2 (r2.extBut _ _ m3 (r1.extBut _ _ m1 m5))))) ⟨o,r5.extBut _ _ (noZ Z4 ho hc) ho,hc⟩
theorem khi{Z P O a b t u:Addr}{j k:Nat}{vs ws:Array Value}{x y c e:Value}{Q:Option Value->Shared->Prop}(D:ZipApart Z P O a b t u)(Hz:IsZip s.heap Z P O .none)(Hi:IsPair s.heap P (.ref a) (.ref b))(Ho:IsPair s.heap O c e)
  (J:IsTupIter s.heap a t j)(L:IsTupIter s.heap b u k)(T:IsTup s.heap t vs)(U:IsTup s.heap u ws)(hx:vs[j]?>>x)(hy:ws[k]?>>y)
  (K:∀g,IsZip g Z P O (rawInt s.heap.objs.size)->IsPair g O x y->IsTupIter g a t (j+1)->IsTupIter g b u (k+1)->IsPair g s.heap.objs.size x y->
   (∀n o,n≠Z->n≠O->n≠a->n≠b->s.heap.get? n>>o->g.get? n>>o)->Q (some (.ref s.heap.objs.size)) {s with heap:=g}):wpAny (model prog w) A (pyNext (.ref Z)) Q E s:=by
 have ty:s.TypeIs (.ref Z) "zip":=⟨_,Hz,rfl⟩
 unfold pyNext
 exact wpAny_bind (wpAny_attempt (wpAny_callSpecial?_slot (name:=Str.ofString "__next__") ty F.slot_zip_next (wpAny_call_entry F.slot_zip_next ty F.entry_zip_next (zipT D Hz Hi Ho J L T U hx hy fun g q1 q2 q3 q4 q5 q6=>wpAny_pure (K g q1 q2 q3 q4 q5 q6)) (F.args_zip_next_1 _))))
theorem keP{Z P O a b t u:Addr}{j k:Nat}{vs ws:Array Value}{c e:Value}{Q:Option Value->Shared->Prop}(n0:A.handled=none)(D:ZipApart Z P O a b t u)(Hz:IsZip s.heap Z P O .none)(Hi:IsPair s.heap P (.ref a) (.ref b))(Ho:IsPair s.heap O c e)
  (J:IsTupIter s.heap a t j)(L:IsTupIter s.heap b u k)(T:IsTup s.heap t vs)(U:IsTup s.heap u ws)(hxy:vs[j]?=none∨ws[k]?=none)
  (K:∀g,(∀n o,n≠Z->n≠O->n≠a->n≠b->s.heap.get? n>>o->g.get? n>>o)->Q none {s with heap:=g}):wpAny (model prog w) A (pyNext (.ref Z)) Q E s:=by
 have ty:s.TypeIs (.ref Z) "zip":=⟨_,Hz,rfl⟩
 unfold pyNext
 refine wpAny_bind (wpAny_attempt (wpAny_callSpecial?_slot (name:=Str.ofString "__next__") ty F.slot_zip_next (wpAny_call_entry F.slot_zip_next ty F.entry_zip_next (kkY n0 D Hz Hi Ho J L T U hxy fun g x hk ⟨o,ho,hc⟩=>?_) (F.args_zip_next_1 _))))
 exact wpAny_bind (wpAny_isInstance (T:="StopIteration") (b:=true) ⟨o,ho,hc⟩ isSubtype_stop (wpAny_pure (K _ hk)))
end
abbrev zT1(h:Heap)(t:Addr):Heap:=h.push {cls:=.type "tuple_iterator",data:=.fields #[.ref t, .int 0 0]}
abbrev zT3(h:Heap)(t u:Addr):Heap:=(zT1 (zT1 h t) u).push {cls:=.type "tuple",data:=.seq #[.ref h.objs.size, .ref (zT1 h t).objs.size]}
abbrev zT4(h:Heap)(t u:Addr):Heap:=(zT3 h t u).push {cls:=.type "tuple",data:=.seq #[.none, .none]}
abbrev zT5(h:Heap)(t u:Addr):Heap:=(zT4 h t u).push {cls:=.type "zip",data:=.fields #[.none, .bool false, .bool false, .ref (zT1 (zT1 h t) u).objs.size, .ref (zT3 h t u).objs.size]}
def kkX(t u:Addr)(vs ws:Array Value):Meets (Builtin.«zip.__new__» ⟨[.type "zip", .ref t, .ref u],[]⟩) (fun _ R s=>IsTup s.heap t vs/\IsTup s.heap u ws/\R (.ok (.ret (.ref (zT4 s.heap t u).objs.size))) {s with heap:=zT5 s.heap t u}):=
 .of_wp fun prog w A R s h=>by
  obtain⟨hp,g,d,tk,os⟩:=s
  obtain⟨T,U,h⟩:=h
  have hsub:=PySem.sub_zip
  have T':IsTup (Shared.heap ⟨hp,g,d,tk,os⟩) t vs:=T
  have U':IsTup (Shared.heap ⟨hp.push {cls:=.type "tuple_iterator",data:=.fields #[.ref t, .int 0 0]},g,d,tk,os⟩) u ws:=IsTup.push U _
  wp_walk using iter_tuple T',iter_tuple U'
  rwa[8,h]
section
variable{prog:Program}{w:World}{A:Around}{E:Value->Shared->Prop}{s:Shared}
theorem kkE{t u:Addr}{vs ws:Array Value}{Q:Value->Shared->Prop}(T:IsTup s.heap t vs)(U:IsTup s.heap u ws)
  (K:∀g,IsZip g (s.heap.objs.size+4) (s.heap.objs.size+2) (s.heap.objs.size+3) .none->IsPair g (s.heap.objs.size+2) (.ref s.heap.objs.size) (.ref (s.heap.objs.size+1))->IsPair g (s.heap.objs.size+3) .none .none->IsTupIter g s.heap.objs.size t 0->IsTupIter g (s.heap.objs.size+1) u 0->
   (∀n o,s.heap.get? n>>o->g.get? n>>o)->Q (.ref (s.heap.objs.size+4)) {s with heap:=g}):wpAny (model prog w) A (call (.type "zip") [.ref t, .ref u]) Q E s:=by
 refine callType_new F.called_zip (by decide) (F.typeCall_zip_2 _ _) (F.newCall_zip_2 _ _) (fun o=>F.args_object_init_3 o _ _) F.entry_zip_new (kkX t u vs ws) ⟨T,U,?_⟩
 have y1:(zT1 s.heap t).objs.size=s.heap.objs.size+1:=Heap.size_push ..
 have y2:(zT1 (zT1 s.heap t) u).objs.size=s.heap.objs.size+2:=by rw[Heap.size_push,y1]
 have y3:(zT3 s.heap t u).objs.size=s.heap.objs.size+3:=by rw[Heap.size_push,y2]
 have y4:(zT4 s.heap t u).objs.size=s.heap.objs.size+4:=by rw[Heap.size_push,y3]
 have w5:(zT5 s.heap t u).get? (zT4 s.heap t u).objs.size>>_:=Heap.get?_push_size _ rfl
 have w4:(zT5 s.heap t u).get? (zT3 s.heap t u).objs.size>>_:=Heap.get?_push_of_some _ (Heap.get?_push_size _ rfl)
 have up:∀{n:Addr}{o:Obj},(zT1 (zT1 s.heap t) u).get? n>>o->(zT5 s.heap t u).get? n>>o:=fun q=>Heap.get?_push_of_some _ (Heap.get?_push_of_some _ (Heap.get?_push_of_some _ q))
 have w3:(zT5 s.heap t u).get? (zT1 (zT1 s.heap t) u).objs.size>>_:=Heap.get?_push_of_some _ (Heap.get?_push_of_some _ (Heap.get?_push_size _ rfl))
 have w2:(zT5 s.heap t u).get? (zT1 s.heap t).objs.size>>_:=up (Heap.get?_push_size _ rfl)
 have w1:(zT5 s.heap t u).get? s.heap.objs.size>>_:=up (Heap.get?_push_of_some _ (Heap.get?_push_size _ rfl))
 show _/\_
 rw[y2,y3,y4] at w5
 rw[y1,y2] at w3
 rw[y3] at w4
 rw[y1] at w2
 rw[y4]
 rwa[⟨_,w5,rfl⟩,K _ w5 w3 w4 ⟨_,w1,rfl,rfl⟩ ⟨_,w2,rfl,rfl⟩ fun n o q=>up (Heap.get?_push_of_some _ (Heap.get?_push_of_some _ q))]
end
section
variable{X:Cx}
noncomputable def Itzt(a b:Addr):It:=⟨fun i H=>∃xs ys x y,H a>>(.tup xs)/\H b>>(.tup ys)/\xs[i]?>>x/\ys[i]?>>y,
 fun i H v H'=>∃t x y,H t=none/\v=.ref t/\H'=upd H t (.tup [x,y])/\(∀xs,H a>>(.tup xs)->xs[i]?>>x)/\∀ys,H b>>(.tup ys)->ys[i]?>>y,
 fun i H=>∃xs ys,H a>>(.tup xs)/\H b>>(.tup ys)/\(xs.length<=i∨ys.length<=i)⟩
theorem ki1{P:Program}{w:World}{K:Mt}{es:List Expr}{k:Nat}{pos:Pos}(a b z TI TO i1 i2:Addr)(nd:[z,TI,TO,i1,i2].Nodup):
  Turn P w K (.Tuple es k pos) (Itzt a b) [z,TI,TO,i1,i2] z (fun i h=>IsZip h z TI TO .none/\IsPair h TI (.ref i1) (.ref i2)/\(∃u v,IsPair h TO u v)/\IsTupIter h i1 a i/\IsTupIter h i2 b i) where
 mem:=by simp
 obj:=fun i h st b hb=>by
  obtain⟨hz,hI,⟨_,_,hO⟩,⟨o1,e1,_,d1⟩,⟨o2,e2,_,d2⟩⟩:=st
  simp only[MB,MR,or_false] at hb
  rcases hb with rfl|rfl|rfl|rfl|rfl
  ·rwa[_,hz,fun v q=>by cases(show Data.fields _=Data.cell v from q)]
  ·rwa[_,hI,fun v q=>by cases(show Data.seq _ _=Data.cell v from q)]
  ·rwa[_,hO,fun v q=>by cases(show Data.seq _ _=Data.cell v from q)]
  ·rwa[o1,e1,fun v q=>by rw[d1] at q;cases q]
  ·rwa[o2,e2,fun v q=>by rw[d2] at q;cases q]
 keep:=fun i h h' st kk=>by
  obtain⟨hz,hI,⟨u,v,hO⟩,h1,h2⟩:=st
  rwa[kk z (by simp) _ hz,kk TI (by simp) _ hI,⟨u,v,kk TO (by simp) _ hO⟩,(let⟨o,e,q⟩:=h1;⟨o,kk i1 (by simp) o e,q⟩),(let⟨o,e,q⟩:=h2;⟨o,kk i2 (by simp) o e,q⟩)]
 item:=by
  intro X hP hw hK hc i pins s σ H E I hf st hg
  subst hP hw hK
  obtain⟨hz,hI,⟨u,v,hO⟩,h1,h2⟩:=st
  obtain⟨xs,ys,x,y,ha,hb,hx,hy⟩:=hg
  obtain⟨its1,r1,L1,_⟩:=I.tuple (SqT.of ha)
  obtain⟨its2,r2,L2',_⟩:=I.tuple (SqT.of hb)
  obtain⟨u1,g1,ru1⟩:=r1.get hx
  obtain⟨u2,g2,ru2⟩:=r2.get hy
  have off:∀{l:Addr}{zs:List V},H l>>(.tup zs)->l∉[z,TI,TO,i1,i2]:=fun {l zs} e m=>by
   have:=(hf l m).1
   rw[this] at e
   cases e
  have oa:=off ha
  have ob:=off hb
  have nd':=nd
  simp only[Ed,MB,MR,or_false,not_or,ES,and_true,not_false_eq_true] at nd' oa ob
  obtain⟨⟨nzI,nzO,nz1,nz2⟩,⟨nIO,nI1,nI2⟩,⟨nO1,nO2⟩,n12⟩:=nd'
  have D:ZipApart z TI TO i1 i2 a b:=⟨Ne.symm nzI,Ne.symm nzO,Ne.symm nz1,Ne.symm nz2,nIO,nI1,nI2,nO1,nO2,n12,oa.1,oa.2.2.1,oa.2.2.2.1,oa.2.2.2.2,ob.1,ob.2.2.1,ob.2.2.2.1,ob.2.2.2.2⟩
  refine khi D hz hI hO h1 h2 L1 L2' (x:=u1) (y:=u2) (by simpa using g1) (by simpa using g2) fun h' a1 a2 a3 a4 a5 a7=>?_
  rwa[.ref s.heap.objs.size,6,wpAny_letOwnedTupleGo_zip a1 fun h2' z2 s2=>?_]
  have s2':Heap.SameBut z h' h2':=s2
  have zl:z<s.heap.objs.size:=Heap.lt_size hz
  have kk:∀b o,b∉[z,TI,TO,i1,i2]->s.heap.get? b>>o->h2'.get? b>>o:=fun b o hb eo=>by
   simp only[MB,MR,or_false,not_or] at hb
   exact(s2'.2 b hb.1).trans (a7 b o hb.1 hb.2.2.1 hb.2.2.2.1 hb.2.2.2.2 eo)
  have I1:Inv X pins σ H {s with heap:=h2',toks:=s.toks}:=I.turnedL (ch:=[z,TI,TO,i1,i2]) kk hf
  have fr:H s.heap.objs.size=none:=I.hok.fresh (Mv _)
  have ft:FpOk X pins H s.heap.objs.size:=I.fpOk (Mv _) fr
  have t2:h2'.get? s.heap.objs.size>>{cls:=.type "tuple",data:=.seq #[u1,u2]}:=(s2'.2 _ (Ek zl)).trans a5
  have I2:Inv X pins σ (upd H s.heap.objs.size (.tup [x,y])) {s with heap:=h2',toks:=s.toks}:=
   I1.adopt ft I.sz ⟨by show 2<=sizeLine;decide,[u1,u2], .cons ru1 (.cons ru2 .nil),_,t2,rfl,_,rfl⟩
  have hI2:IsPair h2' TI (.ref i1) (.ref i2):=(s2'.2 _ (Ne.symm nzI)).trans (a7 TI _ (Ne.symm nzI) nIO nI1 nI2 hI)
  refine⟨.ref s.heap.objs.size,_,I2,rfl,⟨s.heap.objs.size,x,y,fr,rfl,rfl,fun ws e=>by rw[ha] at e;cases e;exact hx,fun ws e=>by rw[hb] at e;cases e;exact hy⟩,
   ⟨z2,hI2,⟨_,_,(s2'.2 _ (Ne.symm nzO)).trans a2⟩,a3.extBut s2'.extBut (Ne.symm nz1),a4.extBut s2'.extBut (Ne.symm nz2)⟩,fun b hb=>?_⟩
  have hbl:b<s.heap.objs.size:=by
   simp only[MB,MR,or_false] at hb
   rcases hb with rfl|rfl|rfl|rfl|rfl
   ·exact zl
   ·exact Heap.lt_size hI
   ·exact Heap.lt_size hO
   ·obtain⟨o,e,_⟩:=h1;exact Heap.lt_size e
   ·obtain⟨o,e,_⟩:=h2;exact Heap.lt_size e
  rw[kah (MT hbl)]
  exact(hf b hb).1
 done:=by
  intro X hP hw hK hc i pins s σ H E I hf st hg
  subst hP hw hK
  obtain⟨hz,hI,⟨u,v,hO⟩,h1,h2⟩:=st
  obtain⟨xs,ys,ha,hb,hx⟩:=hg
  obtain⟨its1,r1,L1,_⟩:=I.tuple (SqT.of ha)
  obtain⟨its2,r2,L2',_⟩:=I.tuple (SqT.of hb)
  have hlen1:=r1.length
  have hlen2:=r2.length
  have off:∀{l:Addr}{zs:List V},H l>>(.tup zs)->l∉[z,TI,TO,i1,i2]:=fun {l zs} e m=>by
   have:=(hf l m).1
   rw[this] at e
   cases e
  have oa:=off ha
  have ob:=off hb
  have nd':=nd
  simp only[Ed,MB,MR,or_false,not_or,ES,and_true,not_false_eq_true] at nd' oa ob
  obtain⟨⟨nzI,nzO,nz1,nz2⟩,⟨nIO,nI1,nI2⟩,⟨nO1,nO2⟩,n12⟩:=nd'
  have D:ZipApart z TI TO i1 i2 a b:=⟨Ne.symm nzI,Ne.symm nzO,Ne.symm nz1,Ne.symm nz2,nIO,nI1,nI2,nO1,nO2,n12,oa.1,oa.2.2.1,oa.2.2.2.1,oa.2.2.2.2,ob.1,ob.2.2.1,ob.2.2.2.1,ob.2.2.2.2⟩
  refine keP (I.ok.hd hc) D hz hI hO h1 h2 L1 L2' ?_ fun h' hk=>⟨rfl,?_⟩
  ·rcases hx with hx|hx
   ·exact .inl (by simp;lia)
   ·exact .inr (by simp;lia)
  ·refine I.turnedL (t':=s.toks) (ch:=[z,TI,TO,i1,i2]) (fun b o hb e=>?_) hf
   simp only[MB,MR,or_false,not_or] at hb
   exact hk b o hb.1 hb.2.2.1 hb.2.2.2.1 hb.2.2.2.2 e
 self:=fun _ _ _ _ _ st h=>wpAny_pyIter_zip st.1 h
end
theorem kkB{a b:Addr}{xs ys:List V}{g:TG}{te:TE}{σ:St}{H:Hp}{R:List V->Hp->Addr->Prop}(Pv:Nat->St->List V->Hp->Prop)(h0:Pv 0 σ [] H)(hz:min xs.length ys.length<=sizeLine)(hl:∀i σ zs H,i<=min xs.length ys.length->Pv i σ zs H->H a>>(.tup xs)/\H b>>(.tup ys)/\zs.length=i)
  (hs:∀i x y t σ zs H,xs[i]?>>x->ys[i]?>>y->Pv i σ zs H->H t=none->g (.ref t) σ (upd H t (.tup [x,y])) fun σ2 H2=>te σ2 H2 fun z H3=>Pv (i+1) σ2 (zs++[z]) H3)(hd:∀σ zs H,Pv (min xs.length ys.length) σ zs H->∀D,H D=none->R zs H D):
  ∃ W:Nat->Nat->St->List V->Hp->Prop,(∃m,W 0 m σ [] H)/\∀i m σ' zs H',W i m σ' zs H'->
   ((Itzt a b).stop i H'/\∀D,H' D=none->R zs H' D)∨((Itzt a b).go i H'/\zs.length<sizeLine/\∃N:St->V->Hp->Prop,(∀σ2 y H4,N σ2 y H4->∃m',m'<m/\W (i+1) m' σ2 (zs++[y]) H4)/\
    ∀x H2,(Itzt a b).yld i H' x H2->g x σ' H2 fun σ2 H3=>te σ2 H3 (N σ2)):=by
 rwa[fun i m σ zs H=>m=min xs.length ys.length-i/\i<=min xs.length ys.length/\Pv i σ zs H,⟨min xs.length ys.length,by simp,M7 _,h0⟩,?_]
 rintro i m σ zs H ⟨rfl,hi,p⟩
 obtain⟨q1,q2,el⟩:=hl i σ zs H hi p
 by_cases hlt:i<min xs.length ys.length
 ·refine .inr ⟨⟨xs,ys,xs[i]'(by lia),ys[i]'(by lia),q1,q2,by simp[show i<xs.length by lia],by simp[show i<ys.length by lia]⟩,by lia,fun σ2 y H3=>Pv (i+1) σ2 (zs++[y]) H3,fun σ' y H' p'=>⟨min xs.length ys.length-(i+1),by lia,rfl,hlt,p'⟩,fun x H' yl=>?_⟩
  obtain⟨t,x,y,hn,rfl,rfl,h1,h2⟩:=yl
  exact hs i x y t σ zs _ (h1 _ q1) (h2 _ q2) p hn
 ·have e:i=min xs.length ys.length:=by lia
  refine .inl ⟨⟨xs,ys,q1,q2,by lia⟩,?_⟩
  rw[e] at p
  exact hd σ zs H p
section
variable{X:Cx}
def iZipG(ta:TA):TI:=fun σ H R=>ta σ H fun vs H1=>(∃a b xs ys,vs=[.ref a, .ref b]/\H1 a>>(.lst xs)/\H1 b>>(.lst ys)/\R (Itz a b) H1)∨(∃a b xs ys,vs=[.ref a, .ref b]/\H1 a>>(.tup xs)/\H1 b>>(.tup ys)/\R (Itzt a b) H1)
theorem klg{es:List Expr}{k:Nat}{tpos:Pos}{e1 e2:Expr}{ta:TA}{p pos:Pos}(hg:Gl X "zip")(hm:X.mg "zip"=none)(ha:PA X [e1,e2] ta)(he:autoParam (starEach [e1,e2] X.env=(false,eval e1 X.env)::starEach [e2] X.env) jz)
  (hpl:autoParam ((backTo pos (starEach [e2] X.env)).any (·.1)=false) jz):PI X (.Tuple es k tpos) (.Call (.Name "zip" p) [e1,e2] [] pos) (iZipG ta):=by
 intro pins s σ H R I h
 refine Call_ (kef I hg hm kmm (PyProof.Rows.callWith_type1 (thn (ha pos pins s σ H _ I h) fun us s1 zz=>?_) he hpl))
 obtain⟨vs,H1,I1,r1,q1⟩:=zz
 rcases q1 with⟨a,b,xs,ys,rfl,qa,qb,q⟩|⟨a,b,xs,ys,rfl,qa,qb,q⟩
 ·cases r1 with
  | cons ra rr=>
   cases rr with
   |cons rb rr=>
    cases rr
    cases ra
    cases rb
    obtain⟨its1,n1,_,ho1,_⟩:=I1.lst qa
    obtain⟨its2,n2,_,ho2,_⟩:=I1.lst qb
    refine call_zip_2 (xs:=its1.toArray) (ys:=its2.toArray) ⟨_,ho1,rfl,n1,rfl⟩ ⟨_,ho2,rfl,n2,rfl⟩ fun h' b1 b2 b3 b4 b5 _ hk=>wpAny_pyIter_zip b1 ?_
    have I2:Inv X pins σ H1 {s1 with heap:=h'}:=I1.kept (t':=s1.toks) hk
    rwa[s1.heap.objs.size+4,[s1.heap.objs.size+4,s1.heap.objs.size+2,s1.heap.objs.size+3,s1.heap.objs.size,s1.heap.objs.size+1],_,_,H1,6,I2,khE a b _ _ _ _ _ (kht _),⟨b1,b2,⟨_,_,b3⟩,b4,b5⟩,fun x hx=>?_,q]
    have hle:s1.heap.objs.size<=x:=khu hx
    exact I1.fpOk hle (I1.hok.fresh hle)
 ·cases r1 with
  | cons ra rr=>
   cases rr with
   |cons rb rr=>
    cases rr
    cases ra
    cases rb
    obtain⟨its1,_,L1,_⟩:=I1.tuple (SqT.of qa)
    obtain⟨its2,_,L2',_⟩:=I1.tuple (SqT.of qb)
    refine kkE L1 L2' fun h' b1 b2 b3 b4 b5 hk=>wpAny_pyIter_zip b1 ?_
    have I2:Inv X pins σ H1 {s1 with heap:=h'}:=I1.kept (t':=s1.toks) hk
    rwa[s1.heap.objs.size+4,[s1.heap.objs.size+4,s1.heap.objs.size+2,s1.heap.objs.size+3,s1.heap.objs.size,s1.heap.objs.size+1],_,_,H1,6,I2,ki1 a b _ _ _ _ _ (kht _),⟨b1,b2,⟨_,_,b3⟩,b4,b5⟩,fun x hx=>?_,q]
    have hle:s1.heap.objs.size<=x:=khu hx
    exact I1.fpOk hle (I1.hok.fresh hle)
end
section
variable{κ:Type}[DecidableEq κ]
noncomputable def valV(kvs:List (κ×V))(k: κ):Option V:=(kvs.find? fun kv=>decide (kv.1=k)).map (·.2)
noncomputable def putK(kvs:List (κ×V))(k: κ)(v:V):List (κ×V):=
 if(kvs.any fun kv=>decide (kv.1=k))=true then kvs.map (fun kv=>if kv.1=k then(kv.1,v) else kv) else kvs++[(k,v)]
theorem kbq{p: κ×V}{r:List (κ×V)}{k: κ}(e:p.1=k):valV (p::r) k>>p.2:=by simp[valV,ET,e]
theorem kbr{p: κ×V}{r:List (κ×V)}{k: κ}(e:¬p.1=k):valV (p::r) k=valV r k:=by simp[valV,ET,e]
theorem keu(k: κ):∀kvs:List (κ×V),(kvs.any fun kv=>decide (kv.1=k))=(valV kvs k).isSome
 |[]=>rfl
 |p::r=>by
  rw[Es]
  by_cases e:p.1=k
  ·simp only[kbq e,decide_eq_true e,Bool.true_or,Option.isSome_some]
  ·rw[kbr e,decide_eq_false e,Bool.false_or];exact keu k r
theorem khD(k j: κ)(y:V):∀kvs:List (κ×V),valV (kvs.map fun kv=>if kv.1=k then(kv.1,y) else kv) j=(valV kvs j).map fun x=>if j=k then y else x
 |[]=>rfl
 | p::r=>by
  have ih:=khD k j y r
  rw[MQ]
  by_cases h:p.1=k
  ·rw[if_pos h]
   by_cases e:p.1=j
   ·rw[kbq (p:=(p.1,y)) e,kbq e,EK,if_pos (e.symm.trans h)]
   ·rw[kbr (p:=(p.1,y)) e,kbr e,ih]
  ·rw[if_neg h]
   by_cases e:p.1=j
   ·rw[kbq (p:=p) e,kbq e,EK,if_neg (fun z=>h (e.trans z))]
   ·rw[kbr (p:=p) e,kbr e,ih]
theorem kgd(k j: κ)(y:V):∀kvs:List (κ×V),valV kvs k=none->valV (kvs++[(k,y)]) j=if j=k then some y else valV kvs j
 |[],_=>by
  by_cases e:k=j
  ·rw[if_pos e.symm];exact kbq (p:=(k,y)) e
  ·rw[if_neg (fun z=>e z.symm)];exact kbr (p:=(k,y)) e
 |p::r,hn=>by
  rw[EZ]
  have hk:¬p.1=k:=fun z=>by rw[kbq z] at hn;cases hn
  rw[kbr hk] at hn
  have ih:=kgd k j y r hn
  by_cases e:p.1=j
  ·rw[kbq e,kbq e,if_neg (fun z=>hk (e.trans z))]
  ·rw[kbr e,kbr e,ih]
theorem kk2(kvs:List (κ×V))(k j: κ)(y:V):valV (putK kvs k y) j=if j=k then some y else valV kvs j:=by
 unfold putK
 by_cases a:(kvs.any fun kv=>decide (kv.1=k))=true
 ·rw[if_pos a,khD]
  rw[keu] at a
  by_cases e:j=k
  ·obtain⟨x,hx⟩:=Ai.mp a
   rw[if_pos e,e,hx,EK,if_pos rfl]
  ·rw[if_neg e]
   cases valV kvs j with
   |none=>rfl
   |some x=>rw[EK,if_neg e]
 ·rw[if_neg a]
  refine kgd k j y kvs ?_
  rw[keu] at a
  cases q:valV kvs k with
  |none=>rfl
  |some x=>rw[q] at a;exact(a rfl).elim
theorem kcC(kvs:List (κ×V))(k: κ)(v:V):(putK kvs k v).length<=kvs.length+1:=by
 unfold putK
 split
 ·rw[Mu];lia
 ·rw[ML,MV,Dl];lia
theorem RelO.isSome_eq{o:Option V}{u:Option Value}(r:RelO o u):o.isSome=u.isSome:=by
 cases o with
 |none=>cases u with
  |none=>rfl
  |some _=>exact(show False from r).elim
 |some _=>cases u with
  |none=>exact(show False from r).elim
  |some _=>rfl
theorem KV.val{kvs:List (κ×V)}{vs:List (κ×Value)}(r:KV kvs vs)(k: κ):RelO (valV kvs k) (valueAt vs k):=by
 unfold KV at r
 induction r with
 |nil=>exact True.intro
 | @cons p q ps qs h t ih=>
  obtain⟨h1,h2⟩:=h
  by_cases e:p.1=k
  ·have e':q.1=k:=h1.symm.trans e
   have b:valueAt (q::qs) k>>q.2:=by simp[valueAt,ET,e']
   rw[kbq e,b];exact h2
  ·have e':¬q.1=k:=fun z=>e (h1.trans z)
   have b:valueAt (q::qs) k=valueAt qs k:=by simp[valueAt,ET,e']
   rw[kbr e,b];exact ih
theorem KV.any{kvs:List (κ×V)}{vs:List (κ×Value)}(r:KV kvs vs)(k: κ):(kvs.any fun kv=>decide (kv.1=k))=vs.any fun kv=>decide (kv.1=k):=by
 unfold KV at r
 induction r with
 |nil=>rfl
 |cons h t ih=>rw[Es,Es,ih,h.1]
theorem KV.repl{kvs:List (κ×V)}{vs:List (κ×Value)}(r:KV kvs vs)(k: κ){y:V}{u:Value}(ry:RelV y u):
  KV (kvs.map fun kv=>if kv.1=k then(kv.1,y) else kv) (vs.map fun kv=>if kv.1=k then(kv.1,u) else kv):=by
 unfold KV at r⊢
 induction r with
 |nil=>exact .nil
 | @cons p q ps qs h t ih=>
  rw[MQ,MQ]
  refine .cons ?_ ih
  obtain⟨h1,h2⟩:=h
  by_cases e:p.1=k
  ·rw[if_pos e,if_pos (h1.symm.trans e)];exact⟨h1,ry⟩
  ·rw[if_neg e,if_neg (fun z=>e (h1.trans z))];exact⟨h1,h2⟩
theorem KV.put{kvs:List (κ×V)}{vs:List (κ×Value)}(r:KV kvs vs)(k: κ){y:V}{u:Value}(ry:RelV y u):KV (putK kvs k y) (stored vs k u):=by
 unfold putK stored
 rw[r.any k]
 by_cases e:(vs.any fun kv=>decide (kv.1=k))=true
 ·rw[if_pos e,if_pos e];exact r.repl k ry
 ·rw[if_neg e,if_neg e];exact Paired.snoc r ⟨rfl,ry⟩
theorem KV.length{kvs:List (κ×V)}{vs:List (κ×Value)}(r:KV kvs vs):kvs.length=vs.length:=Paired.length r
end
theorem kV_is{P:Program}{w:World}{k:Key}{u:Value}(r:RelV (kV k) u):(kbA P w).is k u=true:=by
 cases k with
 |inl i=>obtain⟨t,e⟩:=(show ∃t,u=Value.int i t from r);subst e;exact khn P w i t
 |inr x=>obtain⟨t,e⟩:=(show ∃t,u=Value.str x t from r);subst e;exact khm P w x t
theorem kgQ{P:Program}{w:World}:∀{ks:List Key}{us:List Value},Vals (ks.map kV) us->ItemsAre (kbA P w) ks us
 |[],_,r=>by rw[Ep] at r;cases r;exact .nil
 |k::ks,_,r=>by
  rw[MQ] at r
  cases r with
  |cons h t=>exact .cons (kV_is h) (kgQ t)
abbrev KT(H:Hp):List (List Key×V)->List (List Key×Addr×Value)->Prop:=Paired fun p q=>p.1=q.1/\H q.2.1>>(.tup (p.1.map kV))/\RelV p.2 q.2.2
theorem KT.val{H:Hp}{kvs:List (List Key×V)}{xs:List (List Key×Addr×Value)}(r:KT H kvs xs)(k:List Key):RelO (valV kvs k) ((atKey xs k).map (·.2)):=by
 induction r with
 |nil=>exact True.intro
 | @cons p q ps qs h t ih=>
  obtain⟨h1,_,h2⟩:=h
  by_cases e:p.1=k
  ·have e':q.1=k:=h1.symm.trans e
   have b:atKey (q::qs) k>>q.2:=by simp[atKey,ET,e']
   rw[kbq e,b];exact h2
  ·have e':¬q.1=k:=fun z=>e (h1.trans z)
   have b:atKey (q::qs) k=atKey qs k:=by simp[atKey,ET,e']
   rw[kbr e,b];exact ih
theorem KT.repl{H:Hp}{kvs:List (List Key×V)}{xs:List (List Key×Addr×Value)}(r:KT H kvs xs)(k:List Key){y:V}{u:Value}(ry:RelV y u):
  KT H (kvs.map fun kv=>if kv.1=k then(kv.1,y) else kv) (xs.map (putAt k u)):=by
 induction r with
 |nil=>exact .nil
 | @cons p q ps qs h t ih=>
  rw[MQ,MQ]
  refine .cons ?_ ih
  obtain⟨h1,h2,h3⟩:=h
  unfold putAt
  by_cases e:p.1=k
  ·rw[if_pos e,if_pos (h1.symm.trans e)];exact⟨h1,h2,ry⟩
  ·rw[if_neg e,if_neg (fun z=>e (h1.trans z))];exact⟨h1,h2,h3⟩
theorem KT.put{H:Hp}{kvs:List (List Key×V)}{xs:List (List Key×Addr×Value)}(r:KT H kvs xs)(k:List Key){b:Addr}{y:V}{u:Value}(hb:H b>>(.tup (k.map kV)))(ry:RelV y u):
  KT H (putK kvs k y) (storedH xs k b u):=by
 have e:(kvs.any fun kv=>decide (kv.1=k))=(atKey xs k).isSome:=by
  rw[keu,(r.val k).isSome_eq,Option.isSome_map]
 unfold putK storedH
 rw[e]
 by_cases q:(atKey xs k).isSome=true
 ·rw[if_pos q,if_pos q];exact r.repl k ry
 ·rw[if_neg q,if_neg q];exact Paired.snoc r ⟨rfl,hb,ry⟩
def KT.keeps{H H':Hp}{kvs:List (List Key×V)}{xs:List (List Key×Addr×Value)}(r:KT H kvs xs)(ht:∀b ys,H b>>(.tup ys)->H' b>>(.tup ys)):KT H' kvs xs:=
 Paired.mapP r fun _ _ z=>⟨z.1,ht _ _ z.2.1,z.2.2⟩
section
variable{P:Program}{w:World}{H:Hp}{h:Heap}{a:Addr}
theorem rd_of{u:HO}(ok:HOk P w H h)(e:Rd H a u):ObjOk P w H h a u:=e.ok ok
theorem dk_rd{kvs:List (Key×V)}(ok:HOk P w H h)(e:Rd H a (.dK kvs)):kvs.length<=sizeLine/\(a==sysModules)=false/\∃vs,KV kvs vs/\h.DictOf (kbA P w) a vs:=
 show ObjOk P w H h a (.dK kvs) from rd_of ok e
theorem dk_of{kvs:List (Key×V)}(ok:HOk P w H h)(e:H a>>(.dK kvs)):kvs.length<=sizeLine/\(a==sysModules)=false/\∃vs,KV kvs vs/\h.DictOf (kbA P w) a vs:=dk_rd ok (.inl e)
theorem kkc{ks:List Key}(ok:HOk P w H h)(e:H a>>(.tup (ks.map kV))):(tupleKind (kbA P w)).is h ks a:=by
 obtain⟨_,its,r,o,h1,h2,n,h3⟩:=(show ObjOk P w H h a (.tup (ks.map kV)) from ok a _ e)
 rwa[o,its.toArray,n,h1,h2,h3,by simpa using kgQ r]
theorem dt_rd{kvs:List (List Key×V)}(ok:HOk P w H h)(e:Rd H a (.dT kvs)):kvs.length<=sizeLine/\(a==sysModules)=false/\
  ∃xs,KT H kvs xs/\h.DictOfH (tupleKind (kbA P w)) a xs:=by
 obtain⟨z,y,xs,r,o,es,ep,h1,h2,h3,h4,h5⟩:=(show ObjOk P w H h a (.dT kvs) from rd_of ok e)
 rwa[z,y,xs,r,o,es,ep,h1,h2,h3,h4,fun x hx=>?_,h5]
 have all:∀{l:List (List Key×V)}{m:List (List Key×Addr×Value)},KT H l m->∀x∈m,(tupleKind (kbA P w)).is h x.1 x.2.1:=by
  intro l m q
  induction q with
  |nil=>intro x hx;exact nomatch hx
  | @cons p q ps qs hq t ih=>
   intro x hx
   rcases MB.mp hx with e|hx
   ·subst e
    exact kkc ok (by rw[<-hq.1];exact hq.2.1)
   ·exact ih x hx
 exact all r x hx
theorem dt_of{kvs:List (List Key×V)}(ok:HOk P w H h)(e:H a>>(.dT kvs)):kvs.length<=sizeLine/\(a==sysModules)=false/\
  ∃xs,KT H kvs xs/\h.DictOfH (tupleKind (kbA P w)) a xs:=dt_rd ok (.inl e)
end
def DGet(H:Hp)(a:Addr)(y:V)(r:Option V):Prop:=
 (∃kvs k,Rd H a (.dK kvs)/\y=kV k/\r=valV kvs k)∨∃kvs k b,Rd H a (.dT kvs)/\y=.ref b/\H b>>(.tup (k.map kV))/\r=valV kvs k
def DPut(H:Hp)(a:Addr)(y v:V)(H':Hp):Prop:=
 (∃kvs k,H a>>(.dK kvs)/\y=kV k/\kvs.length<sizeLine/\H'=upd H a (.dK (putK kvs k v)))∨
 ∃kvs k b,H a>>(.dT kvs)/\y=.ref b/\H b>>(.tup (k.map kV))/\kvs.length<sizeLine/\H'=upd H a (.dT (putK kvs k v))
theorem DGet.k{H:Hp}{a:Addr}{kvs:List (Key×V)}{k:Key}(e:H a>>(.dK kvs)):DGet H a (kV k) (valV kvs k):=.inl ⟨kvs,k, .inl e,rfl,rfl⟩
theorem DPut.k{H:Hp}{a:Addr}{kvs:List (Key×V)}{k:Key}{v:V}(e:H a>>(.dK kvs))(hl:kvs.length<sizeLine):DPut H a (kV k) v (upd H a (.dK (putK kvs k v))):=.inl ⟨kvs,k,e,rfl,hl,rfl⟩
section
variable{X:Cx}{pins:List (Addr×Obj)}{σ:St}{H:Hp}{s:Shared}{a:Addr}{y v:V}{u r:Value}{o:Option V}{A:Around}{E:Value->Shared->Prop}
theorem Inv.big(I:Inv X pins σ H s):sysModules<s.heap.objs.size:=by
 have h:mainGlobals<s.heap.objs.size:=(I.mod.glob.keeps I.bk).lt
 exact Dh (by decide) h
theorem d_in{Q:Value->Shared->Prop}(hu:A.units+1<cLine)(I:Inv X pins σ H s)(g:DGet H a y o)(ry:RelV y u)(h:∀s',Inv X pins σ H s'->Q (.bool o.isSome) s'):
  wpAny (model X.prog X.w) A (compareOp .In u (.ref a)) Q E s:=by
 rcases g with⟨kvs,k,e,ey,l⟩|⟨kvs,k,b,e,ey,eb,l⟩
 ·subst ey
  obtain⟨z,hd,vs,rel,dd⟩:=dk_rd I.hok e
  refine wpAny_in_of (kV_is ry) hd dd.mapOf ?_
  rw[<-(rel.val k).isSome_eq,<-l]
  exact h _ (I.tok _)
 ·subst ey
  cases(show u=Value.ref b from ry)
  obtain⟨z,hd,xs,rel,dd⟩:=dt_rd I.hok e
  refine wpAny_in_heap (tupleKind_room_in1 hu) (kkc I.hok eb) hd dd ?_
  have q:=(rel.val k).isSome_eq
  rw[Option.isSome_map] at q
  rw[<-q,<-l]
  exact h _ (I.tok _)
theorem kky{h':Heap}{t':Nat}{ob:HO}(I:Inv X pins σ H s)(mu:Mut (H a))(hs:Heap.SameBut a s.heap h')(he:∃q,h'.get? a>>q)(new:ObjOk X.prog X.w (upd H a ob) h' a ob):
  Inv X pins σ (upd H a ob) {s with heap:=h',toks:=t'}:=
 I.write (x:=a) (e:=a) mu (.inl rfl) (fun b q hb z=>(hs.2 b hb).trans z) he new
theorem koj{P:Program}{w:World}{H':Hp}{h':Heap}{kvs:List (Key×V)}{vs:List (Key×Value)}(z:kvs.length<=sizeLine)(hd:(a==sysModules)=false)(rel:KV kvs vs)(dd:h'.DictOf (kbA P w) a vs):
  ObjOk P w H' h' a (.dK kvs):=⟨z,hd,vs,rel,dd⟩
theorem kkz{H':Hp}{Q:Unit->Shared->Prop}(hu:A.units+1<cLine)(I:Inv X pins σ H s)(g:DPut H a y v H')(ry:RelV y u)(rv:RelV v r)(h:∀s',Inv X pins σ H' s'->Q () s'):
  wpAny (model X.prog X.w) A (setItem (.ref a) u r) Q E s:=by
 rcases g with⟨kvs,k,e,ey,l,eH⟩|⟨kvs,k,b,e,ey,eb,l,eH⟩
 ·subst ey eH
  obtain⟨z,hd,vs,rel,dd⟩:=dk_of I.hok e
  have hz:vs.length<=sizeLine:=by rw[<-rel.length];exact z
  have hl:(putK kvs k v).length<=sizeLine:=by have:=kcC kvs k v;lia
  refine wpAny_setItem_pairs (hsz:=hz) (kV_is ry) dd fun h' dd' hs=>h _ ?_
  have he:∃q,h'.get? a>>q:=let⟨q,_,_,hq,_⟩:=dd';⟨q,hq⟩
  exact kky I (by rw[e];exact True.intro) hs he (koj hl hd (rel.put k rv) dd')
 ·subst ey eH
  cases(show u=Value.ref b from ry)
  obtain⟨z,hd,xs,rel,dd⟩:=dt_of I.hok e
  have hz:xs.length<=sizeLine:=by rw[<-Paired.length rel];exact z
  have hl:(putK kvs k v).length<=sizeLine:=by have:=kcC kvs k v;lia
  refine wpAny_setItem_heap (hsz:=hz) (tupleKind_room_in1 hu) (kkc I.hok eb) dd fun h' dd' hs=>h _ ?_
  obtain⟨q,es,ep,hq,h2,h3,h4,_,h5⟩:=dd'
  refine kky I (by rw[e];exact True.intro) hs ⟨q,hq⟩ ⟨hl,hd,_,(rel.put k eb rv).keeps fun c ys ec=>?_,q,es,ep,hq,h2,h3,h4,h5⟩
  rw[kah (ne_of ec e (fun z=>nomatch z))]
  exact ec
end
section
variable{X:Cx}{pins:List (Addr×Obj)}{σ:St}{H:Hp}{s:Shared}{a:Addr}{kvs:List (Key×V)}{k:Key}{u:Value}{A:Around}{E:Value->Shared->Prop}
end
def NoSl(i:Expr):Prop:=∀ov iv,subscripted i false ov iv=operate [ov,iv] (getItem ov iv)
theorem kmM{prog:Program}{w:World}{A:Around}{E:Value->Shared->Prop}{s:Shared}{env:Env}{value slice:Expr}{pos:Pos}{T id:String}{Q:Value->Shared->Prop}
  (hl:typeLookup (.type T) "__getitem__"=pure (some (.builtin id)))(hs:NoSl slice)
  (h:wpAny (model prog w) A (eval value env) (fun o s₁=>wpAny (model prog w) A (eval slice env) (fun i s₂=>s₂.TypeIs o T/\wpAny (model prog w) A (getItem o i) Q E s₂) E s₁) E s):
  wpAny (model prog w) A (eval (.Subscript value slice pos) env) Q E s:=by
 refine Subscript_ (wpAny_mono h (fun o s₁ h₁=>wpAny_mono h₁ (fun i s₂ h₂=>?_) fun _ _ x=>x) fun _ _ x=>x)
 obtain⟨hT,h₂⟩:=h₂
 unfold subscriptTail
 refine wpAny_bind ?_
 rw[getitemInPython_of_ne hT.not_modules]
 refine wpAny_bind (wpAny_specialOf hT hl ?_)
 have fin:wpAny (model prog w) A (subscripted slice false o i) (fun r s₃=>wpAny (model prog w) A (letTemporaryGo value o r >>= fun _=>pure r) Q E s₃) E s₂:=by
  rw[hs o i]
  exact wpAny_operating (wpAny_mono h₂ (fun r s₃ h₃=>wpAny_bind (wpAny_letTemporaryGo (wpAny_pure h₃))) fun _ _ x=>x)
 first
  |exact wpAny_pure (wpAny_bind fin)
  |exact wpAny_bind (wpAny_pure (wpAny_bind fin))
  |exact wpAny_bind fin
inductive QtDIn(Q:VK)(y:V)(x:V)(H2:Hp):Prop
 |ct a o (_:x=.ref a) (_:DGet H2 a y o) (_:Q (.bl o.isSome) H2):QtDIn Q y x H2
def tDIn(ty td:TE):TE:=fun σ H Q=>ty σ H fun y H1=>td σ H1 fun x H2=>QtDIn Q y x H2
inductive kmw(D:Ends)(σ:St)(v:V)(x:V)(y:V)(H3:Hp):Prop
 |ct a H4 (_:x=.ref a) (_:DPut H3 a y v H4) (_:D.nx σ H4):kmw D σ v x y H3
def sDPut(td ty tv:TE):TS:=fun D σ H=>tv σ H fun v H1=>td σ H1 fun x H2=>ty σ H2 fun y H3=>kmw D σ v x y H3
section
variable{X:Cx}{o i e value:Expr}{pos pos' tpos:Pos}{td ty tv:TE}
theorem kj0(hu:X.A.units+1<cLine)(hi:PE X i ty)(ho:PE X o td):PC X .In i o (tDIn ty td):=by
 intro pins s σ H Q I h
 refine thn (hi pins s σ H _ I h) fun iv s1 ⟨y,H1,I1,ry,q1⟩=>thn (ho pins s1 σ H1 _ I1 q1) fun u s2 zz=>?_
 obtain⟨x,H2,I2,rx,a,ov,ex,g,q2⟩:=zz
 subst ex
 obtain rfl:u=Value.ref a:=rx
 exact d_in hu I2 g ry fun s3 I3=>⟨.bl ov.isSome,H2,I3,rfl,q2⟩
theorem kjP(hu:X.A.units+1<cLine)(ho:PE X o td)(hi:PE X i ty)(hv:PE X value tv)(hs:swapsWith value (some (.Subscript o i pos')) pos.line X.env=pure false):
  PS X (.Assign [.Subscript o i pos'] value pos) (sDPut td ty tv):=by
 intro pins s σ H D I h
 refine wpAny_Assign_Subscript (thn (hv pins s σ H _ I h) fun r s1 ⟨v,H1,I1,rv,q1⟩=>thn (ho pins s1 σ H1 _ I1 q1) fun u s2 ⟨x,H2,I2,rx,q2⟩=>thn (hi pins s2 σ H2 _ I2 q2) fun iv s3 zz=>?_) hs
 obtain⟨y,H3,I3,ry,a,H4,ex,g,q3⟩:=zz
 subst ex
 obtain rfl:u=Value.ref a:=rx
 exact kkz hu I3 g ry rv fun s4 I4=>⟨σ,H4,I4,q3⟩
end
def klH{P:Program}{w:World}{H:Hp}(h:Heap)(hb:sysModules<h.objs.size):ObjOk P w H (h.push {cls:=.type "dict",data:=.dict #[]}) h.objs.size (.dK []):=
 ⟨M7 _,beq_eq_false_iff_ne.mpr (Ne.symm (MT hb)),[], .nil,Heap.DictOf.new h⟩
def knH:TE:=fun _ H Q=>∀p,H p=none->Q (.ref p) (upd H p (.dK []))
section
variable{X:Cx}{pos:Pos}
theorem klk:PE X (.Dict [] [] pos) knH:=fun pins s σ H Q I h=>
 wpAny_Dict_empty ⟨.ref s.heap.objs.size,_,I.laid (a:=s.heap.objs.size) (o:=.dK []) (t':=s.toks) (fun _ _ q=>Heap.get?_push_of_some _ q) (Mv _) (klH s.heap I.big),rfl,h _ (I.hok.fresh (Mv _))⟩
end
noncomputable def nxo:HO->Bool
 | .ext _=>false
 |_=>true
def NX(H:Hp)(p:Addr):Prop:=∀φ,H p≠some (.ext φ)
def nx{H:Hp}{p:Addr}{o:HO}(h:H p>>o)(n:autoParam (nxo o=true) jz):NX H p:=fun φ z=>by
 rw[h] at z
 cases z
 cases n
def nx0{H:Hp}{p:Addr}(h:H p=none):NX H p:=fun φ z=>by
 rw[h] at z
 cases z
def kee{H:Hp}{p q:Addr}{o:HO}(h:NX H p)(n:autoParam (nxo o=true) jz):NX (upd H q o) p:=fun φ z=>by
 by_cases e:p=q
 ·subst e
  rw[kad] at z
  cases z
  cases n
 ·rw[kah e] at z
  exact h φ z
abbrev Ev(H H':Hp)(b:Addr)(o:HO):Prop:=match o with
 | .tbl _=>(∃ps,H' b>>(.tbl ps))/\(TbAt b H->TbAt b H')
 |o=>H' b>>o
def ev_eq{H H':Hp}{b:Addr}{o:HO}(e:H' b>>o)(t:TbAt b H->TbAt b H'):Ev H H' b o:=by
 cases o <;> first|exact e|exact⟨⟨_,e⟩,t⟩
def kf4{H H':Hp}{b:Addr}{o:HO}(e:Ev H H' b o):∃o',H' b>>o':=by
 cases o <;> first|exact⟨_,e⟩|exact⟨_,e.1.choose_spec⟩
theorem ka9{H H1 H2:Hp}{b:Addr}{o:HO}(e:Ev H H1 b o)(k:∀o,H1 b>>o->Ev H1 H2 b o):Ev H H2 b o:=by
 cases o with
 |tbl ps=>
  obtain⟨⟨ps1,e1⟩,t1⟩:=e
  obtain⟨e2,t2⟩:=(show Ev H1 H2 b (.tbl ps1) from k _ e1)
  rwa[e2,fun h=>t2 (t1 h)]
 |_=>exact k _ e
def kd3{b p:Addr}{H:Hp}{o:HO}(h:TbAt b H)(n:b≠p)(hx:NX H p):TbAt b (upd H p o):=by
 obtain⟨ps,e,t,hor⟩:=h
 rwa[ps,by rw[kah n];exact e,t,fun pos d ed=>?_]
 obtain⟨c,rfl,z2⟩:=hor pos d ed
 have hc:c≠p:=fun e=>by
  subst e
  exact hx _ z2
 rwa[c,6,by rw[kah hc];exact z2]
def Same(H H':Hp):Prop:=∀b o,H b>>o->Ev H H' b o
def Same.refl(H:Hp):Same H H:=fun _ _ h=>ev_eq h fun t=>t
def Same.trans{H H1 H2:Hp}(a:Same H H1)(b:Same H1 H2):Same H H2:=fun c o h=>ka9 (a c o h) fun o' e=>b c o' e
theorem Same.free{H H':Hp}(e:Same H H'){l:Addr}(h:H' l=Option.none):H l=Option.none:=by
 cases q:H l with
 |none=>rfl
 |some o=>
  obtain⟨o',e'⟩:=kf4 (e l o q)
  rw[e'] at h
  cases h
def Same.seq{K:Mt}{H H':Hp}{a:Addr}{xs:List V}(e:Same H H')(h:SqL K H a xs):SqL K H' a xs:=by
 rcases h with(h|⟨o,h⟩)|h
 ·exact .inl (.inl (e _ _ h))
 ·exact .inl (.inr ⟨o,e _ _ h⟩)
 ·exact .inr h
def Same.tb{H H':Hp}(s:Same H H'){b:Addr}(h:TbAt b H):TbAt b H':=by
 obtain⟨ps,e,r⟩:=id h
 exact(show Ev H H' b (.tbl ps) from s b _ e).2 h
def keD(K:Mt)(tP tR:Addr):Sp:=fun vs H Q _=>∃(a:Addr)(ns:List Int),vs=[.ref a]/\SqL K H a (ns.map V.int)/\ns.length<=63/\TbAt tP H/\TbAt tR H/\∀H',Q (.bl true) H'
theorem kiW{P:Program}{w:World}{K:Mt}{mg mb:Str->Option Value}{k:Nat}{fa a tP tR c0 c1:Addr}{fd:FuncData}{x:Str}{s₁:Shared}{vs:List Value}{ns:List Int}
  (KX:K.In s₁.heap)(hns:s₁.heap.Ns mainGlobals mg)(hb:s₁.heap.Ns builtinsNs mb)(hbb:∀x:Str,x≠"__name__"->mb x=bootBuiltins x)(hlim:s₁.heap.NoLimit)(hg:s₁.gens= #[])
  (ha:s₁.heap.get? a>>{cls:=.type "list",data:=.seq vs.toArray})(hi:IntsAre vs ns)(hl:ns.length<=63)(hr:Room k callerA)(hT:s₁.heap.get? tP>>(E1 #[]))(CK:CodeK K c0 tP)(kT:K.lookup tP=none)(hR:s₁.heap.get? tR>>(E1 #[]))(CR:CodeK K c1 tR)(kR:K.lookup tR=none)(hBM:BltM mg s₁.heap)
  (F:∀base:Heap,K.In base->base.Ns mainGlobals mg->BltM mg base->FnOk P w K mg base CX0 k fa fd [x] (keD K tP tR))(hbind:∀(s:Shared)(u:Value),BindsTo s fd ⟨[u],[]⟩ [(x,u)]):
  codeAny (model P w) callerA (.call (.ref fa) ⟨[.ref a],[]⟩) (fun r s'=>r=.ok (.ret (.bool true))/\OldK s₁.heap s'.heap/\s'.os=s₁.os/\AllBare s'.gens) s₁:=by
 have rv:=kgc hi
 have lenV:=hi.length
 have hlz:ns.length<=sizeLine:=Mz hl (by decide)
 have nTa:tP≠a:=fun e=>by
  rw[e,ha] at hT
  have:=Option.some.inj hT
  injection this with z
  cases z
 have nRa:tR≠a:=fun e=>by
  rw[e,ha] at hR
  have:=Option.some.inj hR
  injection this with z
  cases z
 have core:∀H:Hp,SqL K H a (ns.map V.int)->HOk P w H s₁.heap->H tP>>(.tbl #[])->H tR>>(.tbl #[])->(∀b,b≠tP->b≠tR->H b=none∨(b=a/\∃o xs,H b>>(.frz o (.lst xs))))->(H a≠none->K.lookup a=none)->
   codeAny (model P w) callerA (.call (.ref fa) ⟨[.ref a],[]⟩) (fun r s'=>r=.ok (.ret (.bool true))/\OldK s₁.heap s'.heap/\s'.os=s₁.os/\AllBare s'.gens) s₁:=by
  intro H hS hok eT eR hO hK
  have base_of:∀{b:Addr}{o:Obj},s₁.heap.get? b>>o->H b=none->(hidT s₁.heap H).get? b>>o:=fun e n=>klD e n
  have noT:∀{b:Addr}{o:Obj},s₁.heap.get? b>>o->o.cls≠.none->(∀us n,o.data≠.seq us n)->H b=none:=fun {b o} e hc hd=>by
   by_cases hbT:b=tP
   ·rw[hbT,hT] at e
    cases e
    exact absurd rfl hc
   by_cases hbR:b=tR
   ·rw[hbR,hR] at e
    cases e
    exact absurd rfl hc
   ·rcases hO b hbT hbR with z|⟨z,_⟩
    ·exact z
    ·rw[z,ha] at e
     cases e
     exact absurd rfl (hd _ _)
  have noA:∀{b:Addr}{o:Obj}{es:Array DictEntry}{ep:Nat},s₁.heap.get? b>>o->o.data=.dict es ep->H b=none:=fun {b o es ep} e d=>by
   by_cases hbT:b=tP
   ·rw[hbT,hT] at e
    cases e
    cases d
   by_cases hbR:b=tR
   ·rw[hbR,hR] at e
    cases e
    cases d
   ·rcases hO b hbT hbR with z|⟨z,_⟩
    ·exact z
    ·rw[z,ha] at e
     cases e
     cases d
  have nsK:∀{b:Addr}{m:Str->Option Value},s₁.heap.Ns b m->(hidT s₁.heap H).Ns b m:=fun {b m} ⟨o,es,ep,e,d,r⟩=>⟨o,es,ep,base_of e (noA e d),d,r⟩
  have hKb:K.In (hidT s₁.heap H):=fun b o e=>base_of (KX b o e) (by
   by_cases hbT:b=tP
   ·rw[hbT,kT] at e
    cases e
   by_cases hbR:b=tR
   ·rw[hbR,kR] at e
    cases e
   ·rcases hO b hbT hbR with z|⟨z,o',xs,z2⟩
    ·exact z
    ·subst z
     rw[hK (by rw[z2];simp)] at e
     cases e)
  have hM:Mod K mg (hidT s₁.heap H):=⟨hKb,nsK hns,⟨mb,nsK hb,hbb⟩,let⟨mc,h1,h2⟩:=hlim;⟨mc,nsK h1,h2⟩⟩
  have hBb:BltM mg (hidT s₁.heap H):=by
   obtain⟨bm,ob,b1,b2,b3,b4,b5,b6⟩:=hBM
   rwa[bm,ob,b1,b2,base_of b3 (noT b3 (by rw[b4];intro z;cases z) (fun us n z=>by rw[b6] at z;cases z)),b4,b5,b6]
  have e0:Env0 P w K mg (hidT s₁.heap H) callerA [] s₁ H:=⟨rfl,hM,fun b o e=>kna e,Nat.le_of_eq (kkk _ _),trivial,fun b hb=>absurd (show b∈([]:List Addr) from hb) (by simp),hok, .of_eq hg⟩
  have hsp:keD K tP tR [.ref a] H (fun v _=>v=.bl true) fun _ _ _=>False:=⟨a,ns,rfl,hS,hl,⟨#[],eT,by trivial,fun pos c e=>by cases e⟩,⟨#[],eR,by trivial,fun pos c e=>by cases e⟩,fun _=>rfl⟩
  refine codeAny_mono ((F _ hKb (nsK hns) hBb).run callerA [] s₁ H ⟨[.ref a],[]⟩ [.ref a] [.ref a] _ _ hr e0 (hbind s₁ (.ref a)) (.cons rfl .nil) hsp) fun r s' h=>?_
  cases r with
  |error e=>exact(show False from h).elim
  | ok fl=>
   cases fl with
   |next=>exact False.elim h
   |brk=>exact False.elim h
   |cont=>exact False.elim h
   | ret u=>
    obtain⟨v,H',os,bare,un,hok',r',q⟩:=h
    have q':v=.bl true:=q
    subst q'
    obtain rfl:u=Value.bool true:=r'
    have kp:∀b o,b≠tP->b≠tR->s₁.heap.get? b>>o->s'.heap.get? b>>o:=fun b o hbT hbR e=>by
     rcases hO b hbT hbR with z|⟨z,o',xs,z2⟩
     ·exact un.keep b o e z (fun z=>absurd (show b∈([]:List Addr) from z) (by simp)) (by simp)
     ·have z3:=un.frzs b o' _ z2
      obtain⟨e1,_⟩:=hok b _ z2
      obtain⟨e2,_⟩:=hok' b _ z3
      rw[e] at e1
      cases e1
      exact e2
    obtain⟨more,eM⟩:=un.tbls tP #[] eT
    have tM:s'.heap.get? tP>>(E1 (#[]++more)):=(show ObjOk P w H' s'.heap tP (.tbl (#[]++more)) from hok' tP _ eM)
    obtain⟨mor2,eM2⟩:=un.tbls tR #[] eR
    have tM2:s'.heap.get? tR>>(E1 (#[]++mor2)):=(show ObjOk P w H' s'.heap tR (.tbl (#[]++mor2)) from hok' tR _ eM2)
    rwa[6,⟨fun b o e=>?_,fun b o e=>?_⟩,os,bare]
    ·by_cases hbT:b=tP
     ·subst hbT
      rw[hT] at e
      cases e
      obtain⟨oc,us,_,_,_,_,_,_,_,b1,c2,c3,c4,_⟩:=CK
      exact .inr (.inl ⟨⟨c0,oc,us,KX _ _ b1,c2,c3,c4⟩,rfl,#[],more,rfl,tM⟩)
     by_cases hbR:b=tR
     ·subst hbR
      rw[hR] at e
      cases e
      obtain⟨oc,us,_,_,_,_,_,_,_,d1,d2,d3,d4,_⟩:=CR
      exact .inr (.inl ⟨⟨c1,oc,us,KX _ _ d1,d2,d3,d4⟩,rfl,#[],mor2,rfl,tM2⟩)
     ·exact .inl (kp b o hbT hbR e)
    ·by_cases hbT:b=tP
     ·subst hbT
      rwa[_,tM]
     by_cases hbR:b=tR
     ·subst hbR
      rwa[_,tM2]
     ·rwa[o,kp b o hbT hbR e]
 cases hk:K.lookup a with
 | some o=>
  have e:=KX a o hk
  rw[ha] at e
  cases e
  refine core (fun b=>if b=tP∨b=tR then some (.tbl #[]) else none) (.inr ⟨_,vs.toArray,_,hk,rfl,rfl,rfl,by rw[MS,lenV];exact hlz,by simpa using rv⟩) (fun b u z=>?_) (if_pos (.inl rfl)) (if_pos (.inr rfl)) (fun b hbT hbR=>.inl (if_neg fun z=>z.elim hbT hbR)) fun z=>absurd (if_neg fun z=>z.elim nTa.symm nRa.symm) z
  by_cases hbT:b=tP∨b=tR
  ·have z':=(if_pos hbT).symm.trans z
   cases z'
   rcases hbT with h|h <;> subst h
   ·exact(show s₁.heap.get? b>>_ from hT)
   ·exact(show s₁.heap.get? b>>_ from hR)
  ·have z':=(if_neg hbT).symm.trans z
   cases z'
 | none=>
  refine core (fun b=>if b=tP∨b=tR then some (.tbl #[]) else if b=a then some (.frz {cls:=.type "list",data:=.seq vs.toArray} (.lst (ns.map V.int))) else none) (.inl (.inr ⟨{cls:=.type "list",data:=.seq vs.toArray},by show(if a=tP∨a=tR then _ else _)=_;rw[if_neg fun z=>z.elim nTa.symm nRa.symm,if_pos rfl]⟩)) (fun b u z=>?_) (if_pos (.inl rfl)) (if_pos (.inr rfl)) (fun b hbT hbR=>?_) fun _=>hk
  ·by_cases hbT:b=tP∨b=tR
   ·have z':=(if_pos hbT).symm.trans z
    cases z'
    rcases hbT with h|h <;> subst h
    ·exact(show s₁.heap.get? b>>_ from hT)
    ·exact(show s₁.heap.get? b>>_ from hR)
   ·have z1:=(if_neg hbT).symm.trans z
    by_cases hb2:b=a
    ·have z':=(if_pos hb2).symm.trans z1
     cases z'
     subst hb2
     rwa[ha,by rw[Mu];exact hlz,vs,_,rv,ha]
    ·have z':=(if_neg hb2).symm.trans z1
     cases z'
  ·have hbT':¬(b=tP∨b=tR):=fun z=>z.elim hbT hbR
   by_cases hb2:b=a
   ·exact .inr ⟨hb2,_,_,by show(if b=tP∨b=tR then _ else _)=_;rw[if_neg hbT',if_pos hb2]⟩
   ·exact .inl (by show(if b=tP∨b=tR then _ else _)=_;rw[if_neg hbT',if_neg hb2])
theorem walkT2_of{l:PySem.W.OpenLaw}{k:Nat}{q:Program}{loose:List Str}{XP:(Str->Option Value)->Heap->Prop}{YP:World->Heap->Prop}{d:DefRec}{K:Params->Mt}{ts:List Addr}{x:Str}
  (hn:l.most>>63)(hdf:d.params.defaults=[])(hr:Room k callerA)(hY:∀(w:World)(h:Heap),YP w h->(K w.params).In h)(hTs:∀(w:World)(h:Heap),YP w h->∀P∈ts,h.get? P>>(E1 #[]))
  (F:∀(w:World)(mg:Str->Option Value)(fa:Addr)(h:Heap),(K w.params).In h->h.Ns mainGlobals mg->mg d.name>>(.ref fa)->
   ∃(fd:FuncData)(tP c0 tR c1:Addr),tP∈ts/\CodeK (K w.params) c0 tP/\(K w.params).lookup tP=none/\tR∈ts/\CodeK (K w.params) c1 tR/\(K w.params).lookup tR=none/\(∀(s:Shared)(u:Value),BindsTo s fd ⟨[u],[]⟩ [(x,u)])/\
    ∀base:Heap,(K w.params).In base->base.Ns mainGlobals mg->BltM mg base->FnOk l.prog w (K w.params) mg base CX0 k fa fd [x] (keD (K w.params) tP tR)):
  PySem.W.WalkO q loose XP YP l.row.toRowW d [] (fun f vs=>PySem.call f vs):=by
 refine Att.attach_call hn hdf fun w s₀ s₁ mg mb fa o pm cd doc a vs ns G Y ho hd hcd hmg hobj hints hlen hg=>?_
 have KX:=hY w _ Y
 obtain⟨fd,tP,c0,tR,c1,hm,CK,kT,hm2,CR,kR,hb,hF⟩:=F w mg fa _ KX G.T.g hmg
 obtain⟨bm,ob,b1,b2,b3,b4,b5,b6⟩:=G.T.bmain
 exact kiW KX G.T.g G.T.b G.T.builtins G.T.nolimit hg hobj hints hlen hr (hTs w _ Y tP hm) CK kT (hTs w _ Y tR hm2) CR kR ⟨bm,ob,b1,b2,b3,b4,b5,b6⟩ hF hb
def nd1(x:Str):([x]:List Str).Nodup:=by simp
def But(x:Addr)(H H':Hp):Prop:=∀b o,b≠x->H b>>o->Ev H H' b o
def But.trans{x:Addr}{H H1 H2:Hp}(a:But x H H1)(b:But x H1 H2):But x H H2:=fun c o n h=>ka9 (a c o n h) fun o' e=>b c o' n e
def But.same{x:Addr}{H H1 H2:Hp}(a:But x H H1)(b:Same H1 H2):But x H H2:=fun c o n h=>ka9 (a c o n h) fun o' e=>b c o' e
def But.of_same{x:Addr}{H H1:Hp}(b:Same H H1):But x H H1:=fun c o _ h=>b c o h
def But.refl{x:Addr}{H:Hp}:But x H H:=fun b o _ h=>Same.refl H b o h
def kax{x:Addr}{H:Hp}{o:HO}(hx:NX H x:=by first|exact nx kad|exact nx (by assumption)|exact nx0 (by assumption)|exact kee (nx kad) rfl|exact kee (nx (by assumption)) rfl):But x H (upd H x o):=fun b u n e=>ev_eq (by rw[kah n];exact e) fun t=>kd3 t n hx
def kai{H:Hp}{p:Addr}{o:HO}(hp:H p=none):Same H (upd H p o):=fun b u e=>ev_eq (by rw[kah (kak e hp)];exact e) fun t=>kd3 t (kak e hp) (nx0 hp)
def kar{H H':Hp}{p:Addr}{o:HO}(hp:H p=none)(s:Same H H')(hx:NX H' p:=by first|exact nx (by assumption)|exact nx kad|exact kee (nx (by assumption)) rfl|exact kee (nx kad) rfl|exact kee (nx0 (by assumption)) rfl|exact kee (kee (nx (by assumption)) rfl) rfl):Same H (upd H' p o):=fun b u e=>
 ka9 (s b u e) fun u' e'=>ev_eq (by rw[kah (kak e hp)];exact e') fun t=>kd3 t (kak e hp) hx
def ka3{H:Hp}{x dx C:Addr}(hx:H x=none)(nd:H dx=none):Same H (upd (upd H dx (.own x)) x (.ins C dx [])):=fun b u e=>by
 have n1:=kak e hx
 have n2:=kak e nd
 exact ev_eq (by rw[kah n1,kah n2];exact e) fun t=>kd3 (kd3 t n2 (nx0 nd)) n1 (kee (nx0 hx) rfl)
def kbd{H H':Hp}{x dx C:Addr}(hx:H x=none)(nd:H dx=none)(k:But x (upd (upd H dx (.own x)) x (.ins C dx [])) H'):Same H H':=fun b o e=>ka9 (ka3 (C:=C) hx nd b o e) fun o' e'=>k b o' (kak e hx) e'
def kcq{H:Hp}{x dx C y:Addr}(h:(upd (upd H dx (.own x)) x (.ins C dx [])) y=none):H y=none:=by
 by_cases e1:y=x
 ·subst e1
  rw[kad] at h
  cases h
 ·rw[kah e1] at h
  by_cases e2:y=dx
  ·subst e2
   rw[kad] at h
   cases h
  ·rw[kah e2] at h
   exact h
def kcW{H:Hp}{x dx C y:Addr}{o:HO}(nx:H x=none)(nd:H dx=none)(h:H y>>o):(upd (upd H dx (.own x)) x (.ins C dx [])) y>>o:=by
 rw[kah (kak h nx),kah (kak h nd)]
 exact h
theorem kal{f:Str}{v:V}:∀{fs:List (Str×V)}{n:Nat},fs.length<=n->(putF f v fs).length<=n+1
 |[],n,_=>by
  show 1<=n+1
  lia
 | (g,x)::r,n,h=>by
  show(if g=f then(g,v)::r else(g,x)::putF f v r).length<=n+1
  have h':r.length+1<=n:=h
  split
  ·show r.length+1<=n+1
   lia
  ·show(putF f v r).length+1<=n+1
   have:=kal (f:=f) (v:=v) (fs:=r) (n:=n-1) (by lia)
   lia
def few{fs:List (Str×V)}(h:fs.length<=20):fs.length<1000:=by lia
theorem kcS{ns:List Addr}{i:Nat}{x:V}(h:(ns.map V.ref)[i]?>>x):∃z,ns[i]?>>z/\x=V.ref z:=by
 rw[MN] at h
 cases e:ns[i]? with
 |none=>rw[e] at h;cases h
 |some z=>rw[e] at h;exact⟨z,rfl,(Option.some.inj h).symm⟩
theorem kcK{α:Type}{g: α->V}{ns:List α}{i:Nat}{x:V}(h:(ns.map g)[i]?>>x):∃z,ns[i]?>>z/\x=g z:=by
 rw[MN] at h
 cases e:ns[i]? with
 |none=>rw[e] at h;cases h
 |some z=>rw[e] at h;exact⟨z,rfl,(Option.some.inj h).symm⟩
def at_lt{α:Type}{xs:List α}{i:Nat}{x: α}(h:xs[i]?>>x):i<xs.length:=(MO.mp h).1
def at_of{α:Type}{xs:List α}{i:Nat}(h:i<xs.length):∃x,xs[i]?>>x:=⟨xs[i],by simp[h]⟩
def keB{α:Type}{rs:List α}{i:Nat}{r: α}(h:rs[i]?>>r):rs.take (i+1)=rs.take i++[r]:=by
 rw[EC,h]
 rfl
inductive P2{α β:Type}(R: α->β->Prop):List α->List β->Prop
 |nil:P2 R [] []
 |cons {a: α} {b: β} {as:List α} {bs:List β} (h:R a b) (t:P2 R as bs):P2 R (a::as) (b::bs)
section
variable{α β:Type}{R R': α->β->Prop}{as as':List α}{bs bs':List β}
theorem P2.len(h:P2 R as bs):as.length=bs.length:=by
 induction h with
 |nil=>rfl
 |cons r t ih=>simp[ih]
theorem P2.get(h:P2 R as bs){i:Nat}{a: α}{b: β}(e1:as[i]?>>a)(e2:bs[i]?>>b):R a b:=by
 induction h generalizing i with
 |nil=>simp at e1
 | cons r t ih=>
  cases i with
  |zero=>
   simp at e1 e2
   subst e1 e2
   exact r
  |succ i=>exact ih (by simpa using e1) (by simpa using e2)
theorem P2.at(h:P2 R as bs){i:Nat}{a: α}(e1:as[i]?>>a):∃b,bs[i]?>>b/\R a b:=by
 obtain⟨b,e2⟩:=at_of (xs:=bs) (i:=i) (by rw[<-h.len];exact at_lt e1)
 rwa[b,e2,h.get e1 e2]
theorem P2.mono(h:P2 R as bs)(k:∀a b,R a b->R' a b):P2 R' as bs:=by
 induction h with
 |nil=>exact .nil
 |cons r t ih=>exact .cons (k _ _ r) ih
theorem P2.append(h:P2 R as bs)(h':P2 R as' bs'):P2 R (as++as') (bs++bs'):=by
 induction h with
 |nil=>exact h'
 |cons r t ih=>exact .cons r ih
theorem P2.snoc(h:P2 R as bs){a: α}{b: β}(r:R a b):P2 R (as++[a]) (bs++[b]):=h.append (.cons r .nil)
end
theorem rep1(n:Nat)(v:V):(My n [v]).flatten=My n v:=by
 induction n with
 |zero=>rfl
 |succ n ih=>rw[Et,Ef,ih,Et];rfl
def kjH(n:Nat)(z:Int):My n (V.int z)=(My n z).map V.int:=by simp
def kme(k:Int):(!decide (V.int k=V.non))=true:=by simp
def kmd:(!decide (V.non=V.non))=false:=by simp
noncomputable def oV:Option Int->V
 |none=>.non
 |some z=>.int z
structure TxtB(mg:Str->Option Value):Prop where
 range:mg "range"=none
 len:mg "len"=none
 min:mg "min"=none
 max:mg "max"=none
 isi:mg "isinstance"=none
 bool:mg "bool"=none
 int:mg "int"=none
 list:mg "list"=none
 sum:mg "sum"=none
 enum:mg "enumerate"=none
 any:mg "any"=none
 all:mg "all"=none
 rev:mg "reversed"=none
 zip:mg "zip"=none
 abs:mg "abs"=none
 sorted:mg "sorted"=none
 tuple:mg "tuple"=none
 str:mg "str"=none
structure FunD(K:Mt)(x qual:Str)(st:Stmt)(f:Addr)(fd:FuncData):Prop where
 ex:∃(oc:Value)(od:Option Addr)(dV kV doc pm:Value)(an:Option Addr)(cdv ct:Value)(osl:Array (Option Value)),
  fd=MP x qual (kaE st) (kaC st) (kaf st) dV kV doc pm an cdv ct/\K.lookup f>>⟨oc,od, .func fd,osl⟩/\Ee K cdv qual=true
 kp:MJ K (.ref f)=true
theorem FunD.ok{P:Program}{w:World}{K:Mt}{mg:Str->Option Value}{base:Heap}{x qual:Str}{st:Stmt}{f:Addr}{fd:FuncData}{N ps:List Str}{k:Nat}{sp:Sp}(F:FunD K x qual st f fd)(S:kam N ps (kaf st))(len:∀vs H Q E,sp vs H Q E->vs.length=ps.length)
  (hbody:∀(cdv:Value)(A:Around)(outer:List Env)(s:Shared)(H:Hp)(vs:List V)(Q:VK)(E:XK),Room k (A.deeper (PyProof.Rows.envOfC qual (kaf st) s.heap.objs.size f cdv))->sp vs H Q E->
   ∃t,PSs (cxOf CX0 P w K mg base N qual (kaf st) f cdv A outer s H E).nox (kaC st) t/\t {nx:=fun _ H'=>Q .non H',rt:=Q} (start N vs) H):FnOk P w K mg base CX0 (k+1) f fd ps sp:=by
 obtain⟨oc,od,dV,kV,doc,pm,an,cdv,ct,osl,rfl,lk,hcd⟩:=F.ex
 refine fn_of lk hcd S len fun A outer s H vs Q E hr hsp=>?_
 obtain⟨t,h,q⟩:=hbody cdv A outer s H vs Q E hr hsp
 rwa[t,h.nox,q]
theorem kb0{K:Mt}{x qual:Str}{st:Stmt}{f:Addr}{oc:Value}{od an:Option Addr}{osl:Array (Option Value)}{dV kV doc pm cdv ct:Value}(l:K.lookup f>>⟨oc,od, .func (MP x qual (kaE st) (kaC st) (kaf st) dV kV doc pm an cdv ct),osl⟩)
  (c:Ee K cdv qual=true)(k:MJ K (.ref f)=true):FunD K x qual st f (MP x qual (kaE st) (kaC st) (kaf st) dV kV doc pm an cdv ct):=⟨⟨oc,od,dV,kV,doc,pm,an,cdv,ct,osl,rfl,l,c⟩,k⟩
structure Dn(K:Mt)(mg:Str->Option Value)(x:Str)(st:Stmt)(ps:List Str)(f:Addr)(fd:FuncData):Prop where
 F:FunD K x x st f fd
 b:Binds K fd ps []
 m:mg x>>(.ref f)
structure Isi(K:Mt)(C:Addr):Prop where
 ha:Mw K (.ref C) "__class__">>(some (.builtin "object.__class__"))
 hn:EN K (.builtin "object.__class__") "__get__">>(some (.builtin "getset_descriptor.__get__"))
 ht:DH K (.builtin "object.__class__")>>true
 hm:MM K C (.type "object")>>true
def klA{K:Mt}{A B:Addr}{b:Bool}(mA:MM K A (.ref B)>>b)(ob:MM K B (.type "object")>>true)(ty:M5 K (.ref B)>>(.type "type"))(ne:A≠B):En K (.ref A) (.ref B)>>b:=by
 have e:(Value.ref A==Value.ref B)=false:=beq_eq_false_iff_ne.mpr fun z=>ne (by injection z)
 obtain⟨cd,a,_⟩:=Option.bind_eq_some_iff.mp ob
 unfold En PySem.W.kitCls DL
 rw[e,if_neg MD]
 show(if((PySem.W.clsIn K B).isSome&&M5 K (.ref B)==some (.type "type"))=true then MM K A (.ref B) else none)>>b
 rw[a,ty,mA,if_pos (by simp)]
def kok{K:Mt}{A B:Addr}(h:MM K A (.ref B)>>false)(hA:MM K A (.ref A)>>true):A≠B:=fun e=>by
 rw[<-e,hA] at h
 cases h
structure ClsT(K:Mt)(mg:Str->Option Value)(nm:Str)(C:Addr):Prop where
 cl:Cls K C
 m:mg nm>>(.ref C)
 isi:Isi K C
 self:MM K C (.ref C)>>true
 ty:M5 K (.ref C)>>(.type "type")
 makes:Ec K C=true
 kp:MJ K (.ref C)=true
structure MthT(K:Mt)(C:Addr)(m qual:Str)(st:Stmt)(ps:List Str)(f:Addr)(fd:FuncData):Prop where
 at_:Mw K (.ref C) m>>(some (.ref f))
 fn:Ej K (.ref f)=true
 F:FunD K m qual st f fd
 b:Binds K fd ps []
def MthT.me{K:Mt}{C:Addr}{m qual:Str}{st:Stmt}{ps:List Str}{f:Addr}{fd:FuncData}(h:MthT K C m qual st ps f fd):Meth K C m f:=⟨h.at_,h.fn,h.F.kp⟩
def MthT.mk'{K:Mt}{mg:Str->Option Value}{C:Addr}{nm qual:Str}{st:Stmt}{ps:List Str}{f:Addr}{fd:FuncData}(h:MthT K C "__init__" qual st ps f fd)(c:ClsT K mg nm C):Mk K C f:=⟨c.makes,h.at_,h.fn,c.kp⟩
section
variable{X:Cx}
theorem pcl{k:Nat}{f:Addr}{fd:FuncData}{ps:List Str}{sp:Sp}{x:Str}{st:Stmt}{e:Expr}{es:List Expr}{t:TA}{p pos:Pos}(F:FnOk X.prog X.w X.K X.mg X.base CX0 k f fd ps sp)(hr:Room k X.A)(D:Dn X.K X.mg x st ps f fd)(ha:PA X (e::es) t)
  (hg:autoParam (Gl X x) jz)(hdb:autoParam ((x==("__debug__" :Str))=false) jQ)(he:autoParam (starEach (e::es) X.env=(false,eval e X.env)::starEach es X.env) jz)(hpl:autoParam ((backTo pos (starEach es X.env)).any (·.1)=false) jz):
  PE X (.Call (.Name x p) (e::es) [] pos) (tCall sp [] E0 t):=kjY F hr hg D.m D.F.kp D.b .nil pass0 ha hdb he hpl
theorem psl{i:Nat}{x:Str}{e:Expr}{te:TE}{pos pos':Pos}(hN:X.N.Nodup)(he:PE X e te)(hi:autoParam (X.N[i]?>>x) jz)(hx:autoParam (Loc X.env.scope x) jZ)(hs:autoParam (swapsWith e (some (.Name x pos')) pos.line X.env=pure false) jz)(hf:autoParam (X.fn x=true∨X.env.scope.names.lookup x>>.local) jX):
  PS X (.Assign [.Name x pos'] e pos) (tAsg te (gName i)):=knS hN hi hx he hs hf
theorem pgn{i:Nat}{x:Str}{pos:Pos}(hN:X.N.Nodup)(hi:autoParam (X.N[i]?>>x) jz)(hx:autoParam (Loc X.env.scope x) jZ)(hf:autoParam (X.fn x=true∨X.env.scope.names.lookup x>>.local) jX):PG X (.Name x pos) (gName i):=km4 hN hi hx hf
end
section
variable{X:Cx}
end
section
variable{X:Cx}
theorem kiK{ss:List Str}:∀{us:List Value},Vals (ss.map V.str) us->StrsAre us ss:=by
 induction ss with
 |nil=>intro us r;rw[Ep] at r;cases r;exact .nil
 | cons n ss ih=>
  intro us r
  rw[MQ] at r
  cases r with
  |cons h t=>
   obtain⟨tk,rfl⟩:=h
   exact .cons _ _ (ih t)
inductive kmy(K:Mt)(x:V)(vs:List V)(H:Hp)(Q:VK):Prop
 |ct(sep:Str)(p:Addr)(ss:List Str)(_:x=.str sep)(_:vs=[.ref p])(_:SqL K H p (ss.map V.str))(_:(ss.map (·.length)).sum+ss.length*sep.length<=16777216)(_:Q (.str (PySem.Txt.join sep ss)) H):kmy K x vs H Q
def rJoin(K:Mt):V->List V->Hp->VK->Prop:=fun x vs H Q=>kmy K x vs H Q
theorem kj8:MtM X "str.join" (rJoin X.K):=by
 intro pins s σ H x vs v us Q I rx rv h
 obtain⟨sep,p,ss,rfl,rfl,hq,hlen,q⟩:=h
 obtain⟨tk,rfl⟩:=rx
 obtain⟨u,rfl,ru⟩:=rv.one
 cases ru
 obtain⟨its,r',pl,hz⟩:=I.list hq
 exact join_list pl.isList (kiK r') hlen fun t' k=>⟨.str _,H,I.tok k,⟨t',rfl⟩,q⟩
end
section
variable{P:Program}{w:World}{H:Hp}{h:Heap}{c:Addr}{o:Obj}
end
section
variable{P:Program}{w:World}{K:Mt}{mg:Str->Option Value}{base:Heap}{k:Nat}{f c cc:Addr}{fo co:Obj}{scope:Scope}{x y:Str}{name qual:Str}{params:Arguments}{body:Expr}{cl:List (Str×Addr)}{pm ctv uy:Value}{vy:V}{te:TE}
end
section
variable{X:Cx}{scope:Scope}{x y:Str}{N:List Str}{cap:List (Option Nat)}{c0 P:Addr}{params:Arguments}{body:Expr}{lpos:Pos}
end
section
variable{X:Cx}
end
structure ExStep(fr:List Addr)(ol:List Addr)(e:Addr)(oe:Obj)(T:Addr)(fl:Value)(h h':Heap):Prop where
 keep:∀b o,h.get? b>>o->b∉fr->b≠e->b∉ol->h'.get? b>>o
 slot:∀b o,h.get? b>>o->b∈fr->b∉ol->b≠e->∃sl,h'.get? b>>{o with slots:=sl}
 ex:h'.get? e>>(oe.mapFields (·.setIfInBounds 1 (.ref T)))
 new:h.get? T=none
 sz:h.objs.size<=T
 there:∀b o,h.get? b>>o->∃o',h'.get? b>>o'
 tb:∃oT ts,h'.get? T>>oT/\oT.data=.fields ts/\ts[3]?>>fl
section
variable{M:Model}{A:Around}{E:Value->Shared->Prop}{s:Shared}
theorem kis{base:Heap}{env:Env}{outer:List Env}{L e:Addr}{oe:Obj}{vs:Array Value}{head:Value}{hadNext:Bool}{Q:Unit->Shared->Prop}
  (hfr:A.frames>>(env::outer))(hl:s.heap.FunFrames base (env::outer))(hf:env.frame>>L)(he:s.heap.get? e>>oe)(hd:oe.data=.fields vs)(hsz:1<vs.size)
  (h:∀h' T,ExStep (frs (env::outer)) [] e oe T (rawInt L) s.heap h'->Q () {s with heap:=h'}):
  wpAny M A (do let a <-frameOf env;let pl <-entryPlaceOf L hadNext;let b <-EntryCells.newEntry head a .none (rawInt L) .none pl;setField (.ref e) 1 b) Q E s:=by
 have hene:e∉frs (env::outer):=fun hm=>by
  obtain⟨_,o,ho,hnf⟩:=hl.mem hm
  rw[he] at ho
  cases ho
  exact hnf vs hd
 refine wpAny_bind (wpAny_frameOf_fun hfr hl hf fun h₁ hs₁=>?_)
 refine wpAny_bind (wpAny_entryPlaceOf fun pl hpl=>?_)
 unfold EntryCells.newEntry newFields
 refine wpAny_bind (wpAny_newObj_type ?_ (hpl.sizeOk5 _ _ _ _ _))
 have he₁:h₁.get? e>>oe:=(hs₁.2.1 e hene).trans he
 generalize hob:({cls:=.type "traceback",dict:=none,data:=.fields ([head, .ref L, .none,rawInt L, .none]++(if pl.isEmpty then My 6 Value.none else pl)).toArray}:Obj)=ob
 have he₂:=Heap.get?_push_of_some (h:=h₁) ob he₁
 refine wpAny_setField he₂ hd hsz (h _ h₁.objs.size ?_)
 have hTe:h₁.objs.size≠e:=Ek (Heap.lt_size he₁)
 have hd₃:=Obj.data_mapFields hd (·.setIfInBounds 1 (Value.ref h₁.objs.size))
 have kp:∀b o,b≠e->h₁.get? b>>o->((h₁.push ob).update e (Obj.mapFields (·.setIfInBounds 1 (Value.ref h₁.objs.size)))).get? b>>o:=fun b o hbe hb=>by
  rw[Heap.get?_update_other _ _ (Ne.symm hbe)]
  exact Heap.get?_push_of_some _ hb
 have ex:=Heap.get?_update_self (Obj.mapFields (·.setIfInBounds 1 (Value.ref h₁.objs.size))) he₂ (Obj.isFreed_of_fields hd₃)
 rwa[fun b o hb hnf hbe _=>kp b o hbe ((hs₁.2.1 b hnf).trans hb),fun b o hb _ _ hbe=>?_,ex,Heap.get?_none_of_le (by rw[hs₁.1];exact Mv _),by rw[hs₁.1];exact Mv _,fun b o hb=>?_,?_]
 ·obtain⟨sl,e1⟩:=hs₁.2.2 b o hb
  rwa[sl,kp b _ hbe e1]
 ·by_cases hbe:b=e
  ·rw[hbe]
   rwa[_,ex]
  ·obtain⟨sl,e1⟩:=hs₁.2.2 b o hb
   rwa[_,kp b _ hbe e1]
 ·subst hob
  rwa[_,_,(Heap.get?_update_other _ _ (Ne.symm hTe)).trans (Heap.get?_push_size h₁ rfl),6,?_]
  rcases hpl with rfl|⟨_,_,_,_,_,_,_,rfl⟩ <;> simp
theorem ExStep.nT{fr ol:List Addr}{e T:Addr}{oe:Obj}{fl:Value}{h h':Heap}(x:ExStep fr ol e oe T fl h h'){b:Addr}{o:Obj}(hb:h.get? b>>o):T≠b:=fun z=>by
 have:=x.new
 rw[z,hb] at this
 cases this
theorem kgU{fr ol:List Addr}{e T:Addr}{oe:Obj}{vs:Array Value}{fl:Value}{h:Heap}{Q:Unit->Shared->Prop}(x:ExStep fr ol e oe T fl h s.heap)(hoe:h.get? e>>oe)(hd:oe.data=.fields vs)(hsz:1<vs.size)
  (k:∀h',ExStep fr ol e oe T .none h h'->Q () {s with heap:=h'}):wpAny M A (setFlight (.ref e) none) Q E s:=by
 obtain⟨oT,ts,hT,hdT,h3⟩:=x.tb
 have nTe:=x.nT hoe
 have hd₃:=Obj.data_mapFields hd (·.setIfInBounds 1 (Value.ref T))
 have hz:3<ts.size:=(ED.mp h3).1
 unfold setFlight
 refine wpAny_bind (wpAny_field x.ex hd₃ (x:=.ref T) (by simp[hsz]) ?_)
 rw[if_pos (show(Value.ref T !=Value.none)=true from by simp)]
 have hdT':=Obj.data_mapFields hdT (·.setIfInBounds 3 ((none:Option Addr).elim Value.none fun f=>rawInt f))
 refine wpAny_setField hT hdT hz (k _ ⟨fun b o hb h1 h2 h3=>?_,fun b o hb h1 h2 h3=>?_,?_,x.new,x.sz,fun b o hb=>?_,_,_,Heap.get?_update_self _ hT (Obj.isFreed_of_fields hdT'),hdT',?_⟩)
 ·rw[Heap.get?_update_other _ _ (x.nT hb)]
  exact x.keep b o hb h1 h2 h3
 ·rw[Heap.get?_update_other _ _ (x.nT hb)]
  exact x.slot b o hb h1 h2 h3
 ·rw[Heap.get?_update_other _ _ nTe]
  exact x.ex
 ·rw[Heap.get?_update_other _ _ (x.nT hb)]
  exact x.there b o hb
 ·simp[hz]
theorem kf3{base:Heap}{env:Env}{outer:List Env}{L e:Addr}{oe:Obj}{vs:Array Value}{Q:Unit->Shared->Prop}
  (hfr:A.frames>>(env::outer))(hl:s.heap.FunFrames base (env::outer))(hf:env.frame>>L)(he:s.heap.get? e>>oe)(hd:oe.data=.fields vs)(h1:vs[1]?>>.none)
  (h:∀h' T,ExStep (frs (env::outer)) [] e oe T (rawInt L) s.heap h'->Q () {s with heap:=h'}):wpAny M A (noteFrame (.ref e) env) Q E s:=by
 unfold noteFrame
 simp only[hf]
 refine wpAny_bind (wpAny_field he hd h1 ?_)
 rw[if_neg (by decide)]
 exact kis hfr hl hf he hd (ED.mp h1).1 h
theorem kgT{base:Heap}{env:Env}{outer:List Env}{L e T0:Addr}{oe oT:Obj}{vs ts:Array Value}{Q:Unit->Shared->Prop}
  (hfr:A.frames>>(env::outer))(hl:s.heap.FunFrames base (env::outer))(hf:env.frame>>L)(he:s.heap.get? e>>oe)(hd:oe.data=.fields vs)(h1:vs[1]?>>(.ref T0))(nT:T0≠e)(hT:s.heap.get? T0>>oT)(hdT:oT.data=.fields ts)(h3:ts[3]?>>.none)
  (h:∀h' T,ExStep (frs (env::outer)) [T0] e oe T (rawInt L) s.heap h'->Q () {s with heap:=h'}):wpAny M A (noteFrame (.ref e) env) Q E s:=by
 unfold noteFrame
 simp only[hf]
 refine wpAny_bind (wpAny_field he hd h1 ?_)
 rw[if_pos (show(Value.ref T0 !=Value.none)=true from by simp)]
 refine wpAny_bind (wpAny_field hT hdT h3 ?_)
 rw[if_neg (show ¬((Value.none==rawInt L)=true) from by simp[rawInt])]
 refine wpAny_bind (wpAny_setField hT hdT (ED.mp h3).1 ?_)
 have other:∀b,b≠T0->(s.heap.update T0 (Obj.mapFields (·.setIfInBounds 3 Value.none))).get? b=s.heap.get? b:=fun b hb=>Heap.get?_update_other _ _ (Ne.symm hb)
 have hdT':=Obj.data_mapFields hdT (·.setIfInBounds 3 Value.none)
 have self0:=Heap.get?_update_self (Obj.mapFields (·.setIfInBounds 3 Value.none)) hT (Obj.isFreed_of_fields hdT')
 have nrec:∀b o,s.heap.get? b>>o->(∀vs,o.data≠.fields vs)->b≠T0:=fun b o hb hnf q=>by
  rw[q,hT] at hb
  cases hb
  exact hnf ts hdT
 refine kis (s:={s with heap:=s.heap.update T0 (Obj.mapFields (·.setIfInBounds 3 Value.none))}) hfr (hl.of_keeps fun b o hb hnf=>⟨o,(other b (nrec b o hb hnf)).trans hb,rfl⟩) hf ((other e (Ne.symm nT)).trans he) hd (ED.mp h1).1 fun h' T x=>h h' T ?_
 have ol:∀b o,s.heap.get? b>>o->∃o',(s.heap.update T0 (Obj.mapFields (·.setIfInBounds 3 Value.none))).get? b>>o':=fun b o hb=>by
  by_cases z:b=T0
  ·rw[z]
   rwa[_,self0]
  ·rwa[o,(other b z).trans hb]
 have nn:∀{b:Addr},b∉[T0]->b≠T0:=fun {b} h z=>h (by rw[z];simp)
 rwa[fun b o hb h1 h2 h3=>x.keep b o ((other b (nn h3)).trans hb) h1 h2 (by simp),fun b o hb h1 h2 h3=>x.slot b o ((other b (nn h2)).trans hb) h1 (by simp) h3,x.ex,?_,?_,fun b o hb=>?_,x.tb]
 ·have z:=x.sz
  exact Heap.get?_none_of_le (by rw[Heap.size_update] at z;exact z)
 ·have z:=x.sz
  rw[Heap.size_update] at z
  exact z
 ·obtain⟨o',e'⟩:=ol b o hb
  exact x.there b o' e'
theorem kff{base:Heap}{env:Env}{outer:List Env}{L e:Addr}{oe:Obj}{vs:Array Value}{Q:Unit->Shared->Prop}
  (hfr:A.frames>>(env::outer))(hl:s.heap.FunFrames base (env::outer))(hf:env.frame>>L)(he:s.heap.get? e>>oe)(hd:oe.data=.fields vs)(h1:vs[1]?>>.none)
  (h:∀h' T,ExStep (frs (env::outer)) [] e oe T .none s.heap h'->Q () {s with heap:=h'}):wpAny M A (leaving env (.ref e)) Q E s:=by
 unfold leaving
 refine wpAny_bind (kf3 hfr hl hf he hd h1 fun h' T x=>?_)
 exact kgU x he hd (ED.mp h1).1 fun h'' y=>h h'' T y
end
theorem ObjOk.get{P:Program}{w:World}{H:Hp}{h:Heap}{a:Addr}{o:HO}(x:ObjOk P w H h a o):∃q,h.get? a>>q:=by
 cases o with
 |lst xs=>obtain⟨_,_,_,_,e⟩:=x;exact⟨_,e⟩
 |tup xs=>obtain⟨_,_,_,q,e,_⟩:=x;exact⟨_,e⟩
 |dK kvs=>obtain⟨_,_,_,_,o,_,_,e,_⟩:=x;exact⟨_,e⟩
 |dT kvs=>obtain⟨_,_,_,_,o,_,_,e,_⟩:=x;exact⟨_,e⟩
 |set S n=>obtain⟨o,_,_,_,e,_⟩:=x;exact⟨_,e⟩
 |ins C dx fs=>obtain⟨_,_,_,e,_⟩:=x;exact⟨_,e⟩
 |own y=>obtain⟨_,e⟩:=x;exact⟨_,e⟩
 |xd fs=>obtain⟨_,⟨_,_,_,e,_⟩,_⟩:=x;exact⟨_,e⟩
 |rng lo hi=>obtain⟨_,_,_,e⟩:=x;exact⟨_,e⟩
 |frz ob u=>obtain⟨e,_⟩:=x;exact⟨_,e⟩
 |tbl ps=>exact⟨_,(show h.get? a>>_ from x)⟩
 |met f y=>exact⟨_,(show h.get? a>>_ from x)⟩
 |ext φ=>obtain⟨_,⟨_,e⟩,_⟩:=x;exact⟨_,e⟩
theorem HOk.no{P:Program}{w:World}{H:Hp}{h:Heap}{a:Addr}(x:HOk P w H h)(e:h.get? a=none):H a=none:=by
 cases q:H a with
 |none=>rfl
 |some o=>
  obtain⟨_,e'⟩:=(x a o q).get
  rw[e] at e'
  cases e'
structure ExT(h:Heap)(a T:Addr)(cls:Value)(dx:Option Addr):Prop where
 ob:∃oe vs,h.get? a>>oe/\oe.cls=cls/\oe.dict=dx/\oe.data=.fields vs/\vs[1]?>>(.ref T)
 ne:T≠a
 tb:∃oT ts,h.get? T>>oT/\oT.data=.fields ts/\ts[3]?>>.none
def CX1(P:Program)(w:World):CXT:=fun outer H s E e s'=>∃(a T:Addr)(cls:Value)(dx:Option Addr)(H':Hp),e=.ref a/\s'.os=s.os/\AllBare s'.gens/\Un (frs outer) [] H H' s.heap s'.heap/\HOk P w H' s'.heap/\s.heap.get? a=none/\H' a=none/\s.heap.get? T=none/\H' T=none/\ExT s'.heap a T cls dx/\E cls dx H'
def ExStep.ext{fr ol:List Addr}{e T:Addr}{oe:Obj}{vs:Array Value}{h h':Heap}(x:ExStep fr ol e oe T .none h h')(he:h.get? e>>oe)(hd:oe.data=.fields vs)(hz:1<vs.size):ExT h' e T oe.cls oe.dict:=by
 rwa[⟨_,_,x.ex,Obj.cls_mapFields _ _,?_,Obj.data_mapFields hd _,by simp[hz]⟩,x.nT he,x.tb]
 obtain⟨c,d,dt,sl⟩:=oe
 cases dt <;> rfl
theorem Un.ex{fs ol ex:List Addr}{env:Env}{outer:List Env}{L e T:Addr}{oe:Obj}{fl:Value}{H0 H:Hp}{h0 h h1 h':Heap}(u:Un (frs outer) ex H0 H h0 h)(hf:env.frame>>L)(hL:h0.objs.size<=L)(kp:∀b o,h.get? b>>o->h1.get? b>>o)(x:ExStep (frs (env::outer)) ol e oe T fl h1 h')(h0e:h0.get? e=none)(hol:∀b∈ol,h0.get? b=none):Un (frs outer) ex H0 H h0 h':=by
 have nL:∀b o,h0.get? b>>o->b≠L:=fun b o e z=>absurd (Heap.lt_size e) (by rw[z];exact Dj.mpr hL)
 have ne:∀b o,h0.get? b>>o->b≠e:=fun b o q z=>by
  rw[z,h0e] at q
  cases q
 have nol:∀b o,h0.get? b>>o->b∉ol:=fun b o q z=>by
  rw[hol b z] at q
  cases q
 have nfr:∀b o,h0.get? b>>o->b∉frs outer->b∉frs (env::outer):=fun b o q hb z=>by
  unfold frs at z hb
  rw[EH,hf] at z
  rcases MB.mp z with z|z
  ·exact nL b o q z
  ·exact hb z
 have ifr:∀b,b∈frs outer->b∈frs (env::outer):=fun b hb=>by
  unfold frs at hb⊢
  rw[EH,hf]
  exact MH _ hb
 rwa[fun b o q n hb hx=>x.keep b o (kp b o (u.keep b o q n hb hx)) (nfr b o q hb) (ne b o q) (nol b o q),fun b o q n hb hx=>?_,u.free,fun b o q hx=>?_,u.tups,u.frzs,u.tbls]
 ·obtain⟨sl,e1⟩:=u.slot b o q n hb hx
  obtain⟨sl2,e2⟩:=x.slot b _ (kp b _ e1) (ifr b hb) (nol b o q) (ne b o q)
  rwa[sl2,e2]
 ·obtain⟨o',e1⟩:=u.there b o q hx
  exact x.there b o' (kp b o' e1)
section
variable{P:Program}{w:World}{K:Mt}{mg:Str->Option Value}{base:Heap}{N:List Str}{qual:Str}{scope:Scope}{f:Addr}{cd:Value}{A:Around}{outer:List Env}{s₀:Shared}{H₀:Hp}{E:XK}
end
def FnOk.calm{P:Program}{w:World}{K:Mt}{mg:Str->Option Value}{base:Heap}{k:Nat}{f:Addr}{fd:FuncData}{ps:List Str}{sp:Sp}(F:FnOk P w K mg base (CX1 P w) k f fd ps sp):FnOk P w K mg base CX0 k f fd ps fun vs H Q _=>sp vs H Q E0:=
 ⟨fun vs H Q E h=>F.len vs H Q E0 h,fun A outer s H args us vs Q E hr he hb hv hs=>codeAny_mono (F.run A outer s H args us vs Q E0 hr he hb hv hs) fun r s' h=>by
  cases r with
  |ok fl=>cases fl <;> exact h
  |error e=>
   obtain⟨_,_,_,_,_,_,_,_,_,_,_,_,_,_,_,z⟩:=h
   exact z.elim⟩
theorem FunD.okX{P:Program}{w:World}{K:Mt}{mg:Str->Option Value}{base:Heap}{x qual:Str}{st:Stmt}{f:Addr}{fd:FuncData}{N ps:List Str}{k:Nat}{sp:Sp}(F:FunD K x qual st f fd)(S:kam N ps (kaf st))(len:∀vs H Q E,sp vs H Q E->vs.length=ps.length)
  (hbody:∀(cdv:Value)(A:Around)(outer:List Env)(s:Shared)(H:Hp)(vs:List V)(Q:VK)(E:XK),Room k (A.deeper (PyProof.Rows.envOfC qual (kaf st) s.heap.objs.size f cdv))->sp vs H Q E->
   ∃t,PSs (cxOf (CX1 P w) P w K mg base N qual (kaf st) f cdv A outer s H E) (kaC st) t/\t {nx:=fun _ H'=>Q .non H',rt:=Q} (start N vs) H):FnOk P w K mg base (CX1 P w) (k+1) f fd ps sp:=by
 obtain⟨oc,od,dV,kV,doc,pm,an,cdv,ct,osl,rfl,lk,hcd⟩:=F.ex
 exact fn_of lk hcd S len fun A outer s H vs Q E hr hsp=>hbody cdv A outer s H vs Q E hr hsp
structure Top1(X:Cx):Prop where
 st:X.stack=X.env::X.outer
 fr:X.env.frame>>X.env.locals
 fn:∀y,X.fn y=true
 ex0:X.ex=[]
structure Fre(X:Cx)(pins:List (Addr×Obj))(H:Hp)(b:Addr):Prop where
 no:H b=none
 s0:X.s₀.heap.get? b=none
 pin:∀p∈X.pn++pins,p.1≠b
theorem Inv.exs{X:Cx}{pins:List (Addr×Obj)}{σ:St}{H:Hp}{s:Shared}{e T:Addr}{ol:List Addr}{oe:Obj}{vs:Array Value}{fl:Value}{h':Heap}{tk:Nat}(I:Inv X pins σ H s)(TX:Top1 X)(x:ExStep (frs X.stack) ol e oe T fl s.heap h')(he:s.heap.get? e>>oe)(hd:oe.data=.fields vs)(fe:Fre X pins H e)
  (fo:∀b∈ol,Fre X pins H b/\∃ob ts,s.heap.get? b>>ob/\ob.data=.fields ts):Inv X pins σ H {s with heap:=h',toks:=tk}:=by
 have nfld:∀{b:Addr}{o:Obj},s.heap.get? b>>o->(∀vs,o.data≠.fields vs)->b≠e/\b∉ol:=fun {b o} hb hn=>⟨fun z=>by
  rw[z,he] at hb
  cases hb
  exact hn vs hd,fun z=>by
  obtain⟨_,ob,ts,h1,h2⟩:=fo b z
  rw[hb] at h1
  cases h1
  exact hn ts h2⟩
 have mem:X.env.locals∈frs X.stack:=by
  rw[TX.st]
  unfold frs
  rw[EH,TX.fr]
  exact Mx ..
 have nfr:∀{b:Addr},b≠X.env.locals->b∉X.fs->b∉frs X.stack:=fun {b} h1 h2 z=>by
  rw[TX.st] at z
  unfold frs at z
  rw[EH,TX.fr] at z
  rcases MB.mp z with z|z
  ·exact h1 z
  ·exact h2 z
 have cl:∀{y:Str}{c:Addr}{v:Option Value},X.env.cells.lookup y>>c->s.heap.IsCell c v->h'.IsCell c v:=fun {y c v} hc ⟨o,ho,hdc⟩=>by
  obtain⟨n1,n2⟩:=nfld ho (fun vs q=>by rw[hdc] at q;cases q)
  rwa[o,x.keep c o ho (nfr (fun z=>?_) fun z=>?_) n1 n2,hdc]
  ·obtain⟨m,⟨o',es,ep,ho',hd',_⟩,_⟩:=I.loc
   rw[<-z,ho] at ho'
   cases ho'
   rw[hdc] at hd'
   cases hd'
  ·obtain⟨_,o',ho',_⟩:=I.ok.funs.mem z
   exact absurd (Heap.lt_size ho') (Dj.mpr (I.ok.cab y c (TX.fn y) hc))
 rwa[I.ok,I.os,I.bare,?_,?_,fun y c hc=>?_,I.free,I.freeC,fun p hp=>?_,fun b u q=>?_,I.len]
 ·rw[TX.st] at x
  exact I.base.ex (fs:=[]) (L:=X.env.locals) (env:=X.env) TX.fr I.ok.above (fun _ _ q=>q) x fe.s0 fun b hb=>(fo b hb).1.s0
 ·obtain⟨m,⟨o,es,ep,ho,hdo,r⟩,hl⟩:=I.loc
  obtain⟨n1,n2⟩:=nfld ho (fun vs q=>by rw[hdo] at q;cases q)
  obtain⟨sl,hs⟩:=x.slot _ o ho mem n2 n1
  rwa[m,⟨_,es,ep,hs,hdo,r⟩,fun i y v h1 h2 h3=>?_]
  obtain⟨u,ru,lk⟩:=hl i y v h1 h2 h3
  rwa[u,ru,?_]
  rcases lk with lk|⟨k,c,hc,z⟩
  ·exact .inl lk
  ·exact .inr ⟨k,c,hc,cl hc z⟩
 ·obtain⟨v,z⟩:=I.cell y c hc
  rwa[v,cl hc z]
 ·obtain⟨h1,h2,h3,h4,h5⟩:=I.pin p hp
  rwa[x.keep p.1 p.2 h1 (nfr h3 h4) (fe.pin p hp) (fun z=>(fo p.1 z).1.pin p hp rfl),h2,h3,h4,h5]
 ·refine(I.hok b u q).stay (fun c v hc r=>?_) (fun _ r=>r) fun _ _ r=>r
  obtain⟨o,eo⟩:∃o,H c>>o:=by
   rcases hc with rfl|hc
   ·rwa[u,q]
   ·rwa[_,hc]
  refine x.keep c v r (fun z=>?_) (kak eo fe.no) fun z=>?_
  ·have:=I.stkFree c z
   rw[eo] at this
   cases this
  ·have:=(fo c z).1.no
   rw[eo] at this
   cases this
theorem kew{X:Cx}{pins:List (Addr×Obj)}{σ:St}{H:Hp}{s:Shared}{n:Str}{i:Nat}{pos:Pos}{M:Model}{A:Around}{E:Value->Shared->Prop}{Q:Unit->Shared->Prop}(I:Inv X pins σ H s)(hN:X.N.Nodup)(hi:X.N[i]?>>n)(hl:X.env.kindOf n>>.local)
  (h:∀s',Inv X pins (σ.set i none) H s'->Q () s'):wpAny M A (do bindName X.env n .none;unbindBehindTheSuite X.env n pos) Q E s:=by
 obtain⟨m,hn,hlk⟩:=id I.loc
 have hcls:(X.env.scope.kind== .class||(X.env.scope.kind== .module&&X.env.locals !=X.env.globals))=false:=by rw[I.ok.kind];rfl
 have hiN:=(MO.mp hi).1
 refine wpAny_nameGoes_keeps hl hn hcls fun h' v hn' hs=>h _ ?_
 have szL:=I.ok.above
 have kp:∀{b:Addr}{o:Obj},b≠X.env.locals->s.heap.get? b>>o->h'.get? b>>o:=fun {b o} nb e=>(hs.2 b nb).trans e
 have nL:∀{b:Addr}{o:Obj},X.s₀.heap.get? b>>o->b≠X.env.locals:=fun {b o} e z=>absurd (Heap.lt_size e) (by rw[z];exact Dj.mpr szL)
 have cl:∀{y:Str}{c:Addr}{v:Option Value},s.heap.IsCell c v->h'.IsCell c v:=fun {y c v} ⟨o,ho,hdc⟩=>⟨o,kp (fun z=>by
  obtain⟨o',es,ep,ho',hd',_⟩:=hn
  rw[<-z,ho] at ho'
  cases ho'
  rw[hdc] at hd'
  cases hd') ho,hdc⟩
 rwa[I.ok,I.os,I.bare,⟨fun b o q z hb hx=>kp (nL q) (I.base.keep b o q z hb hx),fun b o q z hb hx=>?_,I.base.free,fun b o q hx=>?_,I.base.tups,I.base.frzs,I.base.tbls⟩,⟨_,hn',fun j y w h1 h2 h3=>?_⟩,fun y c hc=>?_,I.free,I.freeC,fun p hp=>?_,fun b u q=>?_,by rw[DJ];exact I.len]
 ·obtain⟨sl,e1⟩:=I.base.slot b o q z hb hx
  rwa[sl,kp (nL q) e1]
 ·obtain⟨o',e1⟩:=I.base.there b o q hx
  rwa[o',kp (nL q) e1]
 ·have hji:j≠i:=fun z=>by
   rw[z,E7 (by rw[I.len];exact hiN)] at h2
   cases h2
  rw[DB (Ne.symm hji)] at h2
  obtain⟨u,ru,lk⟩:=hlk j y w h1 h2 h3
  have hyn:y≠n:=fun z=>by
   subst z
   exact hji ((DR hiN hN).mp (hi.trans h1.symm)).symm
  rwa[u,ru,?_]
  rcases lk with⟨k1,k2⟩|⟨k,c,hc,z⟩
  ·exact .inl ⟨k1,by show(if y=n then v else m y)=_;rw[if_neg hyn];exact k2⟩
  ·exact .inr ⟨k,c,hc,cl (y:=y) z⟩
 ·obtain⟨v,z⟩:=I.cell y c hc
  rwa[v,cl (y:=y) z]
 ·obtain⟨h1,h2,h3,h4,h5⟩:=I.pin p hp
  rwa[kp h3 h1,h2,h3,h4,h5]
 ·refine(I.hok b u q).stay (fun c v hc r=>kp (fun z=>?_) r) (fun _ r=>r) fun _ _ r=>r
  rw[z] at hc
  rcases hc with hc|hc
  ·rw[<-hc,I.free] at q
   cases q
  ·rw[I.free] at hc
   cases hc
noncomputable def Cx.inEx(X:Cx)(a:Addr):Cx:={X with A:=X.A.mark (some (.ref a)),calm:=false}
def Inv.inEx{X:Cx}{pins:List (Addr×Obj)}{σ:St}{H:Hp}{s:Shared}(I:Inv X pins σ H s)(a:Addr):Inv (X.inEx a) pins σ H s:=
 ⟨⟨I.ok.mod,I.ok.kind,I.ok.glob,I.ok.blt,I.ok.above,I.ok.inj,I.ok.has,I.ok.cab,(fun z=>absurd z MD),I.ok.frames,I.ok.stk,I.ok.exf,I.ok.bs,I.ok.bsz,I.ok.noex,I.ok.exfs,I.ok.funs,I.ok.frf⟩,I.os,I.bare,I.base,I.loc,I.cell,I.free,I.freeC,I.pin,I.hok,I.len⟩
def Inv.outEx{X:Cx}{pins:List (Addr×Obj)}{σ:St}{H:Hp}{s:Shared}{a:Addr}(ok:X.Ok)(I:Inv (X.inEx a) pins σ H s):Inv X pins σ H s:=⟨ok,I.os,I.bare,I.base,I.loc,I.cell,I.free,I.freeC,I.pin,I.hok,I.len⟩
noncomputable def ExcO(a:Addr)(cls:Value)(dx:Option Addr):HO:=.ext fun h=>∃oe vs,h.get? a>>oe/\oe.cls=cls/\oe.dict=dx/\oe.data=.fields vs
def Inv.adoptX{X:Cx}{pins:List (Addr×Obj)}{σ:St}{H:Hp}{s:Shared}{a:Addr}{o:HO}{oe:Obj}{vs:Array Value}(I:Inv X pins σ H s)(f:Fre X pins H a)(he:s.heap.get? a>>oe)(hd:oe.data=.fields vs)(new:ObjOk X.prog X.w (upd H a o) s.heap a o):Inv X pins σ (upd H a o) s:=by
 have hn:=f.no
 have nt:∀b u,H b>>u->b≠a:=fun b u e=>kak e hn
 have hL:a≠X.env.locals:=fun z=>by
  obtain⟨m,⟨o',es,ep,ho',hd',_⟩,_⟩:=I.loc
  rw[<-z,he] at ho'
  cases ho'
  rw[hd] at hd'
  cases hd'
 have hC:∀x c,X.env.cells.lookup x>>c->c≠a:=fun x c e z=>by
  obtain⟨v,o',ho',hd'⟩:=I.cell x c e
  rw[z,he] at ho'
  cases ho'
  rw[hd] at hd'
  cases hd'
 rwa[I.ok,I.os,I.bare,⟨I.base.keep,I.base.slot,fun b ob e n hx=>?_,I.base.there,fun b xs e=>?_,fun b ob u e=>?_,fun b ps e=>?_⟩,I.loc,I.cell,?_,fun x c e=>?_,fun p hp'=>?_,fun b u e=>?_,I.len]
 ·rw[kah (show b≠a from fun z=>by rw[z,f.s0] at e;cases e)]
  exact I.base.free b ob e n hx
 ·have q:=I.base.tups b xs e
  rw[kah (nt _ _ q)]
  exact q
 ·have q:=I.base.frzs b ob u e
  rw[kah (nt _ _ q)]
  exact q
 ·obtain⟨m,q⟩:=I.base.tbls b ps e
  rwa[m,by rw[kah (nt _ _ q)];exact q]
 ·rw[kah (Ne.symm hL)]
  exact I.free
 ·rw[kah (hC x c e)]
  exact I.freeC x c e
 ·obtain⟨e,n,r⟩:=I.pin p hp'
  rwa[e,by rw[kah (f.pin p hp')];exact n,r]
 ·by_cases hb:b=a
  ·subst hb
   rw[kad] at e
   cases e
   exact new
  ·rw[kah hb] at e
   refine(I.hok b u e).stay (fun _ _ _ q=>q) (fun d r=>?_) fun d xs r=>?_
   ·rw[kah (nt _ _ r)]
    exact r
   ·rw[kah (nt _ _ r)]
    exact r
def XL(X:Cx)(pins:List (Addr×Obj))(σ:St)(EX:XK)(e:Value)(s:Shared):Prop:=∃(a T:Addr)(cls:Value)(dx:Option Addr)(H:Hp),e=.ref a/\Inv X pins σ H s/\Fre X pins H a/\Fre X pins H T/\ExT s.heap a T cls dx/\EX cls dx H
noncomputable def Ends.goes(D:Ends)(i:Nat):Ends:={nx:=fun σ H=>D.nx (σ.set i none) H,rt:=D.rt,bk:=fun σ H=>D.bk (σ.set i none) H,ct:=fun σ H=>D.ct (σ.set i none) H}
def tTry(K:Mt)(CT:Addr)(i:Nat)(tb:XK->TS)(ts:TS):TS:=fun D σ H=>tb (fun cls dx H1=>E2 K cls (.ref CT)>>true/\∀a,H1 a=none->ts (D.goes i) (σ.set i (some (.ref a))) (upd H1 a (ExcO a cls dx))) D σ H
theorem knR{X:Cx}{body suite:List Stmt}{b₀:Stmt}{n tn:Str}{i:Nat}{CT:Addr}{tp hpos pos:Pos}{tb:XK->TS}{ts:TS}(TX:Top1 X)(hN:X.N.Nodup)(hi:X.N[i]?>>n)(hl:X.env.kindOf n>>.local)(hg:Gl X tn)(hm:X.mg tn>>(.ref CT))
  (hb:∀(pins:List (Addr×Obj))(s:Shared)(σ:St)(H:Hp)(D:Ends)(EX:XK),Inv X pins σ H s->tb EX D σ H->wpAny (model X.prog X.w) X.A (execs body X.env) (SP X pins D) (XL X pins σ EX) s)
  (hs:∀a,PSs (X.inEx a).nox (b₀::suite) ts)(hdb:autoParam ((tn==("__debug__" :Str))=false) jQ):
  PS X (.Try body [.ExceptHandler (some (.Name tn tp)) (some n) (b₀::suite) hpos] [] [] pos) (tTry X.K CT i tb ts):=by
 intro pins s σ H D I h
 refine wpAny_Try_except (wpAny_mono (hb pins s σ H D _ I h) (fun f s1 h1=>?_) fun e s1 h1=>?_)
 ·cases f with
  |next=>exact wpAny_execs_nil h1
  |brk=>exact h1
  |cont=>exact h1
  |ret v=>exact h1
 obtain⟨a,T0,cls,dx,H1,rfl,I1,fa,fT,ext,hxm,hts⟩:=h1
 obtain⟨⟨oe,vs,hoe,hcl,hdx,hd,hv1⟩,nT,oT,tsv,hT,hdT,h3⟩:=ext
 have hsz:1<vs.size:=(ED.mp hv1).1
 have hfr:X.A.frames>>(X.env::X.outer):=by rw[<-TX.st];exact I1.ok.frames
 have hst:s1.heap.FunFrames X.base (X.env::X.outer):=by rw[<-TX.st];exact I1.stack
 refine kgT hfr hst TX.fr hoe hd hv1 nT hT hdT h3 fun h2 T x2=>?_
 refine kgU (s:={s1 with heap:=h2}) x2 hoe hd hsz fun h3' x3=>?_
 have I3:Inv X pins σ H1 {s1 with heap:=h3',toks:=s1.toks}:=I1.exs TX (by rw[TX.st];exact x3) hoe hd fa fun b hb=>by
  rw[ME.mp hb]
  rwa[fT,oT,tsv,hT,hdT]
 have ext3:=x3.ext hoe hd hsz
 rw[hcl,hdx] at ext3
 have hT1:H1 T=none:=I1.hok.no x3.new
 have sT:s1.heap.objs.size<=T:=x3.sz
 have fpT:=I1.fpOk (H':=H1) sT hT1
 clear x2 x3
 obtain⟨⟨oe3,vs3,hoe3,hcl3,hdx3,hd3,hv3⟩,nT3,oT3,ts3,hT3,hdT3,h33⟩:=id ext3
 refine wpAny_handleBy_cons (codeAny_handlers_test ?_) (by intro q;cases q)
 refine kdA (X:=X.inEx a) (I3.inEx a) hg hm ?_ hdb
 have lt:DF (model X.prog X.w) h3' (typeOf (.ref a)) cls:=by
  have z:=(DF.ld (M:=model X.prog X.w) (part:=none) hoe3).andThen (f:=fun o=>pure o.cls) .now
  rw[hcl3] at z
  exact z
 refine(PySem.W.exm_one (M:=model X.prog X.w) I3.kIn lt hxm).here ?_
 rw[if_pos rfl]
 refine codeAny_handlers_suite_as ?_
 have hz3:3<ts3.size:=(ED.mp h33).1
 refine wpAny_setFlight_none hoe3 hd3 hv3 hT3 hdT3 hz3 ?_
 have sb:=Heap.SameBut.update h3' T (Obj.mapFields (·.setIfInBounds 3 Value.none))
 obtain⟨q1,q2,q3,q4,q5,q6⟩:=fpT
 have I4:=I3.turned (t':=s1.toks) (it:=T) (h':=h3'.update T (Obj.mapFields (·.setIfInBounds 3 Value.none))) (fun b o nb e=>(sb.2 b nb).trans e) q1 q2 q4 q5 q6
 have hoe4:(h3'.update T (Obj.mapFields (·.setIfInBounds 3 Value.none))).get? a>>oe3:=(sb.2 a (Ne.symm nT3)).trans hoe3
 have I5:Inv X pins σ (upd H1 a (ExcO a cls dx)) {s1 with heap:=h3'.update T (Obj.mapFields (·.setIfInBounds 3 Value.none)),toks:=s1.toks}:=I4.adoptX fa hoe4 hd3 (show ObjOk X.prog X.w _ _ a (ExcO a cls dx) from⟨⟨oe3,vs3,hoe4,hcl3,hdx3,hd3⟩,⟨oe3,hoe4⟩,fun g1 g2 ⟨o,v,z1,z2⟩ k=>⟨o,v,k o z1,z2⟩⟩)
 refine kdE (X:=X) (v:=.ref a) I5 hN hi (.inl hl) rfl (fun s6 I6=>?_) (.inl (TX.fn n))
 have key:=hs a pins s6 _ _ (D.goes i) ((I6.inEx a).wish _) (hts a fa.no)
 refine wpAny_mono key (fun f s7 h7=>?_) fun _ _ z=>z.elim
 show wpAny (model X.prog X.w) X.A (do bindName X.env n .none;unbindBehindTheSuite X.env n hpos) (fun _ s₃=>SP X pins D f s₃) X.xe s7
 cases f with
 |next=>
  obtain⟨σ',H',J,q⟩:=h7
  exact kew (J.unwish.outEx I.ok) hN hi hl fun s' I'=>⟨_,H',I',q⟩
 |brk=>
  obtain⟨σ',H',J,q⟩:=h7
  exact kew (J.unwish.outEx I.ok) hN hi hl fun s' I'=>⟨_,H',I',q⟩
 |cont=>
  obtain⟨σ',H',J,q⟩:=h7
  exact kew (J.unwish.outEx I.ok) hN hi hl fun s' I'=>⟨_,H',I',q⟩
 |ret u=>
  obtain⟨v,σ',H',J,r,q⟩:=h7
  exact kew (J.unwish.outEx I.ok) hN hi hl fun s' I'=>⟨v,_,H',I',r,q⟩
section
variable{X:Cx}{k:Nat}{f C:Addr}{fd:FuncData}{ps:List Str}{sp:Sp}{dvs:List V}{ds:List Value}{x m:Str}{p pos apos:Pos}{e o:Expr}{es:List Expr}{ta:TE}{t:TA}
theorem xl_of{pins:List (Addr×Obj)}{σ:St}{H:Hp}{s s':Shared}{EX:XK}{e:Value}(TX:Top1 X)(I:Inv X pins σ H s)(hq:CX1 X.prog X.w X.stack H s EX e s'):XL X pins σ EX e s':=by
 obtain⟨a,T,cls,dx,H',rfl,os,bare,un,hok,ha,hHa,hT,hHT,ext,hE⟩:=hq
 have I':Inv X pins σ H' s':=I.call' (ch:=[]) os un hok bare (fun b hb=>by simp at hb)
 have z0:∀{b:Addr},s.heap.get? b=none->b∉X.ex->X.s₀.heap.get? b=none:=fun {b} hn hx=>by
  cases q:X.s₀.heap.get? b with
  |none=>rfl
  |some o=>
   obtain⟨o',z⟩:=I.base.there b o q hx
   rw[hn] at z
   cases z
 have zp:∀{b:Addr},s.heap.get? b=none->∀p∈X.pn++pins,p.1≠b:=fun {b} hn p hp z=>by
  have:=(I.pin p hp).1
  rw[z,hn] at this
  cases this
 have nx:∀b:Addr,b∉X.ex:=fun b z=>by
  rw[TX.ex0] at z
  cases z
 rwa[a,T,cls,dx,H',6,I',⟨hHa,z0 ha (nx a),zp ha⟩,⟨hHT,z0 hT (nx T),zp hT⟩,ext,hE]
theorem kmX{pins:List (Addr×Obj)}{σ:St}{H:Hp}{s:Shared}{Q:VK}{EX:XK}{us:List Value}{vs:List V}(F:FnOk X.prog X.w X.K X.mg X.base (CX1 X.prog X.w) k f fd ps sp)(hr:Room k X.A)(hb:Binds X.K fd ps ds)(hd:Vals dvs ds)(TX:Top1 X)
  (I:Inv X pins σ H s) (r:Vals vs us) (h:sp (vs++dvs) H Q EX):wpAny (model X.prog X.w) X.A (call (.ref f) us) (EP X pins σ Q) (XL X pins σ EX) s:=by
 have r2:Vals (vs++dvs) (us++ds):=r.append hd
 have hl:(us++ds).length=ps.length:=by rw[<-r2.length];exact F.len _ _ _ _ h
 refine wpAny_call (codeAny_mono (F.run X.A X.stack s H ⟨us,[]⟩ (us++ds) (vs++dvs) Q EX hr I.env0 (hb s us I.kIn hl) r2 h) fun r s' hq=>?_)
 cases r with
 |error e=>exact xl_of TX I hq
 |ok fl=>
  cases fl with
  |ret u=>exact I.after hq
  |next=>exact False.elim hq
  |brk=>exact False.elim hq
  |cont=>exact False.elim hq
def PEX(X:Cx)(e:Expr)(te:XK->TE):Prop:=∀(pins:List (Addr×Obj))(s:Shared)(σ:St)(H:Hp)(Q:VK)(EX:XK),Inv X pins σ H s->te EX σ H Q->wpAny (model X.prog X.w) X.A (eval e X.env) (EP X pins σ Q) (XL X pins σ EX) s
theorem kmG(TX:Top1 X)(hnx:∀e s',X.xe e s'->False)(F:FnOk X.prog X.w X.K X.mg X.base (CX1 X.prog X.w) k f fd ps sp)(hr:Room k X.A)(hg:Gl X x)(hm:X.mg x>>(.ref f))(hk:MJ X.K (.ref f)=true)(hb:Binds X.K fd ps ds)(hd:Vals dvs ds)
  (ha:PA X (e::es) t)(hdb:autoParam ((x==("__debug__" :Str))=false) jQ)(he:autoParam (starEach (e::es) X.env=(false,eval e X.env)::starEach es X.env) jz)(hpl:autoParam ((backTo pos (starEach es X.env)).any (·.1)=false) jz):
  PEX X (.Call (.Name x p) (e::es) [] pos) (fun EX=>tCall sp dvs EX t):=by
 intro pins s σ H Q EX I h
 refine wpAny_Call_Name_kw (kdA I hg hm ?_ hdb)
 exact EI (h₀:=X.base) I.ok.mod.kin hk (wpAny_mono (ha pos pins s σ H _ I h) (fun us s1 ⟨vs,H1,I1,r,q⟩=>⟨I1.kIn,kmX F hr hb hd TX I1 r q⟩) fun e s' z=>(hnx e s' z).elim) he hpl
def PBX(X:Cx)(body:List Stmt)(tb:XK->TS):Prop:=∀(pins:List (Addr×Obj))(s:Shared)(σ:St)(H:Hp)(D:Ends)(EX:XK),Inv X pins σ H s->tb EX D σ H->wpAny (model X.prog X.w) X.A (execs body X.env) (SP X pins D) (XL X pins σ EX) s
theorem knv{i:Nat}{te:XK->TE}{pos':Pos}(hN:X.N.Nodup)(he:PEX X e te)(hi:autoParam (X.N[i]?>>x) jz)(hx:autoParam (Loc X.env.scope x) jZ)(hs:autoParam (swapsWith e (some (.Name x pos')) pos.line X.env=pure false) jz)(hf:autoParam (X.fn x=true∨X.env.scope.names.lookup x>>.local) jX):
  PBX X [.Assign [.Name x pos'] e pos] (fun EX=>tAsg (te EX) (gName i)):=by
 intro pins s σ H D EX I h
 refine wpAny_execs_cons (wpAny_Assign_Name (thn (he pins s σ H _ EX I h) fun v s1 zz=>?_) hs)
 obtain⟨y,H1,I1,r1,q1⟩:=zz
 exact kdE I1 hN hi hx r1 (fun s2 I2=>wpAny_execs_nil ⟨_,H1,I2,q1⟩) hf
theorem ki4{CX:CXT}{P:Program}{w:World}{K:Mt}{mg:Str->Option Value}{base:Heap}{N:List Str}{qual:Str}{scope:Scope}{f:Addr}{cd:Value}{A:Around}{outer:List Env}{s:Shared}{H:Hp}{E:XK}:Top1 (cxOf CX P w K mg base N qual scope f cd A outer s H E).nox:=⟨rfl,rfl,fun _=>rfl,rfl⟩
end
end L2
namespace L2
open PySem PySem.W PySem.Calls PyProof.Rows Builtin Builtin.ObjectAttr
section
variable{prog:Program}{w:World}{K:Frag}{A:Around}{E:Value->Shared->Prop}{h:Heap}{g:Array GenState}{d:Drawn}{t:Nat}{os:OsState}{a C:Addr}{o:Obj}{od:Option Obj}
structure ExcK(K:Frag)(C:Addr):Prop where
 ga:findIn K (.ref C) "__getattribute__">>(some (.builtin "BaseException.__getattribute__"))
 no:findIn K (.ref C) "__getattr__">>none
 cl:findIn K (.ref C) "__class__">>(some (.builtin "object.__class__"))
 sub:subIn K (.ref C) (.type "BaseException")>>true
 obj:mroIn K C (.type "object")>>true
 isc:(clsIn K C).isSome=true
theorem kkq{M:Model}{nameV:Value}{Q:Unit->Shared->Prop}(X:K.In h)(Z:ExcK K C)(hx:h.get? a>>o)(hc:o.cls=.ref C)(hq:Q () ⟨h,g,d,t,os⟩):wpAny M A (checkBuiltinCall "BaseException.__getattribute__" ⟨[.ref a,nameV],[]⟩) Q E ⟨h,g,d,t,os⟩:=by
 have hk:builtinKind "BaseException.__getattribute__">>.slot:=by cutsat
 have hsplit:splitId "BaseException.__getattribute__">>("BaseException","__getattribute__"):=by cutsat
 have ha:=PySem.F.args_bexc_ga (.ref a) nameV
 have sb:∀{A:Around}{E:Value->Shared->Prop}{Q:Bool->Shared->Prop}{t:Nat},Q true ⟨h,g,d,t,os⟩->wpAny M A (isSubtype (.ref C) (.type "BaseException")) Q E ⟨h,g,d,t,os⟩:=fun q=>(looks_subIn X Z.sub).at q
 simp only[checkBuiltinCall,hk,hsplit]
 refine wpAny_bind ?_
 ·unfold isInstance
  repeat (first|(with_reducible refine wpAny_loadPart_at hx ?_;rw[hc])|(with_reducible refine sb ?_)|wp_step)
  exact hq
end
end L2
namespace L2
open PySem PySem.Spec PyProof.Rows
section
variable{X:Cx}
end
def kn1{K:Mt}{h:Heap}{mg:Str->Option Value}{x:Str}{C:Addr}{bm:List Value}{newId:String}(X:K.In h)(hb:mg x>>(.ref C))(q:DS K C bm newId=true):OwnCls x C bm newId mg h:=by
 rwa[hb,?_]
 unfold DS at q
 split at q
 next dd cd sl ho=>
  split at q
  next C' tl k0 k1 k2 k3 n k5 hm hs=>
   rw[Ew,Ew,Ew,Ew,Ew] at q
   obtain⟨⟨⟨⟨⟨e1,e2⟩,e3⟩,ht⟩,hok⟩,hni⟩:=q
   have z1:=beq_iff_eq.mp e1
   have z2:=beq_iff_eq.mp e2
   subst z1 z2
   obtain⟨nm,bs,mro,ns,qn,hdc,sn,sub,ab,col,del⟩:=cd
   have z3:del=false:=by simpa using e3
   have z4:mro=.ref C'::tl:=hm
   have z5:sl= #[k0,k1,k2,k3,some (.builtin n),k5]:=by
    obtain⟨l⟩:=sl
    exact congrArg Array.mk hs
   subst z3 z4 z5
   rwa[tl,ns,nm,qn,bs,hdc,sn,sub,ab,col,dd,k0,k1,k2,k3,k5,_,X _ _ ho, .of_isNs (PySem.W.isNs_of_in X hok),PySem.W.nsMap_none_of_in X hok (beq_iff_eq.mp hni),PySem.W.tail_of_in X ht]
  all_goals cases q
 all_goals cases q
end L2
namespace L2
open PySem PySem.W PySem.Calls PyProof.Rows Builtin Builtin.ObjectAttr
noncomputable def veL:List Value:=[.type "ValueError", .type "Exception", .type "BaseException", .type "object"]
structure ExcW(K:Frag)(C T:Addr):Prop where
 ob:∃(nm q:Str)(N:Addr)(bs:List Value)(sn:List Str)(sub:List Value)(ab:Bool)(col:Option Bool)(dd:Option Addr)(k0 k1 k2 k3 k5:Option Value),K.lookup C>>(excClassObj nm q C N bs (.ref T::veL) true sn sub ab col dd k0 k1 k2 k3 k5 "ValueError.__new__")
 tt:excIn K T veL "ValueError.__new__"=true
 sa:findIn K (.ref C) "__setattr__">>(some (.builtin "object.__setattr__"))
def ExcW.cls{K:Frag}{C T:Addr}(W:ExcW K C T):∃cd,clsIn K C>>cd/\cd.mro=.ref C:: .ref T::veL/\cd.hasDict=true:=by
 obtain⟨nm,q,N,bs,sn,sub,ab,col,dd,k0,k1,k2,k3,k5,e⟩:=W.ob
 rwa[_,by unfold clsIn;rw[e],6,6]
def ExcW.hd{K:Frag}{C T:Addr}(W:ExcW K C T):hasDictIn K C=true:=by
 obtain⟨cd,e1,_,e3⟩:=W.cls
 unfold hasDictIn
 rw[e1]
 exact e3
section
variable{prog:Program}{w:World}{K:Frag}{A:Around}{C T x:Addr}{s:Shared}
theorem khC{R:Result->Shared->Prop}{ox:Obj}{od:Option Obj}{name:Str}{tk:Tok}{v:Value}(X:K.In s.heap)(I:InstAt s.heap x ox C od)(W:ExcW K C T)(ht:findIn K (.ref C) name>>none)
  (h:wpAny (model prog w) A.in1 (storeInOwnDict (.ref x) (.ref C) (.str name tk) name v false)
   (fun fin s'=>match fin with| .done f=>R (.ok f) s'| .again c'=>c'.quiet=true/\codeAny (model prog w) A c' R s') (fun e s'=>R (.error e) s') s):
  codeAny (model prog w) A (.call (.builtin "object.__setattr__") ⟨[.ref x, .str name tk,v],[]⟩) R s:=by
 have SF:=PySem.F.store_object
 obtain⟨cd,hc,ho,_⟩:=W.cls
 have ne:cd.mro.isEmpty=false:=by rw[ho];rfl
 have sub:Looks (model prog w) s.heap (isInstance (.ref x) (.type "object")) true:=I.type.andThen (looks_mroIn X (by unfold mroIn;rw[hc,Option.bind_some,if_neg (by rw[ne];decide),ho];rfl))
 refine codeAny_call_builtin SF.slot.plain SF.entry (@check_slot (model prog w) _ _ s "object.__setattr__" "object" "__setattr__" (.ref x) [.str name tk,v] [] _ SF.kind SF.split sub (SF.args (.ref x) (.str name tk) v) ?_)
 have hm:Looks (model prog w) s.heap (mroOf (.ref C)) cd.mro:=(looks_clsIn X hc).andThen .now
 rw[osa_eq,refuse_eq]
 refine wpAny_bind (wpAny_bind (I.type.here (wpAny_bind (hm.here ?_))))
 rw[ho,refuseLoop_ref,refuseLoop_ref,show refuseLoop (.ref x) "__setattr__" veL=pure () from PySem.F.store_ValueError.passes (.ref x)]
 refine wpAny_pure (wpAny_bind (I.type.here (wpAny_bind ((looks_findIn X ht).here (wpAny_bind ((show Looks (model prog w) s.heap (storeTaker? none) none from .now).here ?_))))))
 exact h
theorem kkZ{E:Value->Shared->Prop}{ns:List Str}{Q:Unit->Shared->Prop}{dx:Addr}{mA:Str->Option Value}{name:Str}{v:Value}{dt:Data}{sl:Array (Option Value)}(X:K.In s.heap)(W:ExcW K C T)(hx:s.heap.get? x>>⟨.ref C,some dx,dt,sl⟩)(hnc:notCls ⟨.ref C,some dx,dt,sl⟩=true)(n:s.heap.Ns1 dx mA)(ht:findIn K (.ref C) name>>none)
  (hw:PySem.Within mA ns)(hsz:ns.length<=sizeLine)
  (h:∀h',h'.Ns1 dx (fun y=>if y=name then some v else mA y)->Heap.SameBut dx s.heap h'->Q () {s with heap:=h',toks:=s.toks+2}):
  wpAny (model prog w) A (setAttr (.ref x) name v) Q E s:=by
 obtain⟨od,ho,_⟩:=keY n
 have J:InstAt s.heap x ⟨.ref C,some dx,dt,sl⟩ C (some od):=⟨hx,rfl,hnc,ho⟩
 refine set_plain X J W.sa (khC (s:={s with toks:=s.toks+1}) X J W ht ?_)
 obtain⟨cd,hc,_,hd'⟩:=W.cls
 refine wpAny_bind (wpAny_pure (wpAny_bind (wpAny_bind (wpAny_loadPart hx (wpAny_bind (Looks.here (s:={s with toks:=s.toks+1}) (looks_clsIn X hc) ?_))))))
 rw[hd']
 refine wpAny_pure (a:=some dx) (wpAny_bind (wpAny_pure (wpAny_bind ?_)))
 refine wpAny_nsSet1 (s:={s with toks:=s.toks+1}) n fun h' hn2 hs2=>?_
 obtain⟨oD,esD,epD,hoD,hdD,hcD⟩:=hn2.count (PySem.Within.cons name v hw)
 refine wpAny_bind (wpAny_lookBehind hoD (by rw[hdD];exact pastItsLine_dict (Mz hcD (by rw[MV];lia))) ?_)
 exact wpAny_pure (h _ hn2 hs2)
theorem kk0{E:Value->Shared->Prop}{Q:Unit->Shared->Prop}{name:Str}{v:Value}{vs:Array Value}{sl:Array (Option Value)}(X:K.In s.heap)(W:ExcW K C T)(hx:s.heap.get? x>>⟨.ref C,none, .fields vs,sl⟩)(ht:findIn K (.ref C) name>>none)
  (h:∀h',h'.Ns1 s.heap.objs.size (fun y=>if y=name then some v else none)->(∀b o,b≠x->s.heap.get? b>>o->h'.get? b>>o)->h'.get? x>>⟨.ref C,some s.heap.objs.size, .fields vs,sl⟩->Q () {s with heap:=h',toks:=s.toks+2}):
  wpAny (model prog w) A (setAttr (.ref x) name v) Q E s:=by
 have J:InstAt s.heap x ⟨.ref C,none, .fields vs,sl⟩ C none:=⟨hx,rfl,rfl,trivial⟩
 refine set_plain X J W.sa (khC (s:={s with toks:=s.toks+1}) X J W ht ?_)
 obtain⟨cd,hc,_,hd'⟩:=W.cls
 have hxs:x≠s.heap.objs.size:=MT (Heap.lt_size hx)
 have hx₁:(s.heap.push {cls:=.type "dict",data:=.dict #[]}).get? x>>⟨.ref C,none, .fields vs,sl⟩:=Heap.get?_push_of_some _ hx
 refine wpAny_bind (wpAny_pure (wpAny_bind (wpAny_bind (wpAny_loadPart hx (wpAny_bind (Looks.here (s:={s with toks:=s.toks+1}) (looks_clsIn X hc) ?_))))))
 rw[hd']
 refine wpAny_bind (wpAny_alloc' ?_)
 refine wpAny_bind (wpAny_update' hx₁ ?_)
 refine wpAny_pure ?_
 have hgd:((s.heap.push {cls:=.type "dict",data:=.dict #[]}).update x fun o=>{cls:=o.cls,dict:=some s.heap.objs.size,data:=o.data,slots:=o.slots}).get? s.heap.objs.size
   >>{cls:=.type "dict",data:=.dict #[]}:=
  (Heap.get?_update_ne _ _ _ _ hxs.symm).trans (Heap.get?_push_at rfl rfl)
 have hnd:((s.heap.push {cls:=.type "dict",data:=.dict #[]}).update x fun o=>{cls:=o.cls,dict:=some s.heap.objs.size,data:=o.data,slots:=o.slots}).Ns s.heap.objs.size (fun _=>none):=
  ⟨_,#[],_,hgd,rfl,fun e he=>absurd he (by simp),fun _=>rfl⟩
 show wpAny _ _ (storeInDict s.heap.objs.size (.str name _) name v) _ _ _
 unfold storeInDict newKeyGuard
 refine wpAny_bind (wpAny_pure (wpAny_bind (wpAny_nsSet1 (Heap.Ns1.of_empty hnd) fun h' hn' hs=>?_)))
 obtain⟨oD,esD,epD,hoD,hdD,hcD⟩:=hn'.count (Within.cons name v Within.nil)
 refine wpAny_bind (wpAny_lookBehind hoD (by rw[hdD];exact pastItsLine_dict (Mz hcD (by rw[MV,Dl,sizeLine_eq];lia))) ?_)
 have hx':h'.get? x>>⟨.ref C,some s.heap.objs.size, .fields vs,sl⟩:=(hs.2 x hxs).trans (Heap.get?_update_self _ hx₁ rfl)
 exact wpAny_pure (h _ hn' (fun b o nb e=>(hs.2 b (MT (Heap.lt_size e))).trans ((Heap.get?_update_ne _ _ _ _ nb).trans (Heap.get?_push_of_some _ e))) hx')
end
section
variable{prog:Program}{w:World}{K:Frag}{A:Around}{E:Value->Shared->Prop}{h:Heap}{g:Array GenState}{d:Drawn}{t:Nat}{os:OsState}{a C T:Addr}{o:Obj}{od:Option Obj}{name:Str}{v:Value}
theorem kk1{tk:Tok}{Q:Fin->Shared->Prop}(X:K.In h)(I:InstAt h a o C od)(hf:findObj K C od name>>(.value v))(hq:Q (.done (.ret v)) ⟨h,g,d,t,os⟩):wpAny (model prog w) A (Builtin.«object.__getattribute__» ⟨[.ref a, .str name tk],[]⟩) Q E ⟨h,g,d,t,os⟩:=by
 have L0:=I.type (M:=model prog w)
 have L1:=looks_find (M:=model prog w) X I hf
 refine wpAny_bind (wpAny_pure (wpAny_bind (wpAny_pure (wpAny_bind (L0.at (wpAny_bind (L1.at ?_)))))))
 exact wpAny_pure hq
theorem kmF{tk:Tok}{R:Result->Shared->Prop}(X:K.In h)(Z:ExcK K C)(I:InstAt h a o C od)(hf:findObj K C od name>>(.value v))(hq:R (.ok (.ret v)) ⟨h,g,d,t,os⟩):codeAny (model prog w) A (.call (.builtin "BaseException.__getattribute__") ⟨[.ref a, .str name tk],[]⟩) R ⟨h,g,d,t,os⟩:=
 codeAny_call_builtin An.ga.plain PySem.F.entry_bexc_ga (kkq X Z I.at_ I.cls (kk1 X I hf hq))
theorem xg_by{tk:Tok}{fill expr:Bool}{Q:Value->Shared->Prop}(X:K.In h)(Z:ExcK K C)(I:InstAt h a o C od)(hf:findObj K C od name>>(.value v))(hh:handedIn v=true)(hq:Q v ⟨h,g,d,t,os⟩):wpAny (model prog w) A (getAttrBy (.ref a) (.str name tk) fill expr) Q E ⟨h,g,d,t,os⟩:=by
 have hx:=I.at_
 have hc:=I.cls
 have f3:=An.ga.bind (.ref a)
 have hx0:(expr&&onTheHeap (Value.builtin "BaseException.__getattribute__"))=false:=by cases expr <;> rfl
 have hx2:(Value.builtin "BaseException.__getattribute__" ==Value.builtin "object.__getattribute__")=false:=by cutsat
 have hx1:(onTheHeap (Value.ref C)&&Value.builtin "BaseException.__getattribute__" ==Value.builtin "object.__getattribute__")=false:=by rw[hx2];rfl
 have f9:=handedOut_of hh
 have lk1:∀{A:Around}{E:Value->Shared->Prop}{Q:Option Value->Shared->Prop}{t:Nat},Q (some (.builtin "BaseException.__getattribute__")) ⟨h,g,d,t,os⟩->wpAny (model prog w) A (typeLookup (.ref C) "__getattribute__") Q E ⟨h,g,d,t,os⟩:=fun q=>(looks_findIn X Z.ga).at q
 have lk2:∀{A:Around}{E:Value->Shared->Prop}{Q:Option Value->Shared->Prop}{t:Nat},Q none ⟨h,g,d,t,os⟩->wpAny (model prog w) A (typeLookup (.ref C) "__getattr__") Q E ⟨h,g,d,t,os⟩:=fun q=>(looks_findIn X Z.no).at q
 repeat (any_goals (first|assumption|(with_reducible refine wpAny_loadPart_at hx ?_;rw[hc])|with_reducible refine lk1 ?_|with_reducible refine lk2 ?_|wp_step))
 refine kmF X Z I hf ?_
 repeat (any_goals (first|assumption|wp_step))
theorem xget{expr:Bool}{Q:Value->Shared->Prop}(X:K.In h)(Z:ExcK K C)(I:InstAt h a o C od)(hf:findObj K C od name>>(.value v))(hh:handedIn v=true)(hq:Q v ⟨h,g,d,t+1,os⟩):wpAny (model prog w) A (getAttr (.ref a) name expr) Q E ⟨h,g,d,t,os⟩:=by
 unfold getAttr
 exact wpAny_bind (wpAny_mkText (xg_by X Z I hf hh hq))
theorem xc_in{rest:List Value}{fI:Addr}{Q:Fin->Shared->Prop}(X:K.In h)(W:ExcW K C T)(hi:findIn K (.ref C) "__init__">>(some (.ref fI)))(hf:typeIn K (.ref fI)>>(.type "function"))(hrest:rest.length<=sizeLine)
  (hq:wpAny (model prog w) A (call (.ref fI) (.ref (h.objs.size+1)::rest)) (fun r s'=>r=.none/\Q (.done (.ret (.ref (h.objs.size+1)))) s') E ⟨(h.push {cls:=.type "tuple",data:=.seq rest.toArray}).push {cls:=.ref C,data:=.fields #[.ref h.objs.size, .none, .none, .none, .bool false, .none]},g,d,t,os⟩):
  wpAny (model prog w) A (Builtin.«type.__call__» ⟨.ref C::rest,[]⟩) Q E ⟨h,g,d,t,os⟩:=by
 have F:=PySem.F.excBase_ValueError
 obtain⟨nm,q,N,bs,sn,sub,ab,col,dd,k0,k1,k2,k3,k5,eC⟩:=W.ob
 have hC:=X _ _ eC
 obtain⟨tl,N2,nm2,q2,bs2,hdct2,sn2,sub2,ab2,col2,dd2,j0,j1,j2,j3,j5,mN2,hC2,hN2,hni2,T2⟩:=(kn1 (x:="x") (mg:=fun _=>some (.ref T)) X rfl W.tt).obj
 have OT:OwnTail h veL (.ref T::veL):=.own hC2 hN2 hni2 .base
 repeat (first|with_reducible refine wpAny_loadPart_at hC ?_|with_reducible refine wpAny_madeBy_exc hC ?_|wp_step)
 refine codeAny_call_builtin_code (Code.quiet_builtin _ F.quiet) (wpAny_check_new_subT F OT hC ?_)
 refine codeAny_exc_new_subT F OT hC ?_ hrest
 show wpAny _ _ _ _ _ _
 have X1:K.In ((h.push {cls:=.type "tuple",data:=.seq rest.toArray}).push {cls:=.ref C,data:=.fields #[.ref h.objs.size, .none, .none, .none, .bool false, .none]}):=fun b o e=>Heap.get?_push_of_some _ (Heap.get?_push_of_some _ (X b o e))
 have hC₁:=X1 _ _ eC
 have hget:((h.push {cls:=.type "tuple",data:=.seq rest.toArray}).push
   {cls:=.ref C,data:=.fields #[.ref h.objs.size, .none, .none, .none, .bool false, .none]}).get? (h.objs.size+1)=some
   {cls:=.ref C,data:=.fields #[.ref h.objs.size, .none, .none, .none, .bool false, .none]}:=by heap_get
 have hcC:(Value.ref C:: .ref T::veL).contains (.ref C)=true:=by simp
 unfold isInstance
 repeat (first|with_reducible refine wpAny_loadPart_at hget ?_|(with_reducible refine wpAny_isSubtype_exc hC₁ ?_;rw[hcC])|wp_step)
 show wpAny _ _ (typeLookup (.ref C) _) _ _ _
 refine(looks_findIn X1 hi).at ?_
 refine wpAny_holding (wpAny_bind ?_)
 refine(bind_fn X1 (.ref (h.objs.size+1)) hf).at ?_
 refine wpAny_bind (wpAny_mono hq (fun r s' hr=>?_) fun _ _ x=>x)
 obtain⟨rfl,hQ⟩:=hr
 wp_walk
 exact hQ
theorem kmH{rest:List Value}{fI:Addr}{Q:Value->Shared->Prop}(X:K.In h)(W:ExcW K C T)(hi:findIn K (.ref C) "__init__">>(some (.ref fI)))(hf:typeIn K (.ref fI)>>(.type "function"))(hrest:rest.length<=sizeLine)
  (hq:wpAny (model prog w) (A.under (.builtin "type.__call__" ⟨.ref C::rest,[]⟩)) (call (.ref fI) (.ref (h.objs.size+1)::rest)) (fun r s'=>r=.none/\Q (.ref (h.objs.size+1)) s') E ⟨(h.push {cls:=.type "tuple",data:=.seq rest.toArray}).push {cls:=.ref C,data:=.fields #[.ref h.objs.size, .none, .none, .none, .bool false, .none]},g,d,t,os⟩):
  wpAny (model prog w) A (call (.ref C) rest) Q E ⟨h,g,d,t,os⟩:=by
 obtain⟨nm,q,N,bs,sn,sub,ab,col,dd,k0,k1,k2,k3,k5,eC⟩:=W.ob
 have hC:=X _ _ eC
 have f1:=tc_lookup
 have f2:=tc_bind (.ref C)
 have hT:(⟨h,g,d,t,os⟩:Shared).TypeIs (.ref C) "type":=⟨_,hC,rfl⟩
 refine wpAny_call (codeAny_of_tree ?_)
 show wpAny _ _ (callAny (.ref C) _) _ _ _
 repeat (any_goals (first|assumption|with_reducible refine wpAny_loadPart_at hC ?_|wp_step))
 rwa[6,?_]
 exact codeAny_call_builtin_at (Code.quiet_builtin _ (by cutsat)) entry_typeCall (wpAny_check_type_call_sub hC (xc_in X W hi hf hrest hq))
end
end L2
namespace L2
open PySem PySem.Spec PyProof.Rows
noncomputable def ExcN(a:Addr)(cls:Value)(dx:Option Addr):HO:=.ext fun h=>∃oe vs,h.get? a>>oe/\oe.cls=cls/\oe.dict=dx/\oe.data=.fields vs/\vs[1]?>>.none
noncomputable def XdO(d:Addr)(fs:List (Str×V)):HO:=.ext fun h=>∃mA,h.Ns1 d mA/\(∀f,RelO (fs.lookup f) (mA f))/\PySem.Within mA (fs.map (·.1))
section
variable{P:Program}{w:World}{H:Hp}{h:Heap}{a d:Addr}
theorem kkr{oe:Obj}{vs:Array Value}(e:h.get? a>>oe)(hd:oe.data=.fields vs)(h1:vs[1]?>>.none):ObjOk P w H h a (ExcN a oe.cls oe.dict):=
 ⟨⟨oe,vs,e,rfl,rfl,hd,h1⟩,⟨oe,e⟩,fun _ _ ⟨o,v,z1,z2⟩ k=>⟨o,v,k o z1,z2⟩⟩
theorem klQ{fs:List (Str×V)}{mA:Str->Option Value}(n:h.Ns1 d mA)(r:∀f,RelO (fs.lookup f) (mA f))(wi:PySem.Within mA (fs.map (·.1))):ObjOk P w H h d (XdO d fs):=
 ⟨⟨mA,n,r,wi⟩,let⟨o,_,_,e,_⟩:=n;⟨o,e⟩,fun _ _ ⟨m,z1,z2⟩ k=>⟨m,z1.at k,z2⟩⟩
end
noncomputable def untX(a:Addr)(H:Hp):Hp:=fun b=>if b=a then none else H b
def kge{a:Addr}{H:Hp}:untX a H a=none:=by unfold untX;rw[if_pos rfl]
def kcL{a b:Addr}{H:Hp}(h:b≠a):untX a H b=H b:=by unfold untX;rw[if_neg h]
section
variable{X:Cx}{k:Nat}{f C T:Addr}{fd:FuncData}{ps:List Str}{sp:Sp}{dvs:List V}{ds:List Value}{x m:Str}{p pos apos pos':Pos}{e o value:Expr}{es:List Expr}{ta tv:TE}{t:TA}{CX:CXT}{E:XK}
theorem kjE{pins:List (Addr×Obj)}{σ:St}{H:Hp}{s:Shared}{Q:VK}{us:List Value}{vs:List V}(W:ExcW X.K C T)(hi:Mw X.K (.ref C) "__init__">>(some (.ref f)))(fn:Ej X.K (.ref f)=true)(F:FnOk X.prog X.w X.K X.mg X.base CX k f fd ps sp)(hr:Room (k+1) X.A)(hb:Binds X.K fd ps ds)(hd:Vals dvs ds)
  (hx:kc2 CX X E)(I:Inv X pins σ H s)(r:Vals vs us)(hps:ps.length<=1000)
  (h:∀x,H x=none->sp (.ref x::(vs++dvs)) (upd H x (ExcN x (.ref C) none)) (fun v H2=>v=.non/\Q (.ref x) H2) E):
  wpAny (model X.prog X.w) X.A (call (.ref C) us) (EP X pins σ Q) X.xe s:=by
 have hq:=h (s.heap.objs.size+1) (I.hok.fresh (Da _))
 have e2:((s.heap.push {cls:=.type "tuple",data:=.seq us.toArray}).push {cls:=.ref C,data:=.fields #[.ref s.heap.objs.size, .none, .none, .none, .bool false, .none]}).get? (s.heap.objs.size+1)>>{cls:=.ref C,data:=.fields #[.ref s.heap.objs.size, .none, .none, .none, .bool false, .none]}:=by
  have:=Heap.get?_push_size (s.heap.push {cls:=.type "tuple",data:=.seq us.toArray}) (o:={cls:=.ref C,data:=.fields #[.ref s.heap.objs.size, .none, .none, .none, .bool false, .none]}) rfl
  rwa [Heap.size_push] at this
 have I2:=I.laid (a:=s.heap.objs.size+1) (o:=ExcN (s.heap.objs.size+1) (.ref C) none) (h':=(s.heap.push {cls:=.type "tuple",data:=.seq us.toArray}).push {cls:=.ref C,data:=.fields #[.ref s.heap.objs.size, .none, .none, .none, .bool false, .none]}) (t':=s.toks) (fun b u q=>Heap.get?_push_of_some _ (Heap.get?_push_of_some _ q)) (Da _) (kkr e2 rfl rfl)
 have r2:Vals (V.ref (s.heap.objs.size+1)::(vs++dvs)) (Value.ref (s.heap.objs.size+1)::(us++ds)):=.cons rfl (r.append hd)
 have hl:(Value.ref (s.heap.objs.size+1)::us++ds).length=ps.length:=by
  have e:=r2.length
  rw[F.len _ _ _ _ hq] at e
  exact e.symm
 have hus:us.length<=sizeLine:=by
  rw[sizeLine_eq]
  simp only[EZ,MV,ML] at hl
  lia
 obtain⟨hh,g,dr,tk,os⟩:=s
 refine kmH I.kIn W hi (beq_iff_eq.mp fn) hus ?_
 refine wpAny_call (codeAny_mono (F.run _ X.stack _ _ ⟨Value.ref (hh.objs.size+1)::us,[]⟩ (Value.ref (hh.objs.size+1)::(us++ds)) _ _ E (hr.make C us [])
  (I2.env0.make C us []) (hb _ (Value.ref (hh.objs.size+1)::us) I2.kIn hl) r2 hq) fun r s' hq'=>?_)
 cases r with
 |error e=>exact hx pins σ _ _ e s' I2 hq'
 | ok fl=>
  cases fl with
  |ret u=>
   obtain⟨v,H',I3,rv,ev,q3⟩:=I2.after hq'
   subst ev
   rwa[rv,⟨V.ref (hh.objs.size+1),H',I3,rfl,q3⟩]
  |next=>exact False.elim hq'
  |brk=>exact False.elim hq'
  |cont=>exact False.elim hq'
def knF(C:Addr)(sp:Sp)(dvs:List V)(E:XK)(t:TA):TE:=fun σ H Q=>t σ H fun vs H1=>∀x,H1 x=none->sp (.ref x::(vs++dvs)) (upd H1 x (ExcN x (.ref C) none)) (fun v H2=>v=.non/\Q (.ref x) H2) E
theorem klj(W:ExcW X.K C T)(kp:MJ X.K (.ref C)=true)(hi:Mw X.K (.ref C) "__init__">>(some (.ref f)))(fn:Ej X.K (.ref f)=true)(F:FnOk X.prog X.w X.K X.mg X.base CX k f fd ps sp)(hr:Room (k+1) X.A)(hg:Gl X x)(hm:X.mg x>>(.ref C))(hb:Binds X.K fd ps ds)(hd:Vals dvs ds)(hx:kc2 CX X E)
  (ha:PA X (e::es) t)(hps:autoParam (ps.length<=1000) jQ)(hdb:autoParam ((x==("__debug__" :Str))=false) jQ)(he:autoParam (starEach (e::es) X.env=(false,eval e X.env)::starEach es X.env) jz)(hpl:autoParam ((backTo pos (starEach es X.env)).any (·.1)=false) jz):
  PE X (.Call (.Name x p) (e::es) [] pos) (knF C sp dvs E t):=by
 intro pins s σ H Q I h
 refine wpAny_Call_Name_kw (kdA I hg hm ?_ hdb)
 refine EI (h₀:=X.base) I.ok.mod.kin kp (thn (ha pos pins s σ H _ I h) fun us s1 ⟨vs,H1,I1,r,q⟩=>⟨I1.kIn,?_⟩) he hpl
 exact kjE W hi fn F hr hb hd hx I1 r hps q
inductive kmv(K:Mt)(f:Str)(D:Ends)(σ:St)(y:V)(x:V)(H2:Hp):Prop
  |ct(a C T:Addr)(_:x=.ref a)(_:ExcW K C T)(_:NoAttr K C f) (_:((H2 a>>(ExcN a (.ref C) none)/\∀d,H2 d=none->d≠a->D.nx σ (upd (upd H2 d (XdO d [(f,y)])) a (ExcN a (.ref C) (some d))))∨
   ∃d fs,H2 a>>(ExcN a (.ref C) (some d))/\H2 d>>(XdO d fs)/\fs.length<1000/\D.nx σ (upd H2 d (XdO d (putF f y fs))))):kmv K f D σ y x H2
def sFldX(K:Mt)(ta tv:TE)(f:Str):TS:=fun D σ H=>tv σ H fun y H1=>ta σ H1 fun x H2=>kmv K f D σ y x H2
theorem kiH{pins:List (Addr×Obj)}{σ:St}{H:Hp}{s:Shared}{a:Addr}{fl:Str}{y:V}{u:Value}{Q:Unit->Shared->Prop}{A:Around}{E:Value->Shared->Prop}(I:Inv X pins σ H s)(W:ExcW X.K C T)(n:NoAttr X.K C fl)(ea:H a>>(ExcN a (.ref C) none))(ry:RelV y u)
  (h:∀d s',H d=none->d≠a->Inv X pins σ (upd (upd H d (XdO d [(fl,y)])) a (ExcN a (.ref C) (some d))) s'->Q () s'):wpAny (model X.prog X.w) A (setAttr (.ref a) fl u) Q E s:=by
 obtain⟨⟨oe,vs,h1,h2,h3,h4,h5⟩,_⟩:=(show ObjOk X.prog X.w H s.heap a (ExcN a (.ref C) none) from I.hok a _ ea)
 obtain⟨oc,odi,oda,osl⟩:=oe
 dsimp only at h2 h3 h4
 subst h2 h3 h4
 refine kk0 I.kIn W h1 n fun h' hn hk hx=>?_
 have lt:=Heap.lt_size h1
 have nd:s.heap.objs.size≠a:=Ek lt
 have eN:H s.heap.objs.size=none:=I.hok.fresh (Mv _)
 refine h s.heap.objs.size _ eN nd ?_
 have g1:(h'.update a fun _=>⟨.ref C,none, .fields vs,osl⟩).get? a>>⟨.ref C,none, .fields vs,osl⟩:=Heap.get?_update_self _ hx rfl
 have g2:∀b,b≠a->(h'.update a fun _=>⟨.ref C,none, .fields vs,osl⟩).get? b=h'.get? b:=fun b nb=>Heap.get?_update_ne _ _ _ _ nb
 have hn1:(h'.update a fun _=>⟨.ref C,none, .fields vs,osl⟩).Ns1 s.heap.objs.size (fun z=>if z=fl then some u else none):=hn.at fun o q=>(g2 _ nd).trans q
 have I1:=I.laid (a:=s.heap.objs.size) (o:=XdO s.heap.objs.size [(fl,y)]) (h':=h'.update a fun _=>⟨.ref C,none, .fields vs,osl⟩) (t':=s.toks+2) (fun b ob q=>by
  by_cases z:b=a
  ·rw[z] at q⊢
   rw[h1] at q
   cases q
   exact g1
  ·exact(g2 b z).trans (hk b ob z q)) (Mv _) (klQ hn1 (fun z=>by
   by_cases q:z=fl
   ·rw[if_pos q,q,Eg,beq_self_eq_true]
    exact ry
   ·rw[if_neg q,Eg,show(z==fl)=false from beq_eq_false_iff_ne.mpr q]
    exact True.intro) (fun z hz=>by
   by_cases q:z=fl
   ·rw[q]
    exact Mx ..
   ·exact absurd (if_neg q) hz))
 have em:upd H s.heap.objs.size (XdO s.heap.objs.size [(fl,y)]) a>>(ExcN a (.ref C) none):=(kah (Ne.symm nd)).trans ea
 exact I1.write (x:=a) (e:=a) (h':=h') (t':=s.toks+2) (by rw[em];exact True.intro) (.inl rfl) (fun b ob nb q=>by rw[<-g2 b nb];exact q) ⟨_,hx⟩ (kkr hx rfl h5)
theorem kiG{pins:List (Addr×Obj)}{σ:St}{H:Hp}{s:Shared}{a d:Addr}{fl:Str}{fs:List (Str×V)}{y:V}{u:Value}{Q:Unit->Shared->Prop}{A:Around}{E:Value->Shared->Prop}(I:Inv X pins σ H s)(W:ExcW X.K C T)(n:NoAttr X.K C fl)(ea:H a>>(ExcN a (.ref C) (some d)))(ed:H d>>(XdO d fs))(hl:fs.length<1000)(ry:RelV y u)
  (h:∀s',Inv X pins σ (upd H d (XdO d (putF fl y fs))) s'->Q () s'):wpAny (model X.prog X.w) A (setAttr (.ref a) fl u) Q E s:=by
 obtain⟨⟨oe,vs,h1,h2,h3,h4,h5⟩,_⟩:=(show ObjOk X.prog X.w H s.heap a (ExcN a (.ref C) (some d)) from I.hok a _ ea)
 obtain⟨⟨mA,hn,r,wi⟩,_⟩:=(show ObjOk X.prog X.w H s.heap d (XdO d fs) from I.hok d _ ed)
 obtain⟨oc,odi,oda,osl⟩:=oe
 dsimp only at h2 h3 h4
 subst h2 h3 h4
 have hz:(fs.map (·.1)).length<=sizeLine:=by rw[Mu,sizeLine_eq];lia
 refine kkZ I.kIn W h1 rfl hn n wi hz fun h' hn' sb=>h _ ?_
 refine I.write (x:=d) (e:=d) (by rw[ed];exact True.intro) (.inl rfl) (fun b q hb z=>(sb.2 b hb).trans z) (let⟨o,_,_,e',_⟩:=hn';⟨o,e'⟩) (klQ hn' (fun g=>?_) fun g hg=>?_)
 ·show RelO ((putF fl y fs).lookup g) (if g=fl then some u else mA g)
  rw[kab]
  by_cases q:g=fl
  ·rw[if_pos q,if_pos q];exact ry
  ·rw[if_neg q,if_neg q];exact r g
 ·by_cases q:g=fl
  ·rw[q];exact(kcX fl y fs).1
  ·refine(kcX fl y fs).2 g (wi g fun z=>hg ?_)
   show(if g=fl then some u else mA g)=none
   rw[if_neg q];exact z
theorem kjO{fl:Str}(ha:PE X o ta)(hv:PE X value tv)(hs:swapsWith value (some (.Attribute o fl pos')) pos.line X.env=pure false):PS X (.Assign [.Attribute o fl pos'] value pos) (sFldX X.K ta tv fl):=by
 intro pins s σ H D I h
 refine plainObj_wpAny_Assign_Attribute (thn (hv pins s σ H _ I h) fun u s1 ⟨y,H1,I1,ry,q⟩=>thn (ha pins s1 σ H1 _ I1 q) fun ov s2 zz=>?_) hs
 obtain⟨x,H2,I2,rx,a,C,T,ex,W,n,q2⟩:=zz
 subst ex
 obtain rfl:ov=Value.ref a:=rx
 rcases q2 with⟨ea,q3⟩|⟨d,fs,ea,ed,hl,q3⟩
 ·exact kiH I2 W n ea ry fun d s3 h1 h2 I3=>⟨σ,_,I3,q3 d h1 h2⟩
 ·exact kiG I2 W n ea ed hl ry fun s3 I3=>⟨σ,_,I3,q3⟩
inductive kmt(K:Mt)(f:Str)(Q:VK)(x:V)(H1:Hp):Prop
 |ct(a C T d:Addr)(fs:List (Str×V))(v:V)(_:x=.ref a)(_:H1 a>>(ExcO a (.ref C) (some d)))(_:H1 d>>(XdO d fs))(_:ExcK K C)(_:ExcW K C T)(_:NoAttr K C f)(_:fs.lookup f>>v)(_:Q v H1):kmt K f Q x H1
def tFldX(K:Mt)(ta:TE)(f:Str):TE:=fun σ H Q=>ta σ H fun x H1=>kmt K f Q x H1
theorem km5{fl:Str}(he:PE X e ta)(hb:attributeBase e fl X.env (eval e X.env)=eval e X.env):PE X (.Attribute e fl pos) (tFldX X.K ta fl):=by
 intro pins s σ H Q I h
 refine kkK hb (thn (he pins s σ H _ I h) fun u s1 zz=>?_)
 obtain⟨x,H1,I1,rx,a,C,T,d,fs,v,ex,ea,ed,Z,W,n,l,q⟩:=zz
 subst ex
 obtain rfl:u=Value.ref a:=rx
 obtain⟨⟨oe,vs,h1,h2,h3,h4⟩,_⟩:=(show ObjOk X.prog X.w H1 s1.heap a (ExcO a (.ref C) (some d)) from I1.hok a _ ea)
 obtain⟨⟨mA,hn,r,wi⟩,_⟩:=(show ObjOk X.prog X.w H1 s1.heap d (XdO d fs) from I1.hok d _ ed)
 obtain⟨od,ho,hl⟩:=keY hn
 have J:PySem.W.InstAt s1.heap a oe C (some od):=⟨h1,h2,by unfold PySem.W.notCls;rw[h4],by rw[h3];exact ho⟩
 obtain⟨u,hu,ru⟩:=RelO.some_of (v:=v) (o:=mA fl) (by rw[<-l];exact r fl)
 obtain⟨hh,g,dr,tk,os⟩:=s1
 exact xget I1.kIn Z J (Af W.hd n rfl (by rw[hl,hu])) (kgS ru) ⟨v,H1,I1.tok _,ru,q⟩
end
theorem Inv.untX{X:Cx}{pins:List (Addr×Obj)}{σ:St}{H:Hp}{s:Shared}{a:Addr}{φ:Heap->Prop}(I:Inv X pins σ H s)(ea:H a>>(.ext φ))(h0:X.H₀ a=none):Inv X pins σ (untX a H) s:=by
 have no:∀{b:Addr},H b=none->L2.untX a H b=none:=fun {b} e=>by
  unfold L2.untX
  split
  ·rfl
  ·exact e
 have na:∀{b:Addr}{u:HO},X.H₀ b>>u->b≠a:=fun {b u} e=>kak e h0
 rwa[I.ok,I.os,I.bare,⟨I.base.keep,I.base.slot,fun b o e n hx=>no (I.base.free b o e n hx),I.base.there,fun b xs e=>(kcL (na e)).trans (I.base.tups b xs e),fun b o u e=>(kcL (na e)).trans (I.base.frzs b o u e),fun b ps e=>?_⟩,I.loc,I.cell,no I.free,fun x c e=>no (I.freeC x c e),fun p hp=>?_,fun b u e=>?_,I.len]
 ·obtain⟨m,q⟩:=I.base.tbls b ps e
  rwa[m,(kcL (na e)).trans q]
 ·obtain⟨h1,h2,h3⟩:=I.pin p hp
  rwa[h1,no h2,h3]
 ·have nb:b≠a:=fun z=>by
   rw[z,kge] at e
   cases e
  rw[kcL nb] at e
  refine(I.hok b u e).stay (fun _ _ _ q=>q) (fun d r=>?_) fun d xs r=>?_
  ·rw[kcL (ne_of r ea (fun z=>nomatch z))]
   exact r
  ·rw[kcL (ne_of r ea (fun z=>nomatch z))]
   exact r
def RzV(X:Cx)(EX:XK):Prop:=∀(pins:List (Addr×Obj))(σ:St)(H:Hp)(s:Shared)(e:Addr)(oe:Obj)(vs:Array Value),Inv X pins σ H s->X.s₀.heap.get? e=none->H e=none->s.heap.get? e>>oe->oe.data=.fields vs->vs[1]?>>.none->EX oe.cls oe.dict H->X.xe (.ref e) s
def knL{P:Program}{w:World}{K:Mt}{mg:Str->Option Value}{base:Heap}{N:List Str}{qual:Str}{scope:Scope}{f:Addr}{cd:Value}{A:Around}{outer:List Env}{s₀:Shared}{H₀:Hp}{E:XK}:RzV (cxOf (CX1 P w) P w K mg base N qual scope f cd A outer s₀ H₀ E) E:=by
 intro pins σ H s e oe vs I he0 hHe he hd h1n hE
 have hsz:1<vs.size:=(ED.mp h1n).1
 refine kff (s:=s) I.ok.frames (base:=base) I.stack rfl he hd h1n fun h' T x=>?_
 have hT0:s₀.heap.get? T=none:=by
  cases q:s₀.heap.get? T with
  |none=>rfl
  |some o=>
   obtain⟨o',z⟩:=I.base.there T o q (by intro z;cases z)
   rw[x.new] at z
   cases z
 rwa[e,T,oe.cls,oe.dict,H,6,I.os,I.bare,I.base.ex (fs:=[]) (L:=s₀.heap.objs.size) (env:=PyProof.Rows.envOfC qual scope s₀.heap.objs.size f cd) rfl (Mv _) (fun _ _ q=>q) x he0 (fun b hb=>by cases hb),fun b u q=>?_,he0,hHe,hT0,I.hok.no x.new,x.ext he hd hsz,hE]
 have nst:∀{b:Addr}{u:HO},H b>>u->b∉frs (PyProof.Rows.envOfC qual scope s₀.heap.objs.size f cd::outer):=fun {b u} q z=>by
  have:=I.stkFree b z
  rw[q] at this
  cases this
 refine(I.hok b u q).stay (fun c v hc r=>?_) (fun _ r=>r) fun _ _ r=>r
 obtain⟨o,eo⟩:∃o,H c>>o:=by
  rcases hc with rfl|hc
  ·rwa[u,q]
  ·rwa[_,hc]
 exact x.keep c v r (nst eo) (kak eo hHe) (by simp)
inductive kiA(K:Mt)(H₀:Hp)(EX:XK)(x:V)(H1:Hp):Prop
 |ct(a C T:Addr)(dx:Option Addr)(_:x=.ref a)(_:ExcW K C T)(_:H1 a>>(ExcN a (.ref C) dx))(_:H₀ a=none)(_:EX (.ref C) dx (untX a H1)):kiA K H₀ EX x H1
def kmL(K:Mt)(H₀:Hp)(EX:XK)(te:TE):TS:=fun _ σ H=>te σ H fun x H1=>kiA K H₀ EX x H1
def kjM{X:Cx}{EX:XK}{e:Expr}{te:TE}{pos:Pos}(he:PE X e te)(hx:RzV X EX)(hex:X.ex=[])(hc:X.calm=true):PS X (.Raise (some e) none pos) (kmL X.K X.H₀ EX te):=by
 intro pins s σ H D I h
 rw[arm_exec_Raise]
 simp only[evalOpt,Option.map]
 refine wpAny_bind (wpAny_standAt ?_)
 unfold raiseStmt
 refine wpAny_bind (wpAny_bind (thn (he pins s σ H _ I h) fun v s1 ⟨x,H1,I1,rx,a,C,T,dx,ex,W,ea,h0,q⟩=>wpAny_bind (wpAny_standAt (wpAny_pure ?_))))
 subst ex
 obtain rfl:v=Value.ref a:=rx
 obtain⟨⟨oe,vs,h1,h2,h3,h4,h5⟩,_⟩:=(show ObjOk X.prog X.w H1 s1.heap a (ExcN a (.ref C) dx) from I1.hok a _ ea)
 have s0:X.s₀.heap.get? a=none:=by
  cases z:X.s₀.heap.get? a with
  |none=>rfl
  |some o=>
   have:=I1.base.free a o z h0 (by rw[hex];intro z;cases z)
   rw[ea] at this
   cases this
 have I2:=I1.untX ea h0
 have hE:X.xe (.ref a) s1:=hx pins σ _ s1 a oe vs I2 s0 kge h1 h4 h5 (by rw[h2,h3];exact q)
 obtain⟨nm,qn,N,bs,sn,sub,ab,col,dd,k0,k1,k2,k3,k5,eC⟩:=W.ob
 have hC:=I1.kIn _ _ eC
 have hcB:(Value.ref C:: .ref T::veL).contains (.type "BaseException")=true:=by unfold veL;simp
 have hh:=I1.ok.hd hc
 clear I2 q I h
 obtain⟨oc,od,odt,osl⟩:=oe
 dsimp only at h2 h3 h4
 subst h2 h3 h4
 have g1:∀{α:Type}{Q: α->Shared->Prop}{f:Value->Sem α},wpAny (model X.prog X.w) X.A (f .none) Q X.xe s1->wpAny (model X.prog X.w) X.A (field (.ref a) 1 >>= f) Q X.xe s1:=fun z=>wpAny_bind (wpAny_field h1 rfl h5 z)
 obtain⟨hp,g,d,tk,os⟩:=s1
 repeat (first|with_reducible refine wpAny_loadPart_at h1 ?_|with_reducible refine wpAny_loadPart_at hC ?_|(with_reducible refine wpAny_isSubtype_exc hC ?_;rw[hcB])|with_reducible refine g1 ?_|with_reducible refine wpAny_field h1 rfl h5 ?_|wp_step)
 exact wpAny_raiseNew_none hh hE
def knT{X:Cx}{st:Stmt}{t:TS}(h:PS X.nox st t):PS X st t:=fun pins s σ H D I hw=>
 wpAny_mono (h pins s σ H D (I.wish _) hw) (fun _ _ q=>q.unwish) fun _ _ z=>False.elim z
def kiN{H H':Hp}(h:∀b u,H b>>u->H' b>>u):Same H H':=fun b o e=>ev_eq (h b o e) fun⟨ps,e1,t,hor⟩=>⟨ps,h _ _ e1,t,fun pos d ed=>let⟨c,r,z⟩:=hor pos d ed;⟨c,r,h _ _ z⟩⟩
def xw_mk{K:Mt}{C T:Addr}{nm q:Str}{N:Addr}{bs:List Value}{sn:List Str}{sub:List Value}{ab:Bool}{col:Option Bool}{dd:Option Addr}{k0 k1 k2 k3 k5:Option Value}(e:K.lookup C>>(excClassObj nm q C N bs (.ref T::veL) true sn sub ab col dd k0 k1 k2 k3 k5 "ValueError.__new__")):∃(nm q:Str)(N:Addr)(bs:List Value)(sn:List Str)(sub:List Value)(ab:Bool)(col:Option Bool)(dd:Option Addr)(k0 k1 k2 k3 k5:Option Value),K.lookup C>>(excClassObj nm q C N bs (.ref T::veL) true sn sub ab col dd k0 k1 k2 k3 k5 "ValueError.__new__"):=⟨nm,q,N,bs,sn,sub,ab,col,dd,k0,k1,k2,k3,k5,e⟩
end L2
namespace L2
open PySem PySem.Spec PyProof.Rows Builtin Builtin.Str
section
variable{X:Cx}
theorem kgb:∀(l:List (Str×Tok)),Vals ((l.map (·.1)).map V.str) (strValues l)
 |[]=>.nil
 |(x,t)::l=>.cons ⟨t,rfl⟩ (kgb l)
inductive kkR(x:V)(vs:List V)(H:Hp)(Q:VK):Prop
 |ct(t sep:Str)(_:x=.str t)(_:vs=[.str sep])(_:(sep.length==0)=false)(_:t.length+2<=sizeLine)(_:(Txt.split t sep).length<=sizeLine)(_:∀D,H D=none->Q (.ref D) (upd H D (.lst ((Txt.split t sep).map V.str)))):kkR x vs H Q
def kjJ:V->List V->Hp->VK->Prop:=fun x vs H Q=>kkR x vs H Q
theorem kig:MtM X "str.split" kjJ:=by
 intro pins s σ H x vs v us Q I rx rv h
 obtain⟨x,y,rfl,rfl,hy,hsz,hsz2,q⟩:=h
 obtain⟨t,rfl⟩:=rx
 obtain⟨u,rfl,ru⟩:=rv.one
 obtain⟨u,rfl⟩:=ru
 have fin:∀(l:List (Str×Tok))(k:Nat),l.map (·.1)=Txt.split x y->EP X pins σ Q (.ref s.heap.objs.size) {s with heap:=s.heap.push {cls:=.type "list",data:=.seq (strValues l).toArray},toks:=k}:=fun l k e=>by
  have hn:H s.heap.objs.size=none:=I.hok.fresh (Mv _)
  have hv:Vals ((Txt.split x y).map V.str) (strValues l):=by rw[<-e];exact kgb l
  rwa[.ref s.heap.objs.size,_,I.laid (a:=s.heap.objs.size) (o:=.lst ((Txt.split x y).map V.str)) (t':=k) (fun b o z=>Heap.get?_push_of_some _ z) (Mv _) ⟨by rw[Mu];exact hsz2,strValues l,0,hv,Heap.get?_push_size _ rfl⟩,6,q _ hn]
 cases h1:(decide (x.length<y.length)||decide (strKind x<strKind y))
 ·cases hf:(occurrences x y 0 x.length (x.length+1)).isEmpty
  ·have e:Txt.split x y=partsBetween x (occurrences x y 0 x.length (x.length+1)) y.length:=(if_neg (ne_true_of_eq_false h1)).trans (if_neg (ne_true_of_eq_false hf))
   refine call_meets F.slot_str_split (typeIs_str _ _ _) F.entry_str_split (F.args_str_split_2 _ _) (meets_str_split_sep x y t u h1 hy hf (by lia) (by rw[<-e];exact hsz2)) ?_
   show wants _ _ _ {s with toks:=_,heap:=s.heap.push {cls:=.type "list",data:=.seq (strsFrom s.toks (partsBetween x (occurrences x y 0 x.length (x.length+1)) y.length)).toArray}}
   rw[strsFrom_eq]
   exact fin (numbered s.toks _) _ ((numbered_texts _ _).trans e.symm)
  ·exact call_meets F.slot_str_split (typeIs_str _ _ _) F.entry_str_split (F.args_str_split_2 _ _) (meets_str_split_not_found x y t u h1 hy hf) (fin [(x,t)] s.toks ((if_neg (ne_true_of_eq_false h1)).trans (if_pos hf)).symm)
 ·exact call_meets F.slot_str_split (typeIs_str _ _ _) F.entry_str_split (F.args_str_split_2 _ _) (meets_str_split_cannot_occur x y t u h1) (fin [(x,t)] s.toks (if_pos h1).symm)
end
noncomputable def sgn(c:Nat):Str:=⟨#[c]⟩
noncomputable def Itw(x:Str):It:=⟨fun i _=>i<x.cps.size,fun i H v H'=>H'=H/\∃c,x.cps[i]?>>c/\v=.str (sgn c),fun i _=>x.cps.size<=i⟩
theorem kk4{P:Program}{w:World}{K:Mt}{tg:Expr}(it:Addr)(x:Str)(t:Tok):Turn P w K tg (Itw x) [it] it (fun i h=>h.IsStrIter it "str_ascii_iterator" x t i) where
 mem:=by simp
 obj:=fun i h st b hb=>by
  have e:b=it:=by simpa using hb
  subst e
  obtain⟨o,e,c,d⟩:=st
  rwa[o,e,fun v z=>by rw[d] at z;cases z]
 keep:=fun i h h' st k=>let⟨o,ho,r⟩:=st;⟨o,k it (by simp) o ho,r⟩
 item:=by
  intro X hP hw hK hc i pins s σ H E I hf st hg
  subst hP hw hK
  obtain⟨f0,f1,f2,f3,f4,f5⟩:=hf it (by simp)
  have W:=Walks.strAscii (prog:=X.prog) (w:=X.w) (I.ok.hd hc) it x t
  refine W.item i s _ _ hg st fun v h' tk hv st' kk=>?_
  obtain⟨c,u,hc',rfl⟩:=hv
  have I1:Inv X pins σ H {s with heap:=h',toks:=tk}:=I.turned (fun b o hb e=>kk b o (by simpa using hb) e) f0 f1 f3 f4 f5
  obtain⟨o,e,cl,d⟩:=id st'
  rwa[8,go_of (s:={s with heap:=h',toks:=tk}) e cl d (by decide) ⟨.str (sgn c),H,I1,⟨u,rfl⟩,⟨rfl,c,hc',rfl⟩,st',fun b hb=>(hf b hb).1⟩]
 done:=by
  intro X hP hw hK hc i pins s σ H E I hf st hg
  subst hP hw hK
  obtain⟨f0,f1,f2,f3,f4,f5⟩:=hf it (by simp)
  exact wpAny_pyNext_ascii_end (I.ok.hd hc) st (by have:x.cps.size<=i:=hg;simp;lia) fun h' eb=>⟨rfl,I.turned (t':=s.toks) (fun b o hb e=>eb b o hb e) f0 f1 f3 f4 f5⟩
 self:=fun _ _ _ _ _ st h=>wpAny_pyIter_striter_ascii st h
section
variable{X:Cx}{tg:Expr}
inductive QiStr(R:It->Hp->Prop)(v:V)(H1:Hp):Prop
 |ct x (_:v=.str x) (_:x.cps.all (· < 128)=true) (_:R (Itw x) H1):QiStr R v H1
def iStr(tl:TE):TI:=fun σ H R=>tl σ H fun v H1=>QiStr R v H1
theorem knV{l:Expr}{tl:TE}(hl:PE X l tl):PI X tg l (iStr tl):=by
 intro pins s σ H R I h
 refine thn (hl pins s σ H _ I h) fun v s1 zz=>?_
 obtain⟨x,H1,I1,r1,q1⟩:=zz
 obtain⟨x,e,ha,q⟩:=q1
 subst e
 obtain⟨t,rfl⟩:=r1
 refine wpAny_pyIter_ascii ha ?_
 rwa[s1.heap.objs.size,[s1.heap.objs.size],_,_,H1,6,I1.kept (t':=s1.toks) fun b o e=>Heap.get?_push_of_some _ e,kk4 _ x t,⟨_,Heap.get?_push_size _ rfl,rfl,rfl⟩,fun b hb=>?_,q]
 have e:b=s1.heap.objs.size:=by simpa using hb
 subst e
 exact I1.fpOk (Mv _) (I1.hok.fresh (Mv _))
end
theorem klK{x:Str}{g:TG}{te:TE}{σ:St}{H:Hp}{R:List V->Hp->Addr->Prop}(Pv:Nat->St->List V->Hp->Prop)(h0:Pv 0 σ [] H)(hz:x.cps.size<=sizeLine)(hl:∀i σ ys H,i<=x.cps.size->Pv i σ ys H->ys.length=i)
  (hs:∀i c σ ys H,x.cps[i]?>>c->Pv i σ ys H->g (.str (sgn c)) σ H fun σ2 H2=>te σ2 H2 fun y H3=>Pv (i+1) σ2 (ys++[y]) H3)(hd:∀σ ys H,Pv x.cps.size σ ys H->∀D,H D=none->R ys H D):
  ∃ W:Nat->Nat->St->List V->Hp->Prop,(∃m,W 0 m σ [] H)/\∀i m σ' ys H',W i m σ' ys H'->
   ((Itw x).stop i H'/\∀D,H' D=none->R ys H' D)∨((Itw x).go i H'/\ys.length<sizeLine/\∃N:St->V->Hp->Prop,(∀σ2 y H4,N σ2 y H4->∃m',m'<m/\W (i+1) m' σ2 (ys++[y]) H4)/\
    ∀v H2,(Itw x).yld i H' v H2->g v σ' H2 fun σ2 H3=>te σ2 H3 (N σ2)):=by
 rwa[fun i m σ ys H=>m=x.cps.size-i/\i<=x.cps.size/\Pv i σ ys H,⟨x.cps.size,by simp,M7 _,h0⟩,?_]
 rintro i m σ ys H ⟨rfl,hi,p⟩
 have el:=hl i σ ys H hi p
 by_cases hlt:i<x.cps.size
 ·refine .inr ⟨hlt,by lia,fun σ2 y H3=>Pv (i+1) σ2 (ys++[y]) H3,fun σ' y H' p'=>⟨x.cps.size-(i+1),by lia,rfl,hlt,p'⟩,fun v H' yl=>?_⟩
  obtain⟨rfl,c,hc,rfl⟩:=yl
  exact hs i c σ ys _ hc p
 ·have e:i=x.cps.size:=by lia
  subst e
  exact .inl ⟨Mv _,hd σ ys H p⟩
end L2
namespace L2
open PySem PySem.Spec PyProof.Rows
section
variable{X:Cx}
inductive QrInS(neg:Bool)(x:V)(y:V)(H:Hp)(Q:VK):Prop
 |ct(a b:Str)(_:x=.str a)(_:y=.str b)(_:Q (.bl (if neg then !Txt.contains b a else Txt.contains b a)) H):QrInS neg x y H Q
def rInS(neg:Bool):R2:=fun x y H Q=>QrInS neg x y H Q
theorem kn2:OpR X (compareOp .In) (rInS false):=by
 intro pins s σ H x y v u Q I rx ry h
 obtain⟨a,b,rfl,rfl,q⟩:=h
 obtain⟨t,rfl⟩:=rx
 obtain⟨t',rfl⟩:=ry
 exact SB.contains ⟨.bl _,H,I,rfl,q⟩
def rMulS:R2:=fun x y H Q=>∃(a:Str)(n:Int),x=.str a/\y=.int n/\MulOk a n/\Q (.str (Txt.mul a n)) H
theorem km7:OpR X (binaryOp .Mult) rMulS:=by
 intro pins s σ H x y v u Q I rx ry h
 obtain⟨a,n,rfl,rfl,hok,q⟩:=h
 obtain⟨t,rfl⟩:=rx
 obtain⟨t',rfl⟩:=ry
 exact SB.mul hok fun t'' k=>⟨.str _,H,I.tok k,⟨t'',rfl⟩,q⟩
inductive kmz(xs:List V)(H:Hp)(Q:VK):Prop
 |ct(x:Str)(n:Int)(_:xs=[.str x])(_:PySem.intText? x>>n)(_:x.length<=640)(_:Q (.int n) H):kmz xs H Q
def rIntS:List V->Hp->VK->Prop:=fun xs H Q=>kmz xs H Q
theorem kgZ:CallR X (.type "int") rIntS:=by
 intro pins s σ H xs us Q I r h
 obtain⟨x,n,rfl,hn,hl,q⟩:=h
 obtain⟨u,rfl,t,rfl⟩:=vals1 r
 exact PySem.W.KIN.call_text hn hl ⟨.int n,H,I.tok _,⟨s.toks,rfl⟩,q⟩
inductive kkT(x:V)(vs:List V)(H:Hp)(Q:VK):Prop
 |ct(l:Addr)(xs:List V)(y z:V)(j:Nat)(_:x=.ref l)(_:vs=[y])(_:H l>>(.lst xs))(_:flatV y=true)(_:xs.all flatV=true)(_:xs[j]?>>z)(_:eqV z y=true)(_:(∀m w,m<j->xs[m]?>>w->eqV w y=false))(_:j<1000000)(_:Q (.int (j:Int)) H):kkT x vs H Q
def knO(K:Mt):V->List V->Hp->VK->Prop:=fun x vs H Q=>kkT x vs H Q
theorem kls:MtM X "list.index" (knO X.K):=by
 intro pins s σ H x vs v us Q I rx rv h
 obtain⟨l,xs,y,z,j,rfl,rfl,hH,fy,fx,hz,he,hno,hj6,q⟩:=h
 cases rx
 obtain⟨u,rfl,ru⟩:=rv.one
 obtain⟨sz,its,n,r,hl,e⟩:=I.lstM hH
 have ln:its.length=xs.length:=by rw[<-hl]
 have hj:j<xs.length:=(MO.mp hz).1
 have heq:∀(m:Nat)(hm:m<its.toArray.size),∃w,xs[m]?>>w/\eqU y its.toArray[m]=eqV w y:=fun m hm=>by
  obtain⟨w,e1,g1⟩:=koc r hm
  rwa[w,e1,kkt g1 (EY.mp fx w (MK e1))]
 refine call_meets F.slot_list_index ⟨_,e,rfl⟩ F.entry_list_index (F.args_list_index_2 _ _)
  (SeqAt.list_indexAt l its.toArray n none #[] u (eqU y) j (by simp;lia) (by lia) ?_ ?_) ⟨e,fun w hw=>?_,⟨.int (j:Int),H,I.tok _,⟨s.toks,rfl⟩,q⟩⟩
 ·obtain⟨w,e1,e2⟩:=heq j (by simp;lia)
  rw[hz] at e1
  cases e1
  rw[e2]
  exact he
 ·intro m hm hmj
  obtain⟨w,e1,e2⟩:=heq m hm
  rw[e2]
  exact hno m w hmj e1
 ·exact kda ru fy r fx w (by simpa using hw)
end
end L2
namespace TxE
open PySem
open AutoSeq1 (wpAny_loadPart')
section
variable{prog:Program}{w:World}{A:Around}{E:Value->Shared->Prop}{s:Shared}
theorem ket(l:Addr)(items:Array Value)(n:Nat)(dct:Option Addr)(sl:Array (Option Value))(i:Int)(t:Tok)(hi:0<=i)(hi2:i<1000000):
  Meets (Builtin.«enumerate.__new__» ⟨[.type "enumerate", .ref l],[(Str.ofString "start", .int i t)]⟩) (fun _ R s=>s.heap.get? l>>{cls:=.type "list",dict:=dct,data:=.seq items n,slots:=sl}/\
   R (.ok (.ret (.ref (s.heap.push {cls:=.type "list_iterator",data:=.fields #[.ref l, .int 0 0]}).objs.size)))
    {s with heap:=(s.heap.push {cls:=.type "list_iterator",data:=.fields #[.ref l, .int 0 0]}).push {cls:=.type "enumerate",data:=.fields #[.none, .bool false, .ref s.heap.objs.size,rawInt i, .none, .none]}}):=
 .of_wp fun prog w A R s h=>by
  obtain⟨hp,g,d,tk,os⟩:=s;obtain⟨hl,h⟩:=h
  have hsub:=sub_enumerate
  have hfit:¬(!Builtin.SmallTypes.fitsIndex i)=true:=by
   unfold Builtin.SmallTypes.fitsIndex
   simp
   lia
  have hL:Heap.IsList (Shared.heap ⟨hp,g,d,tk,os⟩) l items:=⟨_,hl,rfl,n,rfl⟩
  wp_walk using wpAny_loadPart' hl
  refine wpAny_stack_any fun st=>wpAny_pure ?_
  split
  ·rename_i c _ _ _ _ _
   cases(c==Value.type "enumerate")
   ·wp_walk using wpAny_loadPart' hl,wpAny_pyIter_list hL
    rwa[8,h]
   ·wp_walk using wpAny_loadPart' hl,wpAny_pyIter_list hL
    rwa[8,h]
  ·wp_walk using wpAny_loadPart' hl,wpAny_pyIter_list hL
   rwa[8,h]
theorem kkG{T newId initId:String}{Bn Bi:Builtin}{args:List Value}{kw:List (Str×Value)}{S:Spec}{Q Q₁:Value->Shared->Prop}(ft:TypeCalled T newId initId)
  (hct:checkTypeCall T ⟨args,kw⟩=pure ())(hcn:checkBuiltinCall newId ⟨.type T::args,kw⟩=pure ())
  (entryN:entryFor table newId>>Bn)(entryI:entryFor table initId>>Bi)(g:Meets (Bn ⟨.type T::args,kw⟩) S)
  (h:S A.in1 (wants Q₁ E) s)
  (hnext:∀obj s₁,Q₁ obj s₁->s₁.TypeIs obj T/\argsOk initId ⟨obj::args,kw⟩/\∃Si,Meets (Bi ⟨obj::args,kw⟩) Si/\Si A.in1 (wants (fun r s₂=>r=.none/\Q obj s₂) E) s₁):
  wpAny (model prog w) A (call (.type T) args kw) Q E s:=by
 obtain⟨c,tl,hmro⟩:=ft.mro
 have hmade:=ft.made
 have hsub:=ft.sub
 refine wpAny_call (codeAny_of_tree ?_)
 show wpAny _ _ (callAny (.type T) _) _ _ _
 refine wpAny_pure ⟨Code.quiet_builtin _ (by cutsat),codeAny_builtin F.entry_type_call ?_⟩
 rw[Around.under_plain (weight_type_call_type T args kw) (units_type_call_type T args kw)]
 have h1:=ft.notType
 have h2:=ft.canCreate
 repeat (any_goals (first|assumption|wp_step))
 refine codeAny_mono (codeAny_call_builtin ft.plain entryN (wpAny_of_eq hcn (g prog w A.in1 _ s h))) fun r s₁ hr=>?_
 match r,hr with
 | .error e,hr=>exact hr
 | .ok (.ret obj),hr=>
  obtain⟨hT,hok,Si,gi,hsi⟩:=hnext _ _ hr
  have hli:=ft.init.lookup
  have hbi:=ft.init.bind obj
  repeat (any_goals (first|assumption|wp_step))
  refine codeAny_mono (codeAny_call_builtin ft.init.plain entryI (ft.init.check _ _ _ _ _ _ _ _ hT hok (gi prog w A.in1 _ s₁ hsi))) fun r₂ s₂ hr₂=>?_
  match r₂,hr₂ with
  | .error e,hr₂=>exact hr₂
  | .ok (.ret r),hr₂=>
   obtain⟨rfl,hq⟩:=hr₂
   repeat (any_goals (first|assumption|wp_step))
theorem khs{T newId:String}{self:Value}{rest:List Value}{p:Str×Value}{kw:List (Str×Value)}(hl:typeLookup (.type T) "__init__"=pure (some (.builtin "object.__init__")))
  (hm:Bind.madeBy (.type T)=pure (some newId))(hne:(some newId !=some "object.__new__")=true):
  Meets (Builtin.«object.__init__» ⟨self::rest,p::kw⟩) (fun _ R s=>s.TypeIs self T/\R (.ok (.ret .none)) s):=by
 refine Meets.of_wp fun prog w A R s hs=>?_
 obtain⟨hT,hq⟩:=hs
 repeat (any_goals (first|assumption|wp_step))
 rwa[8,hq]
theorem enum_start{l:Addr}{items:Array Value}{i:Int}{t:Tok}{Q:Value->Shared->Prop}(hL:s.heap.IsList l items)(hi:0<=i)(hi2:i<1000000)
  (h:∀h',IsEnum h' (s.heap.objs.size+1) s.heap.objs.size i .none->h'.IsListIter s.heap.objs.size l 0->h'.objs.size=s.heap.objs.size+2->
   (∀b o,s.heap.get? b>>o->h'.get? b>>o)->Q (.ref (s.heap.objs.size+1)) {s with heap:=h'}):
  wpAny (model prog w) A (call (.type "enumerate") [.ref l] [(Str.ofString "start", .int i t)]) Q E s:=by
 obtain⟨⟨c,dct,dt,sl⟩,hl,hc,n,hd⟩:=hL
 replace hc:c=.type "list":=hc
 replace hd:dt=.seq items n:=hd
 subst hc hd
 refine kkG (Q₁:=fun obj s₁=>s₁.TypeIs obj "enumerate"/\Q obj s₁) F.called_enumerate ?_ ?_ F.entry_enumerate_new F.entry_object_init (ket l items n dct sl i t hi hi2) ⟨hl,?_⟩ fun obj s₁ hq=>⟨hq.1,?_,_,khs F.called_enumerate.init.lookup F.called_enumerate.made (by decide),hq.1,rfl,hq.2⟩
 ·kernel_rfl
 ·kernel_rfl
 ·have hz:(s.heap.push {cls:=.type "list_iterator",data:=.fields #[.ref l, .int 0 0]}).objs.size=s.heap.objs.size+1:=Heap.size_push ..
  show _/\_
  rw[hz]
  have he:IsEnum ((s.heap.push {cls:=.type "list_iterator",data:=.fields #[.ref l, .int 0 0]}).push
    {cls:=.type "enumerate",data:=.fields #[.none, .bool false, .ref s.heap.objs.size,rawInt i, .none, .none]}) (s.heap.objs.size+1) s.heap.objs.size i .none:=by
   have:=Heap.get?_push_size (s.heap.push {cls:=.type "list_iterator",data:=.fields #[.ref l, .int 0 0]})
    (o:={cls:=.type "enumerate",data:=.fields #[.none, .bool false, .ref s.heap.objs.size,rawInt i, .none, .none]}) rfl
   rw[hz] at this
   exact this
  rwa[⟨_,he,rfl⟩,h _ he ⟨_,Heap.get?_push_of_some _ (Heap.get?_push_size _ rfl),rfl,rfl⟩ (by rw[Heap.size_push,hz]) fun b o x=>Heap.get?_push_of_some _ (Heap.get?_push_of_some _ x)]
 ·unfold argsOk
  kernel_rfl
end
end TxE
namespace L2
open PySem PySem.Spec PyProof.Rows
theorem khB{prog:Program}{w:World}{A:Around}{it:Addr}{fp:List Addr}{n:Nat}{P:Nat->Value->Prop}{St:Nat->Heap->Prop}(D:Draws prog w A it fp n P St)(k:Nat):Draws prog w A it fp (n+k) (fun j x=>P (j-k) x) (fun j h=>k<=j/\St (j-k) h) where
 live:=fun i h st=>D.live _ h st.2
 frame:=fun i h h' st f=>⟨st.1,D.frame _ h h' st.2 f⟩
 item:=fun i s Q E hi st hQ=>D.item (i-k) s Q E (by have:=st.1;lia) st.2 fun x h' tk p st' sb=>hQ x h' tk p ⟨by have:=st.1;lia,by rw[show i+1-k=i-k+1 by have:=st.1;lia];exact st'⟩ sb
 done:=fun s Q E st hE=>D.done s Q E (by have:=st.2;rw[DT] at this;exact this) hE
theorem kkW{prog:Program}{w:World}{A:Around}(hh:A.handled=none)(it l:Addr)(items:Array Value)(i m:Nat)(hx:items[i]?=none):Draws prog w A it [it,l] m (fun _ _=>True) (fun j h=>j=m/\h.IsListIter it l i/\h.IsList l items) where
 live:=fun _ _ st=>let⟨o,ho,_⟩:=st.2.1;⟨o,ho⟩
 frame:=fun _ _ _ st hk=>⟨st.1,st.2.1.at fun o e=>hk it (by simp) o e,st.2.2.at fun o e=>hk l (by simp) o e⟩
 item:=fun j s Q E hi st hQ=>by have:=st.1;lia
 done:=fun s Q E st hE=>wpAny_nextOf_list_end hh st.2.1 st.2.2 hx hE
noncomputable def Ies(a:Addr)(z:Nat):It:=⟨fun i H=>∃xs x,H a>>(.lst xs)/\xs[i]?>>x,fun i H x H'=>∃t y,H t=none/\x=.ref t/\H'=upd H t (.tup [.int ((i+z:Nat):Int),y])/\∀xs,H a>>(.lst xs)->xs[i]?>>y,fun i H=>∃xs,H a>>(.lst xs)/\xs.length<=i⟩
theorem kiJ{z:Nat}{P:Program}{w:World}{K:Mt}{es:List Expr}{k:Nat}{pos:Pos}(a e it:Addr)(hne:e≠it):Turn P w K (.Tuple es k pos) (Ies a z) [e,it] e (fun i h=>(∃old,IsEnum h e it ((i+z:Nat):Int) old)/\h.IsListIter it a i) where
 mem:=by simp
 obj:=fun i h st b hb=>by
  obtain⟨⟨old,he⟩,o,eo,c,d⟩:=st
  have hb':b=e∨b=it:=by simpa using hb
  rcases hb' with rfl|rfl
  ·exact⟨_,he,fun v z=>by
    have z':Data.fields _=Data.cell v:=z
    cases z'⟩
  ·rwa[o,eo,fun v z=>by rw[d] at z;cases z]
 keep:=fun i h h' st k=>⟨let⟨old,he⟩:=st.1;⟨old,k e (by simp) _ he⟩,st.2.at fun o eo=>k it (by simp) o eo⟩
 item:=by
  intro X hP hw hK hc i pins s σ H E I hf st hg
  subst hP hw hK
  obtain⟨⟨old,he⟩,hit⟩:=st
  obtain⟨xs,x,hq,hx⟩:=hg
  obtain⟨its,n,r,ho,hz⟩:=I.lst hq
  obtain⟨u,hu,ru⟩:=r.get hx
  have hl:s.heap.IsList a its.toArray:=⟨_,ho,rfl,n,rfl⟩
  have hla:a≠it:=fun q=>by
   obtain⟨o,eo,c,_⟩:=hit
   rw[<-q,ho] at eo
   cases eo
   simp[seqObj] at c
  have hea:e≠a:=fun q=>by
   rw[q] at he
   unfold IsEnum at he
   rw[ho] at he
   simp[seqObj] at he
  have hli:=hit
  have hlt:i<its.toArray.size:=by
   have:=(MO.mp hu).1
   simpa using this
  refine wpAny_pyNext_enum_itemD (i:=i+z) (khB (Draws.list (A:=X.A.in1) (show X.A.in1.handled=none from I.ok.hd hc) it a hla its.toArray) z) he ⟨by lia,by rw[DT];exact⟨hit,hl⟩⟩ (by lia) hne (by simp;exact⟨hne,hea⟩) fun x1 h1 tk1 hp1 heo hst1 ht1 hz1 hk1=>?_
  have ex1:u=x1:=by
   have h':its.toArray[i+z-z]?>>x1:=hp1
   rw[DT] at h'
   have h2:its.toArray[i]?>>u:=by simpa using hu
   rw[h2] at h'
   exact Option.some.inj h'
  subst ex1
  have hit1:h1.IsListIter it a (i+1):=by
   have:=hst1.2.1
   rw[show i+z+1-z=i+1 by lia] at this
   exact this
  rwa[.ref s.heap.objs.size,6,wpAny_letOwnedTupleGo_enum heo fun h2 he2 hs2=>?_]
  have hs2':Heap.SameBut e h1 h2:=hs2
  have el:e<s.heap.objs.size:=Heap.lt_size he
  have kk:∀b o,b∉[e,it]->s.heap.get? b>>o->h2.get? b>>o:=fun b o hb eo=>by
   have hb':b≠e/\b≠it:=by simpa using hb
   exact(hs2'.2 b hb'.1).trans (hk1 b o hb'.1 hb'.2 eo)
  have I1:Inv X pins σ H {s with heap:=h2,toks:=tk1+1}:=I.turnedL (ch:=[e,it]) kk hf
  have fr:H s.heap.objs.size=none:=I.hok.fresh (Mv _)
  have ft:FpOk X pins H s.heap.objs.size:=I.fpOk (Mv _) fr
  have ht2:h2.get? s.heap.objs.size>>{cls:=.type "tuple",data:=.seq #[.int ((i+z:Nat):Int) tk1,u]}:=(hs2'.2 _ (Ek el)).trans ht1
  have I2:Inv X pins σ (upd H s.heap.objs.size (.tup [.int ((i+z:Nat):Int),x])) {s with heap:=h2,toks:=tk1+1}:=
   I1.adopt ft I.sz ⟨by show 2<=sizeLine;decide,[.int ((i+z:Nat):Int) tk1,u], .cons ⟨_,rfl⟩ (.cons ru .nil),_,ht2,rfl,_,rfl⟩
  have hit2:h2.IsListIter it a (i+1):=hit1.extBut hs2'.extBut (Ne.symm hne)
  rwa[.ref s.heap.objs.size,_,I2,6,⟨s.heap.objs.size,x,fr,rfl,rfl,fun ys hy=>by rw[hq] at hy;cases hy;exact hx⟩,⟨⟨u,?_⟩,hit2⟩,fun b hb=>?_]
  ·have e1:((i+1+z:Nat):Int)=((i+z:Nat):Int)+1:=by lia
   rw[e1]
   exact he2
  ·have hbl:b<s.heap.objs.size:=by
    have hb':b=e∨b=it:=by simpa using hb
    rcases hb' with rfl|rfl
    ·exact el
    ·obtain⟨o,eo,_⟩:=hit
     exact Heap.lt_size eo
   rw[kah (MT hbl)]
   exact(hf b hb).1
 done:=by
  intro X hP hw hK hc i pins s σ H E I hf st hg
  subst hP hw hK
  obtain⟨⟨old,he⟩,hit⟩:=st
  obtain⟨xs,hq,hx⟩:=hg
  obtain⟨its,n,r,ho,hz⟩:=I.lst hq
  have hl:s.heap.IsList a its.toArray:=⟨_,ho,rfl,n,rfl⟩
  have hlen:=r.length
  obtain⟨f0,f1,f2,f3,f4,f5⟩:=hf it (by simp)
  exact wpAny_pyNext_enum_endD (kkW (A:=X.A.in1) (show X.A.in1.handled=none from I.ok.hd hc) it a its.toArray i (i+z) (by simp;lia)) he ⟨rfl,hit,hl⟩ fun h' eb=>⟨rfl,I.turned (t':=s.toks) (fun b o hb e=>eb b o hb e) f0 f1 f3 f4 f5⟩
 self:=fun _ _ _ _ _ st h=>let⟨_,he⟩:=st.1;wpAny_pyIter_enum he h
theorem kiX{a:Addr}{z:Nat}{xs:List V}{g:TG}{te:TE}{σ:St}{H:Hp}{R:List V->Hp->Addr->Prop}(Pv:Nat->St->List V->Hp->Prop)(h0:Pv 0 σ [] H)(hz:xs.length<=sizeLine)(hl:∀i σ ys H,i<=xs.length->Pv i σ ys H->H a>>(.lst xs)/\ys.length=i)
  (hs:∀i y t σ ys H,xs[i]?>>y->Pv i σ ys H->H t=none->g (.ref t) σ (upd H t (.tup [.int ((i+z:Nat):Int),y])) fun σ2 H2=>te σ2 H2 fun y H3=>Pv (i+1) σ2 (ys++[y]) H3)(hd:∀σ ys H,Pv xs.length σ ys H->∀D,H D=none->R ys H D):
  ∃ W:Nat->Nat->St->List V->Hp->Prop,(∃m,W 0 m σ [] H)/\∀i m σ' ys H',W i m σ' ys H'->
   ((Ies a z).stop i H'/\∀D,H' D=none->R ys H' D)∨((Ies a z).go i H'/\ys.length<sizeLine/\∃N:St->V->Hp->Prop,(∀σ2 y H4,N σ2 y H4->∃m',m'<m/\W (i+1) m' σ2 (ys++[y]) H4)/\
    ∀x H2,(Ies a z).yld i H' x H2->g x σ' H2 fun σ2 H3=>te σ2 H3 (N σ2)):=by
 rwa[fun i m σ ys H=>m=xs.length-i/\i<=xs.length/\Pv i σ ys H,⟨xs.length,by simp,M7 _,h0⟩,?_]
 rintro i m σ ys H ⟨rfl,hi,p⟩
 obtain⟨q,el⟩:=hl i σ ys H hi p
 by_cases hlt:i<xs.length
 ·refine .inr ⟨⟨xs,xs[i],q,by simp[hlt]⟩,by lia,fun σ2 y H3=>Pv (i+1) σ2 (ys++[y]) H3,fun σ' y H' p'=>⟨xs.length-(i+1),by lia,rfl,hlt,p'⟩,fun x H' yl=>?_⟩
  obtain⟨t,y,hn,rfl,rfl,hy⟩:=yl
  exact hs i y t σ ys _ (hy xs q) p hn
 ·have e:i=xs.length:=by lia
  subst e
  exact .inl ⟨⟨xs,q,Mv _⟩,hd σ ys H p⟩
theorem kg0{M:Model}{A:Around}{E:Value->Shared->Prop}{s:Shared}{env:Env}{pos:Pos}{T:String}{e:Expr}{rest:List Expr}{kws:List Keyword}{Q:Value->Shared->Prop}
  (h:wpAny M A (spliced (backTo pos (starEach (e::rest) env))) (fun vs s₁=>wpAny M A (evalAll ((backToKw pos (keywordEach kws env)).map (·.2)))
   (fun kvs s₂=>wpAny M A (call (.type T) vs (((backToKw pos (keywordEach kws env)).filterMap (·.1)).zip kvs)) Q E s₂) E s₁) E s)
  (he:backTo pos (starEach (e::rest) env)=(false,eval e env)::backTo pos (starEach rest env))(hplain:(backTo pos (starEach (e::rest) env)).any (·.1)=false)
  (hall:(backToKw pos (keywordEach kws env)).all (·.1.isSome)=true)(hkw:(backToKw pos (keywordEach kws env)).any (·.1.isNone)=false):
  wpAny M A (callWith pos (.type T) [] (backTo pos (starEach (e::rest) env)) (backToKw pos (keywordEach kws env))) Q E s:=by
 have h2:wpAny M A (evalArgs (.type T) true (backTo pos (starEach (e::rest) env)) (backToKw pos (keywordEach kws env))) (fun a s₁=>wpAny M A (call (.type T) ([]++a.pos) a.kw) Q E s₁) E s:=by
  rw[he] at h⊢
  exact evalArgs_kwB hall h
 unfold callWith
 refine wpAny_bind (wpAny_holding (wpAny_mono h2 (fun a s₁ h₁=>wpAny_bind (wpAny_standAt ?_)) fun _ _ x=>x))
 simp only[hplain,hkw,Df]
 refine wpAny_bind (wpAny_pure ?_)
 exact wpAny_bind (wpAny_mono h₁ (fun r s₂ hr=>wpAny_bind (wpAny_holding (wpAny_point (wpAny_pure hr)))) fun _ _ x=>x)
section
variable{X:Cx}
inductive kkV(z:Nat)(R:It->Hp->Prop)(v:V)(H1:Hp):Prop
 |ct(a:Addr)(xs:List V)(_:v=.ref a)(_:H1 a>>(.lst xs))(_:R (Ies a z) H1):kkV z R v H1
def kof(z:Nat)(tl:TE):TI:=fun σ H R=>tl σ H fun v H1=>kkV z R v H1
theorem klh{es:List Expr}{k:Nat}{tpos:Pos}{e:Expr}{tl:TE}{z:Nat}{j:Nat}{p pos kpos cpos:Pos}(hg:Gl X "enumerate")(hm:X.mg "enumerate"=none)(hl:PE X e tl)(hz:z<1000000)
  (s1:autoParam (starEach [e] X.env=[(false,eval e X.env)]) jz):
  PI X (.Tuple es k tpos) (.Call (.Name "enumerate" p) [e] [⟨some "start", .Constant (.int (z:Int)) j cpos,kpos⟩] pos) (kof z tl):=by
 intro pins s σ H R I h
 refine wpAny_Call_Name_kw (kef I hg hm boot_enumerate ?_ (by decide) (by decide))
 refine kg0 ?_ (by rw[s1];rfl) (by rw[s1];rfl) (by rfl) (by rfl)
 rw[s1]
 refine Calls.spliced_cons (thn (hl pins s σ H _ I h) fun u s3 ⟨v,H1,I1,r1,a,xs,ev,hq,q⟩=>Calls.spliced_nil ?_)
 subst ev
 cases r1
 refine kws_cons (wpAny_Constant_int (kws_nil ?_))
 show wpAny _ _ (call (.type "enumerate") [.ref a] [(Str.ofString "start", .int (z:Int) s3.toks)]) _ _ _
 have I2:Inv X pins σ H1 {s3 with toks:=s3.toks+1}:=I1.tok _
 obtain⟨its,n,r,ho,hz'⟩:=I2.lst hq
 refine TxE.enum_start ⟨_,ho,rfl,n,rfl⟩ (by lia) (by lia) fun h' he' hit' hsz hk=>wpAny_pyIter_enum he' ?_
 have I3:Inv X pins σ H1 {s3 with heap:=h',toks:=s3.toks+1}:=I2.kept (t':=s3.toks+1) hk
 rwa[s3.heap.objs.size+1,[s3.heap.objs.size+1,s3.heap.objs.size],_,_,H1,6,I3,kiJ a (s3.heap.objs.size+1) s3.heap.objs.size (Nat.succ_ne_self _),⟨⟨_,by rw[Nat.zero_add];exact he'⟩,hit'⟩,fun b hb=>?_,q]
 have hb':b=s3.heap.objs.size+1∨b=s3.heap.objs.size:=by simpa using hb
 have hle:s3.heap.objs.size<=b:=by rcases hb' with rfl|rfl <;> lia
 exact I1.fpOk hle (I1.hok.fresh hle)
end
end L2
namespace L2
open PySem PySem.Spec PySem.Calls PyProof.Rows
def TabK(K:Mt)(a:Addr)(D:List (Str×V)):Prop:=(a==sysModules)=false/\∃(o:Obj)(es:Array DictEntry)(ep:Nat),K.lookup a>>o/\o.ExactDict/\o.data=.dict es ep/\KTD.Rows RelV es.toList D
def TupK(K:Mt)(a:Addr)(xs:List V):Prop:=∃(o:Obj)(its:Array Value)(n:Nat),K.lookup a>>o/\o.cls=.type "tuple"/\o.data=.seq its n/\its.size<=sizeLine/\Vals xs its.toList
def TupK.sq{K:Mt}{a:Addr}{xs:List V}{H:Hp}(h:TupK K a xs):SqT K H a xs:=.inr h
section
variable{X:Cx}{pins:List (Addr×Obj)}{σ:St}{H:Hp}{s:Shared}{a:Addr}{A:Around}{E:Value->Shared->Prop}{D:List (Str×V)}{k:Str}{tk:Tok}
theorem kdD(I:Inv X pins σ H s)(T:TabK X.K a D):s.TypeIs (.ref a) "dict":=by
 obtain⟨_,o,es,ep,ho,hc,_⟩:=T
 rwa[o,I.kIn _ _ ho,hc.1]
theorem ki5{Q:Option Value->Shared->Prop}(I:Inv X pins σ H s)(T:TabK X.K a D)(h1:∀v u s',KTD.datumAt k D>>v->RelV v u->Inv X pins σ H s'->Q (some u) s')(h2:∀s',KTD.datumAt k D=none->Inv X pins σ H s'->Q none s'):
  wpAny (model X.prog X.w) A (dictGet a (.str k tk)) Q E s:=by
 obtain⟨_,o,es,ep,ho,hc,hd,hr⟩:=T
 have ho:=I.kIn _ _ ho
 unfold dictGet
 try with_reducible refine wpAny_holding ?_
 refine wpAny_bind (wpAny_pyHash_str (wpAny_bind (KTD.kt_dictFind_strs (s:={s with toks:=s.toks+1}) ho hd (by obtain⟨l⟩:=es;simpa using hr.exact) ?_)))
 have hq:Q (findBy (fun k v=>v.isStr k) es k) {s with toks:=s.toks+1}:=by
  have hf:findBy (fun k v=>v.isStr k) es k=(es.toList.find? fun e=>e.key.isStr k).map (·.val):=by
   obtain⟨l⟩:=es
   simp[findBy]
  rw[hf]
  cases hat:KTD.datumAt k D with
  |some d=>
   obtain⟨v,hv,hfl⟩:=hr.find_some hat
   rw[hv]
   exact h1 d v _ hat hfl (I.tok _)
  |none=>
   rw[hr.find_none hat]
   exact h2 _ hat (I.tok _)
 rw[findBy_of_findIdx?] at hq
 cases hi:es.findIdx? fun e=>e.key.isStr k with
 |none=>rw[hi] at hq;exact wpAny_pure hq
 |some i=>rw[hi] at hq;exact wpAny_bind (wpAny_dictEntries (s:={s with toks:=s.toks+1}) ho hd (wpAny_pure hq))
end
section
variable{X:Cx}{o i e:Expr}{pos:Pos}{td ty:TE}{D:List (Str×V)}{a:Addr}
inductive kmp(a:Addr)(D:List (Str×V))(Q:VK)(x:V)(y:V)(H2:Hp):Prop
 |ct k v (_:x=.ref a) (_:y=.str k) (_:KTD.datumAt k D>>v) (_:Q v H2):kmp a D Q x y H2
def tTGet(a:Addr)(D:List (Str×V))(td ty:TE):TE:=fun σ H Q=>td σ H fun x H1=>ty σ H1 fun y H2=>kmp a D Q x y H2
theorem kjW(T:TabK X.K a D)(ho:PE X o td)(hi:PE X i ty)(hs:NoSl i):PE X (.Subscript o i pos) (tTGet a D td ty):=by
 intro pins s σ H Q I h
 refine kmM PySem.F.slot_dict_getitem.lookup hs (thn (ho pins s σ H _ I h) fun u s1 ⟨x,H1,I1,rx,q1⟩=>thn (hi pins s1 σ H1 _ I1 q1) fun iv s2 zz=>?_)
 obtain⟨y,H2,I2,ry,k,v,ex,ey,hk,q2⟩:=zz
 subst ex ey
 obtain rfl:u=Value.ref a:=rx
 obtain⟨t,rfl⟩:=ry
 rwa[kdD I2 T,?_]
 unfold getItem
 try with_reducible refine wpAny_holding ?_
 refine wpAny_bind (wpAny_sequenceKey (kdD I2 T) (by decide) ?_)
 refine wpAny_bind (wpAny_callSpecial?_slot (name:=Str.ofString "__getitem__") (kdD I2 T) slot_dict_getitem (wpAny_call_entry slot_dict_getitem (kdD I2 T) entry_dict_getitem ?_ (args_dict_getitem _ _)))
 show wpAny _ _ (dictGet a (.str k t) >>= _) _ _ s2
 refine wpAny_bind (ki5 I2 T (fun v' u s3 hv r I3=>?_) fun s3 hn _=>?_)
 ·rw[hk] at hv
  cases hv
  exact wpAny_pure ⟨u,rfl,wpAny_pure ⟨v,H2,I3,r,q2⟩⟩
 ·rw[hk] at hn
  cases hn
inductive QtTIn(a:Addr)(D:List (Str×V))(Q:VK)(y:V)(x:V)(H2:Hp):Prop
 |ct k (_:y=.str k) (_:x=.ref a) (_:Q (.bl (KTD.datumAt k D).isSome) H2):QtTIn a D Q y x H2
def tTIn(a:Addr)(D:List (Str×V))(ty td:TE):TE:=fun σ H Q=>ty σ H fun y H1=>td σ H1 fun x H2=>QtTIn a D Q y x H2
theorem kn0(T:TabK X.K a D)(hi:PE X i ty)(ho:PE X o td):PC X .In i o (tTIn a D ty td):=by
 intro pins s σ H Q I h
 refine thn (hi pins s σ H _ I h) fun iv s1 ⟨y,H1,I1,ry,q1⟩=>thn (ho pins s1 σ H1 _ I1 q1) fun u s2 zz=>?_
 obtain⟨x,H2,I2,rx,k,ey,ex,q2⟩:=zz
 subst ex ey
 obtain rfl:u=Value.ref a:=rx
 obtain⟨tk,rfl⟩:=ry
 have T2:=kdD I2 T
 show wpAny _ _ ((do return Value.bool (<-contains (.ref a) (.str k tk))):Sem Value) _ _ s2
 refine wpAny_bind ?_
 unfold contains
 try with_reducible refine wpAny_holding ?_
 refine wpAny_bind (wpAny_specialOf T2 slot_dict_contains.lookup ?_)
 show wpAny _ _ (if(some (Value.builtin "dict.__contains__")==some Value.none)=true then _ else _) _ _ s2
 rw[if_neg (by rw[beq_builtin_none];exact MD)]
 refine wpAny_bind (wpAny_callSpecialUnlessNone?_slot (name:=Str.ofString "__contains__") T2 slot_dict_contains (wpAny_call_entry slot_dict_contains T2 entry_dict_contains ?_ (args_dict_contains _ _)))
 show wpAny _ _ (dictGet a (.str k tk) >>= _) _ _ s2
 refine wpAny_bind (ki5 I2 T (fun v' u s3 hv r I3=>?_) fun s3 hn I3=>?_)
 ·rw[hv] at q2
  show wpAny _ _ (ret (.bool true)) _ _ _
  exact wpAny_pure ⟨_,rfl,wpAny_truthy_bool (wpAny_pure ⟨.bl true,H2,I3,rfl,q2⟩)⟩
 ·rw[hn] at q2
  show wpAny _ _ (Builtin.Dict.pendingKey? a (.str k tk) >>= _) _ _ _
  exact wpAny_bind (wpAny_pendingKey_other T.1 (wpAny_pure ⟨_,rfl,wpAny_truthy_bool (wpAny_pure ⟨.bl false,H2,I3,rfl,q2⟩)⟩))
end
section
variable{X:Cx}
inductive QrGet(x:V)(vs:List V)(H:Hp)(Q:VK):Prop
 |ct(a:Addr)(kvs:List (Key×V))(k:Key)(y:V)(_:x=.ref a)(_:(vs=[kV k]/\y=.non∨vs=[kV k,y]))(_:H a>>(.dK kvs))(_:Q ((valV kvs k).getD y) H):QrGet x vs H Q
def rGet(K:Mt):V->List V->Hp->VK->Prop:=fun x vs H Q=>QrGet x vs H Q
theorem kih:MtM X "dict.get" (rGet X.K):=by
 intro pins s σ H x vs v us Q I rx rv h
 obtain⟨a,kvs,k,y,rfl,hv,hH,q⟩:=h
 cases rx
 obtain⟨z,hd,vs',rel,dd⟩:=dk_rd I.hok (.inl hH)
 have fin:∀u:Value,RelV y u->EP X pins σ Q ((valueAt vs' k).getD u) {s with toks:=s.toks+1}:=fun u ru=>by
  rwa[(valV kvs k).getD y,H,I.tok _,?_,q]
  have:=rel.val k
  cases h1:valV kvs k with
  |none=>
   rw[h1] at this
   cases h2:valueAt vs' k with
   |none=>exact ru
   |some w=>rw[h2] at this;exact this.elim
  |some x=>
   rw[h1] at this
   cases h2:valueAt vs' k with
   |none=>rw[h2] at this;exact this.elim
   |some w=>rw[h2] at this;exact this
 rcases hv with⟨rfl,rfl⟩|rfl
 ·obtain⟨u,rfl,ru⟩:=rv.one
  exact call_meetsIn EU dd.typeIs Ao (PySem.F.args_dict_get_2 _ _) (meets_dict_get _ a (kV_is ru) hd) ⟨_,dd.mapOf,fin .none rfl⟩
 ·obtain⟨u,u2,rfl,ru,ru2⟩:=vals2 rv
  exact call_meetsIn EU dd.typeIs Ao (PySem.F.args_dict_get_3 _ _ _) (meets_dict_get_default _ a (kV_is ru) hd u2) ⟨_,dd.mapOf,fin u2 ru2⟩
inductive kkQ(t:TA)(F:Addr->Sp->Prop)(σ:St)(Q:VK)(x:V)(H1:Hp):Prop
 |ct f sp (_:x=.ref f) (_:F f sp) (_:tCall sp [] E0 t σ H1 Q):kkQ t F σ Q x H1
def knJ(tf:TE)(t:TA)(F:Addr->Sp->Prop):TE:=fun σ H Q=>tf σ H fun x H1=>kkQ t F σ Q x H1
theorem kh8{k:Nat}{f e:Expr}{es:List Expr}{tf:TE}{t:TA}{pos:Pos}{F:Addr->Sp->Prop}(hf:PE X f tf)(hF:∀a sp,F a sp->∃fd ps,FnOk X.prog X.w X.K X.mg X.base CX0 k a fd ps sp/\MJ X.K (.ref a)=true/\Binds X.K fd ps [])(hr:Room k X.A)(ha:PA X (e::es) t)
  (hc:autoParam (eval (.Call f (e::es) [] pos) X.env=(do callWith pos (<-eval f X.env) [] (backTo pos (starEach (e::es) X.env)) (backToKw pos (keywordEach [] X.env)))) jz)
  (he:autoParam (starEach (e::es) X.env=(false,eval e X.env)::starEach es X.env) jz)(hpl:autoParam ((backTo pos (starEach es X.env)).any (·.1)=false) jz):
  PE X (.Call f (e::es) [] pos) (knJ tf t F):=by
 intro pins s σ H Q I h
 refine Call_ (thn (hf pins s σ H _ I h) fun u s1 zz=>?_) hc
 obtain⟨v,H1,I1,r,f,sp,ev,hfs,q⟩:=zz
 subst ev
 cases r
 obtain⟨fd,ps,F,hk,hb⟩:=hF f sp hfs
 refine EI (h₀:=X.base) I1.ok.mod.kin hk (thn (ha pos pins s1 σ H1 _ I1 q) fun us s2 ⟨vs,H2,I2,r2,q2⟩=>⟨I2.kIn,?_⟩) he hpl
 exact kgx F hr hb .nil pass0 I2 r2 q2
end
end L2
namespace L2
open PySem
def tup_mk{K:Mt}{a:Addr}{od:Option Addr}{its:Array Value}{n:Nat}{sl:Array (Option Value)}{xs:List V}(l:K.lookup a>>⟨.type "tuple",od, .seq its n,sl⟩)(z:its.size<=1000)(v:Vals xs its.toList):TupK K a xs:=⟨_,its,n,l,rfl,rfl,Mz z (by decide),v⟩
def tab_mk{K:Mt}{a:Addr}{es:Array DictEntry}{n:Nat}{D:List (Str×V)}(l:K.lookup a>>⟨.type "dict",none, .dict es n,#[]⟩)(z:(a==sysModules)=false)(v:PyProof.Rows.KTD.Rows RelV es.toList D):TabK K a D:=⟨z,_,es,n,l,⟨rfl,rfl,rfl⟩,rfl,v⟩
end L2
namespace L2
open PySem PySem.Spec PySem.Calls PyProof.Rows
section
variable{X:Cx}{K:Mt}{T id:String}{name:Str}{o e:Expr}{es:List Expr}{apos cpos:Pos}{to:TE}{t:TA}{r:V->List V->Hp->VK->Prop}
theorem kfm(pa:PlainAttrs T)(slot:Slot T name id)(hty:typeOf (.builtin id)=pure (.type "method_descriptor"))(hm:MtR X id r)(ho:PE X o to)(ha:PA X (e::es) t)(hK:autoParam (X.K=K) jz)
  (hbase:autoParam (attributeBase o name X.env (eval o X.env)=eval o X.env) jz)
  (hfew:autoParam (((backTo cpos (starEach (e::es) X.env)).all (fun x=>!x.1)&&(backToKw cpos (keywordEach [] X.env)).all (fun x=>x.1.isSome)
   &&decide ((e::es).length+([]:List Keyword).length+(if([]:List Keyword).isEmpty then 0 else 1)<30))=true) jz)
  (hline:autoParam ((apos.endLine==cpos.line)=true) jz)(hs:autoParam (starEach (e::es) X.env=(false,eval e X.env)::starEach es X.env) jz)(hplain:autoParam ((backTo cpos (starEach es X.env)).any (·.1)=false) jz):
  PE X (.Call (.Attribute o name apos) (e::es) [] cpos) (tBM K T r to t):=by
 subst hK
 exact pe_bm pa slot hty hm ho ha hbase hfew hline hs hplain
end
end L2
namespace TxM
open PySem
noncomputable def cp(x:Str):List Nat:=x.cps.toList
def kkA{x y:Str}(h:cp x=cp y):x=y:=by
 obtain⟨a⟩:=x
 obtain⟨b⟩:=y
 have:a=b:=Array.ext' h
 rw[this]
def cp_app(x y:Str):cp (x++y)=cp x++cp y:=by
 show(x.cps++y.cps).toList=_
 simp[cp]
noncomputable def glue(c:Nat):List (List Nat)->List Nat
 |[]=>[]
 |[x]=>x
 |x::y::r=>x++c::glue c (y::r)
theorem kdC(c:Nat):∀(rs:List Str),cp (Str.join ⟨#[c]⟩ rs)=glue c (rs.map cp)
 |[]=>rfl
 |[x]=>rfl
 |x::y::r=>by
  show cp (x++ ⟨#[c]⟩ ++Str.join ⟨#[c]⟩ (y::r))=cp x++c::glue c ((y::r).map cp)
  rw[cp_app,cp_app,kdC c (y::r),M6]
  rfl
theorem kjR{c:Nat}:∀{a b u v:List Nat},c∉a->c∉b->a++c::u=b++c::v->a=b/\u=v
 |[],[],u,v,_,_,h=>⟨rfl,by simpa using h⟩
 |[],y::b,u,v,_,hb,h=>by
  have:c=y:=by simpa using(Dm.inj h).1
  exact absurd (by rw[this];exact Mx) hb
 |x::a,[],u,v,ha,_,h=>by
  have:x=c:=by simpa using(Dm.inj h).1
  exact absurd (by rw[this];exact Mx) ha
 |x::a,y::b,u,v,ha,hb,h=>by
  obtain⟨h1,h2⟩:=Dm.inj h
  obtain⟨e1,e2⟩:=kjR (fun z=>ha (MH _ z)) (fun z=>hb (MH _ z)) h2
  rwa[by rw[h1,e1],e2]
theorem kio{c:Nat}:∀{xs ys:List (List Nat)},xs≠[]->ys≠[]->(∀x∈xs,c∉x)->(∀y∈ys,c∉y)->glue c xs=glue c ys->xs=ys
 |[],_,h,_,_,_,_=>absurd rfl h
 |_::_,[],_,h,_,_,_=>absurd rfl h
 |[x],[y],_,_,_,_,h=>by
  have:x=y:=h
  rw[this]
 |[x],y::z::r,_,_,hx,_,h=>by
  have h':x=y++c::glue c (z::r):=h
  exact absurd (by rw[h'];simp) (hx x Mx)
 |x::z::r,[y],_,_,_,hy,h=>by
  have h':x++c::glue c (z::r)=y:=h
  exact absurd (by rw[<-h'];simp) (hy y Mx)
 |x::x2::xs,y::y2::ys,_,_,hx,hy,h=>by
  obtain⟨e1,e2⟩:=kjR (hx x Mx) (hy y Mx) (show x++c::glue c (x2::xs)=y++c::glue c (y2::ys) from h)
  rw[e1,kio (by simp) (by simp) (fun z hz=>hx z (MH _ hz)) (fun z hz=>hy z (MH _ hz)) e2]
theorem kft:∀{xs ys:List Str},xs.map cp=ys.map cp->xs=ys
 |[],[],_=>rfl
 |[],_::_,h=>by cases h
 |_::_,[],h=>by cases h
 |x::xs,y::ys,h=>by
  obtain⟨h1,h2⟩:=Dm.inj h
  rw[kkA h1,kft h2]
def kk6(x y:Str):Txt.split x y≠[]:=fun h=>by
 have:=congrArg Dd h
 unfold Txt.split at this
 split at this
 ·simp at this
 ·split at this
  ·simp at this
  ·next h1 h2=>
   rw[StrLaws.partsBetween_eq] at this
   obtain⟨p,r,e⟩:=StrLaws.partsFrom_ne x y.length 0 (Builtin.Str.occurrences x y 0 x.length (x.length+1))
   rw[e] at this
   simp at this
def split_join{c:Nat}{rs:List Str}(hne:rs≠[])(hf:∀r∈rs,c∉cp r):Txt.split (Txt.join ⟨#[c]⟩ rs) ⟨#[c]⟩=rs:=by
 have e:Txt.join ⟨#[c]⟩ rs=Str.join ⟨#[c]⟩ rs:=StrLaws.glued_eq_join _ _
 rw[e]
 have h:=StrLaws.join_split (Str.join ⟨#[c]⟩ rs) ⟨#[c]⟩
 have hs:=StrLaws.split_free (Str.join ⟨#[c]⟩ rs) c
 have hn:=kk6 (Str.join ⟨#[c]⟩ rs) ⟨#[c]⟩
 generalize Txt.split (Str.join ⟨#[c]⟩ rs) ⟨#[c]⟩=ps at *
 apply kft
 refine kio (c:=c) (by simpa using hn) (by simpa using hne) (fun x hx=>?_) (fun x hx=>?_) ?_
 ·obtain⟨p,hp,rfl⟩:=MZ.mp hx
  exact hs p hp
 ·obtain⟨p,hp,rfl⟩:=MZ.mp hx
  exact hf p hp
 ·rw[<-kdC,<-kdC,h]
end TxM
namespace War
structure Row where
 kd:Int
 pr:Int
 mn:Int
 ex:Option Int
structure Row.Ok(r:Row):Prop where
 pr0:0<=r.pr
 pr1:r.pr<=1000000000000
 mn0:0<=r.mn
 mn1:r.mn<=60
 ex0:∀z,r.ex>>z->0<=z/\z<=1000000000000
noncomputable def prc(m:Bool)(r:Row):Int:=if m=true then r.ex.getD r.pr else r.pr
noncomputable def own(rs:List Row):List Int:=(rs.zipIdx.map fun p=>My p.1.mn.toNat (p.2:Int)).flatten
noncomputable def prs(m:Bool)(rs:List Row):List Int:=(rs.map fun r=>My r.mn.toNat (prc m r)).flatten
def klm(rs:List Row)(r:Row):own (rs++[r])=own rs++My r.mn.toNat (rs.length:Int):=by
 unfold own
 rw[List.zipIdx_append,MC,DU]
 simp
def kld(m:Bool)(rs:List Row)(r:Row):prs m (rs++[r])=prs m rs++My r.mn.toNat (prc m r):=by
 unfold prs
 rw[MC,DU]
 simp
theorem kh9:∀(rs:List Row)(k:Nat),(∀r∈rs,r.Ok)->((rs.zipIdx k).map fun p=>My p.1.mn.toNat (p.2:Int)).flatten.length<=60*rs.length
 |[],_,_=>by simp
 |r::rs,k,h=>by
  have h1:=kh9 rs (k+1) fun x hx=>h x (MH _ hx)
  have h2:=(h r Mx).mn1
  rw[Dk,MQ,Ef,ML,EB,MV]
  show r.mn.toNat+_<=_
  lia
def kj2(rs:List Row)(h:∀r∈rs,r.Ok):(own rs).length<=60*rs.length:=kh9 rs 0 h
theorem kjQ(m:Bool):∀(rs:List Row),(∀r∈rs,r.Ok)->(prs m rs).length<=60*rs.length
 |[],_=>by simp[prs]
 |r::rs,h=>by
  have h1:=kjQ m rs fun x hx=>h x (MH _ hx)
  have h2:=(h r Mx).mn1
  unfold prs at h1⊢
  rw[MQ,Ef,ML,EB,MV]
  lia
def take_snoc{α:Type}{rs:List α}{i:Nat}{r: α}(h:rs[i]?>>r):rs.take (i+1)=rs.take i++[r]:=by
 rw[EC,h]
 rfl
end War
namespace Kin
def Good(ps:List (Option Nat)):Prop:=∀(i k:Nat),ps[i]?>>(some k)->k<i
noncomputable def anc(ps:List (Option Nat)):Nat->Nat->List Nat
 |0,_=>[]
 |f+1,i=>i::(match ps[i]? with|some (some k)=>anc ps f k|_=>[])
noncomputable def up(ps:List (Option Nat))(i:Nat):List Nat:=anc ps (i+1) i
theorem klO{ps:List (Option Nat)}(g:Good ps):∀(f f' i:Nat),i<f->i<f'->anc ps f i=anc ps f' i:=by
 intro f
 induction f with
 |zero=>intro f' i h;lia
 | succ f ih=>
  intro f' i h h'
  cases f' with
  |zero=>lia
  | succ f'=>
   show i::_=i::_
   congr 1
   cases e:ps[i]? with
   |none=>rfl
   | some o=>
    cases o with
    |none=>rfl
    |some k=>
     have hk:=g i k e
     exact ih f' k (by lia) (by lia)
def kmJ{ps:List (Option Nat)}(g:Good ps){i k:Nat}(e:ps[i]?>>(some k)):up ps i=i::up ps k:=by
 have hk:=g i k e
 show i::_=_
 rw[e]
 show i::anc ps i k=i::up ps k
 rw[klO g i (k+1) k hk (by lia)]
 rfl
def kmK{ps:List (Option Nat)}{i:Nat}(e:ps[i]?>>none):up ps i=[i]:=by
 show i::_=_
 rw[e]
noncomputable def rest(ps:List (Option Nat)):Option Nat->List Nat
 |none=>[]
 |some k=>up ps k
noncomputable def left:Option Nat->Nat
 |none=>0
 |some k=>k+1
theorem up_eq{ps:List (Option Nat)}(g:Good ps){i:Nat}{o:Option Nat}(e:ps[i]?>>o):up ps i=i::rest ps o:=by
 cases o with
 |none=>exact kmK e
 |some k=>exact kmJ g e
end Kin
namespace Deal
noncomputable def pre(ws:List Int)(k:Nat):Int:=(ws.take k).sum
noncomputable def part(c:Int)(ws:List Int)(j:Nat):Int:=c*pre ws (j+1)/ws.sum-c*pre ws j/ws.sum
noncomputable def dl(c:Int)(ws:List Int):List Int:=if ws.sum=0 then ws.map (fun _=>0) else(MG ws.length).map (part c ws)
def klf(ws:List Int):pre ws 0=0:=by simp[pre]
def kjS(ws:List Int):pre ws ws.length=ws.sum:=by simp[pre]
def kev{ws:List Int}{i:Nat}{w:Int}(h:ws[i]?>>w):pre ws (i+1)=pre ws i+w:=by
 unfold pre
 rw[EC,h]
 simp
def kgV(c:Int)(ws:List Int):(dl c ws).length=ws.length:=by
 unfold dl
 split <;> simp
def dl_at{c:Int}{ws:List Int}(h:¬ws.sum=0){j:Nat}(hj:j<ws.length):(dl c ws)[j]?>>(part c ws j):=by
 unfold dl
 rw[if_neg h]
 simp[hj]
def kku{c:Int}{ws:List Int}(h:ws.sum=0){j:Nat}(hj:j<ws.length):(dl c ws)[j]?>>0:=by
 unfold dl
 rw[if_pos h]
 simp[hj]
def Nn(ws:List Int):Prop:=∀w∈ws,0<=w
theorem kd4:∀{ws:List Int},Nn ws->0<=ws.sum
 |[],_=>by simp
 |w::ws,h=>by
  have:=kd4 (ws:=ws) fun x hx=>h x (MH _ hx)
  have h1:=h w Mx
  simp
  lia
theorem kj1{c s A w:Int}(hs:0<s)(hc:0<=c)(hcs:c<=s)(hw:0<=w):0<=c*(A+w)/s-c*A/s/\c*(A+w)/s-c*A/s<=w/\
  (c*(A+w)/s-c*A/s)*s-c*w<s/\-s<(c*(A+w)/s-c*A/s)*s-c*w:=by
 have e:c*(A+w)=c*A+c*w:=Int.mul_add ..
 rw[e]
 generalize hx:c*A=x
 have h1:0<=c*w:=Int.mul_nonneg hc hw
 have h2:c*w<=w*s:=by
  rw[Int.mul_comm w s]
  exact Int.mul_le_mul_of_nonneg_right hcs hw
 generalize hy:c*w=y at h1 h2
 have m1:x/s<=(x+y)/s:=Int.ediv_le_ediv hs (by lia)
 have m2:(x+y)/s<=(x+w*s)/s:=Int.ediv_le_ediv hs (by lia)
 rw[Int.add_mul_ediv_right _ _ (by lia)] at m2
 have d1:=Int.emod_add_mul_ediv x s
 have d2:=Int.emod_add_mul_ediv (x+y) s
 have r1:=Int.emod_nonneg x (show s≠0 by lia)
 have r2:=Int.emod_lt_of_pos x hs
 have r3:=Int.emod_nonneg (x+y) (show s≠0 by lia)
 have r4:=Int.emod_lt_of_pos (x+y) hs
 have e3:((x+y)/s-x/s)*s=s*((x+y)/s)-s*(x/s):=by
  rw[Int.sub_mul,Int.mul_comm,Int.mul_comm (x/s)]
 rw[e3]
 rwa[by lia,by lia,by lia,by lia]
end Deal
namespace Vs
open Kin Deal
structure Mks where
 kind:Option Nat
 needs:Int
 most:Option Int
 member:Bool
 once:Bool
 lone:Bool
inductive Srt
 |off (a:Int)
 |share (s:Int) (b:Bool)
 |cheap (n:Int)
 |bund (n p:Int)
 |carr
structure Vch where
 so:Srt
 ms:Mks
structure Stnd where
 ow:List Nat
 pr:List Int
 cg:Int
 mkd:List Bool
noncomputable def kHit(ps:List (Option Nat))(kind:Option Nat)(kd:Nat):Bool:=match kind with
 |none=>true
 |some k=>decide (k∈up ps kd)
noncomputable def hits(ps:List (Option Nat))(kds:List Nat)(kind:Option Nat)(lone:Bool)(mkd:List Bool)(l:Nat):Bool:=
 kHit ps kind (kds.getD l 0)&&(!lone|| !(mkd.getD l false))
noncomputable def abt(ps:List (Option Nat))(kds:List Nat)(kind:Option Nat)(lone:Bool)(S:Stnd):List Nat:=
 (MG S.ow.length).filter fun i=>hits ps kds kind lone S.mkd (S.ow.getD i 0)
def kkN{ps:List (Option Nat)}{kds:List Nat}{kind:Option Nat}{lone:Bool}{S:Stnd}{i:Nat}(h:i∈abt ps kds kind lone S):i<S.ow.length:=by
 have:=(E6.mp h).1
 simpa using this
def kg5(ps:List (Option Nat))(kds:List Nat)(kind:Option Nat)(lone:Bool)(S:Stnd):(abt ps kds kind lone S).Nodup:=Dg.filter _ DV
def khA(ps:List (Option Nat))(kds:List Nat)(kind:Option Nat)(lone:Bool)(S:Stnd):(abt ps kds kind lone S).length<=S.ow.length:=by
 have:=Do (fun i=>hits ps kds kind lone S.mkd (S.ow.getD i 0)) (MG S.ow.length)
 simpa[abt] using this
noncomputable def qs(pr:List Int)(is:List Nat):List Int:=is.map fun i=>pr.getD i 0
def kfk(pr:List Int)(is:List Nat):(qs pr is).length=is.length:=by simp[qs]
noncomputable def spr(n:Nat)(is:List Nat)(vs:List Int):List Int:=(MG n).map fun i=>((is.zip vs).lookup i).getD 0
def kdi(n:Nat)(is:List Nat)(vs:List Int):(spr n is vs).length=n:=by simp[spr]
def kmO(n:Nat)(vs:List Int):spr n [] vs=My n 0:=by
 unfold spr
 apply Dp
 ·simp
 ·intro i h1 h2
  simp
theorem khp{l:List (Nat×Int)}{i j:Nat}{v:Int}(h:∀p∈l,p.1≠i):(l++[(i,v)]).lookup j=if j=i then some v else l.lookup j:=by
 induction l with
 | nil=>
  simp only[EW,Eg,List.lookup_nil]
  by_cases e:j=i
  ·subst e;simp
  ·have:(j==i)=false:=beq_eq_false_iff_ne.mpr e
   simp[this,e]
 | cons p l ih=>
  obtain⟨k,w⟩:=p
  have ih':=ih fun q hq=>h q (MH _ hq)
  have hk:k≠i:=h (k,w) Mx
  simp only[EZ,Eg]
  by_cases e:j=k
  ·subst e
   simp[hk]
  ·have:(j==k)=false:=beq_eq_false_iff_ne.mpr e
   simp only[this]
   exact ih'
theorem kmN{n:Nat}{is:List Nat}{vs:List Int}(hn:is.Nodup){k i:Nat}{v:Int}(h1:is[k]?>>i)(h2:vs[k]?>>v)(hi:i<n):
  (spr n (is.take k) (vs.take k)).set i v=spr n (is.take (k+1)) (vs.take (k+1)):=by
 have e1:is.take (k+1)=is.take k++[i]:=by rw[EC,h1];rfl
 have e2:vs.take (k+1)=vs.take k++[v]:=by rw[EC,h2];rfl
 have hk1:k<is.length:=(MO.mp h1).1
 have hk2:k<vs.length:=(MO.mp h2).1
 have ez:(is.take (k+1)).zip (vs.take (k+1))=(is.take k).zip (vs.take k)++[(i,v)]:=by
  rw[e1,e2,List.zip_append (by simp;lia)]
  rfl
 have hne:∀p∈(is.take k).zip (vs.take k),p.1≠i:=fun p hp e=>by
  have hm:p.1∈is.take k:=(Dc hp).1
  rw[e] at hm
  obtain⟨j,hj,ej⟩:=EE hm
  rw[MU] at hj
  rw[List.getElem_take] at ej
  have e3:is[k]=i:=by
   obtain⟨_,q⟩:=MO.mp h1
   exact q
  exact DW.mp hn j k (by lia) hk1 (by lia) (by rw[ej,e3])
 apply Dp
 ·simp[spr]
 ·intro j h3 h4
  have hj:j<n:=by simpa[spr] using h4
  rw[List.getElem_set]
  simp only[spr,List.getElem_map,List.getElem_range]
  rw[ez,khp hne]
  by_cases e:i=j
  ·subst e;simp
  ·have:¬j=i:=fun z=>e z.symm
   simp[e,this]
noncomputable def grp(n:Nat)(r:List Nat):List (List Nat):=(MG (r.length/n)).map fun g=>(r.drop (g*n)).take n
def Le2(xs ys:List Int):Prop:=xs.length=ys.length/\∀(j:Nat)(v w:Int),xs[j]?>>v->ys[j]?>>w->0<=v/\v<=w
def Le2.nil:Le2 [] []:=⟨rfl,fun j v w e=>by simp at e⟩
def Le2.self{xs:List Int}(h:Nn xs):Le2 xs xs:=⟨rfl,fun j v w e1 e2=>by
 rw[e1] at e2
 cases e2
 exact⟨h v (MK e1),Int.le_refl _⟩⟩
def Le2.nn{xs ys:List Int}(h:Le2 xs ys):Nn xs:=fun v hv=>by
 obtain⟨j,hj,e⟩:=EE hv
 exact(h.2 j v (ys[j]'(by rw[<-h.1];exact hj)) (by simp[hj,e]) (by simp[show j<ys.length by rw[<-h.1];exact hj])).1
def Le2.trans{xs ys zs:List Int}(h:Le2 xs ys)(h':Le2 ys zs):Le2 xs zs:=⟨h.1.trans h'.1,fun j v w e1 e2=>by
 have hj:j<xs.length:=(MO.mp e1).1
 have e3:ys[j]?>>(ys[j]'(by rw[<-h.1];exact hj)):=by simp[show j<ys.length by rw[<-h.1];exact hj]
 have a:=h.2 j v _ e1 e3
 have b:=h'.2 j _ w e3 e2
 lia⟩
def Le2.append{xs ys xs' ys':List Int}(h:Le2 xs ys)(h':Le2 xs' ys'):Le2 (xs++xs') (ys++ys'):=by
 rwa[by simp[h.1,h'.1],fun j v w e1 e2=>?_]
 have hl:=h.1
 rcases Nat.lt_or_ge j xs.length with hj|hj
 ·rw[EO hj] at e1
  rw[EO (by lia)] at e2
  exact h.2 j v w e1 e2
 ·rw[EJ hj] at e1
  rw[EJ (by lia),<-hl] at e2
  exact h'.2 _ v w e1 e2
theorem Le2.sum:∀{xs ys:List Int},Le2 xs ys->0<=xs.sum/\xs.sum<=ys.sum
 |[],[],_=>by simp
 |[],_::_,h=>by have:=h.1;simp at this
 |_::_,[],h=>by have:=h.1;simp at this
 |x::xs,y::ys,h=>by
  have h0:=h.2 0 x y rfl rfl
  have h1:Le2 xs ys:=⟨by simpa using h.1,fun j v w e1 e2=>h.2 (j+1) v w (by simpa using e1) (by simpa using e2)⟩
  have h2:=Le2.sum h1
  simp
  lia
def dl_le{c:Int}{ws:List Int}(hn:Nn ws)(h0:0<=c)(h1:c<=ws.sum):Le2 (dl c ws) ws:=by
 rwa[kgV c ws,fun j v w e1 e2=>?_]
 have hj:j<ws.length:=(MO.mp e2).1
 have hw:=hn w (MK e2)
 by_cases hs:ws.sum=0
 ·rw[kku hs hj] at e1
  cases e1
  rwa[Int.le_refl _,hw]
 ·rw[dl_at hs hj] at e1
  cases e1
  have hp:0<ws.sum:=by
   have:=kd4 hn
   lia
  have q:=kj1 (A:=pre ws j) hp h0 h1 hw
  unfold part
  rw[kev e2]
  rwa[q.1,q.2.1]
theorem kfv{is:List Nat}{vs:List Int}{i:Nat}{v:Int}(h:(is.zip vs).lookup i>>v):∃k:Nat,is[k]?>>i/\vs[k]?>>v:=by
 induction is generalizing vs with
 |nil=>simp at h
 | cons a is ih=>
  cases vs with
  |nil=>simp at h
  | cons b vs=>
   simp only[List.zip_cons_cons,Eg] at h
   by_cases e:i=a
   ·subst e
    simp at h
    rwa[0,6,by simp[h]]
   ·have:(i==a)=false:=beq_eq_false_iff_ne.mpr e
    rw[this] at h
    obtain⟨k,h1,h2⟩:=ih h
    rwa[k+1,by simpa using h1,by simpa using h2]
theorem kgh{pr:List Int}{is:List Nat}{vs:List Int}(hn:Nn pr)(hv:Le2 vs (qs pr is)):Le2 (spr pr.length is vs) pr:=by
 rwa[kdi _ _ _,fun j v w e1 e2=>?_]
 have hj:j<pr.length:=(MO.mp e2).1
 have hw:=hn w (MK e2)
 have e3:v=((is.zip vs).lookup j).getD 0:=by
  simp[spr,hj] at e1
  exact e1.symm
 cases e4:(is.zip vs).lookup j with
 |none=>
  rw[e4] at e3
  subst e3
  rwa[Int.le_refl _,hw]
 |some u=>
  rw[e4] at e3
  have e3':v=u:=e3
  subst e3'
  obtain⟨k,h1,h2⟩:=kfv e4
  refine hv.2 k v w h2 ?_
  simp only[qs,MN,h1,EK]
  rw[M9,e2]
  rfl
theorem qs_nn{pr:List Int}(hn:Nn pr)(is:List Nat):Nn (qs pr is):=fun v hv=>by
 obtain⟨i,_,rfl⟩:=MZ.mp hv
 rw[M9]
 cases e:pr[i]? with
 |none=>exact Int.le_refl _
 |some w=>exact hn w (MK e)
noncomputable def leQ(q:List Int)(a b:Nat):Bool:=decide (q.getD b 0<q.getD a 0∨(q.getD a 0=q.getD b 0/\a<=b))
noncomputable def ordQ(q:List Int):List Nat:=(MG q.length).mergeSort (leQ q)
noncomputable def gdl(cut:Int->Int)(gs:List (List Nat))(q:List Int):List Int:=spr q.length gs.flatten ((gs.map fun g=>dl (cut (qs q g).sum) (qs q g)).flatten)
def kjL(q:List Int)(a b:List Nat):qs q (a++b)=qs q a++qs q b:=by simp[qs]
theorem kmg{cut:Int->Int}{gs:List (List Nat)}{q:List Int}(hn:Nn q)(hc:∀s,0<=s->0<=cut s/\cut s<=s):Le2 (gdl cut gs q) q:=by
 refine kgh hn ?_
 induction gs with
 |nil=>exact Le2.nil
 |cons g gs ih=>
  rw[MQ,Ef,Ef,kjL]
  have h:=hc _ (kd4 (qs_nn hn g))
  exact(dl_le (qs_nn hn g) h.1 h.2).append ih
noncomputable def kml(n:Nat)(lines:List Nat):List (List Nat):=(MG n).map fun l=>(MG lines.length).filter fun k=>lines.getD k 0==l
noncomputable def lasts(gs:List (List Nat)):List Nat:=gs.map fun g=>g.getLastD 0
noncomputable def want(so:Srt)(n:Nat)(lines:List Nat)(q:List Int):List Int:=match so with
 | .off a=>dl (min a q.sum) q
 | .share s false=>dl (q.sum*s/1000) q
 | .share s true=>gdl (fun z=>z*s/1000) (kml n lines) q
 | .cheap m=>spr q.length (lasts (grp m.toNat (ordQ q))) (qs q (lasts (grp m.toNat (ordQ q))))
 | .bund m p=>gdl (fun z=>max 0 (z-p)) (grp m.toNat (ordQ q)) q
 | .carr=>My q.length 0
noncomputable def fee(so:Srt)(cg:Int):Int:=match so with
 | .carr=>cg
 |_=>0
def SrtOk:Srt->Prop
 | .off a=>0<=a/\a<=1000000000000
 | .share s _=>1<=s/\s<=1000
 | .cheap n=>2<=n/\n<=20
 | .bund n p=>2<=n/\n<=20/\0<=p/\p<=1000000000000
 | .carr=>True
def khT{z s:Int}(hz:0<=z)(h1:1<=s)(h2:s<=1000):0<=z*s/1000/\z*s/1000<=z:=by
 have a:0<=z*s:=Int.mul_nonneg hz (by lia)
 have b:z*s<=z*1000:=Int.mul_le_mul_of_nonneg_left h2 hz
 lia
def knM{q:List Int}(hn:Nn q):Le2 (My q.length 0) q:=by
 rwa[by simp,fun j v w e1 e2=>?_]
 have:v=0:=by
  rw[De] at e1
  split at e1
  ·exact(Option.some.inj e1).symm
  ·cases e1
 subst this
 rwa[Int.le_refl _,hn w (MK e2)]
def kg6{a:Int}{n:Nat}{lines:List Nat}{q:List Int}(hn:Nn q)(h0:0<=a):Le2 (want (.off a) n lines q) q:=by
 have hs:=kd4 hn
 show Le2 (dl (min a q.sum) q) q
 exact dl_le hn (by lia) (by lia)
theorem kfE{s:Int}{e:Bool}{n:Nat}{lines:List Nat}{q:List Int}(hn:Nn q)(h1:1<=s)(h2:s<=1000):Le2 (want (.share s e) n lines q) q:=by
 have hs:=kd4 hn
 cases e with
 |false=>
  show Le2 (dl (q.sum*s/1000) q) q
  have h:=khT hs h1 h2
  exact dl_le hn h.1 h.2
 |true=>
  show Le2 (gdl (fun z=>z*s/1000) (kml n lines) q) q
  exact kmg hn fun z hz=>khT hz h1 h2
def kf9{m p:Int}{n:Nat}{lines:List Nat}{q:List Int}(hn:Nn q)(h0:0<=p):Le2 (want (.bund m p) n lines q) q:=by
 show Le2 (gdl (fun z=>max 0 (z-p)) (grp m.toNat (ordQ q)) q) q
 exact kmg hn fun z hz=>⟨by show 0<=max 0 (z-p);lia,by show max 0 (z-p)<=z;lia⟩
def kfF{m:Int}{n:Nat}{lines:List Nat}{q:List Int}(hn:Nn q):Le2 (want (.cheap m) n lines q) q:=by
 show Le2 (spr q.length _ (qs q _)) q
 exact kgh hn (Le2.self (qs_nn hn _))
def kf8{n:Nat}{lines:List Nat}{q:List Int}(hn:Nn q):Le2 (want .carr n lines q) q:=knM hn
theorem ki0{so:Srt}{n:Nat}{lines:List Nat}{q:List Int}(hn:Nn q)(ho:SrtOk so):Le2 (want so n lines q) q:=by
 cases so with
 |off a=>exact kg6 hn ho.1
 |share s e=>exact kfE hn ho.1 ho.2
 |cheap m=>exact kfF hn
 |bund m p=>exact kf9 hn ho.2.2.1
 |carr=>exact kf8 hn
noncomputable def cap(most:Option Int)(w:List Int)(f:Int):List Int×Int:=match most with
 |none=>(w,f)
 |some m=>if m<w.sum+f then(dl (min m w.sum) w,min f m) else(w,f)
theorem kol{most:Option Int}{w q:List Int}{f cg:Int}(h:Le2 w q)(hf:0<=f/\f<=cg)(hm:∀m,most>>m->0<=m):Le2 (cap most w f).1 q/\0<=(cap most w f).2/\(cap most w f).2<=cg:=by
 unfold cap
 cases most with
 |none=>exact⟨h,hf⟩
 |some m=>
  have h0:=hm m rfl
  have hs:=kd4 h.nn
  simp only
  split
  ·rwa[(dl_le h.nn (by lia) (by lia)).trans h,by simp only;lia,by simp only;lia]
  ·rwa[h,hf]
noncomputable def cutM(V:Vch)(ps:List (Option Nat))(kk:List Nat)(S:Stnd):List Int×Int:=
 let is:=abt ps kk V.ms.kind V.ms.lone S
 let c:=cap V.ms.most (want V.so S.mkd.length (is.map fun i=>S.ow.getD i 0) (qs S.pr is)) (fee V.so S.cg)
 (spr S.pr.length is c.1,c.2)
def kmi{V:Vch}{ps:List (Option Nat)}{kk:List Nat}{S:Stnd}(hn:Nn S.pr)(hc:0<=S.cg)(ho:SrtOk V.so)(hm:∀m,V.ms.most>>m->0<=m):Le2 (cutM V ps kk S).1 S.pr/\0<=(cutM V ps kk S).2/\(cutM V ps kk S).2<=S.cg:=by
 have hf:0<=fee V.so S.cg/\fee V.so S.cg<=S.cg:=by
  unfold fee
  split <;> lia
 have h:=kol (most:=V.ms.most) (ki0 (n:=S.mkd.length) (lines:=(abt ps kk V.ms.kind V.ms.lone S).map fun i=>S.ow.getD i 0) (qs_nn hn (abt ps kk V.ms.kind V.ms.lone S)) ho) hf hm
 rwa[kgh hn h.1,h.2]
noncomputable def kdP(ow:List Nat)(c:List Int)(l:Nat):Bool:=(MG ow.length).any fun i=>ow.getD i 0==l&&decide (0<c.getD i 0)
noncomputable def aftM(V:Vch)(ps:List (Option Nat))(kk:List Nat)(S:Stnd):Stnd:=
 ⟨S.ow,Ei (· - ·) S.pr (cutM V ps kk S).1,S.cg-(cutM V ps kk S).2,(MG S.mkd.length).map fun l=>S.mkd.getD l false||(V.ms.lone&&kdP S.ow (cutM V ps kk S).1 l)⟩
def koo{V:Vch}{ps:List (Option Nat)}{kk:List Nat}{S:Stnd}(hn:Nn S.pr)(hc:0<=S.cg)(ho:SrtOk V.so)(hm:∀m,V.ms.most>>m->0<=m):Le2 (aftM V ps kk S).pr S.pr/\0<=(aftM V ps kk S).cg/\(aftM V ps kk S).cg<=S.cg:=by
 have h:=kmi (ps:=ps) (kk:=kk) hn hc ho hm
 rwa[⟨?_,fun j v w e1 e2=>?_⟩,?_,?_]
 ·show(Ei _ _ _).length=_
  rw[DX,h.1.1]
  lia
 ·have hj:j<S.pr.length:=(MO.mp e2).1
  have hj2:j<(cutM V ps kk S).1.length:=by rw[h.1.1];exact hj
  have e3:(cutM V ps kk S).1[j]?>>((cutM V ps kk S).1[j]):=by simp[hj2]
  have b:=h.1.2 j _ w e3 e2
  have e4:(Ei (· - ·) S.pr (cutM V ps kk S).1)[j]?>>(w-(cutM V ps kk S).1[j]):=by
   rw[Ap,e2,e3]
  have e1':(Ei (· - ·) S.pr (cutM V ps kk S).1)[j]?>>v:=e1
  rw[e4] at e1'
  cases e1'
  lia
 ·show 0<=S.cg-_
  have:=h.2
  lia
 ·show S.cg-_<=S.cg
  have:=h.2
  lia
def kk5{n:Nat}{is:List Nat}{vs:List Int}{i:Nat}{v:Int}(hl:is.length=vs.length)(hn:(is++[i]).Nodup)(hi:i<n):(spr n is vs).set i v=spr n (is++[i]) (vs++[v]):=by
 have h:=kmN (n:=n) (is:=is++[i]) (vs:=vs++[v]) hn (k:=is.length) (i:=i) (v:=v) (by simp) (by rw[hl];simp) hi
 rw[List.take_left' rfl,List.take_left' hl.symm,ER (by simp),ER (by simp[hl])] at h
 exact h
def keA{gs:List (List Nat)}(h:gs.flatten.Nodup){i k a:Nat}{g:List Nat}(hg:gs[i]?>>g)(hk:g[k]?>>a):((gs.take i).flatten++g.take k++[a]).Nodup:=by
 have e:gs=gs.take i++g::gs.drop (i+1):=by
  obtain⟨hi,eg⟩:=MO.mp hg
  rw[<-eg,Aq hi,Ar]
 have e2:g=(g.take k++[a])++g.drop (k+1):=by
  obtain⟨hk',ek⟩:=MO.mp hk
  rw[M6,List.singleton_append,<-ek,Aq hk',Ar]
 rw[e,DU,Ef] at h
 rw[M6]
 refine h.sublist (Dt.append_left ?_ _)
 refine Dt.trans ?_ (DY g _)
 conv=>rhs;rw[e2]
 exact DY _ _
theorem kho{is:List Nat}(hn:is.Nodup){k i:Nat}(hk:is[k]?>>i):∀{vs:List Int},is.length=vs.length->(is.zip vs).lookup i=vs[k]?:=by
 induction is generalizing k with
 |nil=>simp at hk
 | cons a is ih=>
  intro vs hl
  cases vs with
  |nil=>simp at hl
  | cons v vs=>
   rw[List.zip_cons_cons,Eg]
   cases k with
   |zero=>
    have:a=i:=by simpa using hk
    subst this
    simp
   |succ k=>
    have hk':is[k]?>>i:=by simpa using hk
    have hh:=Ed.mp hn
    have hne:(i==a)=false:=beq_eq_false_iff_ne.mpr fun z=>hh.1 (z▸MK hk')
    rw[hne]
    simpa using ih hh.2 hk' (by simpa using hl)
section
variable{p:Nat->Bool}{n:Nat}{w:List Int}
noncomputable def cnt(p:Nat->Bool)(j:Nat):Nat:=((MG j).filter p).length
theorem kkD{j:Nat}(h:p j=true):cnt p (j+1)=cnt p j+1:=by
 unfold cnt
 rw[EF,EG,ML]
 simp[h]
theorem kmk{j:Nat}(h:p j=false):cnt p (j+1)=cnt p j:=by
 unfold cnt
 rw[EF,EG,ML]
 simp[h]
theorem kc0:∀{n j:Nat},j<n->p j=true->((MG n).filter p)[cnt p j]?>>j
 |0,j,h,_=>by lia
 | n+1,j,h,hp=>by
  rw[EF,EG]
  by_cases hj:j<n
  ·have ih:=kc0 hj hp
   rw[EO (MO.mp ih).1]
   exact ih
  ·have e:j=n:=by lia
   subst e
   unfold cnt
   rw[EJ (Mv _)]
   simp[hp]
theorem klW(hl:w.length=cnt p n){j:Nat}(hj:j<n):(spr n ((MG n).filter p) w)[j]?>>(if p j=true then w.getD (cnt p j) 0 else 0):=by
 unfold spr
 rw[MN,List.getElem?_range hj]
 show some _>>_
 congr 1
 show(Er j (((MG n).filter p).zip w)).getD 0=_
 cases hp:p j with
 |true=>
  rw[kho (Dg.filter _ DV) (kc0 hj hp) hl.symm,if_pos rfl,M9]
 | false=>
  rw[if_neg MD]
  cases e:(((MG n).filter p).zip w).lookup j with
  |none=>rw[DK]
  |some v=>
   obtain⟨k,hk,_⟩:=kfv e
   have:=(E6.mp (MK hk)).2
   rw[hp] at this
   cases this
theorem kfR(hl:w.length=cnt p n):∀j,j<=n->pre (spr n ((MG n).filter p) w) j=pre w (cnt p j)
 |0,_=>by simp[pre,cnt]
 | j+1,h=>by
  have ih:=kfR hl j (by lia)
  rw[kev (klW hl (show j<n by lia)),ih]
  cases hp:p j with
  |true=>
   have hk:=(MO.mp (kc0 (show j<n by lia) hp)).1
   have hk':cnt p j<w.length:=by rw[hl];exact hk
   rw[if_pos rfl,kkD hp,kev (w:=w.getD (cnt p j) 0) (by rw[M9,Ez hk'];rfl)]
  |false=>rw[if_neg MD,kmk hp,Int.add_zero]
theorem ki6(hl:w.length=cnt p n):(spr n ((MG n).filter p) w).sum=w.sum:=by
 have h:=kfR hl n (Mv _)
 rw[<-hl,kjS] at h
 have e:pre (spr n ((MG n).filter p) w) n=(spr n ((MG n).filter p) w).sum:=by
  have:=kjS (spr n ((MG n).filter p) w)
  rw[kdi] at this
  exact this
 rw[<-e,h]
theorem koi(m:Int)(hl:w.length=cnt p n):dl m (spr n ((MG n).filter p) w)=spr n ((MG n).filter p) (dl m w):=by
 have hl2:(dl m w).length=cnt p n:=by rw[kgV,hl]
 have hs:=ki6 hl
 apply List.ext_getElem?
 intro j
 by_cases hj:j<n
 ·rw[klW hl2 hj]
  have hjF:j<(spr n ((MG n).filter p) w).length:=by rw[kdi];exact hj
  by_cases h0:w.sum=0
  ·rw[kku (hs.trans h0) hjF]
   cases hp:p j with
   |false=>rw[if_neg MD]
   |true=>
    have hk:=(MO.mp (kc0 hj hp)).1
    rw[if_pos rfl,M9,kku h0 (by rw[hl];exact hk)]
    rfl
  ·rw[dl_at (by rw[hs];exact h0) hjF]
   unfold part
   rw[hs,kfR hl j (by lia),kfR hl (j+1) (by lia)]
   cases hp:p j with
   |false=>rw[if_neg MD,kmk hp,Int.sub_self]
   |true=>
    have hk:=(MO.mp (kc0 hj hp)).1
    rw[if_pos rfl,M9,dl_at h0 (by rw[hl];exact hk),kkD hp]
    rfl
 ·rw[As (by rw[kgV,kdi];lia),As (by rw[kdi];lia)]
end
def knn{c:Int}{n:Nat}:dl c (My n 0)=My n 0:=by
 have e:(My n (0:Int)).sum=0:=by simp
 unfold dl
 rw[if_pos e]
 simp
theorem klJ{V:Vch}{ps:List (Option Nat)}{kk:List Nat}{S:Stnd}(e:V.ms.most=none):
  (cutM V ps kk S).1=spr S.pr.length (abt ps kk V.ms.kind V.ms.lone S) (want V.so S.mkd.length ((abt ps kk V.ms.kind V.ms.lone S).map fun i=>S.ow.getD i 0) (qs S.pr (abt ps kk V.ms.kind V.ms.lone S))):=by
 unfold cutM cap
 rw[e]
theorem klI{V:Vch}{ps:List (Option Nat)}{kk:List Nat}{S:Stnd}(hl:S.pr.length=S.ow.length)
  (hw:Le2 (want V.so S.mkd.length ((abt ps kk V.ms.kind V.ms.lone S).map fun i=>S.ow.getD i 0) (qs S.pr (abt ps kk V.ms.kind V.ms.lone S))) (qs S.pr (abt ps kk V.ms.kind V.ms.lone S))){m:Int}(e:V.ms.most>>m)(h0:0<=m):
  (cutM V ps kk S).1=if(spr S.pr.length (abt ps kk V.ms.kind V.ms.lone S) (want V.so S.mkd.length ((abt ps kk V.ms.kind V.ms.lone S).map fun i=>S.ow.getD i 0) (qs S.pr (abt ps kk V.ms.kind V.ms.lone S)))).sum > m
   then dl m (spr S.pr.length (abt ps kk V.ms.kind V.ms.lone S) (want V.so S.mkd.length ((abt ps kk V.ms.kind V.ms.lone S).map fun i=>S.ow.getD i 0) (qs S.pr (abt ps kk V.ms.kind V.ms.lone S))))
   else spr S.pr.length (abt ps kk V.ms.kind V.ms.lone S) (want V.so S.mkd.length ((abt ps kk V.ms.kind V.ms.lone S).map fun i=>S.ow.getD i 0) (qs S.pr (abt ps kk V.ms.kind V.ms.lone S))):=by
 have hwl:=hw.1
 rw[kfk] at hwl
 have ea:abt ps kk V.ms.kind V.ms.lone S=(MG S.pr.length).filter fun i=>hits ps kk V.ms.kind V.ms.lone S.mkd (S.ow.getD i 0):=by rw[hl];rfl
 have ez:V.so=.carr->(want V.so S.mkd.length ((abt ps kk V.ms.kind V.ms.lone S).map fun i=>S.ow.getD i 0) (qs S.pr (abt ps kk V.ms.kind V.ms.lone S)))=My (qs S.pr (abt ps kk V.ms.kind V.ms.lone S)).length 0:=fun z=>by rw[z];rfl
 unfold cutM cap
 rw[e]
 simp only
 generalize want V.so S.mkd.length ((abt ps kk V.ms.kind V.ms.lone S).map fun i=>S.ow.getD i 0) (qs S.pr (abt ps kk V.ms.kind V.ms.lone S))=w at *
 rw[ea] at hwl⊢
 rw[ki6 hwl,koi m hwl]
 by_cases hc:V.so=.carr
 ·have hz:=ez hc
  have hs:w.sum=0:=by rw[hz];simp
  rw[if_neg (by lia:¬w.sum > m)]
  split
  ·simp only
   rw[hz,knn]
  ·rfl
 ·have hf:fee V.so S.cg=0:=by
   unfold fee
   split
   ·rename_i z
    exact absurd z hc
   ·rfl
  rw[hf,Int.add_zero]
  by_cases hm:m<w.sum
  ·rw[if_pos hm,if_pos hm]
   simp only
   rw[Int.min_eq_left (by lia)]
  ·rw[if_neg hm,if_neg hm]
noncomputable def ins:List (Nat×List Nat)->Nat->Nat->List (Nat×List Nat)
 |[],o,a=>[(o,[a])]
 |(l,g)::G,o,a=>if l=o then(l,g++[a])::G else(l,g)::ins G o a
section
variable{f:Nat->Nat}{is:List Nat}{D:List Nat->List Int}
end
end Vs
namespace Vs
open PySem L2
noncomputable def top(i:Nat):Stmt:=PySem.Challenge.pw_voucherstack_k45_rules_read.main.body.getD i (.Pass ⟨0,0,0,0⟩)
abbrev khg:Stmt:=top 1
abbrev khe:Stmt:=top 3
abbrev kbE:Stmt:=top 15
abbrev keN:Stmt:=top 18
abbrev kjC:Stmt:=top 19
abbrev kdq:Stmt:=top 20
abbrev kjD:Stmt:=top 21
abbrev khh:Stmt:=top 22
abbrev kbF:Stmt:=top 25
abbrev kbx:Stmt:=top 26
abbrev kbe:Stmt:=top 27
abbrev kaO:Stmt:=top 29
abbrev kbQ:Stmt:=top 30
abbrev kcv:Stmt:=top 31
abbrev kbP:Stmt:=top 32
abbrev keK:Stmt:=top 33
abbrev khf:Stmt:=top 45
abbrev kfN:Stmt:=top 46
abbrev kbO:Stmt:=top 47
abbrev kce:Stmt:=top 48
abbrev kcf:Stmt:=top 49
abbrev kbw:Stmt:=top 50
abbrev kfO:Stmt:=top 53
abbrev kbj:Stmt:=top 65
abbrev kcd:Stmt:=top 85
abbrev kdn:Stmt:=top 86
abbrev kcc:Stmt:=top 87
abbrev kdl:Stmt:=top 88
abbrev kcN:Stmt:=top 89
abbrev kdm:Stmt:=top 91
abbrev kcu:Stmt:=top 93
abbrev kdk:Stmt:=top 94
abbrev kdW:Stmt:=top 95
abbrev kdo:Stmt:=top 96
abbrev keI:Stmt:=top 105
abbrev keJ:Stmt:=top 106
abbrev kdp:Stmt:=top 107
abbrev kb6:Stmt:=top 108
abbrev keM:Stmt:=top 117
abbrev kcw:Stmt:=top 118
abbrev kcM:Stmt:=top 119
abbrev keL:Stmt:=top 120
abbrev kcO:Stmt:=top 130
abbrev kdu:Stmt:=top 131
abbrev kcP:Stmt:=top 132
abbrev kdt:Stmt:=top 133
abbrev kcg:Stmt:=top 134
abbrev kdr:Stmt:=top 135
abbrev s_law:Stmt:=top 136
abbrev ka5:Stmt:=inClass (top 5) 0
abbrev kaS:Stmt:=inClass (top 6) 0
abbrev kbn:Stmt:=inClass (top 7) 0
abbrev kbb:Stmt:=inClass (top 13) 0
abbrev kaY:Stmt:=inClass (top 14) 0
abbrev kbT:Stmt:=inClass (top 16) 0
abbrev kbG:Stmt:=inClass (top 16) 1
abbrev kdX:Stmt:=inClass (top 44) 0
abbrev kch:Stmt:=inClass (top 44) 1
abbrev kcQ:Stmt:=inClass (top 44) 2
abbrev kbR:Stmt:=inClass (top 44) 4
abbrev kdw:Stmt:=inClass (top 52) 0
abbrev kba:Stmt:=inClass (top 55) 0
abbrev kbS:Stmt:=inClass (top 84) 0
abbrev kaP:Stmt:=inClass (top 84) 1
abbrev kaW:Stmt:=inClass (top 84) 2
abbrev kaM:Stmt:=inClass (top 84) 3
abbrev kaF:Stmt:=inClass (top 84) 4
abbrev kdY:Stmt:=inClass (top 109) 0
abbrev kck:Stmt:=inClass (top 109) 1
abbrev kci:Stmt:=inClass (top 109) 2
abbrev kbs:Stmt:=inClass (top 109) 3
abbrev kbU:Stmt:=inClass (top 109) 4
abbrev kcx:Stmt:=inClass (top 109) 5
abbrev kby:Stmt:=inClass (top 109) 6
abbrev kbI:Stmt:=inClass (top 109) 7
abbrev kbV:Stmt:=inClass (top 109) 8
abbrev kbk:Stmt:=inClass (top 109) 9
abbrev kbH:Stmt:=inClass (top 109) 10
abbrev kdv:Stmt:=inClass (top 116) 0
abbrev kcy:Stmt:=inClass (top 36) 0
set_option genInjectivity false
set_option genSizeOf false
set_option genCtorIdx false
structure D where
 Yg:Addr
 Yh:FuncData
 Yi:Addr
 Yj:FuncData
 Yk:Addr
 Yl:FuncData
 Ym:Addr
 Yn:FuncData
 Yo:Addr
 Yp:FuncData
 Yq:Addr
 Yr:FuncData
 Ys:Addr
 Yt:FuncData
 Yu:Addr
 Yv:FuncData
 Yw:Addr
 Yx:FuncData
 Yy:Addr
 Yz:FuncData
 YA:Addr
 YB:FuncData
 UL:Addr
 YC:FuncData
 YD:Addr
 YE:FuncData
 YF:Addr
 YG:FuncData
 YH:Addr
 YI:FuncData
 YJ:Addr
 YK:FuncData
 YL:Addr
 YM:FuncData
 YN:Addr
 YO:FuncData
 YQ:Addr
 YR:FuncData
 YS:Addr
 YT:FuncData
 YU:Addr
 YV:FuncData
 YW:Addr
 YX:FuncData
 YY:Addr
 YZ:FuncData
 UM:Addr
 Y0:FuncData
 Y1:Addr
 Y2:FuncData
 Qq:Addr
 Y3:FuncData
 Qr:Addr
 Y5:FuncData
 Y7:Addr
 Y9:FuncData
 Za:Addr
 Zb:FuncData
 Qs:Addr
 Zc:FuncData
 Qt:Addr
 Zd:FuncData
 Qu:Addr
 Ze:FuncData
 Zf:Addr
 Zg:FuncData
 Qv:Addr
 Zh:FuncData
 Zi:Addr
 Zj:FuncData
 Zk:Addr
 Zl:FuncData
 Zm:Addr
 Zn:FuncData
 Zo:Addr
 Zp:FuncData
 Zq:Addr
 Zr:FuncData
 Zs:Addr
 Zt:FuncData
 Zu:Addr
 Zv:FuncData
 qW:Addr
 Zw:FuncData
 Zx:Addr
 Zy:FuncData
 Zz:Addr
 ZA:FuncData
 qX:Addr
 qY:FuncData
 ZC:Addr
 ZD:FuncData
 ZE:Addr
 ZF:FuncData
 ZG:Addr
 ZH:FuncData
 f_law:Addr
 ZI:FuncData
 qi:Addr
 ZJ:Addr
 qD:FuncData
 tok1_Marks_init:Nat
 qz:Addr
 Q2:Addr
 Q3:FuncData
 c_Off:Addr
 ZK:Addr
 Q4:FuncData
 ZL:Addr
 ZM:Addr
 ZN:Addr
 Qw:Addr
 qf:Addr
 ZO:Addr
 Q5:FuncData
 qh:Addr
 ZP:Addr
 Qx:FuncData
 tok0_Basket_init:Nat
 qd:Addr
 ZQ:Addr
 ZR:FuncData
 ZS:Addr
 ZT:FuncData
 c_Way:Addr
 ZU:Addr
 ZV:FuncData
 ZW:Addr
 ZX:FuncData
 ZY:Addr
 ZZ:FuncData
 Z9:Addr
 Va:FuncData
 qj:Addr
 Vb:Addr
 Vd:FuncData
 qg:Addr
 Ve:Addr
 Q6:FuncData
 tok0_Till_init:Nat
 qA:Addr
 Q7:Addr
 Vf:FuncData
 Q8:Addr
 Q9:FuncData
 Xa:Addr
 Xb:FuncData
 Xc:Addr
 Xd:FuncData
 Xe:Addr
 Xf:FuncData
 c_Row:Addr
 Vg:Addr
 Vh:FuncData
 Vi:Addr
 Vj:FuncData
 Vk:Addr
 Vl:FuncData
 Vm:Addr
 Vn:FuncData
 Vo:Addr
 Vp:FuncData
 Vq:Addr
 Vr:FuncData
 Vt:Addr
 Vu:FuncData
 Vv:Addr
 Vw:FuncData
 Vx:Addr
 Vy:FuncData
 Vz:Addr
 VA:FuncData
 VB:Addr
 VC:FuncData
 qe:Addr
 VD:Addr
 VE:FuncData
 cc_falling_groups:Addr
 tP_falling_groups:Addr
 cc_first_use:Addr
 tP_first_use:Addr
 qk:Addr
 VF:Addr
 UN:Addr
 UO:Addr
 UP:Addr
 UQ:Addr
 qH:Addr
 tk_MOST_KINDS:Nat
 tk_MOST_VOUCHERS:Nat
 tk_MOST_RULES:Nat
 tk_MOST_BASKETS:Nat
 tk_MOST_LINES:Nat
 tk_MOST_PIECES:Nat
 tk_MOST_OF_A_LINE:Nat
 tk_MOST_HELD:Nat
 a_READERS:Addr
 tk_LETTERS:Nat
 tk_FIGURES:Nat
 tk_MOST_LETTERS:Nat
 tk_MOST_FIGURES:Nat
 tk_MOST_COINS:Nat
 a_KEPT_WORDS:Addr
 a_FIRST_WORDS:Addr
 a_FIRST_WORDS_OF_A_BASKET:Addr
 tk_MOST_USED:Nat
 a_QUESTIONS:Addr
 UR:Addr
 VG:Addr
 VH:Addr
 VI:Addr
 VJ:Addr
 VL:Addr
 VM:Addr
 VN:Addr
 VO:FuncData
structure Wld(K:Mt)(mg:Str->Option Value)(d:D):Prop where
 B:TxtB mg
 Xg:Dn K mg "dealt" khg ["cut","weights"] d.Yg d.Yh
 VP:Dn K mg "under" khe ["parents","one","other"] d.Yi d.Yj
 VQ:Dn K mg "price_of_piece" kbE ["line","member"] d.Yk d.Yl
 Xh:Dn K mg "about" keN ["voucher","parents","basket","standing"] d.Ym d.Yn
 VR:Dn K mg "fits" kjC ["marks","parents","kind","marked"] d.Yo d.Yp
 VS:Dn K mg "hindrance" kdq ["voucher","parents","basket","standing"] d.Yq d.Yr
 VT:Dn K mg "cuts" kjD ["voucher","parents","basket","standing"] d.Ys d.Yt
 VU:Dn K mg "after" khh ["voucher","parents","basket","standing"] d.Yu d.Yv
 Xi:Dn K mg "cuts_of_pieces" kbF ["voucher","parents","basket","standing"] d.Yw d.Yx
 Xj:Dn K mg "cut_of_carriage" kbx ["voucher","standing"] d.Yy d.Yz
 VV:Dn K mg "wanted_cuts" kbe ["voucher","standing","pieces"] d.YA d.YB
 Md:Dn K mg "falling_groups" kaO ["standing","pieces","many"] d.UL d.YC
 VW:Dn K mg "marked_behind" kbQ ["voucher","standing","piece_cuts"] d.YD d.YE
 Xk:Dn K mg "prices_of" kcv ["standing","pieces"] d.YF d.YG
 qZ:Dn K mg "sum_of_prices" kbP ["standing","pieces"] d.YH d.YI
 VX:Dn K mg "at_most" keK ["most","number"] d.YJ d.YK
 Xl:Dn K mg "fault" khf ["till","basket","hand","order"] d.YL d.YM
 VY:Dn K mg "way_by" kfN ["till","basket","hand","order"] d.YN d.YO
 VZ:Dn K mg "word_of_order" kbO ["till","hand","used","number"] d.YQ d.YR
 V0:Dn K mg "breaks_never" kce ["rules","used","number"] d.YS d.YT
 V1:Dn K mg "breaks_ahead" kcf ["rules","used","number"] d.YU d.YV
 V2:Dn K mg "without_company" kbw ["rules","order"] d.YW d.YX
 q0:Dn K mg "priced" kfO ["till","basket","hand","order"] d.YY d.YZ
 Me:Dn K mg "first_use" kbj ["till","voucher","baskets"] d.UM d.Y0
 V3:Dn K mg "read_telling" kcd ["word","row","told"] d.Y1 d.Y2
 Xm:Dn K mg "read_kind" kdn ["row","told"] d.Qq d.Y3
 Xn:Dn K mg "read_voucher" kcc ["row","told"] d.Qr d.Y5
 V4:Dn K mg "read_sort" kdl ["row","told"] d.Y7 d.Y9
 V5:Dn K mg "read_marks" kcN ["row","told"] d.Za d.Zb
 Xo:Dn K mg "read_rule" kdm ["row","told"] d.Qs d.Zc
 Xp:Dn K mg "read_basket" kcu ["row","told"] d.Qt d.Zd
 Xq:Dn K mg "read_ware" kdk ["row","told"] d.Qu d.Ze
 V6:Dn K mg "add_line" kdW ["line","row","told"] d.Zf d.Zg
 Xr:Dn K mg "read_hold" kdo ["row","told"] d.Qv d.Zh
 V7:Dn K mg "rows_of" keI ["text"] d.Zi d.Zj
 V8:Dn K mg "is_name" keJ ["word"] d.Zk d.Zl
 V9:Dn K mg "is_number" kdp ["word"] d.Zm d.Zn
 Xs:Dn K mg "is_made_of" kb6 ["word","signs"] d.Zo d.Zp
 Ua:Dn K mg "answers" keM ["text"] d.Zq d.Zr
 Ub:Dn K mg "first_words" kcw ["desk"] d.Zs d.Zt
 Uc:Dn K mg "read_order" kcM ["row","desk"] d.Zu d.Zv
 Xt:Dn K mg "ask_use" keL ["row","desk"] d.qW d.Zw
 Qa:Dn K mg "_law_mixed" kcO ["_law_cell_here","_law_k"] d.Zx d.Zy
 Ud:Dn K mg "_law_cell" kdu ["_law_script","_law_k"] d.Zz d.ZA
 Qb:Dn K mg "_law_alike" kcP ["_law_found","_law_due"] d.qX d.qY
 Ue:Dn K mg "_law_name" kdt ["_law_which","_law_k","_law_salt"] d.ZC d.ZD
 Ug:Dn K mg "_law_use_due" kcg ["_law_till","_law_basket","_law_hand","_law_order"] d.ZE d.ZF
 Uh:Dn K mg "_law_rule" kdr ["_law_drawn","_law_names","_law_rules"] d.ZG d.ZH
 d_law:Dn K mg "law" s_law ["_law_script"] d.f_law d.ZI
 qi:ClsT K mg "Marks" d.qi
 Qy:NoAttr K d.qi "kind"
 Ui:NoAttr K d.qi "needs"
 Xu:NoAttr K d.qi "most"
 Uj:NoAttr K d.qi "member"
 Uk:NoAttr K d.qi "once"
 Xv:NoAttr K d.qi "lone"
 Qz:MthT K d.qi "__init__" "Marks.__init__" ka5 ["self","kind","needs","most","member","once","lone"] d.ZJ d.qD
 b1_Marks_init:Binds K d.qD ["self","kind","needs","most","member","once","lone"] [.bool false]
 b2_Marks_init:Binds K d.qD ["self","kind","needs","most","member","once","lone"] [.bool false, .bool false]
 b3_Marks_init:Binds K d.qD ["self","kind","needs","most","member","once","lone"] [.bool false, .bool false, .bool false]
 b4_Marks_init:Binds K d.qD ["self","kind","needs","most","member","once","lone"] [.none, .bool false, .bool false, .bool false]
 b5_Marks_init:Binds K d.qD ["self","kind","needs","most","member","once","lone"] [.int 0 d.tok1_Marks_init, .none, .bool false, .bool false, .bool false]
 b6_Marks_init:Binds K d.qD ["self","kind","needs","most","member","once","lone"] [.none, .int 0 d.tok1_Marks_init, .none, .bool false, .bool false, .bool false]
 qz:ClsT K mg "Voucher" d.qz
 Xw:MthT K d.qz "__init__" "Voucher.__init__" kaS ["self","marks"] d.Q2 d.Q3
 b1_Voucher_init:Binds K d.Q3 ["self","marks"] [.none]
 g_Off:mg "Off">>(.ref d.c_Off)
 c_Off:ClsT K mg "Off" d.c_Off
 Ul:NoAttr K d.c_Off "amount"
 Um:NoAttr K d.c_Off "marks"
 QA:MthT K d.c_Off "__init__" "Off.__init__" kbn ["self","amount","marks"] d.ZK d.Q4
 b1_Off_init:Binds K d.Q4 ["self","amount","marks"] [.none]
 US:mg "Share">>(.ref d.ZL)
 UT:mg "Cheapest">>(.ref d.ZM)
 UU:mg "Bundle">>(.ref d.ZN)
 UV:mg "Carriage">>(.ref d.Qw)
 qf:ClsT K mg "Line" d.qf
 Uo:NoAttr K d.qf "kind"
 Xx:NoAttr K d.qf "price"
 QB:NoAttr K d.qf "many"
 Xy:NoAttr K d.qf "special"
 QC:MthT K d.qf "__init__" "Line.__init__" kbb ["self","kind","price","many","special"] d.ZO d.Q5
 b1_Line_init:Binds K d.Q5 ["self","kind","price","many","special"] [.none]
 qh:ClsT K mg "Basket" d.qh
 QD:NoAttr K d.qh "lines"
 Xz:NoAttr K d.qh "carriage"
 QE:NoAttr K d.qh "member"
 qN:MthT K d.qh "__init__" "Basket.__init__" kaY ["self","lines","carriage","member"] d.ZP d.Qx
 b1_Basket_init:Binds K d.Qx ["self","lines","carriage","member"] [.bool false]
 b2_Basket_init:Binds K d.Qx ["self","lines","carriage","member"] [.int 0 d.tok0_Basket_init, .bool false]
 qd:ClsT K mg "Standing" d.qd
 qO:NoAttr K d.qd "owners"
 qE:NoAttr K d.qd "prices"
 qP:NoAttr K d.qd "carriage"
 Qc:NoAttr K d.qd "marked"
 Qd:MthT K d.qd "__init__" "Standing.__init__" kbT ["self","basket"] d.ZQ d.ZR
 XA:MthT K d.qd "whole" "Standing.whole" kbG ["self"] d.ZS d.ZT
 c_Way:ClsT K mg "Way" d.c_Way
 qF:NoAttr K d.c_Way "till"
 QF:NoAttr K d.c_Way "basket"
 XB:NoAttr K d.c_Way "hand"
 qQ:NoAttr K d.c_Way "used"
 qR:NoAttr K d.c_Way "standing"
 qI:MthT K d.c_Way "__init__" "Way.__init__" kdX ["self","till","basket","hand"] d.ZU d.ZV
 Qe:MthT K d.c_Way "word_for" "Way.word_for" kch ["self","number"] d.ZW d.ZX
 Qf:MthT K d.c_Way "behind" "Way.behind" kcQ ["self","number"] d.ZY d.ZZ
 XC:MthT K d.c_Way "is_let_by" "Way.is_let_by" kbR ["self"] d.Z9 d.Va
 qj:ClsT K mg "Bill" d.qj
 UW:NoAttr K d.qj "order"
 UX:NoAttr K d.qj "steps"
 UY:NoAttr K d.qj "prices"
 UZ:NoAttr K d.qj "carriage"
 XD:NoAttr K d.qj "total"
 XE:MthT K d.qj "__init__" "Bill.__init__" kdw ["self","order","steps","standing"] d.Vb d.Vd
 qg:ClsT K mg "Till" d.qg
 QG:NoAttr K d.qg "parents"
 Qg:NoAttr K d.qg "vouchers"
 qS:NoAttr K d.qg "rules"
 U0:NoAttr K d.qg "back"
 QH:MthT K d.qg "__init__" "Till.__init__" kba ["self","parents","vouchers","rules","back"] d.Ve d.Q6
 b1_Till_init:Binds K d.Q6 ["self","parents","vouchers","rules","back"] [.str "again" d.tok0_Till_init]
 qA:ClsT K mg "TillText" d.qA
 XF:MthT K d.qA "__init__" "TillText.__init__" kbS ["self"] d.Q7 d.Vf
 U1:MthT K d.qA "names_so_far" "TillText.names_so_far" kaP ["self"] d.Q8 d.Q9
 U2:MthT K d.qA "till_so_far" "TillText.till_so_far" kaW ["self"] d.Xa d.Xb
 U3:MthT K d.qA "basket_so_far" "TillText.basket_so_far" kaM ["self"] d.Xc d.Xd
 U4:MthT K d.qA "hand_so_far" "TillText.hand_so_far" kaF ["self"] d.Xe d.Xf
 c_Row:ClsT K mg "Row" d.c_Row
 Uq:NoAttr K d.c_Row "line"
 XG:NoAttr K d.c_Row "words"
 QI:NoAttr K d.c_Row "passed"
 XH:MthT K d.c_Row "__init__" "Row.__init__" kdY ["self","line","parts"] d.Vg d.Vh
 ql:MthT K d.c_Row "has_more" "Row.has_more" kck ["self"] d.Vi d.Vj
 qp:MthT K d.c_Row "must_end" "Row.must_end" kci ["self"] d.Vk d.Vl
 qr:MthT K d.c_Row "must_keep_to" "Row.must_keep_to" kbs ["self","most","many"] d.Vm d.Vn
 qJ:MthT K d.c_Row "next_word" "Row.next_word" kbU ["self"] d.Vo d.Vp
 qt:MthT K d.c_Row "next_of" "Row.next_of" kcx ["self","choices"] d.Vq d.Vr
 qK:MthT K d.c_Row "next_number" "Row.next_number" kby ["self","least","most"] d.Vt d.Vu
 qB:MthT K d.c_Row "next_coins" "Row.next_coins" kbI ["self"] d.Vv d.Vw
 Qh:MthT K d.c_Row "next_name" "Row.next_name" kbV ["self"] d.Vx d.Vy
 Qi:MthT K d.c_Row "next_new_name" "Row.next_new_name" kbk ["self","taken"] d.Vz d.VA
 qu:MthT K d.c_Row "next_named" "Row.next_named" kbH ["self","names"] d.VB d.VC
 qe:ClsT K mg "Desk" d.qe
 U5:NoAttr K d.qe "account"
 QJ:NoAttr K d.qe "kind_names"
 QK:NoAttr K d.qe "parents"
 qL:NoAttr K d.qe "voucher_names"
 Qj:NoAttr K d.qe "vouchers"
 QL:NoAttr K d.qe "rules"
 Ur:NoAttr K d.qe "back"
 qT:NoAttr K d.qe "baskets"
 QM:NoAttr K d.qe "held"
 XI:MthT K d.qe "__init__" "Desk.__init__" kdv ["self"] d.VD d.VE
 QN:MthT K d.qe "names_so_far" "TillText.names_so_far" kaP ["self"] d.Q8 d.Q9
 Us:MthT K d.qe "till_so_far" "TillText.till_so_far" kaW ["self"] d.Xa d.Xb
 QO:MthT K d.qe "basket_so_far" "TillText.basket_so_far" kaM ["self"] d.Xc d.Xd
 Ut:MthT K d.qe "hand_so_far" "TillText.hand_so_far" kaF ["self"] d.Xe d.Xf
 U6:BaseT K d.qz "__init__" d.Q2
 U7:BaseT K d.qA "__init__" d.Q7
 U8:En K (.ref d.c_Off) (.ref d.Qw)>>false
 code_falling_groups:d.YC.code=.ref d.cc_falling_groups
 ck_falling_groups:CodeK K d.cc_falling_groups d.tP_falling_groups
 code_first_use:d.Y0.code=.ref d.cc_first_use
 ck_first_use:CodeK K d.cc_first_use d.tP_first_use
 Uu:mg "NotLet">>(.ref d.qk)
 Mf:mg "NoPieces">>(.ref d.VF)
 Mg:mg "BadText">>(.ref d.UN)
 Mh:mg "TooMany">>(.ref d.UO)
 Mi:mg "Twice">>(.ref d.UP)
 Mj:mg "NoName">>(.ref d.UQ)
 Ml:mg "TillError">>(.ref d.qH)
 w_NotLet:ExcW K d.qk d.qH
 x_NotLet:ExcK K d.qk
 kp_NotLet:MJ K (.ref d.qk)=true
 QP:MthT K d.qk "__init__" "NotLet.__init__" kcy ["self","place","word"] d.VN d.VO
 Uv:NoAttr K d.qk "place"
 Uw:NoAttr K d.qk "word"
 xm_NotLet_NotLet:E2 K (.ref d.qk) (.ref d.qk)>>true
 xm_NotLet_NoPieces:E2 K (.ref d.qk) (.ref d.VF)>>false
 g_MOST_KINDS:mg "MOST_KINDS">>(.int 20 d.tk_MOST_KINDS)
 g_MOST_VOUCHERS:mg "MOST_VOUCHERS">>(.int 8 d.tk_MOST_VOUCHERS)
 g_MOST_RULES:mg "MOST_RULES">>(.int 20 d.tk_MOST_RULES)
 g_MOST_BASKETS:mg "MOST_BASKETS">>(.int 20 d.tk_MOST_BASKETS)
 g_MOST_LINES:mg "MOST_LINES">>(.int 12 d.tk_MOST_LINES)
 g_MOST_PIECES:mg "MOST_PIECES">>(.int 60 d.tk_MOST_PIECES)
 g_MOST_OF_A_LINE:mg "MOST_OF_A_LINE">>(.int 20 d.tk_MOST_OF_A_LINE)
 g_MOST_HELD:mg "MOST_HELD">>(.int 5 d.tk_MOST_HELD)
 g_READERS:mg "READERS">>(.ref d.a_READERS)
 t_READERS:TabK K d.a_READERS [("kind", .ref d.Qq),("voucher", .ref d.Qr),("rule", .ref d.Qs),("back", .ref d.UR),("basket", .ref d.Qt),("ware", .ref d.Qu),("hold", .ref d.Qv)]
 g_LETTERS:mg "LETTERS">>(.str "abcdefghijklmnopqrstuvwxyz" d.tk_LETTERS)
 g_FIGURES:mg "FIGURES">>(.str "0123456789" d.tk_FIGURES)
 g_MOST_LETTERS:mg "MOST_LETTERS">>(.int 12 d.tk_MOST_LETTERS)
 g_MOST_FIGURES:mg "MOST_FIGURES">>(.int 13 d.tk_MOST_FIGURES)
 g_MOST_COINS:mg "MOST_COINS">>(.int 1000000000000 d.tk_MOST_COINS)
 g_KEPT_WORDS:mg "KEPT_WORDS">>(.ref d.a_KEPT_WORDS)
 t_KEPT_WORDS:TupK K d.a_KEPT_WORDS [.str "kind", .str "under", .str "voucher", .str "off", .str "share", .str "line", .str "basket", .str "cheapest", .str "bundle", .str "carriage", .str "of", .str "needs", .str "most", .str "member", .str "once", .str "lone", .str "rule", .str "only", .str "never", .str "ahead", .str "behind", .str "back", .str "again", .str "shares", .str "ware", .str "special", .str "hold", .str "use", .str "best", .str "buy", .str "take", .str "unlike", .str "spill"]
 g_FIRST_WORDS:mg "FIRST_WORDS">>(.ref d.a_FIRST_WORDS)
 t_FIRST_WORDS:TupK K d.a_FIRST_WORDS [.str "kind", .str "voucher", .str "rule", .str "back", .str "basket", .str "never", .str "unlike", .str "spill"]
 g_FIRST_WORDS_OF_A_BASKET:mg "FIRST_WORDS_OF_A_BASKET">>(.ref d.a_FIRST_WORDS_OF_A_BASKET)
 t_FIRST_WORDS_OF_A_BASKET:TupK K d.a_FIRST_WORDS_OF_A_BASKET [.str "ware", .str "hold", .str "use", .str "best", .str "buy", .str "take"]
 g_MOST_USED:mg "MOST_USED">>(.int 8 d.tk_MOST_USED)
 g_QUESTIONS:mg "QUESTIONS">>(.ref d.a_QUESTIONS)
 t_QUESTIONS:TabK K d.a_QUESTIONS [("use", .ref d.qW),("best", .ref d.VG),("buy", .ref d.VH),("take", .ref d.VI),("never", .ref d.VJ),("unlike", .ref d.VL),("spill", .ref d.VM)]
structure WB(K:Mt)(mg:Str->Option Value)(d:D)(base:Heap):Prop extends Wld K mg d where
 blt:BltM mg base
 kin:K.In base
end Vs
namespace Vs
open PySem L2 War Kin Deal
def LineAt(C:Addr)(H:Hp)(x:Addr)(r:Row):Prop:=∃(dx:Addr)(fs:List (Str×V)),H x>>(.ins C dx fs)/\fs.lookup ("kind" :Str)>>(.int r.kd)/\fs.lookup ("price" :Str)>>(.int r.pr)/\fs.lookup ("many" :Str)>>(.int r.mn)/\fs.lookup ("special" :Str)>>(oV r.ex)
abbrev Lines(C:Addr)(H:Hp)(ls:List Addr)(rs:List Row):Prop:=P2 (LineAt C H) ls rs
def BaskAt(C:Addr)(H:Hp)(b l:Addr)(cg:Int)(m:Bool):Prop:=∃(dx:Addr)(fs:List (Str×V)),H b>>(.ins C dx fs)/\fs.lookup ("lines" :Str)>>(.ref l)/\fs.lookup ("carriage" :Str)>>(.int cg)/\fs.lookup ("member" :Str)>>(.bl m)
def StandAt(C:Addr)(H:Hp)(x o p mk:Addr)(cg:Int):Prop:=∃(dx:Addr)(fs:List (Str×V)),H x>>(.ins C dx fs)/\fs.lookup ("owners" :Str)>>(.ref o)/\fs.lookup ("prices" :Str)>>(.ref p)/\fs.lookup ("carriage" :Str)>>(.int cg)/\fs.lookup ("marked" :Str)>>(.ref mk)/\fs.lookup ("whole" :Str)=none
section
variable{C:Addr}{H H':Hp}
theorem LineAt.same{x:Addr}{r:Row}(s:Same H H'):LineAt C H x r->LineAt C H' x r:=by rintro⟨dx,fs,h,q⟩;exact⟨dx,fs,s _ _ h,q⟩
theorem Lines.same{ls:List Addr}{rs:List Row}(s:Same H H')(h:Lines C H ls rs):Lines C H' ls rs:=h.mono fun _ _ q=>q.same s
theorem BaskAt.same{b l:Addr}{cg:Int}{m:Bool}(s:Same H H'):BaskAt C H b l cg m->BaskAt C H' b l cg m:=by rintro⟨dx,fs,h,q⟩;exact⟨dx,fs,s _ _ h,q⟩
theorem StandAt.same{x o p mk:Addr}{cg:Int}(s:Same H H'):StandAt C H x o p mk cg->StandAt C H' x o p mk cg:=by rintro⟨dx,fs,h,q⟩;exact⟨dx,fs,s _ _ h,q⟩
end
section
variable{H:Hp}{hd:Addr}{xs:List V}{o:HO}
end
structure Bask where
 rs:List Row
 cg:Int
 m:Bool
inductive BaskIs(CL CB:Addr)(H:Hp)(b:Addr)(B:Bask):Prop
 |ct(l:Addr)(ls:List Addr)(_:BaskAt CB H b l B.cg B.m)(_:H l>>(.lst (ls.map V.ref)))(_:Lines CL H ls B.rs):BaskIs CL CB H b B
def BaskIs.same{CL CB:Addr}{H H':Hp}{b:Addr}{B:Bask}(s:Same H H'):BaskIs CL CB H b B->BaskIs CL CB H' b B:=fun⟨l,ls,h1,h2,h3⟩=>⟨l,ls,h1.same s,s _ _ h2,h3.same s⟩
noncomputable def iV(k:Nat):V:=.int (k:Int)
inductive StndIs(CS:Addr)(H:Hp)(x:Addr)(S:Stnd):Prop
 |ct(o p mk:Addr)(_:StandAt CS H x o p mk S.cg)(_:H o>>(.lst (S.ow.map iV)))(_:H p>>(.lst (S.pr.map V.int)))(_:H mk>>(.lst (S.mkd.map V.bl))):StndIs CS H x S
def StndIs.same{CS:Addr}{H H':Hp}{x:Addr}{S:Stnd}(s:Same H H'):StndIs CS H x S->StndIs CS H' x S:=fun⟨o,p,mk,h1,h2,h3,h4⟩=>⟨o,p,mk,h1.same s,s _ _ h2,s _ _ h3,s _ _ h4⟩
def kdB(ns:List Nat):(ns.map iV).all flatV=true:=by
 rw[EY]
 intro x hx
 obtain⟨n,_,rfl⟩:=MZ.mp hx
 rfl
noncomputable def ownN(rs:List Row):List Nat:=(rs.zipIdx.map fun p=>My p.1.mn.toNat p.2).flatten
theorem kfW(rs:List Row):(own rs).map V.int=(ownN rs).map iV:=by
 unfold own ownN
 generalize rs.zipIdx=l
 induction l with
 |nil=>rfl
 |cons p l ih=>
  rw[MQ,Ef,MC,ih,MQ,Ef,MC]
  congr 1
  simp[iV]
def km6(rs:List Row){l:Nat}(h:l∈ownN rs):l<rs.length:=by
 unfold ownN at h
 obtain⟨xs,h1,h2⟩:=DZ.mp h
 obtain⟨p,h3,rfl⟩:=MZ.mp h1
 have e:l=p.2:=(List.mem_replicate.mp h2).2
 have q:=List.mem_zipIdx h3
 lia
def kln(rs:List Row)(h:∀r∈rs,r.Ok):(ownN rs).length<=60*rs.length:=by
 have e:(ownN rs).length=(own rs).length:=by
  have:=congrArg Dd (kfW rs)
  simpa using this.symm
 rw[e]
 exact kj2 rs h
noncomputable def pV:Option Nat->V
 |none=>.non
 |some k=>.int (k:Int)
def eq_int(a b:Nat):decide (V.int (a:Int)=V.int (b:Int))=decide (a=b):=by
 by_cases h:a=b
 ·subst h;simp
 ·have:¬(V.int (a:Int)=V.int (b:Int)):=by
   intro e
   injection e with e
   lia
  simp[h,this]
theorem klw{c:Int}{ws:List Int}(h:ws.sum=0):(dl c ws).map V.int=My ws.length (V.int 0):=by
 unfold dl
 rw[if_pos h]
 clear h
 induction ws with
 |nil=>rfl
 |cons w ws ih=>simpa[Et] using ih
def kkb{c:Int}{ws:List Int}(h:¬ws.sum=0):dl c ws=(MG ws.length).map (part c ws):=by
 unfold dl
 rw[if_neg h]
inductive kjw(K:Mt)(vs:List V)(H:Hp)(Q:VK)(E_:XK):Prop
 |ct(c:Int)(a:Addr)(ws:List Int)(_:vs=[.int c, .ref a])(_:SqL K H a (ws.map V.int))(_:Nn ws)(_:ws.sum<2 ^ 100)(_:0<=c)(_:c<2 ^ 64)(_:ws.length<=1000)(_:∀p,H p=none->Q (.ref p) (upd H p (.lst ((dl c ws).map V.int)))):kjw K vs H Q E_
inductive kjc(K:Mt)(vs:List V)(H:Hp)(Q:VK)(E_:XK):Prop
 |ct(a:Addr)(ps:List (Option Nat))(one other:Nat)(_:vs=[.ref a, .int one, .int other])(_:SqL K H a (ps.map pV))(_:Good ps)(_:one<ps.length)(_:Q (.bl (decide (other∈up ps one))) H):kjc K vs H Q E_
inductive kjo(C:Addr)(vs:List V)(H:Hp)(Q:VK)(E_:XK):Prop
 |ct(x dx:Addr)(r:Row)(_:vs=[.ref x, .int r.kd, .int r.pr, .int r.mn,oV r.ex])(_:H x>>(.ins C dx []))(_:∀H',But x H H'->LineAt C H' x r->Q .non H'):kjo C vs H Q E_
inductive kjy(K:Mt)(C:Addr)(vs:List V)(H:Hp)(Q:VK)(E_:XK):Prop
 |ct(x dx l:Addr)(cg:Int)(m:Bool)(xs:List V)(_:vs=[.ref x, .ref l, .int cg, .bl m])(_:H x>>(.ins C dx []))(_:SqL K H l xs)(_:∀(H':Hp)(l':Addr),But x H H'->H l'=none->H' l'>>(.lst xs)->BaskAt C H' x l' cg m->Q .non H'):kjy K C vs H Q E_
inductive kjg(CL:Addr)(vs:List V)(H:Hp)(Q:VK)(E_:XK):Prop
 |ct(x:Addr)(m:Bool)(r:Row)(_:vs=[.ref x, .bl m])(_:LineAt CL H x r)(_:Q (.int (prc m r)) H):kjg CL vs H Q E_
inductive kdF(CL CB CS:Addr)(vs:List V)(H:Hp)(Q:VK)(E_:XK):Prop
 |ct(x dx b l:Addr)(cg:Int)(m:Bool)(ls:List Addr)(rs:List Row)(_:vs=[.ref x, .ref b])(_:H x>>(.ins CS dx []))(_:BaskAt CB H b l cg m)(_:H l>>(.lst (ls.map V.ref)))(_:Lines CL H ls rs)(_:rs.length<=12)(_:(∀r∈rs,r.Ok))(_:∀(H':Hp)(o p mk:Addr),But x H H'->H o=none->H p=none->H mk=none->StandAt CS H' x o p mk cg->H' o>>(.lst ((own rs).map V.int))->H' p>>(.lst ((prs m rs).map V.int))->H' mk>>(.lst (My rs.length (.bl false)))->(∃dx fs,H' x>>(.ins CS dx fs)/\fs.length<=10)->Q .non H'):kdF CL CB CS vs H Q E_
inductive ki9(CS:Addr)(vs:List V)(H:Hp)(Q:VK)(E_:XK):Prop
 |ct(x o p mk:Addr)(cg:Int)(ns:List Int)(_:vs=[.ref x])(_:StandAt CS H x o p mk cg)(_:H p>>(.lst (ns.map V.int)))(_:Q (.int (ns.sum+cg)) H):ki9 CS vs H Q E_
structure S3(H0:Hp)(x C dx:Addr)(fs:List (Str×V))(o p mk:Addr)(a b c:List V)(H:Hp):Prop where
 bt:But x H0 H
 ob:H x>>(.ins C dx fs)
 ho:H o>>(.lst a)
 hp:H p>>(.lst b)
 hm:H mk>>(.lst c)
structure Ds(H0:Hp)(x o p mk:Addr):Prop where
 fo:H0 o=none
 fp:H0 p=none
 fm:H0 mk=none
 ox:o≠x
 px:p≠x
 mx:mk≠x
 op:o≠p
 om:o≠mk
 pm:p≠mk
section
variable{H0 H H':Hp}{x C dx o p mk:Addr}{fs:List (Str×V)}{a b c d:List V}
theorem S3.same(h:S3 H0 x C dx fs o p mk a b c H)(s:Same H H'):S3 H0 x C dx fs o p mk a b c H':=⟨h.bt.same s,s _ _ h.ob,s _ _ h.ho,s _ _ h.hp,s _ _ h.hm⟩
theorem S3.setO(h:S3 H0 x C dx fs o p mk a b c H)(D:Ds H0 x o p mk):S3 H0 x C dx fs o p mk d b c (upd H o (.lst d)):=
 ⟨fun y u n e=>ka9 (h.bt y u n e) fun u' e'=>ev_eq (by rw[kah (kak e D.fo)];exact e') fun t=>kd3 t (kak e D.fo) (nx h.ho),by rw[kah D.ox.symm];exact h.ob,kad,by rw[kah D.op.symm];exact h.hp,by rw[kah D.om.symm];exact h.hm⟩
theorem S3.setP(h:S3 H0 x C dx fs o p mk a b c H)(D:Ds H0 x o p mk):S3 H0 x C dx fs o p mk a d c (upd H p (.lst d)):=
 ⟨fun y u n e=>ka9 (h.bt y u n e) fun u' e'=>ev_eq (by rw[kah (kak e D.fp)];exact e') fun t=>kd3 t (kak e D.fp) (nx h.hp),by rw[kah D.px.symm];exact h.ob,by rw[kah D.op];exact h.ho,kad,by rw[kah D.pm.symm];exact h.hm⟩
theorem S3.setM(h:S3 H0 x C dx fs o p mk a b c H)(D:Ds H0 x o p mk):S3 H0 x C dx fs o p mk a b d (upd H mk (.lst d)):=
 ⟨fun y u n e=>ka9 (h.bt y u n e) fun u' e'=>ev_eq (by rw[kah (kak e D.fm)];exact e') fun t=>kd3 t (kak e D.fm) (nx h.hm),by rw[kah D.mx.symm];exact h.ob,by rw[kah D.om];exact h.ho,by rw[kah D.pm];exact h.hp,kad⟩
end
def MksIs(C:Addr)(H:Hp)(x:Addr)(M:Mks):Prop:=∃(dx:Addr)(fs:List (Str×V)),H x>>(.ins C dx fs)/\fs.lookup ("kind" :Str)>>(pV M.kind)/\fs.lookup ("needs" :Str)>>(.int M.needs)/\fs.lookup ("most" :Str)>>(oV M.most)/\fs.lookup ("member" :Str)>>(.bl M.member)/\fs.lookup ("once" :Str)>>(.bl M.once)/\fs.lookup ("lone" :Str)>>(.bl M.lone)
def MksIs.same{C:Addr}{H H':Hp}{x:Addr}{M:Mks}(s:Same H H'):MksIs C H x M->MksIs C H' x M:=fun⟨dx,fs,h,q⟩=>⟨dx,fs,s _ _ h,q⟩
def SrtIs(fs:List (Str×V)):Srt->Prop
 | .off a=>fs.lookup ("amount" :Str)>>(.int a)
 | .share s b=>fs.lookup ("share" :Str)>>(.int s)/\fs.lookup ("by_line" :Str)>>(.bl b)
 | .cheap n=>fs.lookup ("many" :Str)>>(.int n)
 | .bund n p=>fs.lookup ("many" :Str)>>(.int n)/\fs.lookup ("price" :Str)>>(.int p)
 | .carr=>True
noncomputable def clsOf(d:D):Srt->Addr
 | .off _=>d.c_Off
 | .share _ _=>d.qz
 | .cheap _=>d.qz
 | .bund _ _=>d.qz
 | .carr=>d.qz
noncomputable def here:Srt->Bool
 | .off _=>true
 | .share _ _=>false
 | .cheap _=>false
 | .bund _ _=>false
 | .carr=>false
noncomputable def knq:Srt->Bool
 | .off _=>true
 | .share _ _=>false
 | .cheap _=>false
 | .bund _ _=>false
 | .carr=>false
noncomputable def kbD:Srt->Bool
 | .off _=>false
 | .share _ _=>false
 | .cheap _=>false
 | .bund _ _=>false
 | .carr=>true
def Tbs(d:D)(H:Hp):Prop:=TbAt d.tP_falling_groups H
def Tbs.same{d:D}{H H':Hp}(s:Same H H')(h:Tbs d H):Tbs d H':=s.tb h
inductive VchIs(d:D)(H:Hp)(v:Addr)(V:Vch):Prop
 |ct(mA dx:Addr)(fs:List (Str×L2.V))(_:H v>>(.ins (clsOf d V.so) dx fs))(_:fs.lookup ("marks" :Str)>>(.ref mA))(_:SrtIs fs V.so)(_:MksIs d.qi H mA V.ms)(_:here V.so=true)(_:Tbs d H):VchIs d H v V
def VchIs.same{d:D}{H H':Hp}{v:Addr}{V:Vch}(s:Same H H'):VchIs d H v V->VchIs d H' v V:=fun⟨mA,dx,fs,h1,h2,h3,h4,h5,h6⟩=>⟨mA,dx,fs,s _ _ h1,h2,h3,h4.same s,h5,h6.same s⟩
noncomputable def kds(B:Bask):List Nat:=B.rs.map fun r=>r.kd.toNat
structure Wf(ps:List (Option Nat))(B:Bask)(S:Stnd):Prop where
 good:Good ps
 pl:ps.length<=20
 kd:∀r∈B.rs,0<=r.kd/\r.kd<(ps.length:Int)
 ok:∀r∈B.rs,r.Ok
 nl:B.rs.length<=12
 bc:0<=B.cg/\B.cg<=1000000000000
 ow:S.ow=ownN B.rs
 lp:S.pr.length=S.ow.length
 lm:S.mkd.length=B.rs.length
 pr:∀z∈S.pr,0<=z/\z<=1000000000000
 cg:0<=S.cg/\S.cg<=1000000000000
 n64:S.ow.length<64
def Wf.np{ps:List (Option Nat)}{B:Bask}{S:Stnd}(W:Wf ps B S):S.ow.length<=720:=by
 have:=kln B.rs W.ok
 have:=W.nl
 rw[W.ow]
 lia
def Wf.line{ps:List (Option Nat)}{B:Bask}{S:Stnd}(W:Wf ps B S){i l:Nat}(h:S.ow[i]?>>l):l<B.rs.length:=by
 have hm:=MK h
 rw[W.ow] at hm
 exact km6 _ hm
structure MksOk(ps:List (Option Nat))(M:Mks):Prop where
 kind:∀k,M.kind>>k->k<ps.length
 needs:0<=M.needs/\M.needs<=1000000000000
 most:∀m,M.most>>m->0<=m/\m<=1000000000000
noncomputable def mks0:Mks:=⟨none,0,none,false,false,false⟩
noncomputable def ki8:Srt->List V
 | .off a=>[.int a]
 | .share s b=>[.int s, .bl b]
 | .cheap n=>[.int n]
 | .bund n p=>[.int n, .int p]
 | .carr=>[]
def Mrk(CM:Addr)(H:Hp)(mv:V)(H':Hp)(mA:Addr):Prop:=mv=.ref mA∨(mv=.non/\H mA=none/\MksIs CM H' mA mks0)
def MksIs.but{C x mA:Addr}{H H':Hp}{M:Mks}(n:mA≠x)(b:But x H H'):MksIs C H mA M->MksIs C H' mA M:=fun⟨dx,fs,h,q⟩=>⟨dx,fs,b _ _ n h,q⟩
theorem Mrk.but{CM x mA:Addr}{H H1 H2:Hp}{mv:V}{o:HO}(hx:H x>>o)(b:But x H1 H2):Mrk CM H mv H1 mA->Mrk CM H mv H2 mA
 | .inl e=>.inl e
 | .inr ⟨e,f,h⟩=>.inr ⟨e,f,h.but (kak hx f).symm b⟩
inductive kfG(C:Addr)(vs:List V)(H:Hp)(Q:VK)(E_:XK):Prop
 |ct(x dx:Addr)(M:Mks)(_:vs=[.ref x,pV M.kind, .int M.needs,oV M.most, .bl M.member, .bl M.once, .bl M.lone])(_:H x>>(.ins C dx []))(_:∀H',But x H H'->MksIs C H' x M->Q .non H'):kfG C vs H Q E_
inductive kfg(K:Mt)(CM:Addr)(vs:List V)(H:Hp)(Q:VK)(E_:XK):Prop
 |ct(x C dx:Addr)(fs:List (Str×V))(mv:V)(_:vs=[.ref x,mv])(_:H x>>(.ins C dx fs))(_:Cls K C)(_:NoAttr K C "marks")(_:fs.length<=5)(_:(mv=.non∨∃mA,mv=.ref mA))(_:∀(H':Hp)(mA:Addr),But x H H'->Mrk CM H mv H' mA->H' x>>(.ins C dx (putF "marks" (.ref mA) fs))->Q .non H'):kfg K CM vs H Q E_
inductive kje(C CM:Addr)(is:Srt->Prop)(vs:List V)(H:Hp)(Q:VK)(E_:XK):Prop
 |ct(x dx:Addr)(so:Srt)(mv:V)(_:is so)(_:vs=.ref x::(ki8 so++[mv]))(_:H x>>(.ins C dx []))(_:(mv=.non∨∃mA,mv=.ref mA))(_:∀(H':Hp)(mA:Addr)(fs:List (Str×V)),But x H H'->Mrk CM H mv H' mA->H' x>>(.ins C dx fs)->fs.lookup ("marks" :Str)>>(.ref mA)->SrtIs fs so->Q .non H'):kje C CM is vs H Q E_
theorem kij{C:Addr}{H:Hp}{M:Mks}{R:Addr->Hp->Prop}{E:XK}(k:∀(H':Hp)(x:Addr),Same H H'->H x=none->MksIs C H' x M->R x H'):
  ∀x dx,H x=none->H dx=none->dx≠x->kfG C [.ref x,pV M.kind, .int M.needs,oV M.most, .bl M.member, .bl M.once, .bl M.lone] (upd (upd H dx (.own x)) x (.ins C dx [])) (fun v H2=>v=.non/\R x H2) E:=
 fun x dx nx nd _=>⟨x,dx,M,rfl,kad,fun H' b l=>⟨rfl,k H' x (kbd nx nd b) nx l⟩⟩
def sN{t u:TS}{D:Ends}{σ:St}{H:Hp}(h:∀N:St->Hp->Prop,(∀σ' H',u D σ' H'->N σ' H')->t {D with nx:=N} σ H):tSeq t u D σ H:=h (u D) fun _ _ q=>q
theorem klv{CL CB CS:Addr}{H:Hp}{b l:Addr}{cg:Int}{m:Bool}{ls:List Addr}{rs:List Row}{R:Addr->Hp->Prop}{E:XK}(hb:BaskAt CB H b l cg m)(hl:H l>>(.lst (ls.map V.ref)))(hL:Lines CL H ls rs)(hn:rs.length<=12)(hok:∀r∈rs,r.Ok)
  (k:∀(H':Hp)(x o p mk:Addr),Same H H'->H x=none->H o=none->H p=none->H mk=none->StandAt CS H' x o p mk cg->H' o>>(.lst ((own rs).map V.int))->H' p>>(.lst ((prs m rs).map V.int))->H' mk>>(.lst (My rs.length (.bl false)))->R x H'):
  ∀x dx,H x=none->H dx=none->dx≠x->kdF CL CB CS [.ref x, .ref b] (upd (upd H dx (.own x)) x (.ins CS dx [])) (fun v H2=>v=.non/\R x H2) E:=
 fun x dx nx nd _=>⟨x,dx,b,l,cg,m,ls,rs,rfl,kad,hb.same (ka3 nx nd),kcW nx nd hl,hL.same (ka3 nx nd),hn,hok,fun H' o p mk bt n1 n2 n3 S h1 h2 h3 _=>⟨rfl,k H' x o p mk (kbd nx nd bt) nx (kcq n1) (kcq n2) (kcq n3) S h1 h2 h3⟩⟩
structure VchOk(ps:List (Option Nat))(V:Vch):Prop where
 so:SrtOk V.so
 ms:MksOk ps V.ms
noncomputable def stnd0(B:Bask):Stnd:=⟨ownN B.rs,prs B.m B.rs,B.cg,My B.rs.length false⟩
theorem knh{CL CB CS:Addr}{H:Hp}{b:Addr}{B:Bask}{R:Addr->Hp->Prop}{E:XK}(hb:BaskIs CL CB H b B)(hn:B.rs.length<=12)(hok:∀r∈B.rs,r.Ok)(k:∀(H':Hp)(x:Addr),Same H H'->H x=none->StndIs CS H' x (stnd0 B)->R x H'):
  ∀x dx,H x=none->H dx=none->dx≠x->kdF CL CB CS [.ref x, .ref b] (upd (upd H dx (.own x)) x (.ins CS dx [])) (fun v H2=>v=.non/\R x H2) E:=by
 obtain⟨l,ls,h1,h2,h3⟩:=hb
 refine klv h1 h2 h3 hn hok fun H' x o p mk s f1 _ _ _ hS ho hp hm=>k H' x s f1 ⟨o,p,mk,hS,?_,hp,?_⟩
 ·rw[ho,kfW]
  rfl
 ·rw[hm]
  show _>>(HO.lst ((My B.rs.length false).map V.bl))
  rw[List.map_replicate]
def Wf.nn{ps:List (Option Nat)}{B:Bask}{S:Stnd}(W:Wf ps B S):Nn S.pr:=fun z hz=>(W.pr z hz).1
def Wf.after{ps:List (Option Nat)}{B:Bask}{S:Stnd}{V:Vch}(W:Wf ps B S)(O:VchOk ps V):Wf ps B (aftM V ps (kds B) S):=by
 have h:=koo (V:=V) (ps:=ps) (kk:=kds B) W.nn W.cg.1 O.so fun m e=>(O.ms.most m e).1
 rwa[W.good,W.pl,W.kd,W.ok,W.nl,W.bc,W.ow,h.1.1.trans W.lp,by rw[<-W.lm];simp[aftM],fun z hz=>?_,⟨h.2.1,Int.le_trans h.2.2 W.cg.2⟩,W.n64]
 obtain⟨j,e1⟩:=Au.mp hz
 have hj:j<S.pr.length:=by
  rw[<-h.1.1]
  exact(MO.mp e1).1
 have e2:S.pr[j]?>>S.pr[j]:=by simp[hj]
 have b:=h.1.2 j z _ e1 e2
 have c:=W.pr _ (MK e2)
 rwa[b.1,Int.le_trans b.2 c.2]
inductive kjA(K:Mt)(d:D)(vs:List V)(H:Hp)(Q:VK)(E_:XK):Prop
 |ct(v a b x:Addr)(V:Vch)(ps:List (Option Nat))(B:Bask)(S:Stnd)(_:vs=[.ref v, .ref a, .ref b, .ref x])(_:VchIs d H v V)(_:SqL K H a (ps.map pV))(_:BaskIs d.qf d.qh H b B)(_:StndIs d.qd H x S)(_:Wf ps B S)(_:VchOk ps V)(_:∀(H':Hp)(p:Addr),Same H H'->H p=none->H' p>>(.lst ((abt ps (kds B) V.ms.kind V.ms.lone S).map iV))->Q (.ref p) H'):kjA K d vs H Q E_
inductive kl6(K:Mt)(d:D)(vs:List V)(H:Hp)(Q:VK)(E_:XK):Prop
 |ct(v a b x:Addr)(V:Vch)(ps:List (Option Nat))(B:Bask)(S:Stnd)(_:vs=[.ref v, .ref a, .ref b, .ref x])(_:VchIs d H v V)(_:SqL K H a (ps.map pV))(_:BaskIs d.qf d.qh H b B)(_:StndIs d.qd H x S)(_:Wf ps B S)(_:VchOk ps V)(_:∀(H':Hp)(t p:Addr),Same H H'->H t=none->H p=none->H' t>>(.tup [.ref p, .int (cutM V ps (kds B) S).2])->H' p>>(.lst ((cutM V ps (kds B) S).1.map L2.V.int))->Q (.ref t) H'):kl6 K d vs H Q E_
inductive kjz(K:Mt)(d:D)(vs:List V)(H:Hp)(Q:VK)(E_:XK):Prop
 |ct(v a b x:Addr)(V:Vch)(ps:List (Option Nat))(B:Bask)(S:Stnd)(_:vs=[.ref v, .ref a, .ref b, .ref x])(_:VchIs d H v V)(_:SqL K H a (ps.map pV))(_:BaskIs d.qf d.qh H b B)(_:StndIs d.qd H x S)(_:Wf ps B S)(_:VchOk ps V)(_:∀(H':Hp)(x':Addr),Same H H'->H x'=none->StndIs d.qd H' x' (aftM V ps (kds B) S)->Q (.ref x') H'):kjz K d vs H Q E_
theorem cl_of{K:Mt}{mg:Str->Option Value}{d:D}{base:Heap}(W:WB K mg d base):∀{so:Srt},here so=true->Cls K (clsOf d so)
 | .off _,h=>W.c_Off.cl
 | .share _ _,h=>by cases h
 | .cheap _,h=>by cases h
 | .bund _ _,h=>by cases h
 | .carr,h=>by cases h
theorem na_of{K:Mt}{mg:Str->Option Value}{d:D}{base:Heap}(W:WB K mg d base):∀{so:Srt},here so=true->NoAttr K (clsOf d so) "marks"
 | .off _,h=>W.Um
 | .share _ _,h=>by cases h
 | .cheap _,h=>by cases h
 | .bund _ _,h=>by cases h
 | .carr,h=>by cases h
theorem kmf{K:Mt}{mg:Str->Option Value}{d:D}{base:Heap}(W:WB K mg d base):∀{so:Srt},here so=true->Isi K (clsOf d so)
 | .off _,h=>W.c_Off.isi
 | .share _ _,h=>by cases h
 | .cheap _,h=>by cases h
 | .bund _ _,h=>by cases h
 | .carr,h=>by cases h
theorem knj{K:Mt}{mg:Str->Option Value}{d:D}{base:Heap}(W:WB K mg d base):∀{so:Srt},here so=true->En K (.ref (clsOf d so)) (.ref d.c_Off)>>(knq so)
 | .off _,h=>kbi _ _
 | .share _ _,h=>by cases h
 | .cheap _,h=>by cases h
 | .bund _ _,h=>by cases h
 | .carr,h=>by cases h
theorem kgO{K:Mt}{mg:Str->Option Value}{d:D}{base:Heap}(W:WB K mg d base):∀{so:Srt},here so=true->En K (.ref (clsOf d so)) (.ref d.Qw)>>(kbD so)
 | .off _,h=>W.U8
 | .share _ _,h=>by cases h
 | .cheap _,h=>by cases h
 | .bund _ _,h=>by cases h
 | .carr,h=>by cases h
theorem kdR{b:Int}:∀{q:List Int},(∀z∈q,z<=b)->q.sum<=b*q.length
 |[],_=>by simp
 |z::q,h=>by
  have h1:=h z Mx
  have h2:=kdR (q:=q) fun x hx=>h x (MH _ hx)
  rw[List.sum_cons,MV]
  have e:b*((q.length+1:Nat):Int)=b*q.length+b:=by rw[Int.natCast_add,Int.mul_add];simp
  lia
def kl9{ps:List (Option Nat)}{B:Bask}{S:Stnd}(wf:Wf ps B S){ab:List Nat}(hl:ab.length<=720)(hb:∀i∈ab,i<S.pr.length):(qs S.pr ab).sum<=720000000000000:=by
 have h:=kdR (b:=1000000000000) (q:=qs S.pr ab) fun z hz=>by
  obtain⟨i,hi,rfl⟩:=MZ.mp hz
  obtain⟨w,ew⟩:=at_of (hb i hi)
  rw[M9,ew]
  exact(wf.pr w (MK ew)).2
 rw[kfk] at h
 lia
def kno(xs:List V)(i k:Nat):cutV xs (some (i:Int)) (some ((i+k:Nat):Int))=(xs.drop i).take k:=by
 unfold cutV
 rw[HT.sIx_nat,HT.sIx_nat]
 by_cases h:i<=xs.length
 ·rw[Du h,List.take_eq_take_iff,List.length_drop]
  lia
 ·rw[Av (by lia),Av (by lia)]
  simp
def knf{d:D}{H:Hp}{so:Srt}{is:Srt->Prop}{R:Addr->Hp->Prop}{E:XK}(hi:is so)(hh:here so=true)(k:∀(H':Hp)(x:Addr),Same H H'->H x=none->VchIs d H' x ⟨so,mks0⟩->R x H')(htb:Tbs d H:=by assumption):
  ∀x dx,H x=none->H dx=none->dx≠x->kje (clsOf d so) d.qi is (.ref x::(ki8 so++[.non])) (upd (upd H dx (.own x)) x (.ins (clsOf d so) dx [])) (fun v H2=>v=.non/\R x H2) E:=
 fun x dx nx nd _=>⟨x,dx,so, .non,hi,rfl,kad, .inl rfl,fun H' mA' fs b hm h1 h2 h3=>by
  rcases hm with e|⟨_,_,hM⟩
  ·cases e
  ·exact⟨rfl,k H' x (kbd nx nd b) nx ⟨mA',dx,fs,h1,h2,h3,hM,hh,htb.same (kbd nx nd b)⟩⟩⟩
def khU{H0 H1 H2:Hp}{x:Addr}(f:H0 x=none)(s:Same H0 H1)(b:But x H1 H2):Same H0 H2:=fun y u e=>ka9 (s y u e) fun u' e'=>b y u' (kak e f) e'
noncomputable def hindM(V:Vch)(ps:List (Option Nat))(B:Bask)(S:Stnd):L2.V:=
 if(V.ms.member&& !B.m)=true then .str "member" else if(abt ps (kds B) V.ms.kind V.ms.lone S).length=0 then .str "nothing" else if(qs S.pr (abt ps (kds B) V.ms.kind V.ms.lone S)).sum<V.ms.needs then .str "needs" else .non
inductive kl4(K:Mt)(d:D)(vs:List V)(H:Hp)(Q:VK)(E_:XK):Prop
 |ct(v a b x:Addr)(V:Vch)(ps:List (Option Nat))(B:Bask)(S:Stnd)(_:vs=[.ref v, .ref a, .ref b, .ref x])(_:VchIs d H v V)(_:SqL K H a (ps.map pV))(_:BaskIs d.qf d.qh H b B)(_:StndIs d.qd H x S)(_:Wf ps B S)(_:VchOk ps V)(_:∀(H':Hp),Same H H'->Q (hindM V ps B S) H'):kl4 K d vs H Q E_
noncomputable def atM(m:Option Int)(n:Int):Int:=match m with
 |none=>n
 |some m=>min m n
def none_of{H H':Hp}(s:Same H H'){p:Addr}(h:H' p=none):H p=none:=s.free h
def kkH{x:Addr}{H H':Hp}(b:But x H H')(n:H x=none):Same H H':=fun y u e=>b y u (kak e n) e
theorem kka{CL CB CS:Addr}{H:Hp}{b l:Addr}{cg:Int}{m:Bool}{ls:List Addr}{rs:List Row}{R:Addr->Hp->Prop}{E:XK}(hb:BaskAt CB H b l cg m)(hl:H l>>(.lst (ls.map V.ref)))(hL:Lines CL H ls rs)(hn:rs.length<=12)(hok:∀r∈rs,r.Ok)
  (k:∀(H':Hp)(x:Addr),Same H H'->H x=none->∀(dx:Addr)(fs:List (Str×V)),H' x>>(.ins CS dx fs)->fs.length<=10->fs.lookup ("whole" :Str)=none->R x H'):
  ∀x dx,H x=none->H dx=none->dx≠x->kdF CL CB CS [.ref x, .ref b] (upd (upd H dx (.own x)) x (.ins CS dx [])) (fun v H2=>v=.non/\R x H2) E:=
 fun x dx nx nd _=>⟨x,dx,b,l,cg,m,ls,rs,rfl,kad,hb.same (ka3 nx nd),kcW nx nd hl,hL.same (ka3 nx nd),hn,hok,fun H' o p mk bt n1 n2 n3 S h1 h2 h3 fw=>by
  obtain⟨dx',fs,e,hf⟩:=fw
  obtain⟨dx2,fs2,e2,_,_,_,_,hw⟩:=S
  rw[e] at e2
  injection e2 with e2
  injection e2 with _ e3 e4
  subst e4
  exact⟨rfl,k H' x (kbd nx nd bt) nx dx' fs e hf hw⟩⟩
theorem kko{V:Vch}{ps:List (Option Nat)}{kk:List Nat}{S:Stnd}(vo:VchOk ps V):(cutM V ps kk S).2=if kbD V.so=true then atM V.ms.most S.cg else 0:=by
 have hm:=vo.ms.most
 unfold cutM
 simp only
 cases e:V.ms.most with
 |none=>
  unfold cap atM
  simp only
  unfold fee kbD
  cases V.so <;> rfl
 | some m=>
  have h0:=(hm m e).1
  unfold cap atM
  simp only
  cases eso:V.so with
  | carr=>
   have hz:(want .carr S.mkd.length ((abt ps kk V.ms.kind V.ms.lone S).map fun i=>S.ow.getD i 0) (qs S.pr (abt ps kk V.ms.kind V.ms.lone S))).sum=0:=by
    unfold want
    simp
   show(if m<_+S.cg then _ else _:List Int×Int).2=min m S.cg
   rw[hz,Int.zero_add]
   split
   ·show min S.cg m=_
    lia
   ·show S.cg=_
    lia
  | _=>
   show(if m<_+0 then(_,min 0 m) else(_,0):List Int×Int).2=0
   split
   ·show min 0 m=0
    lia
   ·rfl
def kob{B:Bask}{l:Nat}{r:Row}(h:B.rs[l]?>>r):(kds B).getD l 0=r.kd.toNat:=by
 unfold kds
 rw[M9,MN,h]
 rfl
theorem klP{ps:List (Option Nat)}{kk:List Nat}{kind:Option Nat}{lone:Bool}{S:Stnd}{i:Nat}:
  (MG (i+1)).filter (fun i=>hits ps kk kind lone S.mkd (S.ow.getD i 0))=(MG i).filter (fun i=>hits ps kk kind lone S.mkd (S.ow.getD i 0))++(if hits ps kk kind lone S.mkd (S.ow.getD i 0)=true then [i] else []):=by
 rw[EF,EG]
 congr 1
 simp only[EM,E3]
def GrpAt(H H':Hp)(pa:Addr)(t:Addr)(q:Int×List Nat):Prop:=∃ga,H' t>>(.tup [.int q.1, .ref ga])/\H' ga>>(.lst (q.2.map iV))/\(ga=pa∨H ga=none)
inductive khG(d:D)(vs:List V)(H:Hp)(Q:VK)(E_:XK):Prop
 |ct(v x pa:Addr)(V:Vch)(ps:List (Option Nat))(B:Bask)(S:Stnd)(_:vs=[.ref v, .ref x, .ref pa])(_:VchIs d H v V)(_:StndIs d.qd H x S)(_:H pa>>(.lst ((abt ps (kds B) V.ms.kind V.ms.lone S).map iV)))(_:Wf ps B S)(_:VchOk ps V) (_:∀(H':Hp) (p:Addr) (tl:List Addr) (gl:List (Int×List Nat)),Same H H'->H p=none->H' p>>(.lst (tl.map L2.V.ref))->P2 (GrpAt H H' pa) tl gl->(∀c g,(c,g)∈gl->0<=c/\c<=(qs S.pr g).sum/\g.length<=720)->(gl.map Prod.snd).flatten.Nodup->(∀i∈(gl.map Prod.snd).flatten,i<S.pr.length)->gl.length<=720->
  spr S.pr.length (gl.map Prod.snd).flatten (gl.map fun p=>dl p.1 (qs S.pr p.2)).flatten=spr S.pr.length (abt ps (kds B) V.ms.kind V.ms.lone S) (want V.so S.mkd.length ((abt ps (kds B) V.ms.kind V.ms.lone S).map fun i=>S.ow.getD i 0) (qs S.pr (abt ps (kds B) V.ms.kind V.ms.lone S)))->Q (.ref p) H'):khG d vs H Q E_
def ka0{H H':Hp}{p:Addr}{o:HO}(h:upd H p o=H')(f:H p=none):Same H H'/\H' p>>o:=by
 subst h
 rwa[kai f,kad]
theorem But.free{x l:Addr}{H H':Hp}{o:HO}(b:But x H H')(hx:H' x>>o)(h:H' l=none):H l=none:=by
 cases q:H l with
 |none=>rfl
 |some u=>
  obtain⟨o',e'⟩:=kf4 (b l u (kak hx h).symm q)
  rw[e'] at h
  cases h
structure Rul where
 w:Str
 a:Nat
 b:Nat
structure TillD where
 ps:List (Option Nat)
 vs:List Vch
 rs:List Rul
 bk:Str
def RulIs(H:Hp)(a:Addr)(r:Rul):Prop:=H a>>(.tup [.str r.w,iV r.a,iV r.b])
inductive TillIs(d:D)(H:Hp)(t:Addr)(T:TillD):Prop
 |ct(dx:Addr)(fs:List (Str×V))(p vl rl:Addr)(va ra:List Addr)(_:H t>>(.ins d.qg dx fs))(_:fs.lookup ("parents" :Str)>>(.ref p))(_:fs.lookup ("vouchers" :Str)>>(.ref vl))(_:fs.lookup ("rules" :Str)>>(.ref rl))(_:fs.lookup ("back" :Str)>>(.str T.bk))(_:H p>>(.lst (T.ps.map pV)))(_:H vl>>(.lst (va.map V.ref)))(_:P2 (fun a V=>VchIs d H a V) va T.vs)(_:H rl>>(.lst (ra.map V.ref)))(_:P2 (fun a r=>RulIs H a r) ra T.rs):TillIs d H t T
def TillIs.same{d:D}{H H':Hp}{t:Addr}{T:TillD}(s:Same H H'):TillIs d H t T->TillIs d H' t T:=fun⟨dx,fs,p,vl,rl,va,ra,h1,h2,h3,h4,h5,h6,h7,h8,h9,h10⟩=>
 ⟨dx,fs,p,vl,rl,va,ra,s _ _ h1,h2,h3,h4,h5,s _ _ h6,s _ _ h7,h8.mono fun a V h=>h.same s,s _ _ h9,h10.mono fun a r h=>s _ _ h⟩
structure ke8(T:TillD):Prop where
 vs:∀V∈T.vs,VchOk T.ps V
 nv:T.vs.length<=8
inductive WayAt(d:D)(m:Nat)(H:Hp)(w t b x:Addr)(hand:List Int)(used:List Nat):Prop
 |ct(dx:Addr)(fs:List (Str×V))(h u:Addr)(_:H w>>(.ins d.c_Way dx fs))(_:fs.lookup ("till" :Str)>>(.ref t))(_:fs.lookup ("basket" :Str)>>(.ref b))(_:fs.lookup ("hand" :Str)>>(.ref h))(_:fs.lookup ("used" :Str)>>(.ref u))(_:fs.lookup ("standing" :Str)>>(.ref x))(_:fs.lookup ("word_for" :Str)=none)(_:fs.lookup ("behind" :Str)=none)(_:fs.lookup ("is_let_by" :Str)=none)(_:fs.lookup ("followers" :Str)=none)(_:fs.length<=m)(_:H h>>(.lst (hand.map V.int)))(_:H u>>(.lst (used.map iV))):WayAt d m H w t b x hand used
abbrev WayIs(d:D)(H:Hp)(w t b x:Addr)(hand:List Int)(used:List Nat):Prop:=WayAt d 7 H w t b x hand used
def WayAt.most{d:D}{m m':Nat}{H:Hp}{w t b x:Addr}{hand:List Int}{used:List Nat}(hm:m<=m'):WayAt d m H w t b x hand used->WayAt d m' H w t b x hand used:=fun⟨dx,fs,h,u,h1,h2,h3,h4,h5,h6,h7,h8,h9,h10,h11,h12,h13⟩=>
 ⟨dx,fs,h,u,h1,h2,h3,h4,h5,h6,h7,h8,h9,h10,Mz h11 hm,h12,h13⟩
def WayAt.same{d:D}{m:Nat}{H H':Hp}{w t b x:Addr}{hand:List Int}{used:List Nat}(s:Same H H'):WayAt d m H w t b x hand used->WayAt d m H' w t b x hand used:=fun⟨dx,fs,h,u,h1,h2,h3,h4,h5,h6,h7,h8,h9,h10,h11,h12,h13⟩=>
 ⟨dx,fs,h,u,s _ _ h1,h2,h3,h4,h5,h6,h7,h8,h9,h10,h11,s _ _ h12,s _ _ h13⟩
noncomputable def nevR(used:List Nat)(n:Nat)(r:Rul):Bool:=decide (r.w=("never" :Str))&&((decide (r.a=n)&&used.contains r.b)||(decide (r.b=n)&&used.contains r.a))
noncomputable def kfs(rs:List Rul)(used:List Nat)(n:Nat):Bool:=rs.any (nevR used n)
noncomputable def ahdR(used:List Nat)(n:Nat)(r:Rul):Bool:=decide (r.w=("ahead" :Str))&&(decide (r.a=n)&&used.contains r.b)
noncomputable def kfB(rs:List Rul)(used:List Nat)(n:Nat):Bool:=rs.any (ahdR used n)
noncomputable def loneM(order:List Nat)(r:Rul):Bool:=decide (r.w=("only" :Str))&&(order.contains r.a&& !order.contains r.b)
noncomputable def onlyM(rs:List Rul)(order:List Nat):Option Nat:=(rs.find? (loneM order)).map Rul.a
noncomputable def sV:Option Str->V
 |none=>.non
 |some z=>.str z
noncomputable def wordM(V:Vch)(rs:List Rul)(hand:List Int)(used:List Nat)(n:Nat):Option Str:=
 if hand.getD n 0<(used.count n:Int)+1 then some "held" else if(V.ms.once&&used.contains n)=true then some "once" else if kfs rs used n=true then some "never" else if kfB rs used n=true then some "ahead" else none
noncomputable def dueM(V:Vch)(T:TillD)(B:Bask)(hand:List Int)(used:List Nat)(S:Stnd)(n:Nat):L2.V:=match wordM V T.rs hand used n with
 |some z=>.str z
 |none=>hindM V T.ps B S
theorem kcY{n:Nat}:∀(l:List Nat),inV (iV n) (l.map iV)=l.contains n
 |[]=>rfl
 | m::l=>by
  have ih:=kcY (n:=n) l
  unfold inV at ih⊢
  rw[MQ,Es,ih,List.contains_cons]
  congr 1
  show eqV (V.int (m:Int)) (V.int (n:Int))=(n==m)
  by_cases h:n=m
  ·subst h
   simp[eqV]
  ·have h1:¬((m:Int)=(n:Int)):=by lia
   have e2:(n==m)=false:=beq_eq_false_iff_ne.mpr h
   rw[e2]
   simp[eqV,h1]
theorem knp(l:List Nat)(n:Nat):(l.map fun(i:Nat)=>(i:Int)).count (n:Int)=l.count n:=by
 induction l with
 |nil=>rfl
 | cons m l ih=>
  rw[MQ,DQ,DQ,ih]
  congr 1
  by_cases h:m=n
  ·subst h;simp
  ·have h1:¬((m:Int)=(n:Int)):=by lia
   have e1:((m:Int)==(n:Int))=false:=beq_eq_false_iff_ne.mpr h1
   have e2:(m==n)=false:=beq_eq_false_iff_ne.mpr h
   rw[e1,e2]
def kit(a b:Nat):decide (iV a=iV b)=decide (a=b):=by
 by_cases h:a=b
 ·subst h;simp
 ·have n:¬(iV a=iV b):=fun e=>h (by have:=V.int.inj e;lia)
  rw[decide_eq_false h,decide_eq_false n]
def eq_str(a b:Str):decide (V.str a=V.str b)=decide (a=b):=by
 by_cases h:a=b
 ·subst h;simp
 ·have n:¬(V.str a=V.str b):=fun e=>h (V.str.inj e)
  rw[decide_eq_false h,decide_eq_false n]
section
variable{P:Program}{w:World}{K:Mt}{mg:Str->Option Value}{base:Heap}{d:D}
seal PE PS PSs PA PT PC PG PGs PI
abbrev FO{K:Mt}{mg:Str->Option Value}{d:D}{base:Heap}(P:Program)(w:World)(_:WB K mg d base):=FnOk P w K mg base CX0
theorem XJ:kam ["parents","one","other","kind"] ["parents","one","other"] (kaf khe):=by ac_rfl
theorem klp(W:WB K mg d base):FO P w W 1 d.Yi d.Yj ["parents","one","other"] (kjc K):=by
 exists W.VP.F,XJ
 ·obtain⟨a,ps,one,other,rfl,hS,hg,ho,k⟩:=h
  refine⟨_,kac (psl (i:=3) XJ.nd (pv 1))
   (kac (kfQ PassesOwn.never (kav kdy (pv 3) kbg (kaB _))
   (kac (ps_if (kav op_eq (pv 3) (pv 2) (kaB _)) (kag (kao pe_bl)) (kau))
   (kag (psl (i:=3) XJ.nd (pe_ix (r:=rIxL K) kaR (pv 0) (pv 3) (fun _ _=>rfl))))))
   (kag (kao pe_bl))),?_⟩
  rwa[8,?_]
  refine kfD (fun σ H'=>∃o:Option Nat,σ=[some (.ref a),some (.int one),some (.int other),some (pV o)]/\H'=H/\(∀i,o>>i->i<ps.length)/\decide (other∈up ps one)=decide (other∈rest ps o))
   (fun σ _=>match σ with|[_,_,_,some (.int i)]=>i.toNat+1|_=>0) ⟨some one,rfl,rfl,fun i e=>by cases e;exact ho,rfl⟩ ?_ ?_
  ·rintro σ H' ⟨o,rfl,rfl,hb,he⟩
   rwa[8,6,8,?_]
   cases o with
   |none=>
    show if(!decide (V.non=V.non))=true then _ else _
    rw[kmd]
    refine iteF ?_
    show Q (.bl false) _
    have e:decide (other∈up ps one)=false:=by rw[he];simp[Kin.rest]
    rw[e] at k
    exact k
   | some i=>
    show if(!decide (V.int i=V.non))=true then _ else _
    rw[kme]
    refine iteT ?_
    have hi:=hb i rfl
    rwa[8,8,6,8,?_]
    show if decide (V.int i=V.int other)=true then _ else _
    rw[eq_int]
    obtain⟨o,eo⟩:∃o,ps[i]?>>o:=⟨ps[i],by simp[hi]⟩
    refine ite2 (fun h=>?_) (fun h=>?_)
    ·have h':i=other:=of_decide_eq_true h
     subst h'
     have e:decide (i∈up ps one)=true:=by
      rw[he]
      show decide (i∈up ps i)=true
      rw[up_eq hg eo]
      simp
     rw[e] at k
     exact k
    ·have h':¬i=other:=fun z=>h (decide_eq_true z)
     rwa[8,8,a,_,_,pV o,6,6,hS,ka4 (by simp[eo]),?_]
     rwa[⟨o,rfl,rfl,fun j e=>?_,?_⟩,?_]
     ·subst e
      have:=hg i j eo
      lia
     ·rw[he]
      show decide (other∈up ps i)=_
      rw[up_eq hg eo]
      have:¬other=i:=fun z=>h' z.symm
      simp[this]
     ·cases o with
      |none=>exact Nat.succ_pos _
      |some j=>
       have:=hg i j eo
       show((j:Int)).toNat+1<((i:Int)).toNat+1
       lia
  ·rintro σ H' Q' Q'' hq ⟨v,h1,h2,h3⟩
   rwa[v,h1,h2,by obtain⟨b,e,q⟩:=h3;exact⟨b,e,hq _ _ q⟩]
theorem qC:kam ["cut","weights","total","parts","reached","given","weight","share"] ["cut","weights"] (kaf khg):=by ac_rfl
theorem klq(W:WB K mg d base):FO P w W 1 d.Yg d.Yh ["cut","weights"] (kjw K):=by
 exists W.Xg.F,qC
 ·obtain⟨c,a,ws,rfl,hS,hn,hs,hc0,hc1,hl,k⟩:=h
  refine⟨_,kac (psl (i:=2) qC.nd (kap (r:=rSum K) (kdQ rfl) (by rfl) W.B.sum b_sum (kaa (pv 1) kae)))
   (kac (ps_if (kav op_eq (pv 2) kaq (kaB _)) (kag (kao (kbf (N:=["weight"]) (CompScope.plain rfl (by cutsat) (by cutsat) (by cutsat) (nd1 _)) rfl (kaK (K:=K) (pv 1)) (fun _ _ _ _=>pgn (i:=0) (nd1 _)) (fun _ _ _ _=>kaq)))) (kau))
   (kac (psl (i:=3) qC.nd (kaJ kae))
   (kac (psl (i:=4) qC.nd kaq)
   (kac (psl (i:=5) qC.nd kaq)
   (kac (kcF PassesOwn.never rfl (kaK (K:=K) (pv 1)) (pgn (i:=6) qC.nd)
   (kac (knU (i:=4) qC.nd rfl (Or.inl rfl) (pv 6) kod)
   (kac (psl (i:=7) qC.nd (pe_op klo (pe_op kgC (pv 0) (pv 4)) (pv 2)))
   (kac (kay (pe_bm MW M1 M3 kaG (pv 3) (kaa (pe_op kfn (pv 7) (pv 5)) kae)))
   (kag (psl (i:=5) qC.nd (pv 7)))))))
   (kag (kao (pv 3)))))))),?_⟩
  rwa[8,a,ws,6,hS,8,6,8,?_]
  refine ite2 (fun h=>?_) (fun h=>?_)
  ·have h0:ws.sum=0:=by
    have e:V.int ws.sum=V.int 0:=of_decide_eq_true h
    injection e
   rwa[8,a,6,⟨_,hS⟩,kb3 (xs:=ws.map V.int) (fun i σ ys H'=>H'=H/\ys=My i (V.int 0)/\∃v,σ=[v]) ⟨rfl,rfl,none,rfl⟩ ?_ ?_ ?_ ?_]
   ·rw[Mu]
    exact MI (kan hl)
   ·rintro i σ ys H' hi ⟨rfl,rfl,v,rfl⟩
    rwa[hS,by simp]
   ·rintro i x σ ys H' hx ⟨rfl,rfl,v,rfl⟩
    rwa[6,by rw[E4],8]
   ·rintro σ ys H' ⟨rfl,rfl,v,rfl⟩ D hD
    have:=k D hD
    rw[klw h0] at this
    rw[Mu]
    exact this
  ·have h0:¬ws.sum=0:=fun e=>h (by rw[e];simp)
   have hpos:0<ws.sum:=by
    have:=kd4 hn
    lia
   rwa[by decide,fun p hp=>?_]
   have s1:∀o,Same H (upd H p o):=fun o=>kai hp
   refine⟨_,rfl,a,rfl,⟨_,(s1 _).seq hS⟩,kca (K:=K) (a:=a) (xs:=ws.map V.int) (fun i σ H'=>H'=upd H p (.lst (((MG i).map (part c ws)).map V.int))/\
    ∃(v6 v7:Option V),σ=[some (.int c),some (.ref a),some (.int ws.sum),some (.ref p),some (.int (pre ws i)),some (.int (c*pre ws i/ws.sum)),v6,v7])
    ⟨rfl,none,none,by simp[klf];rfl⟩ (fun i σ H' _ ⟨e,_⟩=>by rw[e];exact(s1 _).seq hS) ?_ ?_⟩
   ·rintro i x σ H' hi ⟨rfl,v6,v7,rfl⟩
    have hil:i<(ws.map V.int).length:=(MO.mp hi).1
    rw[Mu] at hil
    obtain⟨z,ez,rfl⟩:∃z,ws[i]?>>z/\x=V.int z:=by
     rw[MN] at hi
     cases e:ws[i]? with
     |none=>rw[e] at hi;cases hi
     |some z=>rw[e] at hi;exact⟨z,rfl,(Option.some.inj hi).symm⟩
    have ep:=kev ez
    rwa[8,8,9,?_]
    rwa[8,8,9, .inl ⟨by lia,by lia⟩,8,9,⟨hpos,by lia⟩,?_]
    rwa[8, .inl ⟨rfl,_,SqL.of kad⟩,8,8,9,p,9,kad,kan (by simp;lia),?_]
    rwa[8,?_,some (.int z),some (.int (c*(pre ws i+z)/ws.sum)),?_]
    ·rw[kmI,EF,MC,MC]
     show upd H p (.lst (_++[V.int (c*(pre ws i+z)/ws.sum-c*pre ws i/ws.sum)]))=upd H p (.lst (_++[V.int (part c ws i)]))
     unfold part
     rw[ep]
    ·rw[ep]
     rfl
   ·rintro σ H' ⟨rfl,v6,v7,rfl⟩
    rwa[8,?_]
    have:=k p hp
    rw[kkb h0] at this
    rw[Mu]
    exact this
theorem kfM:kam ["self","kind","needs","most","member","once","lone"] ["self","kind","needs","most","member","once","lone"] (kaf ka5):=by ac_rfl
theorem kdO(W:WB K mg d base):FO P w W 1 d.ZJ d.qD ["self","kind","needs","most","member","once","lone"] (kfG d.qi):=by
 exists W.Qz.F,kfM
 ·obtain⟨x,dx,M,rfl,hx,k⟩:=h
  refine⟨_,kac (kaA (pv 0) (pv 1) rfl)
   (kac (kaA (pv 0) (pv 2) rfl)
   (kac (kaA (pv 0) (pv 3) rfl)
   (kac (kaA (pv 0) (pv 4) rfl)
   (kac (kaA (pv 0) (pv 5) rfl)
   (kag (kaA (pv 0) (pv 6) rfl)))))),?_⟩
  rwa[8,8,x,d.qi,dx,[],6,hx,W.qi.cl,W.Qy,by decide,?_]
  rwa[8,8,x,d.qi,dx,8,kad,W.qi.cl,W.Ui,few (Mz (kal (n:=0) (Mv _)) (by decide)),?_]
  rwa[8,8,x,d.qi,dx,8,kad,W.qi.cl,W.Xu,few (Mz (kal (kal (n:=0) (Mv _))) (by decide)),?_]
  rwa[8,8,x,d.qi,dx,8,kad,W.qi.cl,W.Uj,few (Mz (kal (kal (kal (n:=0) (Mv _)))) (by decide)),?_]
  rwa[8,8,x,d.qi,dx,8,kad,W.qi.cl,W.Uk,few (Mz (kal (kal (kal (kal (n:=0) (Mv _))))) (by decide)),?_]
  rwa[8,8,x,d.qi,dx,8,kad,W.qi.cl,W.Xv,few (Mz (kal (kal (kal (kal (kal (n:=0) (Mv _)))))) (by decide)),?_]
  refine k _ (But.trans (But.trans (But.trans (But.trans (But.trans kax kax) kax) kax) kax) kax) ⟨dx,_,kad,?_,?_,?_,?_,?_,?_⟩ <;> ac_nf
theorem keF:kam ["self","marks"] ["self","marks"] (kaf kaS):=by ac_rfl
theorem keV(W:WB K mg d base):FO P w W 3 d.Q2 d.Q3 ["self","marks"] (kfg K d.qi):=by
 exists W.Xw.F,keF
 ·obtain⟨x,C,dx,fs,mv,rfl,hx,hC,hN,hl,hm,k⟩:=h
  exists XM,kdO,W
  rwa[_,kag (kaA (pv 0) (kfU (kav kfo (pv 1) kbg (kaB _)) (kh5 (W.Qz.mk' W.qi) XM hr rfl W.qi.m W.b6_Marks_init (show Vals [.non, .int 0, .non, .bl false, .bl false, .bl false] [.none, .int 0 d.tok1_Marks_init, .none, .bool false, .bool false, .bool false] from(.cons rfl (.cons ⟨_,rfl⟩ (.cons rfl (.cons rfl (.cons rfl (.cons rfl .nil))))))) pass0) (pv 1)) rfl),?_]
  rcases hm with rfl|⟨mA,rfl⟩
  ·rwa[8,6,8,iteT ?_]
   refine kij (M:=mks0) fun H1 mA s1 f1 hM=>?_
   rwa[8,x,C,dx,fs,6,s1 _ _ hx,hC,hN,by lia,?_]
   have hne:mA≠x:=(kak hx f1).symm
   refine k _ mA ((But.of_same s1).trans (kax (nx (s1 _ _ hx)))) (.inr ⟨rfl,f1,?_⟩) kad
   exact hM.but hne (kax (nx (s1 _ _ hx)))
  ·rwa[8,6,8,iteF ?_]
   rwa[8,8,x,C,dx,fs,6,hx,hC,hN,by lia,?_]
   exact k _ mA kax (.inl rfl) kad
theorem khd:kam ["self","amount","marks"] ["self","amount","marks"] (kaf kbn):=by ac_rfl
theorem keW(W:WB K mg d base):FO P w W 4 d.ZK d.Q4 ["self","amount","marks"] (kje d.c_Off d.qi (fun so=>∃(a:Int),so=.off a)):=by
 refine FunD.ok W.QA.F khd (fun vs H Q E h=>?_) (fun cdv A outer s H vs Q E hr h=>?_)
 ·obtain⟨x,dx,so,mv,⟨a,rfl⟩,rfl,_⟩:=h
  rfl
 ·obtain⟨x,dx,so,mv,⟨a,rfl⟩,rfl,hx,hm,k⟩:=h
  exists U9,keV,W
  refine⟨_,kac (kay (kjZ W.U6 U9 hr rfl W.qz.m W.Xw.F.kp W.Xw.b .nil pass0 (kaa (pv 0) (kaa (pv 2) kae))))
   (kag (kaA (pv 0) (pv 1) rfl)),?_⟩
  rwa[8,8,x,d.c_Off,dx,[],mv,6,hx,W.c_Off.cl,W.Um,by decide,hm,fun H1 mA b1 hM h1=>?_]
  rwa[8,8,x,d.c_Off,dx,8,h1,W.c_Off.cl,W.Ul,few (Mz (kal (n:=0) (Mv _)) (by decide)),?_]
  refine k _ mA _ (b1.trans kax) ?_ kad ?_ ?_
  ·exact hM.but hx kax
  ·ac_nf
  ·show Er _ _=_
   ac_nf
theorem kgu:kam ["self","kind","price","many","special"] ["self","kind","price","many","special"] (kaf kbb):=by ac_rfl
theorem ked(W:WB K mg d base):FO P w W 1 d.ZO d.Q5 ["self","kind","price","many","special"] (kjo d.qf):=by
 exists W.QC.F,kgu
 ·obtain⟨x,dx,r,rfl,hx,k⟩:=h
  refine⟨_,kac (kaA (pv 0) (pv 1) rfl)
   (kac (kaA (pv 0) (pv 2) rfl)
   (kac (kaA (pv 0) (pv 3) rfl)
   (kag (kaA (pv 0) (pv 4) rfl)))),?_⟩
  rwa[8,8,x,d.qf,dx,[],6,hx,W.qf.cl,W.Uo,by decide,?_]
  rwa[8,8,x,d.qf,dx,8,kad,W.qf.cl,W.Xx,few (Mz (kal (n:=0) (Mv _)) (by decide)),?_]
  rwa[8,8,x,d.qf,dx,8,kad,W.qf.cl,W.QB,few (Mz (kal (kal (n:=0) (Mv _))) (by decide)),?_]
  rwa[8,8,x,d.qf,dx,8,kad,W.qf.cl,W.Xy,few (Mz (kal (kal (kal (n:=0) (Mv _)))) (by decide)),?_]
  refine k _ (But.trans (But.trans (But.trans kax kax) kax) kax) ⟨dx,_,kad,?_,?_,?_,?_⟩
  ·rw[kab,if_neg (by cutsat),kab,if_neg (by cutsat),kab,if_neg (by cutsat),kab,if_pos rfl]
  ·rw[kab,if_neg (by cutsat),kab,if_neg (by cutsat),kab,if_pos rfl]
  ·rw[kab,if_neg (by cutsat),kab,if_pos rfl]
  ·rw[kab,if_pos rfl]
theorem kfb:kam ["self","lines","carriage","member"] ["self","lines","carriage","member"] (kaf kaY):=by ac_rfl
theorem kcl(W:WB K mg d base):FO P w W 1 d.ZP d.Qx ["self","lines","carriage","member"] (kjy K d.qh):=by
 exists W.qN.F,kfb
 ·obtain⟨x,dx,l,cg,m,xs,rfl,hx,hl,k⟩:=h
  refine⟨_,kac (kaA (pv 0) (kaZ (r:=kbW K) kaU (by rfl) W.B.list kcr (kaa (pv 1) kae)) rfl)
   (kac (kaA (pv 0) (pv 2) rfl)
   (kag (kaA (pv 0) (pv 3) rfl))),?_⟩
  rwa[8,l,8, .inl hl,fun l' hl'=>?_]
  have s1:=kai (o:=.lst xs) hl'
  have nlx:l'≠x:=fun e=>by
   rw[e,hx] at hl'
   cases hl'
  rwa[8,x,d.qh,dx,[],6,s1 _ _ hx,W.qh.cl,W.QD,by decide,?_]
  rwa[8,8,x,d.qh,dx,8,kad,W.qh.cl,W.Xz,few (Mz (kal (n:=0) (Mv _)) (by decide)),?_]
  rwa[8,8,x,d.qh,dx,8,kad,W.qh.cl,W.QE,few (Mz (kal (kal (n:=0) (Mv _))) (by decide)),?_]
  refine k _ l' ((((But.of_same s1).trans kax).trans kax).trans kax) hl' ?_ ⟨dx,_,kad,?_,?_,?_⟩
  ·rw[kah nlx,kah nlx,kah nlx,kad]
  ·rw[kab,if_neg (by cutsat),kab,if_neg (by cutsat),kab,if_pos rfl]
  ·rw[kab,if_neg (by cutsat),kab,if_pos rfl]
  ·rw[kab,if_pos rfl]
theorem kdT:kam ["line","member"] ["line","member"] (kaf kbE):=by ac_rfl
theorem kd0(W:WB K mg d base):FO P w W 1 d.Yk d.Yl ["line","member"] (kjg d.qf):=by
 exists W.VQ.F,kdT
 ·obtain⟨x,m,r,rfl,⟨dx,fs,hx,lk,lp,lm,ls⟩,k⟩:=h
  refine⟨_,kac (ps_if (PW.pt (kcn (kaX (pv 1)) (kbX (kav kdy (kaj (K:=K) (pv 0) rfl) kbg (kaB _))))) (kag (kao (kaj (K:=K) (pv 0) rfl))) (kau))
   (kag (kao (kaj (K:=K) (pv 0) rfl))),?_⟩
  rwa[8,m,6,?_]
  cases m with
  |false=>
   refine iteF (iteF ⟨_,rfl,x,d.qf,dx,fs,_,rfl,hx,W.qf.cl,W.Xx,lp,?_⟩)
   exact k
  | true=>
   refine iteT ⟨_,rfl,x,d.qf,dx,fs,_,rfl,hx,W.qf.cl,W.Xy,ls,rfl,_,rfl,?_⟩
   cases e:r.ex with
   | none=>
    rw[e] at ls
    show if(!decide (V.non=V.non))=true then _ else _
    rw[show(!decide (V.non=V.non))=false by simp]
    refine iteF ⟨_,rfl,x,d.qf,dx,fs,_,rfl,hx,W.qf.cl,W.Xx,lp,?_⟩
    have ep:prc true r=r.pr:=by
     unfold prc
     rw[if_pos rfl,e]
     rfl
    rw[ep] at k
    exact k
   | some z=>
    rw[e] at ls
    show if(!decide (V.int z=V.non))=true then _ else _
    rw[show(!decide (V.int z=V.non))=true by simp]
    refine iteT ⟨_,rfl,x,d.qf,dx,fs,_,rfl,hx,W.qf.cl,W.Xy,ls,?_⟩
    have ep:prc true r=z:=by
     unfold prc
     rw[if_pos rfl,e]
     rfl
    rw[ep] at k
    exact k
theorem QQ:kam ["self","basket","number","line","price"] ["self","basket"] (kaf kbT):=by ac_rfl
theorem kcH(W:WB K mg d base):FO P w W 2 d.ZQ d.ZR ["self","basket"] (kdF d.qf d.qh d.qd):=by
 exists W.Qd.F,QQ
 ·obtain⟨x,dx,b,l,cg,m,ls,rs,rfl,hx,⟨dxb,fsb,hb,lbl,lbc,lbm⟩,hl,hL,hn,hok,k⟩:=h
  exists Ja,kd0,W
  refine⟨_,kac (kaA (pv 0) (kaJ kae) rfl)
   (kac (kaA (pv 0) (kaJ kae) rfl)
   (kac (kaA (pv 0) (kaj (K:=K) (pv 1) rfl) rfl)
   (kac (kaA (pv 0) (kaJ kae) rfl)
   (kag (kcF PassesOwn.never rfl (kfT rfl W.B.enum (kaa (kaj (K:=K) (pv 1) rfl) kae)) (kbm (K:=K) (n:=2) rfl (kaw (pgn (i:=2) QQ.nd) (kaw (pgn (i:=3) QQ.nd) kbl)))
   (kac (psl (i:=4) QQ.nd (pcl Ja hr W.VQ (kaa (pv 3) (kaa (kaj (K:=K) (pv 1) rfl) kae))))
   (kac (kay (pe_bm MW Aw Ax kgN (kaj (K:=K) (pv 0) rfl) (kaa (pe_op kj4 (kaJ (kaa (pv 2) kae)) (kaj (K:=K) (pv 3) rfl)) kae)))
   (kac (kay (pe_bm MW Aw Ax kgN (kaj (K:=K) (pv 0) rfl) (kaa (pe_op kj4 (kaJ (kaa (pv 4) kae)) (kaj (K:=K) (pv 3) rfl)) kae)))
   (kag (kay (pe_bm MW M1 M3 kaG (kaj (K:=K) (pv 0) rfl) (kaa pe_bl kae)))))))))))),?_⟩
  have nbx:b≠x:=ne_of hb hx (by
   intro z
   injection z with _ _ z
   rw[z] at lbl
   cases lbl)
  have nlx:l≠x:=ne_of hl hx (by intro z;cases z)
  exists Y4
  rwa[by decide,fun o ho=>?_]
  have nox:o≠x:=(kak hx ho).symm
  nomatch x,d.qd,dx,[],6,kai ho _ _ hx,W.qd.cl,W.qO,by decide,?_
  have b1:But x H (upd (upd H o (.lst [])) x (.ins d.qd dx (putF "owners" (.ref o) []))):=(But.of_same (kai ho)).trans kax
  symm
  exists Y4
  rwa[by decide,fun p hp=>?_]
  have npx:p≠x:=fun e=>by
   rw[e,kad] at hp
   cases hp
  have nop:o≠p:=fun e=>by
   rw[<-e,kah nox,kad] at hp
   cases hp
  have hp0:H p=none:=by
   cases e:H p with
   |none=>rfl
   |some u=>
    obtain⟨u',e'⟩:=kf4 (b1 p u npx e)
    rw[e'] at hp
    cases hp
  nomatch x,d.qd,dx,8,kai hp _ _ kad,W.qd.cl,W.qE,few (Mz (kal (n:=0) (Mv _)) (by decide)),?_
  have b2:=(b1.same (kai (o:=.lst []) hp)).trans (kax (o:=.ins d.qd dx (putF "prices" (.ref p) (putF "owners" (.ref o) []))))
  nomatch b,d.qh,dxb,fsb,8,b2 b _ nbx hb,W.qh.cl,W.Xz,lbc,8,x,d.qd,dx,8,kad,W.qd.cl,W.qP,few (Mz (kal (kal (n:=0) (Mv _))) (by decide)),?_
  have b3:=b2.trans (kax (o:=.ins d.qd dx (putF "carriage" (.int cg) (putF "prices" (.ref p) (putF "owners" (.ref o) [])))))
  symm
  exists Y4
  rwa[by decide,fun mk hm=>?_]
  have nmx:mk≠x:=fun e=>by
   rw[e,kad] at hm
   cases hm
  have hm0:H mk=none:=by
   cases e:H mk with
   |none=>rfl
   |some u=>
    obtain⟨u',e'⟩:=kf4 (b3 mk u nmx e)
    rw[e'] at hm
    cases hm
  have nom:o≠mk:=fun e=>by
   rw[<-e,kah nox,kah nox,kah nop,kah nox,kad] at hm
   cases hm
  have npm:p≠mk:=fun e=>by
   rw[<-e,kah npx,kah npx,kad] at hm
   cases hm
  nomatch x,d.qd,dx,8,kai hm _ _ kad,W.qd.cl,W.Qc,few (Mz (kal (kal (kal (n:=0) (Mv _)))) (by decide)),?_
  have b4:=(b3.same (kai (o:=.lst []) hm)).trans (kax (o:=.ins d.qd dx (putF "marked" (.ref mk) (putF "carriage" (.int cg) (putF "prices" (.ref p) (putF "owners" (.ref o) []))))))
  have Di:Ds H x o p mk:=⟨ho,hp0,hm0,nox,npx,nmx,nop,nom,npm⟩
  have Z0:S3 H x d.qd dx (putF "marked" (.ref mk) (putF "carriage" (.int cg) (putF "prices" (.ref p) (putF "owners" (.ref o) [])))) o p mk [] [] [] (upd (upd (upd (upd (upd (upd (upd H o (.lst [])) x (.ins d.qd dx (putF "owners" (.ref o) []))) p (.lst [])) x (.ins d.qd dx (putF "prices" (.ref p) (putF "owners" (.ref o) []))))
    x (.ins d.qd dx (putF "carriage" (.int cg) (putF "prices" (.ref p) (putF "owners" (.ref o) []))))) mk (.lst [])) x (.ins d.qd dx (putF "marked" (.ref mk) (putF "carriage" (.int cg) (putF "prices" (.ref p) (putF "owners" (.ref o) [])))))):=by
   symm
   exists Y6
   rwa[b4,kad,?_,?_,?_]
   ·rw[kah nox,kah nom,kah nox,kah nox,kah nop,kah nox,kad]
   ·rw[kah npx,kah npm,kah npx,kah npx,kad]
   ·rw[kah nmx,kad]
  have l1:(putF "marked" (.ref mk) (putF "carriage" (.int cg) (putF "prices" (.ref p) (putF "owners" (.ref o) [])))).lookup ("owners" :Str)>>(.ref o):=by
   rw[kab,if_neg (by cutsat),kab,if_neg (by cutsat),kab,if_neg (by cutsat),kab,if_pos rfl]
  have l2:(putF "marked" (.ref mk) (putF "carriage" (.int cg) (putF "prices" (.ref p) (putF "owners" (.ref o) [])))).lookup ("prices" :Str)>>(.ref p):=by
   rw[kab,if_neg (by cutsat),kab,if_neg (by cutsat),kab,if_pos rfl]
  have l3:(putF "marked" (.ref mk) (putF "carriage" (.int cg) (putF "prices" (.ref p) (putF "owners" (.ref o) [])))).lookup ("carriage" :Str)>>(.int cg):=by
   rw[kab,if_neg (by cutsat),kab,if_pos rfl]
  have l4:(putF "marked" (.ref mk) (putF "carriage" (.int cg) (putF "prices" (.ref p) (putF "owners" (.ref o) [])))).lookup ("marked" :Str)>>(.ref mk):=by
   rw[kab,if_pos rfl]
  have l5:(putF "marked" (.ref mk) (putF "carriage" (.int cg) (putF "prices" (.ref p) (putF "owners" (.ref o) [])))).lookup ("whole" :Str)=none:=by
   rw[kab,if_neg (by cutsat),kab,if_neg (by cutsat),kab,if_neg (by cutsat),kab,if_neg (by cutsat)]
   rfl
  have lfs:(putF "marked" (.ref mk) (putF "carriage" (.int cg) (putF "prices" (.ref p) (putF "owners" (.ref o) [])))).length<=10:=Mz (kal (kal (kal (kal (n:=0) (Mv _))))) (by decide)
  generalize putF "marked" (.ref mk) (putF "carriage" (.int cg) (putF "prices" (.ref p) (putF "owners" (.ref o) [])))=fs at *
  generalize (upd (upd (upd (upd (upd (upd (upd H o (.lst [])) x (.ins d.qd dx (putF "owners" (.ref o) []))) p (.lst [])) x (.ins d.qd dx (putF "prices" (.ref p) (putF "owners" (.ref o) []))))
    x (.ins d.qd dx (putF "carriage" (.int cg) (putF "prices" (.ref p) (putF "owners" (.ref o) []))))) mk (.lst [])) x (.ins d.qd dx fs))=Hs at *
  symm
  exists Y4
  refine⟨_,rfl,b,d.qh,dxb,fsb,_,rfl,Z0.bt b _ nbx hb,W.qh.cl,W.QD,lbl,l,_,rfl,Z0.bt l _ nlx hl,kiq (xs:=ls.map V.ref) (fun i σ H'=>(∃v2 v3 v4:Option V,σ=[some (.ref x),some (.ref b),v2,v3,v4])/\
   S3 H x d.qd dx fs o p mk ((own (rs.take i)).map V.int) ((prs m (rs.take i)).map V.int) (My i (.bl false)) H') ⟨⟨none,none,none,rfl⟩,Z0⟩ (fun i σ H' _ ⟨_,Z⟩=>Z.bt l _ nlx hl) ?_ ?_⟩
  ·rintro i y t σ H1 hy ⟨⟨v2,v3,v4,rfl⟩,Z⟩ ht
   have hll:=hL.len
   have hil:i<(ls.map V.ref).length:=(MO.mp hy).1
   rw[Mu] at hil
   obtain⟨lx,el,rfl⟩:∃lx,ls[i]?>>lx/\y=V.ref lx:=by
    rw[MN] at hy
    cases e:ls[i]? with
    |none=>rw[e] at hy;cases hy
    |some z=>rw[e] at hy;exact⟨z,rfl,(Option.some.inj hy).symm⟩
   obtain⟨r,er⟩:∃r,rs[i]?>>r:=⟨rs[i]'(by lia),by simp[show i<rs.length by lia]⟩
   have hr':r.Ok:=hok r (MK er)
   obtain⟨dxl,fsl,hlx,lk1,lk2,lk3,lk4⟩:=hL.get el er
   have nlxx:lx≠x:=ne_of hlx hx (by
    intro z
    injection z with _ _ z
    rw[z] at lk1
    cases lk1)
   have hmn0:=hr'.mn0
   have hmn1:=hr'.mn1
   have Z1:=Z.same (kai (o:=.tup [.int (i:Nat),V.ref lx]) ht)
   have lo1:((own (rs.take i)).map V.int).length<=720:=by
    rw[Mu]
    have:=kj2 (rs.take i) fun r hr=>hok r (List.mem_of_mem_take hr)
    rw[MU] at this
    lia
   have lp1:((prs m (rs.take i)).map V.int).length<=720:=by
    rw[Mu]
    have:=kjQ m (rs.take i) fun r hr=>hok r (List.mem_of_mem_take hr)
    rw[MU] at this
    lia
   symm
   exists Y6
   rwa[t,8,SqT.of kad,6,_,8,9,?_]
   nofun
   exists Y6
   rwa[8,8,b,d.qh,dxb,fsb,8,Z1.bt b _ nbx hb,W.qh.cl,W.QE,lbm,lx,m,r,6,⟨dxl,fsl,Z1.bt lx _ nlxx hlx,lk1,lk2,lk3,lk4⟩,?_]
   nofun
   exists Y6
   rwa[8,x,d.qd,dx,fs,8,Z1.ob,W.qd.cl,W.qO,l1, .inl ⟨rfl,_,SqL.of Z1.ho⟩,8,(by show 1<=sizeLine;decide),fun t1 ht1=>?_]
   have Z2:=Z1.same (kai (o:=.lst [V.int (i:Nat)]) ht1)
   nofun
   exists Y6
   rwa[8,lx,d.qf,dxl,fsl,8,Z2.bt lx _ nlxx hlx,W.qf.cl,W.QB,lk3,t1,9,kad,by lia,by lia,MI (kan (by simp;lia)),fun t2 ht2=>?_]
   have Z3:=Z2.same (kai (o:=.lst (My r.mn.toNat [V.int (i:Nat)]).flatten) ht2)
   nofun
   exists Y6
   rwa[o,t2,9,Z3.ho,kad,MI (kan (by rw[rep1,EB];lia)),?_]
   have Z4:=Z3.setO (d:=(own (rs.take i)).map V.int++(My r.mn.toNat [V.int (i:Nat)]).flatten) Di
   nofun
   exists Y6
   rwa[8,x,d.qd,dx,fs,8,Z4.ob,W.qd.cl,W.qE,l2, .inl ⟨rfl,_,SqL.of Z4.hp⟩,8,(by show 1<=sizeLine;decide),fun t3 ht3=>?_]
   have Z5:=Z4.same (kai (o:=.lst [V.int (prc m r)]) ht3)
   nofun
   exists Y6
   rwa[8,lx,d.qf,dxl,fsl,8,Z5.bt lx _ nlxx hlx,W.qf.cl,W.QB,lk3,t3,9,kad,by lia,by lia,MI (kan (by simp;lia)),fun t4 ht4=>?_]
   have Z6:=Z5.same (kai (o:=.lst (My r.mn.toNat [V.int (prc m r)]).flatten) ht4)
   nofun
   exists Y6
   rwa[p,t4,9,Z6.hp,kad,MI (kan (by rw[rep1,EB];lia)),?_]
   have Z7:=Z6.setP (d:=(prs m (rs.take i)).map V.int++(My r.mn.toNat [V.int (prc m r)]).flatten) Di
   nofun
   exists Y6
   rwa[8,x,d.qd,dx,fs,8,Z7.ob,W.qd.cl,W.Qc,l4, .inl ⟨rfl,_,SqL.of Z7.hm⟩,mk,9,Z7.hm,kan (by simp;lia),?_]
   have Z8:=Z7.setM (d:=My i (V.bl false)++[V.bl false]) Di
   nofun
   exists Y6
   rwa[⟨_,_,_,rfl⟩,?_]
   have e1:(own (rs.take i)).map V.int++(My r.mn.toNat [V.int (i:Nat)]).flatten=(own (rs.take (i+1))).map V.int:=by
    rw[take_snoc er,klm,MC,rep1,kjH,MU,Du (by lia)]
   have e2:(prs m (rs.take i)).map V.int++(My r.mn.toNat [V.int (prc m r)]).flatten=(prs m (rs.take (i+1))).map V.int:=by
    rw[take_snoc er,kld,MC,rep1,kjH]
   have e3:My i (V.bl false)++[V.bl false]=My (i+1) (V.bl false):=by rw[E4]
   rw[<-e1,<-e2,<-e3]
   nofun
   exact Z8
  ·rintro σ H' ⟨⟨v2,v3,v4,rfl⟩,Z⟩
   have hll:=hL.len
   have e:(ls.map V.ref).length=rs.length:=by rw[Mu,hll]
   rw[e,M0] at Z
   nofun
   exact k H' o p mk Z.bt ho hp0 hm0 ⟨dx,fs,Z.ob,l1,l2,l3,l4,l5⟩ Z.ho Z.hp Z.hm ⟨dx,fs,Z.ob,lfs⟩
theorem kdU:kam ["self"] ["self"] (kaf kbG):=by ac_rfl
theorem kd1(W:WB K mg d base):FO P w W 1 d.ZS d.ZT ["self"] (ki9 d.qd):=by
 exists W.XA.F,kdU
 ·obtain⟨x,o,p,mk,cg,ns,rfl,⟨dx,fs,hx,l1,l2,l3,l4,l5⟩,hp,k⟩:=h
  rwa[_,kag (kao (pe_op kbC (kap (r:=rSum K) (kdQ rfl) (by rfl) W.B.sum b_sum (kaa (kaj (K:=K) (pv 0) rfl) kae)) (kaj (K:=K) (pv 0) rfl))),?_]
  rwa[8,x,d.qd,dx,fs,8,hx,W.qd.cl,W.qE,l2,p,ns,6,SqL.of hp,8,x,d.qd,dx,fs,8,hx,W.qd.cl,W.qP,l3,9,k]
inductive kl5(K:Mt)(CM:Addr)(vs:List V)(H:Hp)(Q:VK)(E_:XK):Prop
 |ct(mA a:Addr)(M:Mks)(ps:List (Option Nat))(kn:Nat)(mk:Bool)(_:vs=[.ref mA, .ref a, .int kn, .bl mk])(_:MksIs CM H mA M)(_:SqL K H a (ps.map pV))(_:Good ps)(_:kn<ps.length)(_:Q (.bl (kHit ps M.kind kn&&(!M.lone|| !mk))) H):kl5 K CM vs H Q E_
theorem kmS:kam ["marks","parents","kind","marked"] ["marks","parents","kind","marked"] (kaf kjC):=by ac_rfl
theorem km8(W:WB K mg d base):FO P w W 2 d.Yo d.Yp ["marks","parents","kind","marked"] (kl5 K d.qi):=by
 exists W.VR.F,kmS
 ·obtain⟨mA,a,M,ps,kn,mk,rfl,⟨dx,fs,hm,l1,l2,l3,l4,l5,l6⟩,hS,hg,hk,k⟩:=h
  exists Jb,klp,W
  refine⟨_,kac (kma (ps_if (PW.pt (kcn (kaX (kaj (K:=K) (pv 0) rfl)) (kbX (kaX (pv 3))))) (kag (kao pe_bl)) (kau)))
   (kag (kao (pe_or (kbJ kfo (kaj (K:=K) (pv 0) rfl) kbg (kaB _)) (kd5 (pcl Jb hr W.VP (kaa (pv 1) (kaa (pv 2) (kaa (kaj (K:=K) (pv 0) rfl) kae)))))))),?_⟩
  rwa[fun σ' H'=>σ'=[some (.ref mA),some (.ref a),some (.int kn),some (.bl mk)]/\H'=H/\(!M.lone|| !mk)=true,⟨_,rfl,mA,d.qi,dx,fs,_,rfl,hm,W.qi.cl,W.Xv,l6,M.lone,rfl,?_⟩,?_]
  ·cases e:M.lone with
   |false=>exact iteF (iteF ⟨rfl,rfl,rfl⟩)
   | true=>
    refine iteT ⟨_,rfl,mk,rfl,?_⟩
    cases mk with
    |false=>exact iteF ⟨rfl,rfl,rfl⟩
    |true=>
     refine iteT ?_
     rw[e,show(kHit ps M.kind kn&&(!true|| !true))=false by simp] at k
     exact k
  ·rintro σ' H' ⟨rfl,rfl,hh⟩
   rw[hh,Bool.and_true] at k
   cases ek:M.kind with
   |none=>
    rw[ek] at l1 k
    rwa[8,mA,d.qi,dx,fs,8,hm,W.qi.cl,W.Qy,l1,6,8,?_]
    show if decide (V.non=V.non)=true then _ else _
    rw[show decide (V.non=V.non)=true by simp]
    exact iteT k
   |some kk=>
    rw[ek] at l1 k
    rwa[8,mA,d.qi,dx,fs,8,hm,W.qi.cl,W.Qy,l1,6,8,?_]
    show if decide (V.int (kk:Nat)=V.non)=true then _ else _
    rw[show decide (V.int (kk:Nat)=V.non)=false by simp]
    exact iteF ⟨_,rfl,_,rfl,_,rfl,mA,d.qi,dx,fs,_,rfl,hm,W.qi.cl,W.Qy,l1,a,ps,kn,kk,rfl,hS,hg,hk,k⟩
theorem Ux:kam ["voucher","parents","basket","standing","fitting"] ["voucher","parents","basket","standing"] (kaf keN):=by ac_rfl
theorem kib(W:WB K mg d base):FO P w W 3 d.Ym d.Yn ["voucher","parents","basket","standing"] (kjA K d):=by
 exists W.Xh.F,Ux
 ·obtain⟨v,a,b,x,Vc,ps,B,S,rfl,hV,hA,hB,hS,wf,vo,k⟩:=h
  obtain⟨mA,dxv,fsv,hv,lvm,_,hM,hh,htb⟩:=id hV
  obtain⟨l,ls,⟨dxb,fsb,hb,lb1,lb2,lb3⟩,hl,hL⟩:=id hB
  obtain⟨o,p,mk,⟨dxs,fss,hx,l1,l2,l3,l4,l5⟩,ho,hp,hmk⟩:=id hS
  exists Jc,km8,W
  refine⟨_,kac (psl (i:=4) Ux.nd (kbf (N:=["line","marked","voucher","parents"]) (CompScope.of (N:=["line","marked","voucher","parents"]) (cap:=[none,none,some 0,some 1]) (kaf keN).names ["voucher","parents","basket","standing","fitting"] rfl rfl (by cutsat)) rfl (kfS rfl W.B.zip (kaa (kaj (K:=K) (pv 2) rfl) (kaa (kaj (K:=K) (pv 3) rfl) kae))) (fun _ _ _ _=>kbm (K:=K) (n:=2) rfl (kaw (pgn (i:=0) (show(["line","marked","voucher","parents"]:List Str).Nodup by cutsat)) (kaw (pgn (i:=1) (show(["line","marked","voucher","parents"]:List Str).Nodup by cutsat)) kbl))) (fun _ _ _ _=>(pcl Jc hr W.VR (kaa (kaj (K:=K) (pv 2) rfl) (kaa (pv 3) (kaa (kaj (K:=K) (pv 0) rfl) (kaa (pv 1) kae))))))))
   (kag (kao (kfV (N:=["piece","owner","fitting"]) (CompScope.of (N:=["piece","owner","fitting"]) (cap:=[none,none,some 4]) (kaf keN).names ["voucher","parents","basket","standing","fitting"] rfl rfl (by cutsat)) rfl (kfT rfl W.B.enum (kaa (kaj (K:=K) (pv 3) rfl) kae)) (fun _ _ _ _=>kbm (K:=K) (n:=2) rfl (kaw (pgn (i:=0) (show(["piece","owner","fitting"]:List Str).Nodup by cutsat)) (kaw (pgn (i:=1) (show(["piece","owner","fitting"]:List Str).Nodup by cutsat)) kbl))) (fun _ _ _ _=>khj (kaX (pe_ix (r:=rIxL K) kaR (pv 2) (pv 1) (fun _ _=>rfl)))) (fun _ _ _ _=>(pv 0))))),?_⟩
  have np:=wf.np
  have nl:=wf.nl
  have lenL:=hL.len
  have lenM:=wf.lm
  have emin:min (ls.map V.ref).length (S.mkd.map V.bl).length=B.rs.length:=by rw[Mu,Mu,lenL,lenM,EL]
  refine⟨_,rfl,b,d.qh,dxb,fsb,_,rfl,hb,W.qh.cl,W.QD,lb1,_,rfl,x,d.qd,dxs,fss,_,rfl,hx,W.qd.cl,W.Qc,l4,l,mk,_,_,rfl,hl,hmk,
   kf5 (xs:=ls.map V.ref) (ys:=S.mkd.map V.bl) (fun i σ zs H'=>Same H H'/\zs=((MG i).map fun l=>hits ps (kds B) Vc.ms.kind Vc.ms.lone S.mkd l).map V.bl/\∃v0 v1:Option V,σ=[v0,v1,some (.ref v),some (.ref a)])
    ⟨Same.refl _,rfl,none,none,rfl⟩ (by rw[emin];exact MI (kan (by lia))) (fun i σ zs H' _ h=>⟨h.1 _ _ hl,h.1 _ _ hmk,by rw[h.2.1];simp⟩) ?_ ?_⟩
  ·rintro i y m t σ zs H1 hy hm ⟨s1,rfl,v0,v1,rfl⟩ ht
   obtain⟨lx,elx,rfl⟩:=kcS hy
   obtain⟨mv,emv,rfl⟩:=kcK hm
   obtain⟨r,er,hr⟩:=hL.at elx
   have s2:=s1.trans (kai (o:=.tup [V.ref lx,V.bl mv]) ht)
   obtain⟨dxl,fsl,hlx,lk1,_⟩:=hr.same s2
   have hkd:=wf.kd r (MK er)
   obtain⟨kn,ekn⟩:=Int.eq_ofNat_of_zero_le hkd.1
   have hkn:kn<ps.length:=by lia
   rwa[t,8,SqT.of kad,6,_,8,9,?_]
   rwa[8,v,clsOf d Vc.so,dxv,fsv,8,s2 _ _ hv,cl_of W hh,na_of W hh,lvm,8,8,lx,d.qf,dxl,fsl,8,hlx,W.qf.cl,W.Uo,lk1,8,mA,a,Vc.ms,ps,kn,mv,by rw[ekn];rfl,hM.same s2,s2.seq hA,wf.good,hkn,s2,?_,_,8]
   have e1:hits ps (kds B) Vc.ms.kind Vc.ms.lone S.mkd i=(kHit ps Vc.ms.kind kn&&(!Vc.ms.lone|| !mv)):=by
    unfold hits
    have e2:S.mkd.getD i false=mv:=by rw[M9,emv];rfl
    rw[e2,kob er,ekn,Int.toNat_natCast]
   rw[EF,MC,MC,<-e1]
   rfl
  rintro σ zs H1 ⟨s1,rfl,v0,v1,rfl⟩ D hD
  rw[emin]
  have s2:=s1.trans (kai (o:=.lst (((MG B.rs.length).map fun l=>hits ps (kds B) Vc.ms.kind Vc.ms.lone S.mkd l).map V.bl)) hD)
  have eD:(upd H1 D (.lst (((MG B.rs.length).map fun l=>hits ps (kds B) Vc.ms.kind Vc.ms.lone S.mkd l).map V.bl))) D>>(.lst (((MG B.rs.length).map fun l=>hits ps (kds B) Vc.ms.kind Vc.ms.lone S.mkd l).map V.bl)):=kad
  generalize upd H1 D (.lst (((MG B.rs.length).map fun l=>hits ps (kds B) Vc.ms.kind Vc.ms.lone S.mkd l).map V.bl))=H2 at *
  refine⟨_,rfl,x,d.qd,dxs,fss,_,rfl,s2 _ _ hx,W.qd.cl,W.qO,l1,o,_,rfl,s2 _ _ ho,
   kiY (xs:=S.ow.map iV) (fun i σ ys H'=>Same H2 H'/\ys=((MG i).filter fun i=>hits ps (kds B) Vc.ms.kind Vc.ms.lone S.mkd (S.ow.getD i 0)).map iV/\∃v0 v1:Option V,σ=[v0,v1,some (.ref D)])
    ⟨Same.refl _,rfl,none,none,rfl⟩ (by rw[Mu];exact MI (kan (by lia))) (fun i σ zs H' _ h=>⟨h.1 _ _ (s2 _ _ ho),by rw[h.2.1,Mu];have:=Do (fun i=>hits ps (kds B) Vc.ms.kind Vc.ms.lone S.mkd (S.ow.getD i 0)) (MG i);simpa using this⟩) ?_ ?_⟩
  ·rintro i y t σ zs H3 hy ⟨s3,rfl,v0,v1,rfl⟩ ht
   obtain⟨ln,eln,rfl⟩:=kcK hy
   have hln:=wf.line eln
   have s4:=s3.trans (kai (o:=.tup [V.int (i:Nat),iV ln]) ht)
   rwa[t,8,SqT.of kad,6,_,8,9,?_]
   rwa[8,8,D,_,9,SqL.of (s4 _ _ eD),ka4 (v:=.bl (hits ps (kds B) Vc.ms.kind Vc.ms.lone S.mkd ln)) (by rw[MN,MN,List.getElem?_range hln];rfl),8,?_]
   have e1:S.ow.getD i 0=ln:=by rw[M9,eln];rfl
   have st:=klP (ps:=ps) (kk:=kds B) (kind:=Vc.ms.kind) (lone:=Vc.ms.lone) (S:=S) (i:=i)
   rw[e1] at st
   cases hh2:hits ps (kds B) Vc.ms.kind Vc.ms.lone S.mkd ln with
   |false=>exact iteF ⟨s4,by rw[st,hh2];simp,_,_,rfl⟩
   |true=>exact iteT ⟨_,rfl,s4,by rw[st,hh2,if_pos rfl,MC];rfl,_,_,rfl⟩
  ·rintro σ zs H3 ⟨s3,rfl,v0,v1,rfl⟩ D2 hD2
   rw[Mu]
   have s4:=(s2.trans s3).trans (kai (o:=.lst ((abt ps (kds B) Vc.ms.kind Vc.ms.lone S).map iV)) hD2)
   exact k _ D2 s4 (none_of (s2.trans s3) hD2) kad
inductive kfh(CS:Addr)(vs:List V)(H:Hp)(Q:VK)(E_:XK):Prop
 |ct(x g:Addr)(S:Stnd)(is:List Nat)(_:vs=[.ref x, .ref g])(_:StndIs CS H x S)(_:H g>>(.lst (is.map iV)))(_:(∀i∈is,i<S.pr.length))(_:is.length<=720)(_:∀p,H p=none->Q (.ref p) (upd H p (.lst ((qs S.pr is).map V.int)))):kfh CS vs H Q E_
theorem kgq:kam ["standing","pieces"] ["standing","pieces"] (kaf kcv):=by ac_rfl
theorem keb(W:WB K mg d base):FO P w W 1 d.YF d.YG ["standing","pieces"] (kfh d.qd):=by
 exists W.Xk.F,kgq
 ·obtain⟨x,g,S,is,rfl,⟨o,p,mk,⟨dxs,fss,hx,l1,l2,l3,l4,l5⟩,ho,hp,hmk⟩,hg,hi,hl,k⟩:=h
  rwa[_,kag (kao (kbf (N:=["piece","standing"]) (CompScope.of (N:=["piece","standing"]) (cap:=[none,some 0]) (kaf kcv).names ["standing","pieces"] rfl rfl (by cutsat)) rfl (kaK (K:=K) (pv 1)) (fun _ _ _ _=>pgn (i:=0) (show(["piece","standing"]:List Str).Nodup by cutsat)) (fun _ _ _ _=>(pe_ix (r:=rIxL K) kaR (kaj (K:=K) (pv 1) rfl) (pv 0) (fun _ _=>rfl))))),?_]
  rwa[8,g,6,⟨_,SqL.of hg⟩,kb3 (xs:=is.map iV) (fun j σ ys H'=>H'=H/\ys=(qs S.pr (is.take j)).map V.int/\∃v,σ=[v,some (.ref x)]) ⟨rfl,rfl,none,rfl⟩ ?_ ?_ ?_ ?_]
  ·rw[Mu]
   exact MI (kan (by lia))
  ·rintro j σ ys H' hj ⟨rfl,rfl,_⟩
   rwa[SqL.of hg,by rw[Mu,kfk,MU];rw[Mu] at hj;lia]
  ·rintro j y σ ys H' hy ⟨rfl,rfl,v,rfl⟩
   obtain⟨n,en,rfl⟩:∃n,is[j]?>>n/\y=iV n:=kcK hy
   obtain⟨z,ez⟩:=at_of (hi n (MK en))
   rwa[8,x,d.qd,dxs,fss,8,hx,W.qd.cl,W.qE,l2,8,p,_,9,SqL.of hp,ka4 (by rw[MN,ez];rfl),6,?_,8]
   rw[EC,en]
   simp[qs,ez]
  ·rintro σ ys H' ⟨rfl,rfl,v,rfl⟩ D hD
   rw[Mu,M0]
   exact k D hD
inductive kjd(CS:Addr)(vs:List V)(H:Hp)(Q:VK)(E_:XK):Prop
 |ct(x g:Addr)(S:Stnd)(is:List Nat)(_:vs=[.ref x, .ref g])(_:StndIs CS H x S)(_:H g>>(.lst (is.map iV)))(_:(∀i∈is,i<S.pr.length))(_:is.length<=720)(_:∀H',Same H H'->Q (.int (qs S.pr is).sum) H'):kjd CS vs H Q E_
theorem kel:kam ["standing","pieces"] ["standing","pieces"] (kaf kbP):=by ac_rfl
theorem kcG(W:WB K mg d base):FO P w W 2 d.YH d.YI ["standing","pieces"] (kjd d.qd):=by
 exists W.qZ.F,kel
 ·obtain⟨x,g,S,is,rfl,hS,hg,hi,hl,k⟩:=h
  exists XO,keb,W
  rwa[_,kag (kao (kap (r:=rSum K) (kdQ rfl) (by rfl) W.B.sum b_sum (kaa (pcl XO hr W.Xk (kaa (pv 0) (kaa (pv 1) kae))) kae))),?_]
  rwa[8,8,x,g,S,is,6,hS,hg,hi,hl,fun p hp=>⟨p,_,rfl,SqL.of kad,k _ (kai hp)⟩]
theorem XQ:kam ["voucher","parents","basket","standing","marks","pieces"] ["voucher","parents","basket","standing"] (kaf kdq):=by ac_rfl
theorem kgF(W:WB K mg d base):FO P w W 4 d.Yq d.Yr ["voucher","parents","basket","standing"] (kl4 K d):=by
 exists W.VS.F,XQ
 ·obtain⟨v,a,b,x,Vc,ps,B,S,rfl,hV,hA,hB,hS,wf,vo,k⟩:=h
  obtain⟨mA,dxv,fsv,hv,lvm,_,hM,hh,htb⟩:=id hV
  obtain⟨dxm,fsm,hm,m1,m2,m3,m4,m5,m6⟩:=id hM
  obtain⟨l,ls,⟨dxb,fsb,hb,lb1,lb2,lb3⟩,hl,hL⟩:=id hB
  exists XR,kib,W
  exists Qk,kcG,W
  have hr2:Room 2 _:=hr.mono (by decide)
  refine⟨_,kac (psl (i:=4) XQ.nd (kaj (K:=K) (pv 0) rfl))
   (kac (kma (ps_if (PW.pt (kcn (kaX (kaj (K:=K) (pv 4) rfl)) (kbX (kfl (kaX (kaj (K:=K) (pv 2) rfl)))))) (kag (kao kat)) (kau)))
   (kac (psl (i:=5) XQ.nd (pcl XR hr W.Xh (kaa (pv 0) (kaa (pv 1) (kaa (pv 2) (kaa (pv 3) kae))))))
   (kac (ps_if (kav op_eq (kap (r:=kaQ K) kas (by rfl) W.B.len b_len (kaa (pv 5) kae)) kaq (kaB _)) (kag (kao kat)) (kau))
   (kac (ps_if (kav op_lt (pcl Qk hr2 W.qZ (kaa (pv 3) (kaa (pv 5) kae))) (kaj (K:=K) (pv 4) rfl) (kaB _)) (kag (kao kat)) (kau))
   (kag (kao kbg)))))),?_⟩
  have np:=wf.np
  have habl:∀i∈abt ps (kds B) Vc.ms.kind Vc.ms.lone S,i<S.pr.length:=fun i hi=>by rw[wf.lp];exact kkN hi
  have lab:(abt ps (kds B) Vc.ms.kind Vc.ms.lone S).length<=720:=Mz (khA _ _ _ _ _) np
  rwa[8,v,clsOf d Vc.so,dxv,fsv,8,hv,cl_of W hh,na_of W hh,lvm,?_]
  rwa[fun σ' H'=>σ'=[some (.ref v),some (.ref a),some (.ref b),some (.ref x),some (.ref mA),none]/\H'=H/\(Vc.ms.member&& !B.m)=false,⟨_,rfl,mA,d.qi,dxm,fsm,_,rfl,hm,W.qi.cl,W.Uj,m4,Vc.ms.member,rfl,?_⟩,?_]
  ·cases e:Vc.ms.member with
   |false=>exact iteF (iteF ⟨rfl,rfl,rfl⟩)
   | true=>
    refine iteT ⟨_,rfl,b,d.qh,dxb,fsb,_,rfl,hb,W.qh.cl,W.QE,lb3,B.m,rfl,?_⟩
    cases e2:B.m with
    |true=>exact iteF ⟨rfl,rfl,rfl⟩
    |false=>
     refine iteT ?_
     have z:=k H (Same.refl _)
     unfold hindM at z
     rw[e,e2,if_pos (by decide)] at z
     exact z
  ·rintro σ' H' ⟨rfl,rfl,hh2⟩
   rwa[8,8,8,8,v,a,b,x,Vc,ps,B,S,6,hV,hA,hB,hS,wf,vo,fun H1 pa s1 f1 h1=>?_]
   rwa[8,pa,8, .inl (SqL.of h1),6,8,?_]
   have ed:decide (V.int (((abt ps (kds B) Vc.ms.kind Vc.ms.lone S).map iV).length:Nat)=V.int 0)=decide ((abt ps (kds B) Vc.ms.kind Vc.ms.lone S).length=0):=by
    rw[Mu]
    by_cases h0:(abt ps (kds B) Vc.ms.kind Vc.ms.lone S).length=0
    ·rw[h0]
     rfl
    ·rw[decide_eq_false h0]
     refine decide_eq_false fun z=>h0 ?_
     injection z with z
     lia
   show if decide (V.int (((abt ps (kds B) Vc.ms.kind Vc.ms.lone S).map iV).length:Nat)=V.int 0)=true then _ else _
   rw[ed]
   by_cases h0:(abt ps (kds B) Vc.ms.kind Vc.ms.lone S).length=0
   ·rw[decide_eq_true h0]
    refine iteT ?_
    have z:=k H1 s1
    unfold hindM at z
    rw[hh2,if_neg (by decide),if_pos h0] at z
    exact z
   ·rw[decide_eq_false h0]
    refine iteF ⟨_,rfl,_,rfl,x,pa,S,_,rfl,hS.same s1,h1,habl,lab,fun H2 s2=>?_⟩
    have z:=k H2 (s1.trans s2)
    unfold hindM at z
    rw[hh2,if_neg (by decide),if_neg h0] at z
    rwa[8,mA,d.qi,dxm,fsm,8,(s1.trans s2) _ _ hm,W.qi.cl,W.Ui,m2,9,8,?_]
    by_cases h2:(qs S.pr (abt ps (kds B) Vc.ms.kind Vc.ms.lone S)).sum<Vc.ms.needs
    ·rw[if_pos h2] at z
     rw[decide_eq_true h2]
     exact iteT z
    ·rw[if_neg h2] at z
     rw[decide_eq_false h2]
     exact iteF z
inductive khR(vs:List V)(H:Hp)(Q:VK)(E_:XK):Prop
 |ct(m:Option Int)(n:Int)(_:vs=[oV m, .int n])(_:Q (.int (atM m n)) H):khR vs H Q E_
theorem kiM:kam ["most","number"] ["most","number"] (kaf keK):=by ac_rfl
theorem kiR(W:WB K mg d base):FO P w W 1 d.YJ d.YK ["most","number"] khR:=by
 exists W.VX.F,kiM
 ·obtain⟨m,n,rfl,k⟩:=h
  refine⟨_,kac (ps_if (kav kfo (pv 0) kbg (kaB _)) (kag (kao (pv 1))) (kau))
   (kag (kao (kap (kgY rfl) (by rfl) W.B.min b_min (kaa (pv 0) (kaa (pv 1) kae))))),?_⟩
  cases m with
  |none=>
   rwa[8,6,8,?_]
   show if decide (V.non=V.non)=true then _ else _
   rw[show decide (V.non=V.non)=true by simp]
   exact iteT ⟨_,rfl,k⟩
  | some z=>
   rwa[8,6,8,?_]
   show if decide (V.int z=V.non)=true then _ else _
   rw[show decide (V.int z=V.non)=false by simp]
   refine iteF ⟨_,rfl,_,rfl,_,_,rfl,?_⟩
   have e:atM (some z) n=if n<z then n else z:=by
    show min z n=_
    split <;> lia
   rw[e] at k
   exact k
inductive kgl(d:D)(vs:List V)(H:Hp)(Q:VK)(E_:XK):Prop
 |ct(v x:Addr)(V:Vch)(S:Stnd)(_:vs=[.ref v, .ref x])(_:VchIs d H v V)(_:StndIs d.qd H x S)(_:Q (.int (if kbD V.so=true then atM V.ms.most S.cg else 0)) H):kgl d vs H Q E_
theorem kdH:kam ["voucher","standing"] ["voucher","standing"] (kaf kbx):=by ac_rfl
theorem kb9(W:WB K mg d base):FO P w W 2 d.Yy d.Yz ["voucher","standing"] (kgl d):=by
 exists W.Xj.F,kdH
 ·obtain⟨v,x,Vc,S,rfl,⟨mA,dxv,fsv,hv,lvm,_,⟨dxm,fsm,hm,m1,m2,m3,m4,m5,m6⟩,hh,htb⟩,⟨o,p,mk,⟨dxs,fss,hx,l1,l2,l3,l4,l5⟩,ho,hp,hmk⟩,k⟩:=h
  exists Jd,kiR,W
  refine⟨_,kac (ps_if (kaX (kap (r:=rIsi K) kaD (by rfl) W.B.isi b_isi (kaa (pv 0) (kaa (kaI (v:=.ref d.Qw) (by rfl) W.UV rfl) kae)))) (kag (kao (pcl Jd hr W.VX (kaa (kaj (K:=K) (kaj (K:=K) (pv 0) rfl) rfl) (kaa (kaj (K:=K) (pv 1) rfl) kae))))) (kau))
   (kag (kao kaq)),?_⟩
  have I:=kmf W hh
  rwa[8,_,_,_,8, .inr ⟨_,rfl⟩,TyOf.ins hv (cl_of W hh) I.ha I.hn I.ht I.hm,kgO W hh,8,?_]
  cases e:kbD Vc.so with
  |false=>
   rw[e,if_neg MD] at k
   exact iteF k
  |true=>
   rw[e,if_pos rfl] at k
   exact iteT ⟨_,rfl,v,clsOf d Vc.so,dxv,fsv,_,rfl,hv,cl_of W hh,na_of W hh,lvm,mA,d.qi,dxm,fsm,_,rfl,hm,W.qi.cl,W.Xu,m3,_,rfl,x,d.qd,dxs,fss,_,rfl,hx,W.qd.cl,W.qP,l3,_,_,rfl,k⟩
theorem QR:kam ["voucher","standing","pieces","groups","lasts"] ["voucher","standing","pieces"] (kaf kbe):=by ac_rfl
theorem kfc(W:WB K mg d base):FO P w W 3 d.YA d.YB ["voucher","standing","pieces"] (khG d):=by
 exists W.VV.F,QR
 ·obtain⟨v,x,pa,⟨so,ms⟩,ps,B,S,rfl,⟨mA,dxv,fsv,hv,lvm,hso,hM,hh,htb⟩,hS,hpa,wf,vo,k⟩:=h
  exists Qk,kcG,W
  refine⟨_,kac (ps_if (kaX (kap (r:=rIsi K) kaD (by rfl) W.B.isi b_isi (kaa (pv 0) (kaa (kaI (v:=.ref d.c_Off) (by rfl) W.g_Off rfl) kae)))) (kag (kao (kaJ (kaa (ka7 (kaa (kap (kgY rfl) (by rfl) W.B.min b_min (kaa (kaj (K:=K) (pv 0) rfl) (kaa (pcl Qk hr W.qZ (kaa (pv 1) (kaa (pv 2) kae))) kae))) (kaa (pv 2) kae))) kae)))) (kau))
   (kac (ps_if (kaX (kap (r:=rIsi K) kaD (by rfl) W.B.isi b_isi (kaa (pv 0) (kaa (kaI (v:=.ref d.ZL) (by rfl) W.US rfl) kae)))) (kac (psl (i:=3) QR.nd (kfU (kaX (kaj (K:=K) (pv 0) rfl)) pe_no (kaJ (kaa (pv 2) kae))))
   (kag (kao (kbf (N:=["group","standing","voucher"]) (CompScope.of (N:=["group","standing","voucher"]) (cap:=[none,some 1,some 0]) (kaf kbe).names ["voucher","standing","pieces","groups","lasts"] rfl rfl (by cutsat)) rfl (kaK (K:=K) (pv 3)) (fun _ _ _ _=>pgn (i:=0) (show(["group","standing","voucher"]:List Str).Nodup by cutsat)) (fun _ _ _ _=>(ka7 (kaa (pe_op kcz (pe_op kgC (pcl Qk hr W.qZ (kaa (pv 1) (kaa (pv 0) kae))) (kaj (K:=K) (pv 2) rfl)) kaq) (kaa (pv 0) kae)))))))) (kau))
   (kac (ps_if (kaX (kap (r:=rIsi K) kaD (by rfl) W.B.isi b_isi (kaa (pv 0) (kaa (kaI (v:=.ref d.ZM) (by rfl) W.UT rfl) kae)))) (kac (keQ (N:=["group"]) (CompScope.plain rfl (by cutsat) (by cutsat) (by cutsat) (nd1 _)) rfl (kaK (K:=K) pe_no) (fun _ _ _ _=>pgn (i:=0) (nd1 _)) (fun _ _ _ _=>(pe_ix (r:=rIxL K) kaR (pv 0) (pe_un kgf kaq) (fun _ _=>rfl))) (pgn (i:=4) QR.nd))
   (kag (kao (kbf (N:=["last","standing"]) (CompScope.of (N:=["last","standing"]) (cap:=[none,some 1]) (kaf kbe).names ["voucher","standing","pieces","groups","lasts"] rfl rfl (by cutsat)) rfl (kaK (K:=K) (pv 4)) (fun _ _ _ _=>pgn (i:=0) (show(["last","standing"]:List Str).Nodup by cutsat)) (fun _ _ _ _=>(ka7 (kaa (pe_ix (r:=rIxL K) kaR (kaj (K:=K) (pv 1) rfl) (pv 0) (fun _ _=>rfl)) (kaa (kaJ (kaa (pv 0) kae)) kae)))))))) (kau))
   (kac (ps_if (kaX (kap (r:=rIsi K) kaD (by rfl) W.B.isi b_isi (kaa (pv 0) (kaa (kaI (v:=.ref d.ZN) (by rfl) W.UU rfl) kae)))) (kac (psl (i:=3) QR.nd pe_no)
   (kag (kao (kbf (N:=["group","standing","voucher"]) (CompScope.of (N:=["group","standing","voucher"]) (cap:=[none,some 1,some 0]) (kaf kbe).names ["voucher","standing","pieces","groups","lasts"] rfl rfl (by cutsat)) rfl (kaK (K:=K) (pv 3)) (fun _ _ _ _=>pgn (i:=0) (show(["group","standing","voucher"]:List Str).Nodup by cutsat)) (fun _ _ _ _=>(ka7 (kaa (kap (kkF rfl) (by rfl) W.B.max b_max (kaa (pe_op kfn (pcl Qk hr W.qZ (kaa (pv 1) (kaa (pv 0) kae))) (kaj (K:=K) (pv 2) rfl)) (kaa kaq kae))) (kaa (pv 0) kae)))))))) (kau))
   (kag (kao (kaJ kae)))))),?_⟩
  have I:=kmf W hh
  exists Y4
  rwa[8,_,_,_,8, .inr ⟨_,rfl⟩,TyOf.ins hv (cl_of W hh) I.ha I.hn I.ht I.hm,knj W hh,8,?_]
  have lp:=wf.lp
  have np:=wf.np
  have habl:∀i∈abt ps (kds B) ms.kind ms.lone S,i<S.pr.length:=fun i hi=>by rw[lp];exact kkN hi
  have hand:=kg5 ps (kds B) ms.kind ms.lone S
  have lab:(abt ps (kds B) ms.kind ms.lone S).length<=720:=Mz (khA _ _ _ _ _) np
  cases so with
  | off am=>
   have qn:=kd4 (qs_nn wf.nn (abt ps (kds B) ms.kind ms.lone S))
   have ha:0<=am/\am<=1000000000000:=vo.so
   refine iteT ?_
   symm
   exists Y6
   rwa[8,v,d.c_Off,dxv,fsv,8,hv,W.c_Off.cl,W.Ul,hso,8,8,x,pa,S,8,hS,hpa,habl,lab,fun H1 s1=>?_]
   nofun
   exists Y6
   rwa[_,8,8,(by show 2<=sizeLine;decide),fun t ht=>⟨(by show 1<=sizeLine;decide),fun l hl=>?_⟩]
   have emin:(if(qs S.pr (abt ps (kds B) ms.kind ms.lone S)).sum<am then(qs S.pr (abt ps (kds B) ms.kind ms.lone S)).sum else am)=min am (qs S.pr (abt ps (kds B) ms.kind ms.lone S)).sum:=by
    split <;> lia
   rw[emin] at hl⊢
   have s2:=s1.trans (kai (o:=.tup [.int (min am (qs S.pr (abt ps (kds B) ms.kind ms.lone S)).sum), .ref pa]) ht)
   have s3:=s2.trans (kai (o:=.lst [.ref t]) hl)
   nofun
   refine k _ l [t] [(min am (qs S.pr (abt ps (kds B) ms.kind ms.lone S)).sum,abt ps (kds B) ms.kind ms.lone S)] s3 (none_of s2 hl) kad (.cons ⟨pa,kai hl _ _ kad,s3 _ _ hpa, .inl rfl⟩ .nil) ?_ ?_ ?_ (by simp) ?_
   ·intro c g hc
    rw[ME] at hc
    cases hc
    nofun
    rwa[by lia,by lia,lab]
   ·simpa using hand
   ·simpa using habl
   ·simp[want]
  |share s e=>cases hh
  |cheap m=>cases hh
  |bund m p=>cases hh
  |carr=>cases hh
inductive kjx(K:Mt)(d:D)(vs:List V)(H:Hp)(Q:VK)(E_:XK):Prop
 |ct(v a b x:Addr)(V:Vch)(ps:List (Option Nat))(B:Bask)(S:Stnd)(_:vs=[.ref v, .ref a, .ref b, .ref x])(_:VchIs d H v V)(_:SqL K H a (ps.map pV))(_:BaskIs d.qf d.qh H b B)(_:StndIs d.qd H x S)(_:Wf ps B S)(_:VchOk ps V)(_:∀(H':Hp)(p:Addr),Same H H'->H p=none->H' p>>(.lst ((cutM V ps (kds B) S).1.map L2.V.int))->Q (.ref p) H'):kjx K d vs H Q E_
theorem qG:kam ["voucher","parents","basket","standing","pieces","wanted","cut","group","piece","part","most"] ["voucher","parents","basket","standing"] (kaf kbF):=by ac_rfl
theorem kcp(W:WB K mg d base):FO P w W 4 d.Yw d.Yx ["voucher","parents","basket","standing"] (kjx K d):=by
 exists W.Xi.F,qG
 ·obtain⟨v,a,b,x,Vc,ps,B,S,rfl,hV,hA,hB,hS,wf,vo,k⟩:=h
  exists XR,kib,W
  exists Je,kfc,W
  exists Uy,klq,W
  exists XO,keb,W
  have hr1:Room 1 _:=hr.mono (by decide)
  refine⟨_,kac (psl (i:=4) qG.nd (pcl XR hr W.Xh (kaa (pv 0) (kaa (pv 1) (kaa (pv 2) (kaa (pv 3) kae))))))
   (kac (keQ (N:=["price"]) (CompScope.plain rfl (by cutsat) (by cutsat) (by cutsat) (nd1 _)) rfl (kaK (K:=K) (kaj (K:=K) (pv 3) rfl)) (fun _ _ _ _=>pgn (i:=0) (nd1 _)) (fun _ _ _ _=>kaq) (pgn (i:=5) qG.nd))
   (kac (kcF PassesOwn.never rfl (kaK (K:=K) (pcl Je hr W.VV (kaa (pv 0) (kaa (pv 3) (kaa (pv 4) kae))))) (kbm (K:=K) (n:=2) rfl (kaw (pgn (i:=6) qG.nd) (kaw (pgn (i:=7) qG.nd) kbl)))
   (kag (kcF PassesOwn.never rfl (kfS rfl W.B.zip (kaa (pv 7) (kaa (pcl Uy hr1 W.Xg (kaa (pv 6) (kaa (pcl XO hr1 W.Xk (kaa (pv 3) (kaa (pv 7) kae))) kae))) kae))) (kbm (K:=K) (n:=2) rfl (kaw (pgn (i:=8) qG.nd) (kaw (pgn (i:=9) qG.nd) kbl)))
   (kag (kh1 (pv 9) (kh4 (pv 5) (pv 8) set_list))))))
   (kac (psl (i:=10) qG.nd (kaj (K:=K) (kaj (K:=K) (pv 0) rfl) rfl))
   (kac (ps_if (PW.pt (kcn (kav kdy (pv 10) kbg (kaB _)) (kbX (kav op_gt (kap (r:=rSum K) (kdQ rfl) (by rfl) W.B.sum b_sum (kaa (pv 5) kae)) (pv 10) (kaB _))))) (kag (kao (pcl Uy hr1 W.Xg (kaa (pv 10) (kaa (pv 5) kae))))) (kau))
   (kag (kao (pv 5))))))),?_⟩
  have np:=wf.np
  have lp:=wf.lp
  exists Y4
  rwa[8,8,8,8,v,a,b,x,Vc,ps,B,S,6,hV,hA,hB,hS,wf,vo,fun H1 pa s1 f1 h1=>?_]
  have habl:∀i∈abt ps (kds B) Vc.ms.kind Vc.ms.lone S,i<S.pr.length:=fun i hi=>by rw[lp];exact kkN hi
  have hand:=kg5 ps (kds B) Vc.ms.kind Vc.ms.lone S
  have lab:(abt ps (kds B) Vc.ms.kind Vc.ms.lone S).length<=720:=Mz (khA _ _ _ _ _) np
  obtain⟨o,p,mk,⟨dxs,fss,hx,l1,l2,l3,l4,l5⟩,ho,hp,hmk⟩:=id (hS.same s1)
  nomatch x,d.qd,dxs,fss,8,hx,W.qd.cl,W.qE,l2,p,6,⟨_,SqL.of hp⟩,kb3 (xs:=S.pr.map V.int) (fun i σ ys H'=>H'=H1/\ys=(My i (0:Int)).map V.int/\∃v,σ=[v]) ⟨rfl,rfl,none,rfl⟩ ?_ ?_ ?_ ?_
  ·rw[Mu]
   symm
   exact MI (kan (by lia))
  ·rintro i σ ys H' hi ⟨rfl,rfl,_⟩
   symm
   rwa[SqL.of hp,by simp]
  ·rintro i y σ ys H' hy ⟨rfl,rfl,v,rfl⟩
   symm
   rwa[6,by rw[E4,MC];rfl,8]
  rintro σ ys H' ⟨rfl,rfl,v0,rfl⟩ w hw
  rw[Mu]
  have s2:=s1.trans (kai (o:=.lst ((My S.pr.length (0:Int)).map V.int)) hw)
  have hw0:H w=none:=none_of s1 hw
  have ew:(upd H' w (.lst ((My S.pr.length (0:Int)).map V.int))) w>>(.lst ((My S.pr.length (0:Int)).map V.int)):=kad
  have h1o:=h1
  have h1:=kai (o:=.lst ((My S.pr.length (0:Int)).map V.int)) hw _ _ h1
  have nw:pa≠w:=kak h1o hw
  generalize upd H' w (.lst ((My S.pr.length (0:Int)).map V.int))=H2 at *
  nomatch 8,8,v,x,pa,Vc,ps,B,S,6,hV.same s2,hS.same s2,h1,wf,vo,fun H3 gp tl gl s3 f3 h3 hP hc hnd hlt hgl hsp=>?_
  have s03:=s2.trans s3
  have e3:=s3 _ _ ew
  have ngw:gp≠w:=fun e=>by rw[e,ew] at f3;cases f3
  symm
  exists Y4
  refine⟨gp,rfl,⟨_,SqL.of h3⟩,kca (K:=K) (a:=gp) (xs:=tl.map V.ref) (fun i σ H'=>(∃v8 v9 v10 v11 v12:Option V,σ=[some (.ref v),some (.ref a),some (.ref b),some (.ref x),some (.ref pa),some (.ref w),v8,v9,v10,v11,v12])/\But w H3 H'/\
    H' w>>(.lst ((spr S.pr.length ((gl.take i).map Prod.snd).flatten ((gl.take i).map fun p=>dl p.1 (qs S.pr p.2)).flatten).map V.int)))
   ⟨⟨none,none,none,none,none,rfl⟩,But.refl,by rw[e3];simp[kmO]⟩ (fun i σ H' _ h=>SqL.of (h.2.1 _ _ ngw h3)) ?_ ?_⟩
  ·rintro i y σ H4 hy ⟨⟨v8,v9,v10,v11,v12,rfl⟩,b4,h4⟩
   obtain⟨t,et,rfl⟩:=kcS hy
   obtain⟨⟨c,g⟩,eg,ga,ht,hga,hor⟩:=hP.at et
   have hcg:=hc c g (MK eg)
   have hgl':∀i∈g,i<S.pr.length:=fun j hj=>hlt j (DZ.mpr ⟨g,MZ.mpr ⟨(c,g),MK eg,rfl⟩,hj⟩)
   have ngaw:ga≠w:=by
    rcases hor with rfl|hor
    ·exact nw
    ·exact fun e=>by rw[e,ew] at hor;cases hor
   have ntw:t≠w:=ne_of ht e3 (by intro z;cases z)
   have htt:H4 t>>(.tup [.int c, .ref ga]):=b4 _ _ ntw ht
   have hgg:H4 ga>>(.lst (g.map iV)):=b4 _ _ ngaw hga
   symm
   exists Y6
   rwa[t,8,SqT.of htt,6,_,8,9,?_]
   have hS4:StndIs d.qd H4 x S:=by
    nofun
    exact StndIs.same (H:=H) (khU hw0 s03 b4) hS
   have gnn:=qs_nn wf.nn g
   have gsum:=kl9 wf hcg.2.2 hgl'
   have hg720:=hcg.2.2
   nofun
   exists Y6
   rwa[8,8,8,8,x,ga,S,g,6,hS4,hgg,hgl',hg720,fun p5 hp5=>?_]
   have s5:=kai (o:=.lst ((qs S.pr g).map V.int)) hp5
   nofun
   exists Y6
   rwa[c,p5,qs S.pr g,6,SqL.of kad,gnn,by lia,hcg.1,by lia,by rw[kfk];lia,fun p6 hp6=>?_]
   have s6:=s5.trans (kai (o:=.lst ((dl c (qs S.pr g)).map V.int)) hp6)
   have h6:(upd (upd H4 p5 (.lst ((qs S.pr g).map V.int))) p6 (.lst ((dl c (qs S.pr g)).map V.int))) p6>>(.lst ((dl c (qs S.pr g)).map V.int)):=kad
   have n6:H4 p6=none:=none_of s5 hp6
   generalize upd (upd H4 p5 (.lst ((qs S.pr g).map V.int))) p6 (.lst ((dl c (qs S.pr g)).map V.int))=H6 at *
   have b6:=b4.same s6
   have w6:=s6 _ _ h4
   have n6w:p6≠w:=fun e=>by rw[e,h4] at n6;cases n6
   have ldl:(dl c (qs S.pr g)).length=g.length:=by rw[kgV,kfk]
   have emin:min (g.map iV).length ((dl c (qs S.pr g)).map V.int).length=g.length:=by rw[Mu,Mu,ldl,EL]
   have ndt:∀(j n:Nat),g[j]?>>n->(((gl.take i).map Prod.snd).flatten++g.take j++[n]).Nodup:=fun j n hj=>by
    rw[List.map_take]
    nofun
    exact keA hnd (i:=i) (by rw[MN,eg];rfl) hj
   have lfl:((gl.take i).map Prod.snd).flatten.length=((gl.take i).map fun p=>dl p.1 (qs S.pr p.2)).flatten.length:=by
    rw[List.length_flatten,List.length_flatten,D0,D0]
    congr 1
    nofun
    refine List.map_congr_left fun q _=>?_
    show q.2.length=(dl q.1 (qs S.pr q.2)).length
    rw[kgV,kfk]
   nofun
   exists Y6
   refine⟨ga,p6,_,_,rfl,s6 _ _ hgg,h6,kkn (xs:=g.map iV) (ys:=(dl c (qs S.pr g)).map V.int) (fun j σ H'=>(∃v8 v9 v10 v11 v12:Option V,σ=[some (.ref v),some (.ref a),some (.ref b),some (.ref x),some (.ref pa),some (.ref w),v8,v9,v10,v11,v12])/\But w H3 H'/\H' ga>>(.lst (g.map iV))/\H' p6>>(.lst ((dl c (qs S.pr g)).map V.int))/\
     H' w>>(.lst ((spr S.pr.length (((gl.take i).map Prod.snd).flatten++g.take j) (((gl.take i).map fun p=>dl p.1 (qs S.pr p.2)).flatten++(dl c (qs S.pr g)).take j)).map V.int)))
    ⟨⟨_,_,_,_,_,rfl⟩,b6,s6 _ _ hgg,h6,by rw[w6];simp⟩ (fun j σ H' _ h=>⟨h.2.2.1,h.2.2.2.1⟩) ?_ ?_⟩
   ·rintro j y1 y2 t2 σ H7 hy1 hy2 ⟨⟨v8,v9,v10,v11,v12,rfl⟩,b7,g7,d7,w7⟩ ht2
    obtain⟨n,en,rfl⟩:=kcK hy1
    obtain⟨z,ez,rfl⟩:=kcK hy2
    have hn:=hgl' n (MK en)
    have s8:=kai (o:=.tup [iV n,V.int z]) ht2
    nofun
    exists Y8
    rwa[t2,8,SqT.of kad,6,_,8,9,?_]
    exists 3
    exists Y8
    rwa[8,8,8,w,_,_,n,6,6,s8 _ _ w7,khr (by rw[Mu,kdi];exact hn),⟨_,_,_,_,_,rfl⟩,(b7.same s8).trans kax,?_,?_,?_]
    ·rw[kah ngaw]
     exists 3
     exact s8 _ _ g7
    ·rw[kah n6w]
     exists 3
     exact s8 _ _ d7
    ·rw[kad,<-E5,keB en,keB ez,<-M6,<-M6]
     rw[kk5 (by rw[ML,ML,lfl,MU,MU,ldl]) (ndt j n en) hn]
   ·rintro σ H7 ⟨⟨v8,v9,v10,v11,v12,rfl⟩,b7,g7,d7,w7⟩
    exists 3
    exists Y8
    rwa[⟨_,_,_,_,_,rfl⟩,b7,?_]
    rw[w7,emin,M0,ER (Nat.le_of_eq ldl),keB eg]
    simp
  rintro σ H4 ⟨⟨v8,v9,v10,v11,v12,rfl⟩,b4,h4⟩
  have ltl:(tl.map V.ref).length=gl.length:=by rw[Mu,hP.len]
  rw[ltl,M0,hsp] at h4
  have s04:Same H H4:=khU hw0 s03 b4
  obtain⟨mA,dxv,fsv,hv,lvm,_,⟨dxm,fsm,hm,m1,m2,m3,m4,m5,m6⟩,hh,htb⟩:=id (hV.same s04)
  nomatch v,clsOf d Vc.so,dxv,fsv,8,hv,cl_of W hh,na_of W hh,lvm,mA,d.qi,dxm,fsm,8,hm,W.qi.cl,W.Xu,m3,?_
  have wle:=ki0 (so:=Vc.so) (n:=S.mkd.length) (lines:=(abt ps (kds B) Vc.ms.kind Vc.ms.lone S).map fun i=>S.ow.getD i 0) (qs_nn wf.nn (abt ps (kds B) Vc.ms.kind Vc.ms.lone S)) vo.so
  have cn:=klJ (V:=Vc) (ps:=ps) (kk:=kds B) (S:=S)
  have cs:=fun(m:Int)(e:Vc.ms.most>>m)(h0:0<=m)=>klI (V:=Vc) (ps:=ps) (kk:=kds B) (S:=S) lp wle e h0
  have sabs:=kl9 wf lab habl
  generalize ewant:want Vc.so S.mkd.length ((abt ps (kds B) Vc.ms.kind Vc.ms.lone S).map fun i=>S.ow.getD i 0) (qs S.pr (abt ps (kds B) Vc.ms.kind Vc.ms.lone S))=wn at *
  have fnn:Nn (spr S.pr.length (abt ps (kds B) Vc.ms.kind Vc.ms.lone S) wn):=(kgh wf.nn wle).nn
  have fsum:(spr S.pr.length (abt ps (kds B) Vc.ms.kind Vc.ms.lone S) wn).sum<=720000000000000:=by
   have h:=(kgh wf.nn wle).sum
   have h2:=kdR (b:=1000000000000) (q:=S.pr) fun z hz=>(wf.pr z hz).2
   lia
  cases em:Vc.ms.most with
  |none=>
   symm
   rwa[8,6,8,?_]
   show if(!decide (V.non=V.non))=true then _ else _
   rw[kmd]
   refine iteF (iteF ⟨_,rfl,k _ w s04 hw0 ?_⟩)
   rw[h4,cn em]
  | some m=>
   have hm0:=vo.ms.most m em
   symm
   rwa[8,6,8,?_]
   show if(!decide (V.int m=V.non))=true then _ else _
   rw[kme]
   refine iteT ?_
   symm
   exists Y6
   rwa[8,w,8,SqL.of h4,8,9,8,?_]
   by_cases hgt:(spr S.pr.length (abt ps (kds B) Vc.ms.kind Vc.ms.lone S) wn).sum > m
   ·rw[decide_eq_true hgt]
    refine iteT ?_
    nofun
    exists Y8
    rwa[8,8,m,w,8,SqL.of h4,fnn,by lia,hm0.1,by lia,by rw[kdi];lia,fun p7 hp7=>?_]
    exists 3
    refine k _ p7 (s04.trans (kai hp7)) (none_of s04 hp7) ?_
    rw[kad,cs m em hm0.1,if_pos hgt]
   ·rw[decide_eq_false hgt]
    refine iteF ?_
    exists 3
    rwa[8,k _ w s04 hw0 ?_]
    rw[h4,cs m em hm0.1,if_neg hgt]
theorem kmT:kam ["voucher","parents","basket","standing"] ["voucher","parents","basket","standing"] (kaf kjD):=by ac_rfl
theorem km9(W:WB K mg d base):FO P w W 5 d.Ys d.Yt ["voucher","parents","basket","standing"] (kl6 K d):=by
 exists W.VT.F,kmT
 ·obtain⟨v,a,b,x,Vc,ps,B,S,rfl,hV,hA,hB,hS,wf,vo,k⟩:=h
  exists XS,kcp,W
  exists XT,kb9,W
  have hr2:Room 2 _:=hr.mono (by decide)
  rwa[_,kag (kao (ka7 (kaa (pcl XS hr W.Xi (kaa (pv 0) (kaa (pv 1) (kaa (pv 2) (kaa (pv 3) kae))))) (kaa (pcl XT hr2 W.Xj (kaa (pv 0) (kaa (pv 3) kae))) kae)))),?_]
  rwa[8,8,8,8,v,a,b,x,Vc,ps,B,S,6,hV,hA,hB,hS,wf,vo,fun H1 p s1 f1 h1=>?_]
  rwa[8,8,v,x,Vc,S,6,hV.same s1,hS.same s1,(by show 2<=sizeLine;decide),fun t ht=>?_]
  rw[<-kko (ps:=ps) (kk:=kds B) (S:=S) vo]
  refine k _ t p (s1.trans (kai ht)) (none_of s1 ht) f1 ?_ (kai ht _ _ h1)
  exact kad
theorem klN{l:List Nat}{f g:Nat->Bool}(h:∀x∈l,f x=g x):l.any f=l.any g:=by
 induction l with
 |nil=>rfl
 |cons a l ih=>rw[Es,Es,h a Mx,ih fun x hx=>h x (MH _ hx)]
theorem khx{ow:List Nat}{cs:List Int}{i o l:Nat}(h:ow[i]?>>o):kdP (ow.take (i+1)) cs l=(kdP (ow.take i) cs l||(o==l&&decide (0<cs.getD i 0))):=by
 have hi:=at_lt h
 unfold kdP
 rw[MU,MU,Du (by lia),Du (by lia),EF,List.any_append]
 congr 1
 ·refine klN fun j hj=>?_
  have hj':j<i:=by simpa using hj
  simp only[M9,D7]
  rw[if_pos (by lia),if_pos hj']
 ·simp only[Es,List.any_nil,Df]
  rw[M9,D7,if_pos (by lia),h]
  rfl
inductive kdc(d:D)(vs:List V)(H:Hp)(Q:VK)(E_:XK):Prop
 |ct(v x c:Addr)(V:Vch)(S:Stnd)(cs:List Int)(_:vs=[.ref v, .ref x, .ref c])(_:VchIs d H v V)(_:StndIs d.qd H x S)(_:H c>>(.lst (cs.map L2.V.int)))(_:cs.length=S.ow.length)(_:S.ow.length<=720)(_:S.mkd.length<=12)(_:(∀l∈S.ow,l<S.mkd.length))(_:∀(H':Hp)(p:Addr),Same H H'->H p=none->H' p>>(.lst (((MG S.mkd.length).map fun l=>S.mkd.getD l false||(V.ms.lone&&kdP S.ow cs l)).map L2.V.bl))->Q (.ref p) H'):kdc d vs H Q E_
theorem QS:kam ["voucher","standing","piece_cuts","marked","owner","cut"] ["voucher","standing","piece_cuts"] (kaf kbQ):=by ac_rfl
theorem keq(W:WB K mg d base):FO P w W 1 d.YD d.YE ["voucher","standing","piece_cuts"] (kdc d):=by
 exists W.VW.F,QS
 ·obtain⟨v,x,c,Vc,S,cs,rfl,⟨mA,dxv,fsv,hv,lvm,_,⟨dxm,fsm,hm,m1,m2,m3,m4,m5,m6⟩,hh,htb⟩,⟨o,p,mk,⟨dxs,fss,hx,l1,l2,l3,l4,l5⟩,ho,hp,hmk⟩,hc,lc,lo,lmk,hw,k⟩:=h
  refine⟨_,kac (psl (i:=3) QS.nd (kaZ (r:=kbW K) kaU (by rfl) W.B.list kcr (kaa (kaj (K:=K) (pv 1) rfl) kae)))
   (kac (ps_if (kaX (kaj (K:=K) (kaj (K:=K) (pv 0) rfl) rfl)) (kag (kcF PassesOwn.never rfl (kfS rfl W.B.zip (kaa (kaj (K:=K) (pv 1) rfl) (kaa (pv 2) kae))) (kbm (K:=K) (n:=2) rfl (kaw (pgn (i:=4) QS.nd) (kaw (pgn (i:=5) QS.nd) kbl)))
   (kag (ps_if (kav op_gt (pv 5) kaq (kaB _)) (kag (kh1 pe_bl (kh4 (pv 3) (pv 4) set_list))) (kau))))) (kau))
   (kag (kao (pv 3)))),?_⟩
  have e0:S.mkd.map V.bl=((MG S.mkd.length).map fun l=>S.mkd.getD l false||kdP (S.ow.take 0) cs l).map V.bl:=by
   congr 1
   apply Dp
   ·simp
   ·intro j h1 h2
    simp[kdP,h1]
  exists Y4
  rwa[8,x,d.qd,dxs,fss,8,hx,W.qd.cl,W.Qc,l4,mk,8, .inl (SqL.of hmk),fun q hq=>?_]
  have s1:=kai (o:=.lst (S.mkd.map V.bl)) hq
  nomatch v,clsOf d Vc.so,dxv,fsv,8,s1 _ _ hv,cl_of W hh,na_of W hh,lvm,mA,d.qi,dxm,fsm,8,s1 _ _ hm,W.qi.cl,W.Xv,m6,8,?_
  cases e:Vc.ms.lone with
  |false=>
   refine iteF ?_
   symm
   exists Y6
   rwa[8,k _ q s1 hq ?_]
   rw[e0]
   simp only[e,DC,Df]
   rw[kad]
   congr 2
   simp[kdP]
  | true=>
   refine iteT ?_
   have emin:min (S.ow.map iV).length (cs.map V.int).length=S.ow.length:=by rw[Mu,Mu,lc,EL]
   symm
   exists Y6
   refine⟨_,rfl,x,d.qd,dxs,fss,_,rfl,s1 _ _ hx,W.qd.cl,W.qO,l1,_,rfl,o,c,_,_,rfl,s1 _ _ ho,s1 _ _ hc,
    kkn (xs:=S.ow.map iV) (ys:=cs.map V.int) (fun i σ H'=>(∃v4 v5:Option V,σ=[some (.ref v),some (.ref x),some (.ref c),some (.ref q),v4,v5])/\But q H H'/\H' q>>(.lst (((MG S.mkd.length).map fun l=>S.mkd.getD l false||kdP (S.ow.take i) cs l).map V.bl)))
     ⟨⟨none,none,rfl⟩,But.of_same s1,by rw[kad,e0]⟩ (fun i σ H' _ h=>⟨h.2.1 _ _ (kak ho hq) ho,h.2.1 _ _ (kak hc hq) hc⟩) ?_ ?_⟩
   ·rintro i y z t σ H1 hy hz ⟨⟨v4,v5,rfl⟩,b1,h1⟩ ht
    obtain⟨ln,eln,rfl⟩:=kcK hy
    obtain⟨cz,ecz,rfl⟩:=kcK hz
    have hln:=hw ln (MK eln)
    have st:=fun l=>khx (cs:=cs) (l:=l) eln
    have eg:cs.getD i 0=cz:=by rw[M9,ecz];rfl
    have tq:q≠t:=kak h1 ht
    have b2:=b1.same (kai (o:=.tup [iV ln,V.int cz]) ht)
    have h2:=kai (o:=.tup [iV ln,V.int cz]) ht _ _ h1
    nofun
    exists Y8
    rwa[t,8,SqT.of kad,6,_,8,9,?_]
    exists 3
    exists Y8
    rwa[8,9,8,?_]
    by_cases hc0:cz > 0
    ·rw[decide_eq_true hc0]
     refine iteT ?_
     exists 3
     exists Y10
     rwa[8,8,q,_,_,ln,6,6,h2,khr (by simpa using hln),⟨_,_,rfl⟩,b2.trans kax,?_]
     rw[kad,<-E5]
     congr 3
     apply Dp
     ·simp
     ·intro j g1 g2
      have hj:j<S.mkd.length:=by simpa using g1
      rw[List.getElem_set]
      simp only[List.getElem_map,List.getElem_range]
      rw[st j,eg]
      by_cases hjl:ln=j
      ·subst hjl
       simp[hc0]
      ·rw[if_neg hjl,show(ln==j)=false by simpa using hjl]
       simp
    ·rw[decide_eq_false hc0]
     refine iteF ?_
     try first|apply Y10|apply Y8|apply Y6|apply Y4
     exists Y10
     rwa[⟨_,_,rfl⟩,b2,?_]
     rw[h2]
     congr 3
     try first|apply Y10|apply Y8|apply Y6|apply Y4
     refine List.map_congr_left fun l _=>?_
     rw[st l,eg,show decide (0<cz)=false by simpa using hc0]
     simp
   ·rintro σ H1 ⟨⟨v4,v5,rfl⟩,b1,h1⟩
    rw[emin,M0] at h1
    exists 3
    exists Y8
    rwa[8,k _ q (kkH b1 hq) hq ?_]
    rw[h1]
    simp only[e,Bool.true_and]
theorem XU:kam ["voucher","parents","basket","standing","piece_cuts","left"] ["voucher","parents","basket","standing"] (kaf khh):=by ac_rfl
theorem klr(W:WB K mg d base):FO P w W 5 d.Yu d.Yv ["voucher","parents","basket","standing"] (kjz K d):=by
 exists W.VU.F,XU
 ·obtain⟨v,a,b,x,Vc,ps,B,S,rfl,hV,hA,hB,hS,wf,vo,k⟩:=h
  exists XS,kcp,W
  exists XW,kcH,W
  exists XT,kb9,W
  exists Jf,keq,W
  have hr1:Room 1 _:=hr.mono (by decide)
  have hr2:Room 2 _:=hr.mono (by decide)
  have hr3:Room 3 _:=hr.mono (by decide)
  refine⟨_,kac (psl (i:=4) XU.nd (pcl XS hr W.Xi (kaa (pv 0) (kaa (pv 1) (kaa (pv 2) (kaa (pv 3) kae))))))
   (kac (psl (i:=5) XU.nd (kbc (W.Qd.mk' W.qd) XW hr3 rfl W.qd.m W.Qd.b .nil pass0 (kaa (pv 2) kae)))
   (kac (kaA (pv 5) (kaZ (r:=kbW K) kaU (by rfl) W.B.list kcr (kaa (kaj (K:=K) (pv 3) rfl) kae)) rfl)
   (kac (kaA (pv 5) (kbf (N:=["price","cut"]) (CompScope.plain rfl (by cutsat) (by cutsat) (by cutsat) (show(["price","cut"]:List Str).Nodup by cutsat)) rfl (kfS rfl W.B.zip (kaa (kaj (K:=K) (pv 3) rfl) (kaa (pv 4) kae))) (fun _ _ _ _=>kbm (K:=K) (n:=2) rfl (kaw (pgn (i:=0) (show(["price","cut"]:List Str).Nodup by cutsat)) (kaw (pgn (i:=1) (show(["price","cut"]:List Str).Nodup by cutsat)) kbl))) (fun _ _ _ _=>(pe_op kfn (pv 0) (pv 1)))) rfl)
   (kac (kaA (pv 5) (pe_op kfn (kaj (K:=K) (pv 3) rfl) (pcl XT hr2 W.Xj (kaa (pv 0) (kaa (pv 3) kae)))) rfl)
   (kac (kaA (pv 5) (pcl Jf hr1 W.VW (kaa (pv 0) (kaa (pv 3) (kaa (pv 4) kae)))) rfl)
   (kag (kao (pv 5)))))))),?_⟩
  have np:=wf.np
  have lp:=wf.lp
  have lcut:(cutM Vc ps (kds B) S).1.length=S.pr.length:=(kmi wf.nn wf.cg.1 vo.so fun m e=>(vo.ms.most m e).1).1.1
  exists Y4
  rwa[8,8,8,8,v,a,b,x,Vc,ps,B,S,6,hV,hA,hB,hS,wf,vo,fun H1 pc s1 f1 h1=>?_]
  obtain⟨l,ls,hb1,hl1,hL1⟩:=id (hB.same s1)
  nomatch kka hb1 hl1 hL1 wf.nl wf.ok fun H2 y s2 f2 dxy fsy hy ly lyw=>?_
  have fy:H y=none:=none_of s1 f2
  have s02:=s1.trans s2
  obtain⟨o,p,mk,⟨dxs,fss,hx,l1,l2,l3,l4,l5⟩,ho,hp,hmk⟩:=id hS
  nomatch x,d.qd,dxs,fss,8,s02 _ _ hx,W.qd.cl,W.qO,l1,o,8, .inl (SqL.of (s02 _ _ ho)),fun q1 hq1=>?_
  have n1:q1≠y:=(kak hy hq1).symm
  nomatch y,d.qd,dxy,fsy,6,kai hq1 _ _ hy,W.qd.cl,W.qO,few (by lia),?_
  have s3:Same H (upd (upd H2 q1 (.lst (S.ow.map iV))) y (.ins d.qd dxy (putF "owners" (.ref q1) fsy))):=kar fy (s02.trans (kai hq1))
  have e3:(upd (upd H2 q1 (.lst (S.ow.map iV))) y (.ins d.qd dxy (putF "owners" (.ref q1) fsy))) q1>>(.lst (S.ow.map iV)):=by rw[kah n1,kad]
  have y3:(upd (upd H2 q1 (.lst (S.ow.map iV))) y (.ins d.qd dxy (putF "owners" (.ref q1) fsy))) y>>(.ins d.qd dxy (putF "owners" (.ref q1) fsy)):=kad
  have c3:(upd (upd H2 q1 (.lst (S.ow.map iV))) y (.ins d.qd dxy (putF "owners" (.ref q1) fsy))) pc>>(.lst ((cutM Vc ps (kds B) S).1.map V.int)):=by
   rw[kah (kak h1 f2)]
   symm
   exact kai hq1 _ _ (s2 _ _ h1)
  have f3:=Mz (kal (f:="owners") (v:=.ref q1) ly) (by decide:11<=20)
  generalize upd (upd H2 q1 (.lst (S.ow.map iV))) y (.ins d.qd dxy (putF "owners" (.ref q1) fsy))=H3 at *
  have emin:min (S.pr.map V.int).length ((cutM Vc ps (kds B) S).1.map V.int).length=S.pr.length:=by rw[Mu,Mu,lcut,EL]
  symm
  exists Y4
  refine⟨_,rfl,x,d.qd,dxs,fss,_,rfl,s3 _ _ hx,W.qd.cl,W.qE,l2,_,rfl,p,pc,_,_,rfl,s3 _ _ hp,c3,
   kf5 (xs:=S.pr.map V.int) (ys:=(cutM Vc ps (kds B) S).1.map V.int) (fun i σ zs H'=>Same H3 H'/\zs=((Ei (· - ·) S.pr (cutM Vc ps (kds B) S).1).take i).map V.int/\∃v0 v1:Option V,σ=[v0,v1])
    ⟨Same.refl _,rfl,none,none,rfl⟩ (by rw[emin];exact MI (kan (by lia))) (fun i σ zs H' hi h=>⟨h.1 _ _ (s3 _ _ hp),h.1 _ _ c3,by rw[h.2.1,Mu,MU,DX,lcut];rw[emin] at hi;lia⟩) ?_ ?_⟩
  ·rintro i y1 y2 t σ zs H4 hy1 hy2 ⟨s4,rfl,v0,v1,rfl⟩ ht
   obtain⟨z1,ez1,rfl⟩:=kcK hy1
   obtain⟨z2,ez2,rfl⟩:=kcK hy2
   symm
   exists Y6
   rwa[t,8,SqT.of kad,6,_,8,9,8,8,9,s4.trans (kai ht),?_,_,8]
   rw[keB (r:=z1-z2) (by rw[Ap,ez1,ez2]),MC]
   rfl
  rintro σ zs H4 ⟨s4,rfl,v0,v1,rfl⟩ q2 hq2
  rw[emin,ER (by rw[DX,lcut];lia)]
  have n2:q2≠y:=(kak (s4 _ _ y3) hq2).symm
  have n12:q1≠q2:=kak (s4 _ _ e3) hq2
  have s5:=kai (o:=.lst ((Ei (· - ·) S.pr (cutM Vc ps (kds B) S).1).map V.int)) hq2
  nomatch y,d.qd,dxy,8,s5 _ _ (s4 _ _ y3),W.qd.cl,W.qE,few f3,?_
  have s6:Same H (upd (upd H4 q2 (.lst ((Ei (· - ·) S.pr (cutM Vc ps (kds B) S).1).map V.int))) y (.ins d.qd dxy (putF "prices" (.ref q2) (putF "owners" (.ref q1) fsy)))):=kar fy ((s3.trans s4).trans s5) (nx (s5 _ _ (s4 _ _ y3)))
  have e6:(upd (upd H4 q2 (.lst ((Ei (· - ·) S.pr (cutM Vc ps (kds B) S).1).map V.int))) y (.ins d.qd dxy (putF "prices" (.ref q2) (putF "owners" (.ref q1) fsy)))) q1>>(.lst (S.ow.map iV)):=by
   rw[kah n1]
   symm
   exact s5 _ _ (s4 _ _ e3)
  have p6:(upd (upd H4 q2 (.lst ((Ei (· - ·) S.pr (cutM Vc ps (kds B) S).1).map V.int))) y (.ins d.qd dxy (putF "prices" (.ref q2) (putF "owners" (.ref q1) fsy)))) q2>>(.lst ((Ei (· - ·) S.pr (cutM Vc ps (kds B) S).1).map V.int)):=by rw[kah n2,kad]
  have y6:(upd (upd H4 q2 (.lst ((Ei (· - ·) S.pr (cutM Vc ps (kds B) S).1).map V.int))) y (.ins d.qd dxy (putF "prices" (.ref q2) (putF "owners" (.ref q1) fsy)))) y>>(.ins d.qd dxy (putF "prices" (.ref q2) (putF "owners" (.ref q1) fsy))):=kad
  have c6:(upd (upd H4 q2 (.lst ((Ei (· - ·) S.pr (cutM Vc ps (kds B) S).1).map V.int))) y (.ins d.qd dxy (putF "prices" (.ref q2) (putF "owners" (.ref q1) fsy)))) pc>>(.lst ((cutM Vc ps (kds B) S).1.map V.int)):=by
   rw[kah (kak h1 f2)]
   symm
   exact s5 _ _ (s4 _ _ c3)
  have f6:=Mz (kal (f:="prices") (v:=.ref q2) (kal (f:="owners") (v:=.ref q1) ly)) (by decide:12<=20)
  generalize upd (upd H4 q2 (.lst ((Ei (· - ·) S.pr (cutM Vc ps (kds B) S).1).map V.int))) y (.ins d.qd dxy (putF "prices" (.ref q2) (putF "owners" (.ref q1) fsy)))=H6 at *
  nomatch x,d.qd,dxs,fss,8,s6 _ _ hx,W.qd.cl,W.qP,l3,8,8,v,x,Vc,S,6,hV.same s6,hS.same s6,9,?_
  rw[<-kko (ps:=ps) (kk:=kds B) (S:=S) vo]
  nomatch y,d.qd,dxy,8,y6,W.qd.cl,W.qP,few f6,?_
  have s7:Same H (upd H6 y (.ins d.qd dxy (putF "carriage" (.int (S.cg-(cutM Vc ps (kds B) S).2)) (putF "prices" (.ref q2) (putF "owners" (.ref q1) fsy))))):=kar fy s6
  have e7:(upd H6 y (.ins d.qd dxy (putF "carriage" (.int (S.cg-(cutM Vc ps (kds B) S).2)) (putF "prices" (.ref q2) (putF "owners" (.ref q1) fsy))))) q1>>(.lst (S.ow.map iV)):=by rw[kah n1];exact e6
  have p7:(upd H6 y (.ins d.qd dxy (putF "carriage" (.int (S.cg-(cutM Vc ps (kds B) S).2)) (putF "prices" (.ref q2) (putF "owners" (.ref q1) fsy))))) q2>>(.lst ((Ei (· - ·) S.pr (cutM Vc ps (kds B) S).1).map V.int)):=by rw[kah n2];exact p6
  have y7:(upd H6 y (.ins d.qd dxy (putF "carriage" (.int (S.cg-(cutM Vc ps (kds B) S).2)) (putF "prices" (.ref q2) (putF "owners" (.ref q1) fsy))))) y>>(.ins d.qd dxy (putF "carriage" (.int (S.cg-(cutM Vc ps (kds B) S).2)) (putF "prices" (.ref q2) (putF "owners" (.ref q1) fsy)))):=kad
  have c7:(upd H6 y (.ins d.qd dxy (putF "carriage" (.int (S.cg-(cutM Vc ps (kds B) S).2)) (putF "prices" (.ref q2) (putF "owners" (.ref q1) fsy))))) pc>>(.lst ((cutM Vc ps (kds B) S).1.map V.int)):=by rw[kah (kak h1 f2)];exact c6
  have f7:=Mz (kal (f:="carriage") (v:=.int (S.cg-(cutM Vc ps (kds B) S).2)) (kal (f:="prices") (v:=.ref q2) (kal (f:="owners") (v:=.ref q1) ly))) (by decide:13<=20)
  generalize upd H6 y (.ins d.qd dxy (putF "carriage" (.int (S.cg-(cutM Vc ps (kds B) S).2)) (putF "prices" (.ref q2) (putF "owners" (.ref q1) fsy))))=H7 at *
  nomatch 8,8,v,x,pc,Vc,S,8,hV.same s7,hS.same s7,c7,by rw[lcut,lp],np,by rw[wf.lm];exact wf.nl,fun l hl=>?_,fun H8 q3 s8 f8 h8=>?_
  ·obtain⟨i,hi⟩:=Au.mp hl
   rw[wf.lm]
   symm
   exact wf.line hi
  have n3:q3≠y:=(kak y7 f8).symm
  nomatch y,d.qd,dxy,8,s8 _ _ y7,W.qd.cl,W.Qc,few f7,?_
  nomatch k _ y (kar fy (s7.trans s8) (nx (s8 _ _ y7))) fy ⟨q1,q2,q3,⟨dxy,_,kad,?_,?_,?_,?_,?_⟩,?_,?_,?_⟩
  ·ac_nf
  ·ac_nf
  ·ac_nf
   rfl
  ·ac_nf
  ·rw[kab,if_neg (by cutsat),kab,if_neg (by cutsat),kab,if_neg (by cutsat),kab,if_neg (by cutsat)]
   symm
   exact lyw
  ·rw[kah n1]
   symm
   exact s8 _ _ e7
  ·rw[kah n2]
   symm
   exact s8 _ _ p7
  ·rw[kah n3]
   symm
   exact h8
inductive kg8(d:D)(vs:List V)(H:Hp)(Q:VK)(E_:XK):Prop
 |ct(H0:Hp)(x dx p vl rl:Addr)(ps vs' rs:List V)(bk:Str)(_:vs=[.ref x, .ref p, .ref vl, .ref rl, .str bk])(_:H0 x=none)(_:Same H0 H)(_:H x>>(.ins d.qg dx []))(_:H0 p>>(.lst ps))(_:H0 vl>>(.lst vs'))(_:H0 rl>>(.lst rs))(_:∀(H':Hp)(p' vl' rl':Addr)(fs:List (Str×V)),Same H0 H'->H0 p'=none->H0 vl'=none->H0 rl'=none->H' p'>>(.lst ps)->H' vl'>>(.lst vs')->H' rl'>>(.lst rs)->H' x>>(.ins d.qg dx fs)->fs.lookup ("parents" :Str)>>(.ref p')->fs.lookup ("vouchers" :Str)>>(.ref vl')->fs.lookup ("rules" :Str)>>(.ref rl')->fs.lookup ("back" :Str)>>(.str bk)->Q .non H'):kg8 d vs H Q E_
theorem kgt:kam ["self","parents","vouchers","rules","back"] ["self","parents","vouchers","rules","back"] (kaf kba):=by ac_rfl
theorem kec(W:WB K mg d base):FO P w W 1 d.Ve d.Q6 ["self","parents","vouchers","rules","back"] (kg8 d):=by
 exists W.QH.F,kgt
 ·obtain⟨H0,x,dx,p,vl,rl,ps,vs',rs,bk,rfl,fx,s0,hx,hp,hvl,hrl,k⟩:=h
  refine⟨_,kac (kaA (pv 0) (kaZ (r:=kbW K) kaU (by rfl) W.B.list kcr (kaa (pv 1) kae)) rfl)
   (kac (kaA (pv 0) (kaZ (r:=kbW K) kaU (by rfl) W.B.list kcr (kaa (pv 2) kae)) rfl)
   (kac (kaA (pv 0) (kaZ (r:=kbW K) kaU (by rfl) W.B.list kcr (kaa (pv 3) kae)) rfl)
   (kag (kaA (pv 0) (pv 4) rfl)))),?_⟩
  exists Y4
  rwa[8,p,8, .inl (SqL.of (s0 _ _ hp)),fun p' hp'=>?_]
  have n1:=kai (o:=.lst ps) hp'
  have fp:=s0.free hp'
  have np:p'≠x:=(kak hx hp').symm
  have e1:(upd H p' (.lst ps)) p'>>(.lst ps):=kad
  have s1:=s0.trans n1
  have hx1:=n1 _ _ hx
  clear n1
  generalize upd H p' (.lst ps)=H1 at *
  nomatch x,d.qg,dx,[],6,hx1,W.qg.cl,W.QG,by decide,?_
  have s2:Same H0 (upd H1 x (.ins d.qg dx (putF "parents" (.ref p') []))):=kar fx s1 (nx hx1)
  have e2:(upd H1 x (.ins d.qg dx (putF "parents" (.ref p') []))) p'>>(.lst ps):=by rw[kah np];exact e1
  have hx2:(upd H1 x (.ins d.qg dx (putF "parents" (.ref p') []))) x>>(.ins d.qg dx (putF "parents" (.ref p') [])):=kad
  generalize upd H1 x (.ins d.qg dx (putF "parents" (.ref p') []))=H2 at *
  nomatch vl,8, .inl (SqL.of (s2 _ _ hvl)),fun v' hv'=>?_
  have n3:=kai (o:=.lst vs') hv'
  have fv:=s2.free hv'
  have nv:v'≠x:=(kak hx2 hv').symm
  have s3:=s2.trans n3
  have e3:=n3 _ _ e2
  have ev3:(upd H2 v' (.lst vs')) v'>>(.lst vs'):=kad
  have hx3:=n3 _ _ hx2
  clear n3
  generalize upd H2 v' (.lst vs')=H3 at *
  nomatch x,d.qg,dx,8,hx3,W.qg.cl,W.Qg,few (Mz (kal (n:=0) (Mv _)) (by decide)),?_
  have s4:Same H0 (upd H3 x (.ins d.qg dx (putF "vouchers" (.ref v') (putF "parents" (.ref p') [])))):=kar fx s3 (nx hx3)
  have e4:(upd H3 x (.ins d.qg dx (putF "vouchers" (.ref v') (putF "parents" (.ref p') [])))) p'>>(.lst ps):=by rw[kah np];exact e3
  have ev4:(upd H3 x (.ins d.qg dx (putF "vouchers" (.ref v') (putF "parents" (.ref p') [])))) v'>>(.lst vs'):=by rw[kah nv];exact ev3
  have hx4:(upd H3 x (.ins d.qg dx (putF "vouchers" (.ref v') (putF "parents" (.ref p') [])))) x>>(.ins d.qg dx (putF "vouchers" (.ref v') (putF "parents" (.ref p') []))):=kad
  generalize upd H3 x (.ins d.qg dx (putF "vouchers" (.ref v') (putF "parents" (.ref p') [])))=H4 at *
  nomatch rl,8, .inl (SqL.of (s4 _ _ hrl)),fun r' hr'=>?_
  have n5:=kai (o:=.lst rs) hr'
  have fr:=s4.free hr'
  have nr:r'≠x:=(kak hx4 hr').symm
  have s5:=s4.trans n5
  have e5:=n5 _ _ e4
  have ev5:=n5 _ _ ev4
  have er5:(upd H4 r' (.lst rs)) r'>>(.lst rs):=kad
  have hx5:=n5 _ _ hx4
  clear n5
  generalize upd H4 r' (.lst rs)=H5 at *
  nomatch x,d.qg,dx,8,hx5,W.qg.cl,W.qS,few (Mz (kal (kal (n:=0) (Mv _))) (by decide)),?_
  have s6:Same H0 (upd H5 x (.ins d.qg dx (putF "rules" (.ref r') (putF "vouchers" (.ref v') (putF "parents" (.ref p') []))))):=kar fx s5 (nx hx5)
  have hx6:(upd H5 x (.ins d.qg dx (putF "rules" (.ref r') (putF "vouchers" (.ref v') (putF "parents" (.ref p') []))))) x>>(.ins d.qg dx (putF "rules" (.ref r') (putF "vouchers" (.ref v') (putF "parents" (.ref p') [])))):=kad
  nomatch 8,x,d.qg,dx,8,hx6,W.qg.cl,W.U0,few (Mz (kal (kal (kal (n:=0) (Mv _)))) (by decide)),?_
  symm
  refine k _ p' v' r' _ (kar fx s6 (nx hx6)) fp fv fr ?_ ?_ ?_ kad ?_ ?_ ?_ ?_
  ·rw[kah np,kah np];exact e5
  ·rw[kah nv,kah nv];exact ev5
  ·rw[kah nr,kah nr];exact er5
  ·ac_nf
  ·ac_nf
  ·ac_nf
  ·ac_nf
theorem kng{d:D}{H:Hp}{p vl rl:Addr}{T:TillD}{va ra:List Addr}{R:Addr->Hp->Prop}{E:XK}(hp:H p>>(.lst (T.ps.map pV)))(hvl:H vl>>(.lst (va.map V.ref)))(hv:P2 (fun a V=>VchIs d H a V) va T.vs)(hrl:H rl>>(.lst (ra.map V.ref)))(hr:P2 (fun a r=>RulIs H a r) ra T.rs)
  (k:∀(H':Hp)(x:Addr),Same H H'->H x=none->TillIs d H' x T->R x H'):
  ∀x dx,H x=none->H dx=none->dx≠x->kg8 d [.ref x, .ref p, .ref vl, .ref rl, .str T.bk] (upd (upd H dx (.own x)) x (.ins d.qg dx [])) (fun v H2=>v=.non/\R x H2) E:=
 fun x dx nx nd _=>⟨H,x,dx,p,vl,rl,_,_,_,_,rfl,nx,ka3 nx nd,kad,hp,hvl,hrl,fun H' p' vl' rl' fs s f1 f2 f3 h1 h2 h3 hx l1 l2 l3 l4=>⟨rfl,k H' x s nx ⟨dx,fs,p',vl',rl',va,ra,hx,l1,l2,l3,l4,h1,h2,hv.mono fun a V h=>h.same s,h3,hr.mono fun a r h=>s _ _ h⟩⟩⟩
inductive kg9(f:List Rul->List Nat->Nat->Bool)(vs:List V)(H:Hp)(Q:VK)(E_:XK):Prop
 |ct(rl u:Addr)(ra:List Addr)(rs:List Rul)(used:List Nat)(n:Nat)(_:vs=[.ref rl, .ref u,iV n])(_:H rl>>(.lst (ra.map V.ref)))(_:P2 (fun a r=>RulIs H a r) ra rs)(_:H u>>(.lst (used.map iV)))(_:Q (.bl (f rs used n)) H):kg9 f vs H Q E_
theorem kkL{f:Rul->Bool}{rs:List Rul}{i:Nat}{r:Rul}(e:rs[i]?>>r)(h:f r=true):rs.any f=true:=List.any_eq_true.mpr ⟨r,MK e,h⟩
theorem kmn{f:Rul->Bool}{rs:List Rul}{n:Nat}(hn:n=rs.length)(h:∀r∈rs.take n,f r=false):rs.any f=false:=by
 rw[hn,M0] at h
 cases e:rs.any f with
 |false=>rfl
 |true=>
  obtain⟨r,hr,e2⟩:=List.any_eq_true.mp e
  rw[h r hr] at e2
  cases e2
theorem kbY{f:Rul->Bool}{rs:List Rul}{i:Nat}{r:Rul}(e:rs[i]?>>r)(h:∀q∈rs.take i,f q=false)(hr:f r=false):∀q∈rs.take (i+1),f q=false:=fun q hq=>by
 rw[EC,e] at hq
 rcases MY.mp hq with z|z
 ·exact h q z
 ·have e2:q=r:=by simpa using z
  rw[e2]
  exact hr
theorem QT:kam ["rules","used","number","word","one","other"] ["rules","used","number"] (kaf kce):=by ac_rfl
theorem keS(W:WB K mg d base):FO P w W 1 d.YS d.YT ["rules","used","number"] (kg9 kfs):=by
 exists W.V0.F,QT
 ·obtain⟨rl,u,ra,rs,used,n,rfl,hrl,hr,hu,k⟩:=h
  refine⟨_,kac (kcF PassesOwn.never rfl (kaK (K:=K) (pv 0)) (kbm (K:=K) (n:=3) rfl (kaw (pgn (i:=3) QT.nd) (kaw (pgn (i:=4) QT.nd) (kaw (pgn (i:=5) QT.nd) kbl))))
   (kag (ps_if (PW.pt (kcn (kav op_eq (pv 3) kat (kaB _)) (kbX (PW.pt (pw_or (PW.pt (kcn (kav op_eq (pv 4) (pv 2) (kaB _)) (kbX (kav kco (pv 5) (pv 1) (by with_unfolding_all rfl))))) (kh0 (PW.pt (kcn (kav op_eq (pv 5) (pv 2) (kaB _)) (kbX (kav kco (pv 4) (pv 1) (by with_unfolding_all rfl))))))))))) (kag (kao pe_bl)) (kau))))
   (kag (kao pe_bl)),?_⟩
  refine⟨_,rfl,rl,rfl,⟨_,SqL.of hrl⟩,kca (xs:=ra.map V.ref) (fun i σ H'=>H'=H/\(∀r∈rs.take i,nevR used n r=false)/\∃v3 v4 v5:Option V,σ=[some (.ref rl),some (.ref u),some (iV n),v3,v4,v5])
   ⟨rfl,(fun r hr=>by simp at hr),none,none,none,rfl⟩ (fun i σ H' _ h=>by rw[h.1];exact SqL.of hrl) ?_ ?_⟩
  ·rintro i y σ H' hy ⟨rfl,hno,v3,v4,v5,rfl⟩
   obtain⟨a,ea,rfl⟩:=kcS hy
   obtain⟨r,er,hra⟩:=hr.at ea
   have yes:nevR used n r=true->Q (.bl true) H':=fun e=>by
    have z:=kkL (f:=nevR used n) er e
    unfold kfs at k
    rw[z] at k
    exact k
   rwa[a,8,SqT.of hra,6,_,8,_,8,9,?_]
   rwa[8,6,8,?_]
   show if decide (V.str r.w=V.str "never")=true then _ else _
   rw[eq_str]
   by_cases hw:r.w=("never" :Str)
   ·rw [decide_eq_true hw]
    refine iteT ⟨_,rfl,_,rfl,rfl,_,rfl,?_⟩
    show if decide (iV r.a=iV n)=true then _ else _
    rw[kit]
    by_cases ha:r.a=n
    ·rw[decide_eq_true ha]
     refine iteT ⟨_,rfl,_,rfl,u,_,rfl, .inl (SqL.of hu),rfl,kdB _,_,rfl,?_⟩
     rw[if_neg MD,kcY]
     cases hb:used.contains r.b with
     |true=>exact iteT (iteT (yes (by unfold nevR;rw[decide_eq_true hw,decide_eq_true ha,hb];rfl)))
     | false=>
      refine iteF ⟨_,rfl,_,rfl,rfl,_,rfl,?_⟩
      show if decide (iV r.b=iV n)=true then _ else _
      rw[kit]
      by_cases hc:r.b=n
      ·rw[decide_eq_true hc]
       refine iteT ⟨_,rfl,_,rfl,u,_,rfl, .inl (SqL.of hu),rfl,kdB _,_,rfl,?_⟩
       rw[if_neg MD,kcY]
       cases hd:used.contains r.a with
       |true=>exact iteT (yes (by unfold nevR;rw[decide_eq_true hw,decide_eq_true ha,hb,decide_eq_true hc,hd];rfl))
       |false=>exact iteF ⟨rfl,kbY er hno (by unfold nevR;rw[decide_eq_true hw,decide_eq_true ha,hb,decide_eq_true hc,hd];rfl),_,_,_,rfl⟩
      ·rw[decide_eq_false hc]
       exact iteF (iteF ⟨rfl,kbY er hno (by unfold nevR;rw[decide_eq_true hw,decide_eq_true ha,hb,decide_eq_false hc];rfl),_,_,_,rfl⟩)
    ·rw[decide_eq_false ha]
     refine iteF (iteF ⟨_,rfl,_,rfl,rfl,_,rfl,?_⟩)
     show if decide (iV r.b=iV n)=true then _ else _
     rw[kit]
     by_cases hc:r.b=n
     ·rw[decide_eq_true hc]
      refine iteT ⟨_,rfl,_,rfl,u,_,rfl, .inl (SqL.of hu),rfl,kdB _,_,rfl,?_⟩
      rw[if_neg MD,kcY]
      cases hd:used.contains r.a with
      |true=>exact iteT (yes (by unfold nevR;rw[decide_eq_true hw,decide_eq_false ha,decide_eq_true hc,hd];rfl))
      |false=>exact iteF ⟨rfl,kbY er hno (by unfold nevR;rw[decide_eq_true hw,decide_eq_false ha,decide_eq_true hc,hd];rfl),_,_,_,rfl⟩
     ·rw[decide_eq_false hc]
      exact iteF (iteF ⟨rfl,kbY er hno (by unfold nevR;rw[decide_eq_true hw,decide_eq_false ha,decide_eq_false hc];rfl),_,_,_,rfl⟩)
   ·rw[decide_eq_false hw]
    refine iteF (iteF ⟨rfl,kbY er hno ?_,_,_,_,rfl⟩)
    unfold nevR
    rw[decide_eq_false hw]
    rfl
  ·rintro σ H' ⟨rfl,hno,v3,v4,v5,rfl⟩
   have z:=kmn (by rw[Mu];exact hr.len) hno
   unfold kfs at k
   rw[z] at k
   exact k
theorem QU:kam ["rules","used","number","word","one","other"] ["rules","used","number"] (kaf kcf):=by ac_rfl
theorem keT(W:WB K mg d base):FO P w W 1 d.YU d.YV ["rules","used","number"] (kg9 kfB):=by
 exists W.V1.F,QU
 ·obtain⟨rl,u,ra,rs,used,n,rfl,hrl,hr,hu,k⟩:=h
  refine⟨_,kac (kcF PassesOwn.never rfl (kaK (K:=K) (pv 0)) (kbm (K:=K) (n:=3) rfl (kaw (pgn (i:=3) QU.nd) (kaw (pgn (i:=4) QU.nd) (kaw (pgn (i:=5) QU.nd) kbl))))
   (kag (ps_if (PW.pt (kcn (kav op_eq (pv 3) kat (kaB _)) (kcn (kav op_eq (pv 4) (pv 2) (kaB _)) (kbX (kav kco (pv 5) (pv 1) (by with_unfolding_all rfl)))))) (kag (kao pe_bl)) (kau))))
   (kag (kao pe_bl)),?_⟩
  refine⟨_,rfl,rl,rfl,⟨_,SqL.of hrl⟩,kca (xs:=ra.map V.ref) (fun i σ H'=>H'=H/\(∀r∈rs.take i,ahdR used n r=false)/\∃v3 v4 v5:Option V,σ=[some (.ref rl),some (.ref u),some (iV n),v3,v4,v5])
   ⟨rfl,(fun r hr=>by simp at hr),none,none,none,rfl⟩ (fun i σ H' _ h=>by rw[h.1];exact SqL.of hrl) ?_ ?_⟩
  ·rintro i y σ H' hy ⟨rfl,hno,v3,v4,v5,rfl⟩
   obtain⟨a,ea,rfl⟩:=kcS hy
   obtain⟨r,er,hra⟩:=hr.at ea
   have yes:ahdR used n r=true->Q (.bl true) H':=fun e=>by
    have z:=kkL (f:=ahdR used n) er e
    unfold kfB at k
    rw[z] at k
    exact k
   rwa[a,8,SqT.of hra,6,_,8,_,8,9,?_]
   rwa[8,6,8,?_]
   show if decide (V.str r.w=V.str "ahead")=true then _ else _
   rw[eq_str]
   by_cases hw:r.w=("ahead" :Str)
   ·rw[decide_eq_true hw]
    refine iteT ⟨_,rfl,_,rfl,rfl,_,rfl,?_⟩
    show if decide (iV r.a=iV n)=true then _ else _
    rw[kit]
    by_cases ha:r.a=n
    ·rw[decide_eq_true ha]
     refine iteT ⟨_,rfl,_,rfl,u,_,rfl, .inl (SqL.of hu),rfl,kdB _,_,rfl,?_⟩
     rw[if_neg MD,kcY]
     cases hb:used.contains r.b with
     |true=>exact iteT (yes (by unfold ahdR;rw[decide_eq_true hw,decide_eq_true ha,hb];rfl))
     |false=>exact iteF ⟨rfl,kbY er hno (by unfold ahdR;rw[decide_eq_true hw,decide_eq_true ha,hb];rfl),_,_,_,rfl⟩
    ·rw[decide_eq_false ha]
     exact iteF (iteF ⟨rfl,kbY er hno (by unfold ahdR;rw[decide_eq_true hw,decide_eq_false ha];rfl),_,_,_,rfl⟩)
   ·rw[decide_eq_false hw]
    refine iteF (iteF ⟨rfl,kbY er hno ?_,_,_,_,rfl⟩)
    unfold ahdR
    rw[decide_eq_false hw]
    rfl
  ·rintro σ H' ⟨rfl,hno,v3,v4,v5,rfl⟩
   have z:=kmn (by rw[Mu];exact hr.len) hno
   unfold kfB at k
   rw[z] at k
   exact k
inductive kgm(vs:List V)(H:Hp)(Q:VK)(E_:XK):Prop
 |ct(rl u:Addr)(ra:List Addr)(rs:List Rul)(order:List Nat)(_:vs=[.ref rl, .ref u])(_:H rl>>(.lst (ra.map V.ref)))(_:P2 (fun a r=>RulIs H a r) ra rs)(_:H u>>(.lst (order.map iV)))(_:Q (pV (onlyM rs order)) H):kgm vs H Q E_
theorem kir{f:Rul->Bool}:∀{rs:List Rul}{i:Nat}{r:Rul},rs[i]?>>r->f r=true->(∀q∈rs.take i,f q=false)->rs.find? f>>r
 |[],i,r,e,_,_=>by simp at e
 |q::rs,0,r,e,h,_=>by
  have e2:q=r:=by simpa using e
  subst e2
  simp[h]
 |q::rs,i+1,r,e,h,hno=>by
  have h1:=hno q (by simp)
  rw[List.find?_cons_of_neg (by rw[h1];simp)]
  exact kir (by simpa using e) h fun z hz=>hno z (by simp[hz])
theorem knl{f:Rul->Bool}{rs:List Rul}{n:Nat}(hn:n=rs.length)(h:∀r∈rs.take n,f r=false):rs.find? f=none:=by
 rw[hn,M0] at h
 exact List.find?_eq_none.mpr fun r hr=>by rw[h r hr];simp
theorem QV:kam ["rules","order","word","one","other"] ["rules","order"] (kaf kbw):=by ac_rfl
theorem kdL(W:WB K mg d base):FO P w W 1 d.YW d.YX ["rules","order"] kgm:=by
 exists W.V2.F,QV
 ·obtain⟨rl,u,ra,rs,order,rfl,hrl,hr,hu,k⟩:=h
  refine⟨_,kac (kcF PassesOwn.never rfl (kaK (K:=K) (pv 0)) (kbm (K:=K) (n:=3) rfl (kaw (pgn (i:=2) QV.nd) (kaw (pgn (i:=3) QV.nd) (kaw (pgn (i:=4) QV.nd) kbl))))
   (kag (ps_if (PW.pt (kcn (kav op_eq (pv 2) kat (kaB _)) (kcn (kav kco (pv 3) (pv 1) (by with_unfolding_all rfl)) (kbX (kav kb8 (pv 4) (pv 1) (by with_unfolding_all rfl)))))) (kag (kao (pv 3))) (kau))))
   (kag (kao kbg)),?_⟩
  refine⟨_,rfl,rl,rfl,⟨_,SqL.of hrl⟩,kca (xs:=ra.map V.ref) (fun i σ H'=>H'=H/\(∀r∈rs.take i,loneM order r=false)/\∃v3 v4 v5:Option V,σ=[some (.ref rl),some (.ref u),v3,v4,v5])
   ⟨rfl,(fun r hr=>by simp at hr),none,none,none,rfl⟩ (fun i σ H' _ h=>by rw[h.1];exact SqL.of hrl) ?_ ?_⟩
  ·rintro i y σ H' hy ⟨rfl,hno,v3,v4,v5,rfl⟩
   obtain⟨a,ea,rfl⟩:=kcS hy
   obtain⟨r,er,hra⟩:=hr.at ea
   rwa[a,8,SqT.of hra,6,_,8,_,8,9,?_]
   rwa[8,6,8,?_]
   show if decide (V.str r.w=V.str "only")=true then _ else _
   rw[eq_str]
   by_cases hw:r.w=("only" :Str)
   ·rw[decide_eq_true hw]
    refine iteT ⟨_,rfl,_,rfl,u,_,rfl, .inl (SqL.of hu),rfl,kdB _,_,rfl,?_⟩
    rw[if_neg MD,kcY]
    cases ha:order.contains r.a with
    | true=>
     refine iteT ⟨_,rfl,_,rfl,u,_,rfl, .inl (SqL.of hu),rfl,kdB _,_,rfl,?_⟩
     rw[if_pos rfl,kcY]
     cases hb:order.contains r.b with
     |true=>exact iteF ⟨rfl,kbY er hno (by unfold loneM;rw[decide_eq_true hw,ha,hb];rfl),_,_,_,rfl⟩
     |false=>
      refine iteT ⟨_,rfl,?_⟩
      have z:=kir (f:=loneM order) er (by unfold loneM;rw[decide_eq_true hw,ha,hb];rfl) hno
      unfold onlyM at k
      rw[z] at k
      exact k
    |false=>exact iteF (iteF ⟨rfl,kbY er hno (by unfold loneM;rw[decide_eq_true hw,ha];rfl),_,_,_,rfl⟩)
   ·rw[decide_eq_false hw]
    refine iteF (iteF ⟨rfl,kbY er hno ?_,_,_,_,rfl⟩)
    unfold loneM
    rw[decide_eq_false hw]
    rfl
  ·rintro σ H' ⟨rfl,hno,v3,v4,v5,rfl⟩
   have z:=knl (by rw[Mu];exact hr.len) hno
   unfold onlyM at k
   rw[z] at k
   exact k
inductive khF(d:D)(vs:List V)(H:Hp)(Q:VK)(E_:XK):Prop
 |ct(t h u:Addr)(T:TillD)(hand:List Int)(used:List Nat)(n:Nat)(V:Vch)(_:vs=[.ref t, .ref h, .ref u,iV n])(_:TillIs d H t T)(_:H h>>(.lst (hand.map L2.V.int)))(_:H u>>(.lst (used.map iV)))(_:T.vs[n]?>>V)(_:hand.length=T.vs.length)(_:Q (sV (wordM V T.rs hand used n)) H):khF d vs H Q E_
theorem kek:kam ["till","hand","used","number"] ["till","hand","used","number"] (kaf kbO):=by ac_rfl
theorem kep(W:WB K mg d base):FO P w W 2 d.YQ d.YR ["till","hand","used","number"] (khF d):=by
 exists W.VZ.F,kek
 ·obtain⟨t,h,u,T,hand,used,n,Vc,rfl,hT,hh,hu,hn,hl,k⟩:=h
  obtain⟨dx,fs,p,vl,rl,va,ra,ht,t1,t2,t3,t4,hp,hvl,hva,hrl,hra⟩:=hT
  exists Jg,keS,W
  exists Jh,keT,W
  refine⟨_,kac (ps_if (kav op_gt (pe_op kbC (pe_bm MW PySem.F.slot_list_count PySem.F.type_list_count klu (pv 2) (kaa (pv 3) kae)) kaq) (pe_ix (r:=rIxL K) kaR (pv 1) (pv 3) (fun _ _=>rfl)) (kaB _)) (kag (kao kat)) (kau))
   (kac (ps_if (PW.pt (kcn (kaX (kaj (K:=K) (kaj (K:=K) (pe_ix (r:=rIxL K) kaR (kaj (K:=K) (pv 0) rfl) (pv 3) (fun _ _=>rfl)) rfl) rfl)) (kbX (kav kco (pv 3) (pv 2) (by with_unfolding_all rfl))))) (kag (kao kat)) (kau))
   (kac (ps_if (kaX (pcl Jg hr W.V0 (kaa (kaj (K:=K) (pv 0) rfl) (kaa (pv 2) (kaa (pv 3) kae))))) (kag (kao kat)) (kau))
   (kac (ps_if (kaX (pcl Jh hr W.V1 (kaa (kaj (K:=K) (pv 0) rfl) (kaa (pv 2) (kaa (pv 3) kae))))) (kag (kao kat)) (kau))
   (kag (kao kbg))))),?_⟩
  obtain⟨v,ev⟩:=at_of (xs:=va) (i:=n) (by rw[hva.len];exact at_lt hn)
  obtain⟨Vc',eV',hV⟩:=hva.at ev
  rw[hn] at eV'
  cases eV'
  obtain⟨mA,dxv,fsv,hv,lvm,_,⟨dxm,fsm,hm,m1,m2,m3,m4,m5,m6⟩,hh',_⟩:=id hV
  obtain⟨z,ez⟩:=at_of (xs:=hand) (i:=n) (by rw[hl];exact at_lt hn)
  have eu:H u>>(.lst ((used.map fun(i:Nat)=>(i:Int)).map V.int)):=by rw[hu,D0];rfl
  have eg:hand.getD n 0=z:=by rw[M9,ez];rfl
  rwa[8, .inl ⟨rfl,_,SqL.of hu⟩,8,u,9,eu,9,8,8,h,_,9,SqL.of hh,ka4 (v:=.int z) (by rw[MN,ez];rfl),9,8,?_]
  rw[knp]
  unfold wordM at k
  rw[eg] at k
  by_cases c1:z<(used.count n:Int)+1
  ·rw[if_pos c1] at k
   rw[show decide ((used.count n:Int)+1 > z)=true from decide_eq_true c1]
   exact iteT k
  rw[if_neg c1] at k
  rw[show decide ((used.count n:Int)+1 > z)=false from decide_eq_false c1]
  refine iteF ?_
  rwa[8,t,d.qg,dx,fs,8,ht,W.qg.cl,W.Qg,t2,8,vl,_,9,SqL.of hvl,ka4 (v:=.ref v) (by rw[MN,ev];rfl),v,clsOf d Vc.so,dxv,fsv,8,hv,cl_of W hh',na_of W hh',lvm,mA,d.qi,dxm,fsm,8,hm,W.qi.cl,W.Uk,m5,Vc.ms.once,6,?_]
  cases ho:Vc.ms.once with
  | true=>
   rw[ho,Bool.true_and] at k
   refine iteT ⟨_,rfl,_,rfl,u,_,rfl, .inl (SqL.of hu),rfl,kdB _,_,rfl,?_⟩
   rw[if_neg MD,kcY]
   cases hc:used.contains n with
   |true=>
    rw[hc,if_pos rfl] at k
    exact iteT k
   | false=>
    rw[hc,if_neg MD] at k
    refine iteF ?_
    rwa[8,t,d.qg,dx,fs,8,ht,W.qg.cl,W.qS,t3,8,8,rl,u,ra,T.rs,used,n,6,hrl,hra,hu,8,?_]
    cases h1:kfs T.rs used n with
    |true=>
     rw[h1,if_pos rfl] at k
     exact iteT k
    | false=>
     rw[h1,if_neg MD] at k
     refine iteF ⟨_,rfl,t,d.qg,dx,fs,_,rfl,ht,W.qg.cl,W.qS,t3,_,rfl,_,rfl,rl,u,ra,T.rs,used,n,rfl,hrl,hra,hu,_,rfl,?_⟩
     cases h2:kfB T.rs used n with
     |true=>
      rw[h2,if_pos rfl] at k
      exact iteT k
     |false=>
      rw[h2,if_neg MD] at k
      exact iteF k
  | false=>
   rw[ho,DC,if_neg MD] at k
   refine iteF (iteF ?_)
   rwa[8,t,d.qg,dx,fs,8,ht,W.qg.cl,W.qS,t3,8,8,rl,u,ra,T.rs,used,n,6,hrl,hra,hu,8,?_]
   cases h1:kfs T.rs used n with
   |true=>
    rw[h1,if_pos rfl] at k
    exact iteT k
   | false=>
    rw[h1,if_neg MD] at k
    refine iteF ⟨_,rfl,t,d.qg,dx,fs,_,rfl,ht,W.qg.cl,W.qS,t3,_,rfl,_,rfl,rl,u,ra,T.rs,used,n,rfl,hrl,hra,hu,_,rfl,?_⟩
    cases h2:kfB T.rs used n with
    |true=>
     rw[h2,if_pos rfl] at k
     exact iteT k
    |false=>
     rw[h2,if_neg MD] at k
     exact iteF k
inductive kja(d:D)(vs:List V)(H:Hp)(Q:VK)(E_:XK):Prop
 |ct(H0:Hp)(w dx t b h:Addr)(hand:List Int)(B:Bask)(_:vs=[.ref w, .ref t, .ref b, .ref h])(_:H0 w=none)(_:Same H0 H)(_:H w>>(.ins d.c_Way dx []))(_:H0 h>>(.lst (hand.map V.int)))(_:BaskIs d.qf d.qh H0 b B)(_:B.rs.length<=12)(_:(∀r∈B.rs,r.Ok))(_:∀(H':Hp)(x:Addr),Same H0 H'->H0 x=none->WayAt d 5 H' w t b x hand []->StndIs d.qd H' x (stnd0 B)->Q .non H'):kja d vs H Q E_
theorem khb:kam ["self","till","basket","hand"] ["self","till","basket","hand"] (kaf kdX):=by ac_rfl
theorem kdz(W:WB K mg d base):FO P w W 4 d.ZU d.ZV ["self","till","basket","hand"] (kja d):=by
 exists W.qI.F,khb
 ·obtain⟨H0,wy,dx,t,b,h,hand,B,rfl,fw,s0,hw,hh,hb,hB,hok,k⟩:=h
  exists XW,kcH,W
  refine⟨_,kac (kaA (pv 0) (pv 1) rfl)
   (kac (kaA (pv 0) (pv 2) rfl)
   (kac (kaA (pv 0) (kaZ (r:=kbW K) kaU (by rfl) W.B.list kcr (kaa (pv 3) kae)) rfl)
   (kac (kaA (pv 0) (kaJ kae) rfl)
   (kag (kaA (pv 0) (kbc (W.Qd.mk' W.qd) XW hr rfl W.qd.m W.Qd.b .nil pass0 (kaa (pv 2) kae)) rfl))))),?_⟩
  exists Y4
  rwa[8,8,wy,d.c_Way,dx,[],6,hw,W.c_Way.cl,W.qF,by decide,?_]
  have s1:Same H0 (upd H wy (.ins d.c_Way dx (putF "till" (.ref t) []))):=kar fw s0 (nx hw)
  have hw1:(upd H wy (.ins d.c_Way dx (putF "till" (.ref t) []))) wy>>(.ins d.c_Way dx (putF "till" (.ref t) [])):=kad
  generalize upd H wy (.ins d.c_Way dx (putF "till" (.ref t) []))=H1 at *
  nomatch 8,wy,d.c_Way,dx,8,hw1,W.c_Way.cl,W.QF,few (Mz (kal (n:=0) (Mv _)) (by decide)),?_
  have s2:Same H0 (upd H1 wy (.ins d.c_Way dx (putF "basket" (.ref b) (putF "till" (.ref t) [])))):=kar fw s1 (nx hw1)
  have hw2:(upd H1 wy (.ins d.c_Way dx (putF "basket" (.ref b) (putF "till" (.ref t) [])))) wy>>(.ins d.c_Way dx (putF "basket" (.ref b) (putF "till" (.ref t) []))):=kad
  generalize upd H1 wy (.ins d.c_Way dx (putF "basket" (.ref b) (putF "till" (.ref t) [])))=H2 at *
  nomatch h,8, .inl (SqL.of (s2 _ _ hh)),fun h' hh'=>?_
  have n3:=kai (o:=.lst (hand.map V.int)) hh'
  have nh:h'≠wy:=(kak hw2 hh').symm
  have s3:=s2.trans n3
  have e3:(upd H2 h' (.lst (hand.map V.int))) h'>>(.lst (hand.map V.int)):=kad
  have hw3:=n3 _ _ hw2
  clear n3
  generalize upd H2 h' (.lst (hand.map V.int))=H3 at *
  nomatch wy,d.c_Way,dx,8,hw3,W.c_Way.cl,W.XB,few (Mz (kal (kal (n:=0) (Mv _))) (by decide)),?_
  have s4:Same H0 (upd H3 wy (.ins d.c_Way dx (putF "hand" (.ref h') (putF "basket" (.ref b) (putF "till" (.ref t) []))))):=kar fw s3 (nx hw3)
  have e4:(upd H3 wy (.ins d.c_Way dx (putF "hand" (.ref h') (putF "basket" (.ref b) (putF "till" (.ref t) []))))) h'>>(.lst (hand.map V.int)):=by rw[kah nh];exact e3
  have hw4:(upd H3 wy (.ins d.c_Way dx (putF "hand" (.ref h') (putF "basket" (.ref b) (putF "till" (.ref t) []))))) wy>>(.ins d.c_Way dx (putF "hand" (.ref h') (putF "basket" (.ref b) (putF "till" (.ref t) [])))):=kad
  generalize upd H3 wy (.ins d.c_Way dx (putF "hand" (.ref h') (putF "basket" (.ref b) (putF "till" (.ref t) []))))=H4 at *
  symm
  exists Y4
  rwa[by decide,fun u hu=>?_]
  have n5:=kai (o:=.lst []) hu
  have nu:u≠wy:=(kak hw4 hu).symm
  have s5:=s4.trans n5
  have e5:=n5 _ _ e4
  have eu5:(upd H4 u (.lst [])) u>>(.lst (([]:List Nat).map iV)):=kad
  have hw5:=n5 _ _ hw4
  clear n5
  generalize upd H4 u (.lst [])=H5 at *
  nomatch wy,d.c_Way,dx,8,hw5,W.c_Way.cl,W.qQ,few (Mz (kal (kal (kal (n:=0) (Mv _)))) (by decide)),?_
  have s6:Same H0 (upd H5 wy (.ins d.c_Way dx (putF "used" (.ref u) (putF "hand" (.ref h') (putF "basket" (.ref b) (putF "till" (.ref t) [])))))):=kar fw s5 (nx hw5)
  have e6:(upd H5 wy (.ins d.c_Way dx (putF "used" (.ref u) (putF "hand" (.ref h') (putF "basket" (.ref b) (putF "till" (.ref t) [])))))) h'>>(.lst (hand.map V.int)):=by rw[kah nh];exact e5
  have eu6:(upd H5 wy (.ins d.c_Way dx (putF "used" (.ref u) (putF "hand" (.ref h') (putF "basket" (.ref b) (putF "till" (.ref t) [])))))) u>>(.lst (([]:List Nat).map iV)):=by rw[kah nu];exact eu5
  have hw6:(upd H5 wy (.ins d.c_Way dx (putF "used" (.ref u) (putF "hand" (.ref h') (putF "basket" (.ref b) (putF "till" (.ref t) [])))))) wy>>(.ins d.c_Way dx (putF "used" (.ref u) (putF "hand" (.ref h') (putF "basket" (.ref b) (putF "till" (.ref t) []))))):=kad
  generalize upd H5 wy (.ins d.c_Way dx (putF "used" (.ref u) (putF "hand" (.ref h') (putF "basket" (.ref b) (putF "till" (.ref t) [])))))=H6 at *
  nomatch knh (hb.same s6) hB hok fun H7 x s7 f7 hx=>?_
  have hw7:=s7 _ _ hw6
  have fx:H0 x=none:=s6.free f7
  have nxw:x≠wy:=(kak hw6 f7).symm
  nomatch wy,d.c_Way,dx,8,hw7,W.c_Way.cl,W.qR,few (Mz (kal (kal (kal (kal (n:=0) (Mv _))))) (by decide)),?_
  symm
  refine k _ x (kar fw (s6.trans s7) (nx hw7)) fx ⟨dx,_,h',u,kad,?_,?_,?_,?_,?_,?_,?_,?_,?_,?_,?_,?_⟩ ?_
  ·ac_nf
  ·ac_nf
  ·ac_nf
  ·ac_nf
  ·ac_nf
  ·ac_nf
   rfl
  ·ac_nf
   rfl
  ·ac_nf
   rfl
  ·ac_nf
   rfl
  ·exact Mz (kal (kal (kal (kal (kal (n:=0) (Mv _)))))) (by decide)
  ·rw[kah nh];exact s7 _ _ e6
  ·rw[kah nu];exact s7 _ _ eu6
  ·obtain⟨o,pp,mm,⟨dxs,fss,hxs,q⟩,ho,hpp,hmm⟩:=hx
   symm
   rwa[o,pp,mm,⟨dxs,fss,by rw[kah nxw];exact hxs,q⟩,by rw[kah (ne_of ho hw7 (by intro z;cases z))];exact ho,by rw[kah (ne_of hpp hw7 (by intro z;cases z))];exact hpp,by rw[kah (ne_of hmm hw7 (by intro z;cases z))];exact hmm]
theorem kj9{d:D}{H:Hp}{t b h:Addr}{hand:List Int}{B:Bask}{R:Addr->Hp->Prop}{E:XK}(hh:H h>>(.lst (hand.map V.int)))(hb:BaskIs d.qf d.qh H b B)(hB:B.rs.length<=12)(hok:∀r∈B.rs,r.Ok)
  (k:∀(H':Hp)(w x:Addr),Same H H'->H w=none->H x=none->WayAt d 5 H' w t b x hand []->StndIs d.qd H' x (stnd0 B)->R w H'):
  ∀w dx,H w=none->H dx=none->dx≠w->kja d [.ref w, .ref t, .ref b, .ref h] (upd (upd H dx (.own w)) w (.ins d.c_Way dx [])) (fun v H2=>v=.non/\R w H2) E:=
 fun w dx nw nd _=>⟨H,w,dx,t,b,h,hand,B,rfl,nw,ka3 nw nd,kad,hh,hb,hB,hok,fun H' x s f hW hx=>⟨rfl,k H' w x s nw f hW hx⟩⟩
inductive kgi(d:D)(vs:List V)(H:Hp)(Q:VK)(E_:XK):Prop
 |ct(wy t b x:Addr)(T:TillD)(B:Bask)(S:Stnd)(hand:List Int)(used:List Nat)(n:Nat)(V:Vch)(_:vs=[.ref wy,iV n])(_:WayIs d H wy t b x hand used)(_:TillIs d H t T)(_:BaskIs d.qf d.qh H b B)(_:StndIs d.qd H x S)(_:Wf T.ps B S)(_:VchOk T.ps V)(_:T.vs[n]?>>V)(_:hand.length=T.vs.length)(_:∀(H':Hp),Same H H'->Q (dueM V T B hand used S n) H'):kgi d vs H Q E_
theorem Uz:kam ["self","number","word"] ["self","number"] (kaf kch):=by ac_rfl
theorem kcU(W:WB K mg d base):FO P w W 5 d.ZW d.ZX ["self","number"] (kgi d):=by
 exists W.Qe.F,Uz
 ·obtain⟨wy,t,b,x,T,B,S,hand,used,n,Vc,rfl,hW,hT,hB,hS,wf,vo,hn,hl,k⟩:=h
  obtain⟨dxw,fsw,h,u,hw,w1,w2,w3,w4,w5,w6,w7,w8,w9,w10,hh,hu⟩:=id hW
  obtain⟨dx,fs,p,vl,rl,va,ra,ht,t1,t2,t3,t4,hp,hvl,hva,hrl,hra⟩:=id hT
  exists Ji,kep,W
  exists Jj,kgF,W
  have hr2:Room 2 _:=hr.mono (by decide)
  refine⟨_,kac (psl (i:=2) Uz.nd (pcl Ji hr2 W.VZ (kaa (kaj (K:=K) (pv 0) rfl) (kaa (kaj (K:=K) (pv 0) rfl) (kaa (kaj (K:=K) (pv 0) rfl) (kaa (pv 1) kae))))))
   (kac (ps_if (kav kdy (pv 2) kbg (kaB _)) (kag (kao (pv 2))) (kau))
   (kag (kao (pcl Jj hr W.VS (kaa (pe_ix (r:=rIxL K) kaR (kaj (K:=K) (kaj (K:=K) (pv 0) rfl) rfl) (pv 1) (fun _ _=>rfl)) (kaa (kaj (K:=K) (kaj (K:=K) (pv 0) rfl) rfl) (kaa (kaj (K:=K) (pv 0) rfl) (kaa (kaj (K:=K) (pv 0) rfl) kae)))))))),?_⟩
  obtain⟨v,ev⟩:=at_of (xs:=va) (i:=n) (by rw[hva.len];exact at_lt hn)
  obtain⟨Vc',eV',hV⟩:=hva.at ev
  rw[hn] at eV'
  cases eV'
  rwa[8,wy,d.c_Way,dxw,fsw,8,hw,W.c_Way.cl,W.qF,w1,8,wy,d.c_Way,dxw,fsw,8,hw,W.c_Way.cl,W.XB,w3,8,wy,d.c_Way,dxw,fsw,8,hw,W.c_Way.cl,W.qQ,w4,8,t,h,u,T,hand,used,n,Vc,6,hT,hh,hu,hn,hl,?_]
  unfold dueM at k
  cases e:wordM Vc T.rs hand used n with
  |some z=>
   rw[e] at k
   rwa[8,6,8,?_]
   show if(!decide (V.str z=V.non))=true then _ else _
   rw[show(!decide (V.str z=V.non))=true by simp]
   exact iteT ⟨_,rfl,k H (Same.refl _)⟩
  |none=>
   rw[e] at k
   rwa[8,6,8,?_]
   show if(!decide (V.non=V.non))=true then _ else _
   rw[show(!decide (V.non=V.non))=false by simp]
   refine iteF ⟨_,rfl,wy,d.c_Way,dxw,fsw,_,rfl,hw,W.c_Way.cl,W.qF,w1,t,d.qg,dx,fs,_,rfl,ht,W.qg.cl,W.Qg,t2,_,rfl,vl,_,_,_,rfl,rfl,SqL.of hvl,ka4 (v:=.ref v) (by rw[MN,ev];rfl),?_⟩
   rwa[8,wy,d.c_Way,dxw,fsw,8,hw,W.c_Way.cl,W.qF,w1,t,d.qg,dx,fs,8,ht,W.qg.cl,W.QG,t1,8,wy,d.c_Way,dxw,fsw,8,hw,W.c_Way.cl,W.QF,w2,8,wy,d.c_Way,dxw,fsw,8,hw,W.c_Way.cl,W.qR,w5,?_]
   rwa[v,p,b,x,Vc,T.ps,B,S,6,hV,SqL.of hp,hB,hS,wf,vo,k]
inductive khP(d:D)(vs:List V)(H:Hp)(Q:VK)(E_:XK):Prop
 |ct(wy t b x:Addr)(T:TillD)(B:Bask)(S:Stnd)(hand:List Int)(used:List Nat)(n:Nat)(V:Vch)(_:vs=[.ref wy,iV n])(_:WayIs d H wy t b x hand used)(_:TillIs d H t T)(_:BaskIs d.qf d.qh H b B)(_:StndIs d.qd H x S)(_:Wf T.ps B S)(_:VchOk T.ps V)(_:T.vs[n]?>>V)(_:used.length<64)(_:∀(H':Hp)(wy' x':Addr),Same H H'->H wy'=none->WayIs d H' wy' t b x' hand (used++[n])->StndIs d.qd H' x' (aftM V T.ps (kds B) S)->Q (.ref wy') H'):khP d vs H Q E_
theorem UA:kam ["self","number","further"] ["self","number"] (kaf kcQ):=by ac_rfl
theorem kdN(W:WB K mg d base):FO P w W 6 d.ZY d.ZZ ["self","number"] (khP d):=by
 exists W.Qf.F,UA
 ·obtain⟨wy,t,b,x,T,B,S,hand,used,n,Vc,rfl,hW,hT,hB,hS,wf,vo,hn,hl,k⟩:=h
  obtain⟨dxw,fsw,h,u,hw,w1,w2,w3,w4,w5,w6,w7,w8,w9,w10,hh,hu⟩:=id hW
  obtain⟨dx,fs,p,vl,rl,va,ra,ht,t1,t2,t3,t4,hp,hvl,hva,hrl,hra⟩:=id hT
  exists Ql,kdz,W
  exists Jk,klr,W
  refine⟨_,kac (psl (i:=2) UA.nd (kbc (W.qI.mk' W.c_Way) Ql hr rfl W.c_Way.m W.qI.b .nil pass0 (kaa (kaj (K:=K) (pv 0) rfl) (kaa (kaj (K:=K) (pv 0) rfl) (kaa (kaj (K:=K) (pv 0) rfl) kae)))))
   (kac (kaA (pv 2) (pe_op kd6 (kaj (K:=K) (pv 0) rfl) (kaJ (kaa (pv 1) kae))) rfl)
   (kac (kaA (pv 2) (pcl Jk hr W.VU (kaa (pe_ix (r:=rIxL K) kaR (kaj (K:=K) (kaj (K:=K) (pv 0) rfl) rfl) (pv 1) (fun _ _=>rfl)) (kaa (kaj (K:=K) (kaj (K:=K) (pv 0) rfl) rfl) (kaa (kaj (K:=K) (pv 0) rfl) (kaa (kaj (K:=K) (pv 0) rfl) kae))))) rfl)
   (kag (kao (pv 2))))),?_⟩
  obtain⟨v,ev⟩:=at_of (xs:=va) (i:=n) (by rw[hva.len];exact at_lt hn)
  obtain⟨Vc',eV',hV⟩:=hva.at ev
  rw[hn] at eV'
  cases eV'
  exists Y4
  rwa[8,wy,d.c_Way,dxw,fsw,8,hw,W.c_Way.cl,W.qF,w1,8,wy,d.c_Way,dxw,fsw,8,hw,W.c_Way.cl,W.QF,w2,8,wy,d.c_Way,dxw,fsw,8,hw,W.c_Way.cl,W.XB,w3,kj9 hh hB wf.nl wf.ok fun H1 y x1 s1 fy fx1 hy hx1=>?_]
  obtain⟨dxy,fsy,h1,u1,hyy,y1,y2,y3,y4,y5,y6,y7,y8,y9,y10,hh1,hu1⟩:=hy
  nomatch wy,d.c_Way,dxw,fsw,8,s1 _ _ hw,W.c_Way.cl,W.qQ,w4,8,(by show 1<=sizeLine;decide),fun q1 hq1=>?_
  have n2:=kai (o:=.lst [iV n]) hq1
  have eq1:(upd H1 q1 (.lst [iV n])) q1>>(.lst [iV n]):=kad
  have s2:=s1.trans n2
  have hy2:=n2 _ _ hyy
  have hh2:=n2 _ _ hh1
  clear n2
  generalize upd H1 q1 (.lst [iV n])=H2 at *
  symm
  exists Y4
  rwa[u,q1,9,s2 _ _ hu,eq1,MI (kan (by rw[Mu];show _+1<=1000;lia)),fun q2 hq2=>?_]
  have n3:=kai (o:=.lst (used.map iV++[iV n])) hq2
  have eq2:(upd H2 q2 (.lst (used.map iV++[iV n]))) q2>>(.lst ((used++[n]).map iV)):=by rw[kad,MC];rfl
  have s3:=s2.trans n3
  have hy3:=n3 _ _ hy2
  have hh3:=n3 _ _ hh2
  have nq2:q2≠y:=(kak hy2 hq2).symm
  clear n3
  generalize upd H2 q2 (.lst (used.map iV++[iV n]))=H3 at *
  have nh1:h1≠y:=ne_of hh3 hy3 (by intro z;cases z)
  nomatch y,d.c_Way,dxy,fsy,6,hy3,W.c_Way.cl,W.qQ,few (Mz y10 (by decide)),?_
  have s4:Same H (upd H3 y (.ins d.c_Way dxy (putF "used" (.ref q2) fsy))):=kar fy s3 (nx hy3)
  have eq4:(upd H3 y (.ins d.c_Way dxy (putF "used" (.ref q2) fsy))) q2>>(.lst ((used++[n]).map iV)):=by rw[kah nq2];exact eq2
  have hh4:(upd H3 y (.ins d.c_Way dxy (putF "used" (.ref q2) fsy))) h1>>(.lst (hand.map V.int)):=by rw[kah nh1];exact hh3
  have hy4:(upd H3 y (.ins d.c_Way dxy (putF "used" (.ref q2) fsy))) y>>(.ins d.c_Way dxy (putF "used" (.ref q2) fsy)):=kad
  generalize upd H3 y (.ins d.c_Way dxy (putF "used" (.ref q2) fsy))=H4 at *
  nomatch wy,d.c_Way,dxw,fsw,8,s4 _ _ hw,W.c_Way.cl,W.qF,w1,t,d.qg,dx,fs,8,s4 _ _ ht,W.qg.cl,W.Qg,t2,8,vl,_,9,SqL.of (s4 _ _ hvl),ka4 (v:=.ref v) (by rw[MN,ev];rfl),?_
  nomatch wy,d.c_Way,dxw,fsw,8,s4 _ _ hw,W.c_Way.cl,W.qF,w1,t,d.qg,dx,fs,8,s4 _ _ ht,W.qg.cl,W.QG,t1,8,wy,d.c_Way,dxw,fsw,8,s4 _ _ hw,W.c_Way.cl,W.QF,w2,8,wy,d.c_Way,dxw,fsw,8,s4 _ _ hw,W.c_Way.cl,W.qR,w5,?_
  symm
  exists Y4
  rwa[v,p,b,x,Vc,T.ps,B,S,6,hV.same s4,SqL.of (s4 _ _ hp),hB.same s4,hS.same s4,wf,vo,fun H5 x' s5 f5 hx'=>?_]
  have hy5:=s5 _ _ hy4
  have hh5:=s5 _ _ hh4
  have eq5:=s5 _ _ eq4
  have nx':x'≠y:=(kak hy4 f5).symm
  nomatch y,d.c_Way,dxy,8,hy5,W.c_Way.cl,W.qR,few (Mz (kal y10) (by decide)),?_
  nomatch k _ y x' (kar fy (s4.trans s5) (nx hy5)) fy ⟨dxy,_,h1,q2,kad,?_,?_,?_,?_,?_,?_,?_,?_,?_,?_,?_,?_⟩ ?_
  ·ac_nf
   symm
   exact y1
  ·ac_nf
   symm
   exact y2
  ·ac_nf
   symm
   exact y3
  ·ac_nf
  ·ac_nf
  ·ac_nf
   symm
   exact y6
  ·ac_nf
   symm
   exact y7
  ·ac_nf
   symm
   exact y8
  ·ac_nf
   symm
   exact y9
  ·exact Mz (kal (kal y10)) (by decide)
  ·rw[kah nh1];exact hh5
  ·rw[kah nq2];exact eq5
  ·obtain⟨o,pp,mm,⟨dxs,fss,hxs,q⟩,ho,hpp,hmm⟩:=hx'
   symm
   rwa[o,pp,mm,⟨dxs,fss,by rw[kah nx'];exact hxs,q⟩,by rw[kah (ne_of ho hy5 (by intro z;cases z))];exact ho,by rw[kah (ne_of hpp hy5 (by intro z;cases z))];exact hpp,by rw[kah (ne_of hmm hy5 (by intro z;cases z))];exact hmm]
inductive kjp(d:D)(vs:List V)(H:Hp)(Q:VK)(E_:XK):Prop
 |ct(wy t b x:Addr)(T:TillD)(hand:List Int)(used:List Nat)(_:vs=[.ref wy])(_:WayIs d H wy t b x hand used)(_:TillIs d H t T)(_:Q (.bl (onlyM T.rs used).isNone) H):kjp d vs H Q E_
theorem kem:kam ["self"] ["self"] (kaf kbR):=by ac_rfl
theorem ker(W:WB K mg d base):FO P w W 2 d.Z9 d.Va ["self"] (kjp d):=by
 exists W.XC.F,kem
 ·obtain⟨wy,t,b,x,T,hand,used,rfl,hW,hT,k⟩:=h
  obtain⟨dxw,fsw,h,u,hw,w1,w2,w3,w4,w5,w6,w7,w8,w9,w10,hh,hu⟩:=id hW
  obtain⟨dx,fs,p,vl,rl,va,ra,ht,t1,t2,t3,t4,hp,hvl,hva,hrl,hra⟩:=id hT
  exists Jl,kdL,W
  rwa[_,kag (kao (kbJ kfo (pcl Jl hr W.V2 (kaa (kaj (K:=K) (kaj (K:=K) (pv 0) rfl) rfl) (kaa (kaj (K:=K) (pv 0) rfl) kae))) kbg (kaB _))),?_]
  rwa[8,wy,d.c_Way,dxw,fsw,8,hw,W.c_Way.cl,W.qF,w1,t,d.qg,dx,fs,8,ht,W.qg.cl,W.qS,t3,8,wy,d.c_Way,dxw,fsw,8,hw,W.c_Way.cl,W.qQ,w4,rl,u,ra,T.rs,used,6,hrl,hra,hu,6,?_]
  cases e:onlyM T.rs used with
  |none=>
   rw[e] at k
   show Q (.bl (decide (V.non=V.non))) H
   rw[show decide (V.non=V.non)=true by simp]
   exact k
  |some z=>
   rw[e] at k
   show Q (.bl (decide (V.int (z:Int)=V.non))) H
   rw[show decide (V.int (z:Int)=V.non)=false by simp]
   exact k
noncomputable def walkM(T:TillD)(B:Bask)(hand:List Int):List Nat->List Nat->Stnd->List Nat×Stnd
 |[],used,S=>(used,S)
 |n::ns,used,S=>match T.vs[n]? with
  |none=>(used,S)
  |some V=>if dueM V T B hand used S n=.non then walkM T B hand ns (used++[n]) (aftM V T.ps (kds B) S) else(used,S)
inductive kjb(d:D)(vs:List V)(H:Hp)(Q:VK)(E_:XK):Prop
 |ct(t b h o:Addr)(T:TillD)(B:Bask)(hand:List Int)(order:List Nat)(_:vs=[.ref t, .ref b, .ref h, .ref o])(_:TillIs d H t T)(_:ke8 T)(_:BaskIs d.qf d.qh H b B)(_:Wf T.ps B (stnd0 B))(_:H h>>(.lst (hand.map V.int)))(_:H o>>(.lst (order.map iV)))(_:hand.length=T.vs.length)(_:(∀n∈order,n<T.vs.length))(_:order.length<64)(_:∀(H':Hp)(wy x:Addr),Same H H'->H wy=none->WayIs d H' wy t b x hand (walkM T B hand order [] (stnd0 B)).1->StndIs d.qd H' x (walkM T B hand order [] (stnd0 B)).2->Wf T.ps B (walkM T B hand order [] (stnd0 B)).2->Q (.ref wy) H'):kjb d vs H Q E_
theorem QW:kam ["till","basket","hand","order","way","number"] ["till","basket","hand","order"] (kaf kfN):=by ac_rfl
theorem kj6(W:WB K mg d base):FO P w W 7 d.YN d.YO ["till","basket","hand","order"] (kjb d):=by
 exists W.VY.F,QW
 ·obtain⟨t,b,h,o,T,B,hand,order,rfl,hT,tok,hB,wf0,hh,ho,hl,hlt,h64,k⟩:=h
  exists Ql,kdz,W
  exists XX,kcU,W
  exists XY,kdN,W
  have hr5:Room 5 _:=hr.mono (by decide)
  refine⟨_,kac (psl (i:=4) QW.nd (kbc (W.qI.mk' W.c_Way) Ql hr5 rfl W.c_Way.m W.qI.b .nil pass0 (kaa (pv 0) (kaa (pv 1) (kaa (pv 2) kae)))))
   (kac (kcF PassesOwn.never rfl (kaK (K:=K) (pv 3)) (pgn (i:=5) QW.nd)
   (kac (ps_if (kav kdy (kaH (pv 4) W.c_Way.cl W.Qe.me XX hr5 W.Qe.b .nil pass0 (kaa (pv 5) kae)) kbg (kaB _)) (kag (kao (pv 4))) (kau))
   (kag (psl (i:=4) QW.nd (kaH (pv 4) W.c_Way.cl W.Qf.me XY hr W.Qf.b .nil pass0 (kaa (pv 5) kae))))))
   (kag (kao (pv 4)))),?_⟩
  generalize eR:walkM T B hand order [] (stnd0 B)=R at k
  exists Y4
  rwa[8,8,8,kj9 hh hB wf0.nl wf0.ok fun H1 y0 x0 s1 fy0 fx0 hy0 hx0=>?_]
  symm
  exists Y4
  refine⟨_,rfl,o,rfl,⟨_,SqL.of (s1 _ _ ho)⟩,kca (xs:=order.map iV) (fun i σ H'=>Same H H'/\∃(y x:Addr)(used:List Nat)(S:Stnd)(v5:Option V),WayIs d H' y t b x hand used/\H y=none/\StndIs d.qd H' x S/\Wf T.ps B S/\used.length=i/\walkM T B hand (order.drop i) used S=R/\σ=[some (.ref t),some (.ref b),some (.ref h),some (.ref o),some (.ref y),v5])
   ⟨s1,y0,x0,[],_,none,hy0.most (by decide),fy0,hx0,wf0,rfl,eR,rfl⟩ (fun i σ H' _ h=>SqL.of (h.1 _ _ ho)) ?_ ?_⟩
  ·rintro i yv σ H' hyv ⟨sI,y,x,used,S,v5,hY,fy,hx,wf,hul,hwalk,rfl⟩
   obtain⟨n,en,rfl⟩:∃n,order[i]?>>n/\yv=iV n:=kcK hyv
   have hi:=at_lt en
   obtain⟨Vc,hV⟩:=at_of (hlt n (MK en))
   have vo:=tok.vs Vc (MK hV)
   have ed:order.drop i=n::order.drop (i+1):=by
    obtain⟨h1,h2⟩:=MO.mp en
    rw[D8 h1,h2]
   rw[ed] at hwalk
   have hwk:=hwalk
   unfold walkM at hwk
   rw[hV] at hwk
   simp only at hwk
   obtain⟨dxw,fsw,hd,u,hw,w1,w2,w3,w4,w5,w6,w7,w8,w9,w10,hh',hu⟩:=id hY
   symm
   exists Y6
   rwa[8,y,dxw,fsw,6,hw,w6,8,y,t,b,x,T,B,S,hand,used,n,Vc,6,hY,hT.same sI,hB.same sI,hx,wf,vo,hV,hl,fun H2 s2=>⟨rfl,_,rfl,?_⟩]
   have s02:=sI.trans s2
   by_cases hn:dueM Vc T B hand used S n=.non
   ·rw[if_pos hn] at hwk
    rw[hn]
    rw[show(!decide (V.non=V.non))=false by simp]
    refine iteF ?_
    nofun
    exists Y8
    rwa[8,y,dxw,fsw,6,s2 _ _ hw,w7,8,y,t,b,x,T,B,S,hand,used,n,Vc,6,hY.same s2,hT.same s02,hB.same s02,hx.same s2,wf,vo,hV,by lia,fun H3 y' x' s3 fy' hY' hx'=>?_]
    exists 3
    rwa[s02.trans s3,y',x',used++[n],_,_,hY',s02.free fy',hx',wf.after vo,by rw[ML,hul];rfl,hwk,6]
   ·rw[if_neg hn] at hwk
    rw[show(!decide (dueM Vc T B hand used S n=V.non))=true by simp[hn]]
    refine iteT ?_
    exists 3
    exists Y8
    rwa[8,k H2 y x s02 fy ?_ ?_ ?_]
    ·rw[<-hwk];exact hY.same s2
    ·rw[<-hwk];exact hx.same s2
    ·rw[<-hwk];exact wf
  ·rintro σ H' ⟨sI,y,x,used,S,v5,hY,fy,hx,wf,hul,hwalk,rfl⟩
   rw[Mu,D9] at hwalk
   have hwk:=hwalk
   unfold walkM at hwk
   nofun
   exists Y6
   rwa[8,k H' y x sI fy ?_ ?_ ?_]
   ·rw[<-hwk];exact hY
   ·rw[<-hwk];exact hx
   ·rw[<-hwk];exact wf
noncomputable def kdf(T:TillD)(B:Bask)(hand:List Int)(order:List Nat):Option (Nat×L2.V):=
 let r:=walkM T B hand order [] (stnd0 B)
 if r.1.length<order.length then match T.vs[order.getD r.1.length 0]? with
  |none=>none
  |some V=>some (r.1.length,dueM V T B hand r.1 r.2 (order.getD r.1.length 0))
 else if(onlyM T.rs r.1).isNone=true then none else some (r.1.length, .str "only")
def FltIs(H:Hp)(v:L2.V):Option (Nat×L2.V)->Prop
 |none=>v=.non
 |some (k,z)=>∃a,v=.ref a/\H a>>(.tup [iV k,z])
inductive kju(d:D)(vs:List V)(H:Hp)(Q:VK)(E_:XK):Prop
 |ct(t b h o:Addr)(T:TillD)(B:Bask)(hand:List Int)(order:List Nat)(_:vs=[.ref t, .ref b, .ref h, .ref o])(_:TillIs d H t T)(_:ke8 T)(_:BaskIs d.qf d.qh H b B)(_:Wf T.ps B (stnd0 B))(_:H h>>(.lst (hand.map V.int)))(_:H o>>(.lst (order.map iV)))(_:hand.length=T.vs.length)(_:(∀n∈order,n<T.vs.length))(_:order.length<64)(_:∀(H':Hp)(v:L2.V),Same H H'->FltIs H' v (kdf T B hand order)->Q v H'):kju d vs H Q E_
theorem XZ:kam ["till","basket","hand","order","way","place"] ["till","basket","hand","order"] (kaf khf):=by ac_rfl
theorem kia(W:WB K mg d base):FO P w W 8 d.YL d.YM ["till","basket","hand","order"] (kju d):=by
 exists W.Xl.F,XZ
 ·obtain⟨t,b,h,o,T,B,hand,order,rfl,hT,tok,hB,wf0,hh,ho,hl,hlt,h64,k⟩:=h
  exists Jm,kj6,W
  exists XX,kcU,W
  exists Jn,ker,W
  have hr2:Room 2 _:=hr.mono (by decide)
  have hr5:Room 5 _:=hr.mono (by decide)
  refine⟨_,kac (psl (i:=4) XZ.nd (pcl Jm hr W.VY (kaa (pv 0) (kaa (pv 1) (kaa (pv 2) (kaa (pv 3) kae))))))
   (kac (psl (i:=5) XZ.nd (kap (r:=kaQ K) kas (by rfl) W.B.len b_len (kaa (kaj (K:=K) (pv 4) rfl) kae)))
   (kac (ps_if (kav op_lt (pv 5) (kap (r:=kaQ K) kas (by rfl) W.B.len b_len (kaa (pv 3) kae)) (kaB _)) (kag (kao (ka7 (kaa (pv 5) (kaa (kaH (pv 4) W.c_Way.cl W.Qe.me XX hr5 W.Qe.b .nil pass0 (kaa (pe_ix (r:=rIxL K) kaR (pv 3) (pv 5) (fun _ _=>rfl)) kae)) kae))))) (kau))
   (kac (ps_if (kfl (kaX (kaz (pv 4) W.c_Way.cl W.XC.me Jn hr2 W.XC.b .nil pass0))) (kag (kao (ka7 (kaa (pv 5) (kaa kat kae))))) (kau))
   (kag (kao kbg))))),?_⟩
  exists Y4
  rwa[8,8,8,8,t,b,h,o,T,B,hand,order,6,hT,tok,hB,wf0,hh,ho,hl,hlt,h64,fun H1 y x s1 fy hY hx wf=>?_]
  unfold kdf at k
  simp only at k
  generalize walkM T B hand order [] (stnd0 B)=r at *
  obtain⟨used,S⟩:=r
  simp only at *
  obtain⟨dxw,fsw,hd,u,hw,w1,w2,w3,w4,w5,w6,w7,w8,w9,w10,hh',hu⟩:=id hY
  nomatch y,d.c_Way,dxw,fsw,8,hw,W.c_Way.cl,W.qQ,w4,u,8, .inl (SqL.of hu),?_
  rw[Mu]
  nomatch 8,o,8, .inl (SqL.of (s1 _ _ ho)),9,8,?_
  rw[Mu]
  by_cases hlen:used.length<order.length
  ·rw[if_pos hlen] at k
   rw[show decide ((used.length:Int)<(order.length:Int))=true by simp;exact hlen]
   obtain⟨n,en⟩:=at_of hlen
   have eg:order.getD used.length 0=n:=by rw[M9,en];rfl
   obtain⟨Vc,hV⟩:=at_of (hlt n (MK en))
   rw[eg,hV] at k
   have vo:=tok.vs Vc (MK hV)
   refine iteT ?_
   symm
   exists Y6
   rwa[8,8,y,dxw,fsw,6,hw,w6,8,8,o,_,9,SqL.of (s1 _ _ ho),ka4 (v:=iV n) (by rw[MN,en];rfl),y,t,b,x,T,B,S,hand,used,n,Vc,6,hY,hT.same s1,hB.same s1,hx,wf,vo,hV,hl,fun H2 s2=>?_]
   nofun
   exists Y6
   rwa[(by show 2<=sizeLine;decide),fun q hq=>?_]
   nofun
   exact k _ _ ((s1.trans s2).trans (kai hq)) ⟨q,rfl,kad⟩
  ·rw[if_neg hlen] at k
   rw[show decide ((used.length:Int)<(order.length:Int))=false by simp;lia]
   refine iteF ?_
   nofun
   exists Y6
   rwa[8,y,dxw,fsw,6,hw,w8,y,t,b,x,T,hand,used,6,hY,hT.same s1,8,?_]
   cases e:(onlyM T.rs used).isNone with
   |true=>
    rw[e,if_pos rfl] at k
    refine iteF ?_
    nofun
    exact k H1 _ s1 rfl
   |false=>
    rw[e,if_neg MD] at k
    refine iteT ?_
    nofun
    exists Y8
    rwa[8,(by show 2<=sizeLine;decide),fun q hq=>?_]
    exists 3
    exact k _ _ (s1.trans (kai hq)) ⟨q,rfl,kad⟩
structure Step where
 n:Nat
 cs:List Int
 c:Int
def StepIs(H:Hp)(a:Addr)(s:Step):Prop:=∃l,H a>>(.tup [iV s.n, .ref l, .int s.c])/\H l>>(.lst (s.cs.map V.int))
theorem StepIs.same{H H':Hp}{a:Addr}{t:Step}(s:Same H H'):StepIs H a t->StepIs H' a t:=by rintro⟨l,h1,h2⟩;exact⟨l,s _ _ h1,s _ _ h2⟩
def StepN(H0 H:Hp)(a:Addr)(s:Step):Prop:=H0 a=none/\∃l,H0 l=none/\H a>>(.tup [iV s.n, .ref l, .int s.c])/\H l>>(.lst (s.cs.map V.int))
theorem StepN.same{H0 H H':Hp}{a:Addr}{t:Step}(s:Same H H'):StepN H0 H a t->StepN H0 H' a t:=by rintro⟨f,l,g,h1,h2⟩;exact⟨f,l,g,s _ _ h1,s _ _ h2⟩
structure BillD where
 order:List Nat
 steps:List Step
 pr:List Int
 cg:Int
 total:Int
inductive BillIs(d:D)(H0 H:Hp)(b:Addr)(B:BillD):Prop
 |ct(dx:Addr)(fs:List (Str×V))(o s p:Addr)(sa:List Addr)(_:H b>>(.ins d.qj dx fs))(_:fs.lookup ("order" :Str)>>(.ref o))(_:fs.lookup ("steps" :Str)>>(.ref s))(_:fs.lookup ("prices" :Str)>>(.ref p))(_:fs.lookup ("carriage" :Str)>>(.int B.cg))(_:fs.lookup ("total" :Str)>>(.int B.total))(_:H0 b=none)(_:H0 o=none)(_:H0 s=none)(_:H0 p=none)(_:H o>>(.lst (B.order.map iV)))(_:H s>>(.lst (sa.map V.ref)))(_:P2 (fun a t=>StepN H0 H a t) sa B.steps)(_:H p>>(.lst (B.pr.map V.int))):BillIs d H0 H b B
inductive kha(d:D)(vs:List V)(H:Hp)(Q:VK)(E_:XK):Prop
 |ct(H0:Hp)(b dx o s x:Addr)(order:List Nat)(steps:List Step)(S:Stnd)(sa:List Addr)(_:vs=[.ref b, .ref o, .ref s, .ref x])(_:H0 b=none)(_:Same H0 H)(_:H b>>(.ins d.qj dx []))(_:H0 o>>(.lst (order.map iV)))(_:H0 s>>(.lst (sa.map V.ref)))(_:P2 (fun a t=>StepIs H0 a t) sa steps)(_:steps.length<64)(_:StndIs d.qd H0 x S)(_:∀H',Same H0 H'->BillIs d H0 H' b ⟨order,steps,S.pr,S.cg,S.pr.sum+S.cg⟩->Q .non H'):kha d vs H Q E_
theorem kgw:kam ["self","order","steps","standing"] ["self","order","steps","standing"] (kaf kdw):=by ac_rfl
theorem kgK(W:WB K mg d base):FO P w W 2 d.Vb d.Vd ["self","order","steps","standing"] (kha d):=by
 exists W.XE.F,kgw
 ·obtain⟨H0,b,dx,o,st,x,order,steps,S,sa,rfl,fb,s0,hb,ho,hst,hsa,h64,hS,kk⟩:=h
  obtain⟨ow,pp,mm,⟨dxs,fss,hxs,l1,l2,l3,l4,l5⟩,how,hpp,hmm⟩:=id hS
  exists Jo,kd1,W
  refine⟨_,kac (kaA (pv 0) (kaZ (r:=kbW K) kaU (by rfl) W.B.list kcr (kaa (pv 1) kae)) rfl)
   (kac (kaA (pv 0) (kbf (N:=["number","piece_cuts","carriage_cut"]) (CompScope.plain rfl (by cutsat) (by cutsat) (by cutsat) (show(["number","piece_cuts","carriage_cut"]:List Str).Nodup by cutsat)) rfl (kaK (K:=K) (pv 2)) (fun _ _ _ _=>kbm (K:=K) (n:=3) rfl (kaw (pgn (i:=0) (show(["number","piece_cuts","carriage_cut"]:List Str).Nodup by cutsat)) (kaw (pgn (i:=1) (show(["number","piece_cuts","carriage_cut"]:List Str).Nodup by cutsat)) (kaw (pgn (i:=2) (show(["number","piece_cuts","carriage_cut"]:List Str).Nodup by cutsat)) kbl)))) (fun _ _ _ _=>(ka7 (kaa (pv 0) (kaa (kaZ (r:=kbW K) kaU (by rfl) W.B.list kcr (kaa (pv 1) kae)) (kaa (pv 2) kae)))))) rfl)
   (kac (kaA (pv 0) (kaZ (r:=kbW K) kaU (by rfl) W.B.list kcr (kaa (kaj (K:=K) (pv 3) rfl) kae)) rfl)
   (kac (kaA (pv 0) (kaj (K:=K) (pv 3) rfl) rfl)
   (kag (kaA (pv 0) (kaz (pv 3) W.qd.cl W.XA.me Jo hr W.XA.b .nil pass0) rfl))))),?_⟩
  exists Y4
  rwa[8,o,8, .inl (SqL.of (s0 _ _ ho)),fun o' ho'=>?_]
  have n1:=kai (o:=.lst (order.map iV)) ho'
  have fo:=s0.free ho'
  have no:o'≠b:=(kak hb ho').symm
  have e1:(upd H o' (.lst (order.map iV))) o'>>(.lst (order.map iV)):=kad
  have s1:=s0.trans n1
  have hb1:=n1 _ _ hb
  clear n1
  generalize upd H o' (.lst (order.map iV))=H1 at *
  nomatch b,d.qj,dx,[],6,hb1,W.qj.cl,W.UW,by decide,?_
  have s2:Same H0 (upd H1 b (.ins d.qj dx (putF "order" (.ref o') []))):=kar fb s1 (nx hb1)
  have e2:(upd H1 b (.ins d.qj dx (putF "order" (.ref o') []))) o'>>(.lst (order.map iV)):=by rw[kah no];exact e1
  have hb2:(upd H1 b (.ins d.qj dx (putF "order" (.ref o') []))) b>>(.ins d.qj dx (putF "order" (.ref o') [])):=kad
  generalize upd H1 b (.ins d.qj dx (putF "order" (.ref o') []))=H2 at *
  symm
  exists Y4
  refine⟨_,rfl,st,rfl,⟨_,SqL.of (s2 _ _ hst)⟩,kb3 (xs:=sa.map V.ref) (fun i σ ys H'=>Same H2 H'/\∃(ta:List Addr)(v0 v1 v2:Option V),ys=ta.map V.ref/\P2 (fun a t=>StepN H0 H' a t) ta (steps.take i)/\σ=[v0,v1,v2])
   ⟨Same.refl _,[],none,none,none,rfl, .nil,rfl⟩ (by rw[Mu,hsa.len];exact MI (kan (by lia))) ?_ ?_ ?_⟩
  ·rintro i σ ys H' hi ⟨s3,ta,v0,v1,v2,rfl,hT,rfl⟩
   symm
   exists Y6
   rwa[SqL.of (s3 _ _ (s2 _ _ hst)),?_]
   rw[Mu,hT.len,MU]
   rw[Mu,hsa.len] at hi
   lia
  ·rintro i y σ ys H' hy ⟨s3,ta,v0,v1,v2,rfl,hT,rfl⟩
   obtain⟨a,ea,rfl⟩:=kcS hy
   obtain⟨t,et,l,ha,hl⟩:=hsa.at ea
   have s03:=s2.trans s3
   nofun
   exists Y6
   rwa[a,8,SqT.of (s03 _ _ ha),6,_,8,_,8,9,?_]
   nofun
   exists Y6
   rwa[8,8,l,8, .inl (SqL.of (s03 _ _ hl)),fun l' hl'=>⟨_,rfl,(by show 3<=sizeLine;decide),fun q hq=>?_⟩]
   have n4:=kai (o:=.lst (t.cs.map V.int)) hl'
   have n5:=kai (o:=.tup [iV t.n,V.ref l',V.int t.c]) hq
   nofun
   exists Y6
   rwa[s3.trans (n4.trans n5),ta++[q],_,_,_,by rw[MC];rfl,?_,6]
   rw[keB et]
   nofun
   exact P2.snoc (hT.mono fun a t h=>h.same (n4.trans n5)) ⟨s03.free (n4.free hq),l',s03.free hl',kad,n5 _ _ kad⟩
  rintro σ ys H3 ⟨s3,ta,v0,v1,v2,rfl,hT,rfl⟩ sp hsp
  rw[Mu,hsa.len,M0] at hT
  have n4:=kai (o:=.lst (ta.map V.ref)) hsp
  have s03:=s2.trans s3
  have fsp:=s03.free hsp
  have hb3:=s3 _ _ hb2
  have nsp:sp≠b:=(kak hb3 hsp).symm
  have s4:=s03.trans n4
  have e4:=n4 _ _ (s3 _ _ e2)
  have es4:(upd H3 sp (.lst (ta.map V.ref))) sp>>(.lst (ta.map V.ref)):=kad
  have hT4:P2 (fun a t=>StepN H0 (upd H3 sp (.lst (ta.map V.ref))) a t) ta steps:=hT.mono fun a t h=>h.same n4
  have hb4:=n4 _ _ hb3
  clear n4
  generalize upd H3 sp (.lst (ta.map V.ref))=H4 at *
  nomatch b,d.qj,dx,8,hb4,W.qj.cl,W.UX,few (Mz (kal (n:=0) (Mv _)) (by decide)),?_
  have b5:But b H4 (upd H4 b (.ins d.qj dx (putF "steps" (.ref sp) (putF "order" (.ref o') [])))):=kax (nx hb4)
  have s5:Same H0 (upd H4 b (.ins d.qj dx (putF "steps" (.ref sp) (putF "order" (.ref o') [])))):=kar fb s4 (nx hb4)
  have e5:(upd H4 b (.ins d.qj dx (putF "steps" (.ref sp) (putF "order" (.ref o') [])))) o'>>(.lst (order.map iV)):=by rw[kah no];exact e4
  have es5:(upd H4 b (.ins d.qj dx (putF "steps" (.ref sp) (putF "order" (.ref o') [])))) sp>>(.lst (ta.map V.ref)):=by rw[kah nsp];exact es4
  have hb5:(upd H4 b (.ins d.qj dx (putF "steps" (.ref sp) (putF "order" (.ref o') [])))) b>>(.ins d.qj dx (putF "steps" (.ref sp) (putF "order" (.ref o') []))):=kad
  have stepb:∀{H5:Hp},But b H4 H5->P2 (fun a t=>StepN H0 H5 a t) ta steps:=fun {H5} bt=>hT4.mono fun a t ⟨f,l,g,h1,h2⟩=>⟨f,l,g,bt _ _ (ne_of h1 hb4 (by intro z;cases z)) h1,bt _ _ (ne_of h2 hb4 (by intro z;cases z)) h2⟩
  generalize upd H4 b (.ins d.qj dx (putF "steps" (.ref sp) (putF "order" (.ref o') [])))=H5 at *
  nomatch x,d.qd,dxs,fss,8,s5 _ _ hxs,W.qd.cl,W.qE,l2,pp,8, .inl (SqL.of (s5 _ _ hpp)),fun p' hp'=>?_
  have n6:=kai (o:=.lst (S.pr.map V.int)) hp'
  have fp:=s5.free hp'
  have np:p'≠b:=(kak hb5 hp').symm
  have s6:=s5.trans n6
  have b6:=b5.same n6
  have e6:=n6 _ _ e5
  have es6:=n6 _ _ es5
  have ep6:(upd H5 p' (.lst (S.pr.map V.int))) p'>>(.lst (S.pr.map V.int)):=kad
  have hb6:=n6 _ _ hb5
  clear n6
  generalize upd H5 p' (.lst (S.pr.map V.int))=H6 at *
  nomatch b,d.qj,dx,8,hb6,W.qj.cl,W.UY,few (Mz (kal (kal (n:=0) (Mv _))) (by decide)),?_
  have b7:But b H4 (upd H6 b (.ins d.qj dx (putF "prices" (.ref p') (putF "steps" (.ref sp) (putF "order" (.ref o') []))))):=b6.trans (kax (nx hb6))
  have s7:Same H0 (upd H6 b (.ins d.qj dx (putF "prices" (.ref p') (putF "steps" (.ref sp) (putF "order" (.ref o') []))))):=kar fb s6 (nx hb6)
  have e7:(upd H6 b (.ins d.qj dx (putF "prices" (.ref p') (putF "steps" (.ref sp) (putF "order" (.ref o') []))))) o'>>(.lst (order.map iV)):=by rw[kah no];exact e6
  have es7:(upd H6 b (.ins d.qj dx (putF "prices" (.ref p') (putF "steps" (.ref sp) (putF "order" (.ref o') []))))) sp>>(.lst (ta.map V.ref)):=by rw[kah nsp];exact es6
  have ep7:(upd H6 b (.ins d.qj dx (putF "prices" (.ref p') (putF "steps" (.ref sp) (putF "order" (.ref o') []))))) p'>>(.lst (S.pr.map V.int)):=by rw[kah np];exact ep6
  have hb7:(upd H6 b (.ins d.qj dx (putF "prices" (.ref p') (putF "steps" (.ref sp) (putF "order" (.ref o') []))))) b>>(.ins d.qj dx (putF "prices" (.ref p') (putF "steps" (.ref sp) (putF "order" (.ref o') [])))):=kad
  generalize upd H6 b (.ins d.qj dx (putF "prices" (.ref p') (putF "steps" (.ref sp) (putF "order" (.ref o') []))))=H7 at *
  nomatch x,d.qd,dxs,fss,8,s7 _ _ hxs,W.qd.cl,W.qP,l3,8,b,d.qj,dx,8,hb7,W.qj.cl,W.UZ,few (Mz (kal (kal (kal (n:=0) (Mv _)))) (by decide)),?_
  have s8:Same H0 (upd H7 b (.ins d.qj dx (putF "carriage" (.int S.cg) (putF "prices" (.ref p') (putF "steps" (.ref sp) (putF "order" (.ref o') [])))))):=kar fb s7 (nx hb7)
  have hb8:(upd H7 b (.ins d.qj dx (putF "carriage" (.int S.cg) (putF "prices" (.ref p') (putF "steps" (.ref sp) (putF "order" (.ref o') [])))))) b>>(.ins d.qj dx (putF "carriage" (.int S.cg) (putF "prices" (.ref p') (putF "steps" (.ref sp) (putF "order" (.ref o') []))))):=kad
  nomatch x,dxs,fss,6,s8 _ _ hxs,l5,x,ow,pp,mm,S.cg,S.pr,6,⟨dxs,fss,s8 _ _ hxs,l1,l2,l3,l4,l5⟩,s8 _ _ hpp,8,b,d.qj,dx,8,hb8,W.qj.cl,W.XD,few (Mz (kal (kal (kal (kal (n:=0) (Mv _))))) (by decide)),?_
  symm
  refine kk _ (kar fb s8 (nx hb8)) ⟨dx,_,o',sp,p',ta,kad,?_,?_,?_,?_,?_,fb,fo,fsp,fp,?_,?_,stepb ((b7.trans (kax (nx hb7))).trans (kax (nx hb8))),?_⟩
  ·ac_nf
  ·ac_nf
  ·ac_nf
  ·ac_nf
  ·ac_nf
  ·rw[kah no,kah no];exact e7
  ·rw[kah nsp,kah nsp];exact es7
  ·rw[kah np,kah np];exact ep7
theorem kni{d:D}{H:Hp}{o s x:Addr}{order:List Nat}{steps:List Step}{S:Stnd}{sa:List Addr}{R:Addr->Hp->Prop}{E:XK}(ho:H o>>(.lst (order.map iV)))(hs:H s>>(.lst (sa.map V.ref)))(hsa:P2 (fun a t=>StepIs H a t) sa steps)(h64:steps.length<64)(hS:StndIs d.qd H x S)
  (k:∀(H':Hp)(b:Addr),Same H H'->BillIs d H H' b ⟨order,steps,S.pr,S.cg,S.pr.sum+S.cg⟩->R b H'):
  ∀b dx,H b=none->H dx=none->dx≠b->kha d [.ref b, .ref o, .ref s, .ref x] (upd (upd H dx (.own b)) b (.ins d.qj dx [])) (fun v H2=>v=.non/\R b H2) E:=
 fun b dx nb nd _=>⟨H,b,dx,o,s,x,order,steps,S,sa,rfl,nb,ka3 nb nd,kad,ho,hs,hsa,h64,hS,fun H' z hB=>⟨rfl,k H' b z hB⟩⟩
inductive khL(d:D)(vs:List V)(H:Hp)(Q:VK)(E_:XK):Prop
 |ct(a:Addr)(k w:V)(_:vs=[.ref a,k,w])(_:H a>>(ExcN a (.ref d.qk) none))(_:∀(H':Hp)(dx:Addr),H dx=none->dx≠a->(∀b,b≠a->b≠dx->H' b=H b)->H' a>>(ExcN a (.ref d.qk) (some dx))->H' dx>>(XdO dx [("place",k),("word",w)])->Q .non H'):khL d vs H Q E_
theorem kfa:kam ["self","place","word"] ["self","place","word"] (kaf kcy):=by ac_rfl
theorem kfe(W:WB K mg d base):FO P w W 1 d.VN d.VO ["self","place","word"] (khL d):=by
 exists W.QP.F,kfa
 ·obtain⟨a,k,w,rfl,ha,kk⟩:=h
  refine⟨_,kac (kjO (pv 0) (pv 1) rfl)
   (kag (kjO (pv 0) (pv 2) rfl)),?_⟩
  rwa[8,8,a,d.qk,d.qH,6,W.w_NotLet,W.Uv, .inl ⟨ha,fun dx fdx ndx=>?_⟩]
  rwa[8,8,a,d.qk,d.qH,6,W.w_NotLet,W.Uw, .inr ⟨dx,[("place",k)],kad,by rw[kah ndx,kad],(by show 1<1000;decide),?_⟩]
  refine kk _ dx fdx ndx (fun b n1 n2=>?_) ?_ ?_
  ·rw[kah n2,kah n1,kah n2]
  ·rw[kah ndx.symm,kad]
  ·rw[kad]
   rfl
theorem kdZ{H:Hp}{sp o:Addr}{xs:List Addr}{ys:List V}(hsp:H sp>>(.lst (xs.map V.ref)))(h0:xs≠[])(ho:H o>>(.lst ys))(hy:∀y∈ys,∀r,y≠V.ref r):o≠sp:=fun z=>by
 rw[z,hsp] at ho
 injection ho with ho
 injection ho with ho
 cases xs with
 |nil=>exact h0 rfl
 |cons r xs=>exact hy (V.ref r) (by rw[<-ho];simp) r rfl
theorem StndIs.butR{C sp x:Addr}{H H':Hp}{S:Stnd}{xs:List Addr}(b:But sp H H')(hsp:H sp>>(.lst (xs.map V.ref)))(h0:xs≠[]):StndIs C H x S->StndIs C H' x S:=by rintro⟨o,p,mk,⟨dx,fs,hx,q⟩,ho,hp,hm⟩;exact
 ⟨o,p,mk,⟨dx,fs,b _ _ (ne_of hx hsp (by intro z;cases z)) hx,q⟩,
  b _ _ (kdZ hsp h0 ho fun y hy r e=>by obtain⟨n,_,rfl⟩:=MZ.mp hy;cases e) ho,
  b _ _ (kdZ hsp h0 hp fun y hy r e=>by obtain⟨n,_,rfl⟩:=MZ.mp hy;cases e) hp,
  b _ _ (kdZ hsp h0 hm fun y hy r e=>by obtain⟨n,_,rfl⟩:=MZ.mp hy;cases e) hm⟩
theorem WayAt.butR{d:D}{m:Nat}{sp w t b x:Addr}{H H':Hp}{hand:List Int}{used:List Nat}{xs:List Addr}(z:But sp H H')(hsp:H sp>>(.lst (xs.map V.ref)))(h0:xs≠[]):WayAt d m H w t b x hand used->WayAt d m H' w t b x hand used:=by rintro⟨dx,fs,h,u,h1,h2,h3,h4,h5,h6,h7,h8,h9,h10,h11,h12,h13⟩;exact
 ⟨dx,fs,h,u,z _ _ (ne_of h1 hsp (by intro z;cases z)) h1,h2,h3,h4,h5,h6,h7,h8,h9,h10,h11,
  z _ _ (kdZ hsp h0 h12 fun y hy r e=>by obtain⟨n,_,rfl⟩:=MZ.mp hy;cases e) h12,
  z _ _ (kdZ hsp h0 h13 fun y hy r e=>by obtain⟨n,_,rfl⟩:=MZ.mp hy;cases e) h13⟩
noncomputable def billM(T:TillD)(B:Bask):List Nat->Stnd->List Step×Stnd
 |[],S=>([],S)
 |n::ns,S=>match T.vs[n]? with
  |none=>([],S)
  |some V=>(⟨n,(cutM V T.ps (kds B) S).1,(cutM V T.ps (kds B) S).2⟩::(billM T B ns (aftM V T.ps (kds B) S)).1,(billM T B ns (aftM V T.ps (kds B) S)).2)
noncomputable def kkI(T:TillD)(B:Bask)(order:List Nat):BillD:=⟨order,(billM T B order (stnd0 B)).1,(billM T B order (stnd0 B)).2.pr,(billM T B order (stnd0 B)).2.cg,(billM T B order (stnd0 B)).2.pr.sum+(billM T B order (stnd0 B)).2.cg⟩
inductive khK(d:D)(vs:List V)(H:Hp)(Q:VK)(E:XK):Prop
 |ct(t b h o:Addr)(T:TillD)(B:Bask)(hand:List Int)(order:List Nat)(_:vs=[.ref t, .ref b, .ref h, .ref o])(_:TillIs d H t T)(_:ke8 T)(_:BaskIs d.qf d.qh H b B)(_:Wf T.ps B (stnd0 B))(_:H h>>(.lst (hand.map V.int)))(_:H o>>(.lst (order.map iV)))(_:hand.length=T.vs.length)(_:(∀n∈order,n<T.vs.length))(_:order.length<64)(_:(kdf T B hand order=none->∀(H0 H':Hp)(bl:Addr),Same H H0->Same H0 H'->BillIs d H0 H' bl (kkI T B order)->Q (.ref bl) H'))(_:∀(k:Nat)(z:L2.V),kdf T B hand order>>(k,z)->∀(H':Hp)(dx:Addr),Same H H'->H' dx>>(XdO dx [("place",iV k),("word",z)])->E (.ref d.qk) (some dx) H'):khK d vs H Q E
theorem qM:kam ["till","basket","hand","order","due","way","steps","number","told"] ["till","basket","hand","order"] (kaf kfO):=by ac_rfl
theorem kfp(W:WB K mg d base):FnOk P w K mg base (CX1 P w) 9 d.YY d.YZ ["till","basket","hand","order"] (khK d):=by
 refine FunD.okX W.q0.F qM (fun vs H Q E h=>?_) (fun cdv A outer s H vs Q E hr h=>?_)
 ·obtain⟨t,b,h,o,T,B,hand,order,rfl,_⟩:=h
  rfl
 ·obtain⟨t,b,h,o,T,B,hand,order,rfl,hT,tok,hB,wf0,hh,ho,hl,hlt,h64,kk,kx⟩:=h
  exists X0,kia,W
  exists Jp,kfe,W
  exists Ql,kdz,W
  exists Jq,km9,W
  exists XY,kdN,W
  exists Jr,kgK,W
  have hr2:Room 2 _:=hr.mono (by decide)
  have hr3:Room 3 _:=hr.mono (by decide)
  have hr5:Room 5 _:=hr.mono (by decide)
  have hr6:Room 6 _:=hr.mono (by decide)
  refine⟨_,kac (psl (i:=4) qM.nd (pcl X0 hr W.Xl (kaa (pv 0) (kaa (pv 1) (kaa (pv 2) (kaa (pv 3) kae))))))
   (kac (ps_if (kav kdy (pv 4) kbg (kaB _)) (kag (kjM (klj W.w_NotLet W.kp_NotLet W.QP.at_ W.QP.fn Jp hr2 rfl W.Uu W.QP.b .nil pass0 (kaa (pe_ix (r:=rIxT K) kil (pv 4) kaq (fun _ _=>rfl)) (kaa (pe_ix (r:=rIxT K) kil (pv 4) kaq (fun _ _=>rfl)) kae))) knL rfl rfl)) (kau))
   (kac (psl (i:=5) qM.nd (kbc (W.qI.mk' W.c_Way) Ql hr5 rfl W.c_Way.m W.qI.b .nil pass0 (kaa (pv 0) (kaa (pv 1) (kaa (pv 2) kae)))))
   (kac (psl (i:=6) qM.nd (kaJ kae))
   (kac (knT (kcF PassesOwn.never rfl (kaK (K:=K) (pv 3)) (pgn (i:=7) qM.nd)
   (kac (psl (i:=8) qM.nd (pcl Jq hr5 W.VT (kaa (pe_ix (r:=rIxL K) kaR (kaj (K:=K) (pv 0) rfl) (pv 7) (fun _ _=>rfl)) (kaa (kaj (K:=K) (pv 0) rfl) (kaa (pv 1) (kaa (kaj (K:=K) (pv 5) rfl) kae))))))
   (kac (kay (pe_bm MW M1 M3 kaG (pv 6) (kaa (ka7 (kaa (pv 7) (kaa (pe_ix (r:=rIxT K) kil (pv 8) kaq (fun _ _=>rfl)) (kaa (pe_ix (r:=rIxT K) kil (pv 8) kaq (fun _ _=>rfl)) kae)))) kae)))
   (kag (psl (i:=5) qM.nd (kaH (pv 5) W.c_Way.cl W.Qf.me XY hr6 W.Qf.b .nil pass0 (kaa (pv 7) kae))))))))
   (kag (kao (kbc (W.XE.mk' W.qj) Jr hr3 rfl W.qj.m W.XE.b .nil pass0 (kaa (pv 3) (kaa (pv 6) (kaa (kaj (K:=K) (pv 5) rfl) kae)))))))))),?_⟩
  exists Y4
  rwa[8,8,8,8,t,b,h,o,T,B,hand,order,6,hT,tok,hB,wf0,hh,ho,hl,hlt,h64,fun H1 v s1 hF=>?_]
  cases hf:kdf T B hand order with
  |some kz=>
   obtain⟨k,z⟩:=kz
   rw[hf] at hF
   obtain⟨q,rfl,hq⟩:=hF
   symm
   exists Y6
   rwa[8,6,8,?_]
   show if(!decide (V.ref q=V.non))=true then _ else _
   rw[show(!decide (V.ref q=V.non))=true by simp]
   refine iteT ?_
   nofun
   exists Y6
   rwa[8,q,_,9,SqT.of hq,6,8,q,_,9,SqT.of hq,6,fun x fx=>?_]
   nofun
   exists Y6
   rwa[x,iV k,z,6,kad,fun H' dx fdx ndx hk ha hd=>⟨rfl,x,d.qk,d.qH,some dx,rfl,W.w_NotLet,ha,s1.free fx,?_⟩]
   rw[kah ndx] at fdx
   nofun
   refine kx k z hf _ dx (s1.trans (kiN fun b u e=>?_)) ((kcL ndx).trans hd)
   have n1:=kak e fx
   rw[kcL n1,hk b n1 (kak e fdx),kah n1]
   nofun
   exact e
  |none=>
  rw[hf] at hF
  have kk:=kk hf
  have ev:v=.non:=hF
  subst ev
  nomatch 6,8,?_
  show if(!decide (V.non=V.non))=true then _ else _
  rw[show(!decide (V.non=V.non))=false by simp]
  refine iteF ?_
  nomatch 8,8,kj9 (s1 _ _ hh) (hB.same s1) wf0.nl wf0.ok fun H2 y0 x0 s2 fy0 fx0 hy0 hx0=>?_
  have s02:=s1.trans s2
  symm
  exists Y4
  rwa[by decide,fun sp fsp=>?_]
  generalize hgH3:upd H2 sp _=H3
  obtain⟨n3,(esp0:H3 sp>>(.lst (([]:List Addr).map V.ref)))⟩:=ka0 hgH3 fsp
  have fsp0:=s02.free fsp
  generalize eR:billM T B order (stnd0 B)=R at *
  symm
  exists Y4
  refine⟨_,rfl,o,rfl,⟨_,SqL.of ((s02.trans n3) _ _ ho)⟩,kca (xs:=order.map iV) (fun i σ H'=>Same H2 H'/\∃(y x:Addr)(used:List Nat)(S:Stnd)(sa:List Addr)(st:List Step)(v7 v8:Option V),WayIs d H' y t b x hand used/\StndIs d.qd H' x S/\(sa=[]->WayIs d H2 y t b x hand used/\StndIs d.qd H2 x S)/\Wf T.ps B S/\used.length=i/\H' sp>>(.lst (sa.map V.ref))/\P2 (fun a t=>StepIs H' a t) sa st/\st.length=i/\st++(billM T B (order.drop i) S).1=R.1/\(billM T B (order.drop i) S).2=R.2/\σ=[some (.ref t),some (.ref b),some (.ref h),some (.ref o),some .non,some (.ref y),some (.ref sp),v7,v8])
   ⟨n3,y0,x0,[],_,[],[],none,none,(hy0.most (by decide)).same n3,hx0.same n3,(fun _=>⟨hy0.most (by decide),hx0⟩),wf0,rfl,esp0, .nil,rfl,by rw[List.drop_zero,eR];rfl,by rw[List.drop_zero,eR],rfl⟩ (fun i σ H' _ h=>SqL.of ((s02.trans h.1) _ _ ho)) ?_ ?_⟩
  ·rintro i yv σ H' hyv ⟨sI,y,x,used,S,sa,st,v7,v8,hY,hx,h2,wf,hul,hsp,hsa,hsl,hR1,hR2,rfl⟩
   obtain⟨n,en,rfl⟩:∃n,order[i]?>>n/\yv=iV n:=kcK hyv
   have hi:=at_lt en
   obtain⟨Vc,hV⟩:=at_of (hlt n (MK en))
   have vo:=tok.vs Vc (MK hV)
   have ed:order.drop i=n::order.drop (i+1):=by
    obtain⟨z1,z2⟩:=MO.mp en
    rw[D8 z1,z2]
   rw[ed] at hR1 hR2
   unfold billM at hR1 hR2
   rw[hV] at hR1 hR2
   simp only at hR1 hR2
   have s0I:=s02.trans sI
   obtain⟨dxw,fsw,hd,u,hw,w1,w2,w3,w4,w5,w6,w7,w8,w9,w10,hh',hu⟩:=id hY
   obtain⟨dx,fs,p,vl,rl,va,ra,ht,t1,t2,t3,t4,hp,hvl,hva,hrl,hra⟩:=id (hT.same s0I)
   obtain⟨vv,evv⟩:=at_of (xs:=va) (i:=n) (by rw[hva.len];exact at_lt hV)
   obtain⟨Vc',eV',hVv⟩:=hva.at evv
   rw[hV] at eV'
   cases eV'
   symm
   exists Y6
   rwa[8,t,d.qg,dx,fs,8,ht,W.qg.cl,W.Qg,t2,8,vl,_,9,SqL.of hvl,ka4 (v:=.ref vv) (by rw[MN,evv];rfl),?_]
   nofun
   exists Y6
   rwa[8,t,d.qg,dx,fs,8,ht,W.qg.cl,W.QG,t1,8,8,y,d.c_Way,dxw,fsw,8,hw,W.c_Way.cl,W.qR,w5,?_]
   nofun
   exists Y6
   rwa[vv,p,b,x,Vc,T.ps,B,S,6,hVv,SqL.of hp,hB.same s0I,hx,wf,vo,fun H4 tt pc s4 ft fpc htt hpc=>?_]
   have hsp4:=s4 _ _ hsp
   nofun
   exists Y6
   rwa[8, .inl ⟨rfl,_,SqL.of hsp4⟩,8,8,tt,_,9,SqT.of htt,6,8,tt,_,9,SqT.of htt,6,(by show 3<=sizeLine;decide),fun q hq=>?_]
   have n5:=kai (o:=.tup [iV n,V.ref pc,V.int (cutM Vc T.ps (kds B) S).2]) hq
   have eq5:(upd H4 q (.tup [iV n,V.ref pc,V.int (cutM Vc T.ps (kds B) S).2])) q>>(.tup [iV n,V.ref pc,V.int (cutM Vc T.ps (kds B) S).2]):=kad
   have s5:=s4.trans n5
   have hsp5:=n5 _ _ hsp4
   have hpc5:=n5 _ _ hpc
   have npc:pc≠sp:=(kak hsp fpc).symm
   clear n5
   generalize upd H4 q (.tup [iV n,V.ref pc,V.int (cutM Vc T.ps (kds B) S).2])=H5 at *
   nofun
   exists Y6
   rwa[sp,9,hsp5,kan (by rw[Mu,hsa.len];lia),?_]
   have b6:But sp H5 (upd H5 sp (.lst (sa.map V.ref++[V.ref q]))):=kax (nx hsp5)
   have s6:Same H2 (upd H5 sp (.lst (sa.map V.ref++[V.ref q]))):=kar fsp (sI.trans s5) (nx hsp5)
   have esp6:(upd H5 sp (.lst (sa.map V.ref++[V.ref q]))) sp>>(.lst ((sa++[q]).map V.ref)):=by rw[kad,MC];rfl
   generalize upd H5 sp (.lst (sa.map V.ref++[V.ref q]))=H6 at *
   have hYx:WayIs d H6 y t b x hand used/\StndIs d.qd H6 x S:=by
    by_cases h0:sa=[]
    ·rwa[(h2 h0).1.same s6,(h2 h0).2.same s6]
    ·rwa[(hY.same s5).butR b6 hsp5 h0,(hx.same s5).butR b6 hsp5 h0]
   have hst:P2 (fun a t=>StepIs H6 a t) (sa++[q]) (st++[⟨n,(cutM Vc T.ps (kds B) S).1,(cutM Vc T.ps (kds B) S).2⟩]):=by
    nofun
    refine P2.snoc ?_ ⟨pc,b6 _ _ (ne_of eq5 hsp5 (by intro z;cases z)) eq5,b6 _ _ npc hpc5⟩
    by_cases h0:sa=[]
    ·subst h0
     cases hsa
     nofun
     exact .nil
    ·refine hsa.mono fun a t zz=>?_
     obtain⟨l,g1,g2⟩:=zz
     have g1':=s5 _ _ g1
     have g2':=s5 _ _ g2
     nofun
     exists Y10
     rwa[l,b6 _ _ (ne_of g1' hsp5 (by intro z;cases z)) g1',b6 _ _ ?_ g2']
     try first|apply Y10|apply Y6|apply Y4
     exact kdZ hsp5 h0 g2' fun y hy r e=>by obtain⟨n,_,rfl⟩:=MZ.mp hy;cases e
   have s06:=s02.trans s6
   obtain⟨dxw',fsw',hd',u',hw',_,_,_,_,_,_,w7',_⟩:=id hYx.1
   nofun
   exists Y6
   rwa[8,y,dxw',fsw',6,hw',w7',8,y,t,b,x,T,B,S,hand,used,n,Vc,6,hYx.1,hT.same s06,hB.same s06,hYx.2,wf,vo,hV,by lia,fun H7 y' x' s7 fy' hY' hx'=>?_]
   nofun
   exists Y6
   rwa[s6.trans s7,y',x',used++[n],_,sa++[q],_,_,_,hY',hx',(fun e=>by simp at e),wf.after vo,by rw[ML,hul];rfl,s7 _ _ esp6,hst.mono fun a t h=>h.same s7,by rw[ML,hsl];rfl,?_,hR2,6]
   rw[M6]
   nofun
   exact hR1
  ·rintro σ H' ⟨sI,y,x,used,S,sa,st,v7,v8,hY,hx,h2,wf,hul,hsp,hsa,hsl,hR1,hR2,rfl⟩
   rw[Mu,D9] at hR1 hR2
   unfold billM at hR1 hR2
   have e1:st=R.1:=by simpa using hR1
   have e2:S=R.2:=hR2
   obtain⟨dxw,fsw,hd,u,hw,w1,w2,w3,w4,w5,w6,w7,w8,w9,w10,hh',hu⟩:=id hY
   rw[Mu] at hsl
   nofun
   exists Y6
   rwa[8,8,8,y,d.c_Way,dxw,fsw,8,hw,W.c_Way.cl,W.qR,w5,kni ((s02.trans sI) _ _ ho) hsp hsa (by lia) hx fun H8 bl s8 hBl=>?_]
   nofun
   refine kk H' H8 bl (s02.trans sI) s8 ?_
   unfold kkI
   rw[eR,<-e1,<-e2]
   nofun
   exact hBl
noncomputable def kfu(w s:Str):Bool:=(w.cps.toList.map fun c=>Txt.contains s (sgn c)).all id
theorem knK{w:Str}{i c:Nat}(h:w.cps[i]?>>c):w.cps.toList[i]?>>c:=by rw[Array.getElem?_toList];exact h
inductive kl2(vs:List V)(H:Hp)(Q:VK)(E_:XK):Prop
 |ct(w s:Str)(_:vs=[.str w, .str s])(_:w.cps.all (· < 128)=true)(_:w.cps.size<=1000)(_:∀H',Same H H'->Q (.bl (kfu w s)) H'):kl2 vs H Q E_
theorem kfK:kam ["word","signs"] ["word","signs"] (kaf kb6):=by ac_rfl
theorem kdM(W:WB K mg d base):FO P w W 1 d.Zo d.Zp ["word","signs"] kl2:=by
 exists W.Xs.F,kfK
 ·obtain⟨w,z,rfl,hw,hl,k⟩:=h
  rwa[_,kag (kao (kap (kiw rfl) (by rfl) W.B.all b_all (kaa (kbf (N:=["sign","signs"]) (CompScope.of (N:=["sign","signs"]) (cap:=[none,some 1]) (kaf kb6).names ["word","signs"] rfl rfl (by cutsat)) rfl (knV (pv 0)) (fun _ _ _ _=>pgn (i:=0) (show(["sign","signs"]:List Str).Nodup by cutsat)) (fun _ _ _ _=>(kbJ kn2 (pv 0) (pv 1) (by with_unfolding_all rfl)))) kae))),?_]
  rwa[8,w,6,hw,klK (x:=w) (fun i σ ys H'=>H'=H/\ys=((w.cps.toList.map fun c=>Txt.contains z (sgn c)).take i).map V.bl/\∃v,σ=[v,some (.str z)]) ⟨rfl,rfl,none,rfl⟩ (Mz hl (by decide)) ?_ ?_ ?_]
  ·rintro i σ ys H' hi ⟨rfl,rfl,_⟩
   rw[Mu,MU,Mu,E8]
   lia
  ·rintro i c σ ys H' hc ⟨rfl,rfl,v,rfl⟩
   rwa[8,8,sgn c,z,6,6,6,?_,8]
   rw[take_snoc (r:=Txt.contains z (sgn c)) (by rw[MN,knK hc];rfl),MC]
   rfl
  rintro σ ys H' ⟨rfl,rfl,v,rfl⟩ m fm
  rw[show((w.cps.toList.map fun c=>Txt.contains z (sgn c)).take w.cps.size)=w.cps.toList.map fun c=>Txt.contains z (sgn c) by rw[<-E8,<-Mu (f:=fun c=>Txt.contains z (sgn c)),M0]]
  rwa[m,8,SqL.of kad,k _ (kai fm)]
def RowAt(d:D)(H:Hp)(x:Addr)(L:Int)(wl:Addr)(p:Nat):Prop:=∃(dx:Addr)(fs:List (Str×V)),H x>>(.ins d.c_Row dx fs)/\fs.lookup ("line" :Str)>>(.int L)/\fs.lookup ("words" :Str)>>(.ref wl)/\fs.lookup ("passed" :Str)>>(iV p)/\fs.length<=3/\∀g:Str,g≠"line"->g≠"words"->g≠"passed"->fs.lookup g=none
theorem RowAt.same{d:D}{H H':Hp}{x wl:Addr}{L:Int}{p:Nat}(s:Same H H'):RowAt d H x L wl p->RowAt d H' x L wl p:=by rintro⟨dx,fs,h,r⟩;exact⟨dx,fs,s _ _ h,r⟩
theorem RowAt.ne{d:D}{H:Hp}{x wl y:Addr}{L:Int}{p:Nat}{xs:List V}(h:RowAt d H x L wl p)(hy:H y>>(.lst xs)):y≠x:=fun e=>by
 obtain⟨dx,fs,hx,_⟩:=h
 rw[e,hx] at hy
 cases hy
theorem kmR{K:Mt}{H H':Hp}{x a:Addr}{xs:List V}{C dx:Addr}{fs:List (Str×V)}(b:But x H H')(hx:H x>>(.ins C dx fs)):SqL K H a xs∨SqT K H a xs->SqL K H' a xs∨SqT K H' a xs
 | .inl (.inl (.inl h))=>.inl (.inl (.inl (b _ _ (ne_of h hx (by intro z;cases z)) h)))
 | .inl (.inl (.inr ⟨o,h⟩))=>.inl (.inl (.inr ⟨o,b _ _ (ne_of h hx (by intro z;cases z)) h⟩))
 | .inl (.inr h)=>.inl (.inr h)
 | .inr (.inl (.inl h))=>.inr (.inl (.inl (b _ _ (ne_of h hx (by intro z;cases z)) h)))
 | .inr (.inl (.inr ⟨o,h⟩))=>.inr (.inl (.inr ⟨o,b _ _ (ne_of h hx (by intro z;cases z)) h⟩))
 | .inr (.inr h)=>.inr (.inr h)
theorem ke1{w:Str}:∀(l:List Str),inV (.str w) (l.map V.str)=decide (w∈l)
 |[]=>by simp[inV]
 | x::l=>by
  have ih:=ke1 (w:=w) l
  unfold inV at ih⊢
  rw[MQ,Es,ih]
  show(decide (x=w)||decide (w∈l))=_
  by_cases e:w=x
  ·subst e;simp
  ·have e':¬x=w:=fun z=>e z.symm
   simp[e,e']
theorem kcZ(l:List Str):(l.map V.str).all flatV=true:=by
 rw[EY]
 intro v hv
 obtain⟨s,_,rfl⟩:=MZ.mp hv
 rfl
theorem kgA{f:Str}{v y:V}:∀{fs:List (Str×V)},fs.lookup f>>y->(putF f v fs).length=fs.length
 |[],h=>by cases h
 | (g,x)::fs,h=>by
  unfold putF
  by_cases e:g=f
  ·rw[if_pos e];rfl
  ·rw[if_neg e,MV,MV]
   rw[Eg] at h
   have e':(f==g)=false:=by
    rw[beq_eq_false_iff_ne]
    exact fun z=>e z.symm
   rw[e'] at h
   rw[kgA h]
noncomputable def noE(z:Str):Bool:=decide (z≠("" :Str))
inductive kl0(d:D)(vs:List V)(H:Hp)(Q:VK)(E_:XK):Prop
 |ct(H0:Hp)(x dx pl:Addr)(L:Int)(ps:List Str)(_:vs=[.ref x, .int L, .ref pl])(_:H0 x=none)(_:Same H0 H)(_:H x>>(.ins d.c_Row dx []))(_:H0 pl>>(.lst (ps.map V.str)))(_:ps.length<=1000)(_:∀(H':Hp)(wl:Addr),Same H0 H'->H0 wl=none->RowAt d H' x L wl 0->H' wl>>(.lst ((ps.filter noE).map V.str))->Q .non H'):kl0 d vs H Q E_
theorem khc:kam ["self","line","parts"] ["self","line","parts"] (kaf kdY):=by ac_rfl
theorem khl(W:WB K mg d base):FO P w W 1 d.Vg d.Vh ["self","line","parts"] (kl0 d):=by
 exists W.XH.F,khc
 ·obtain⟨H0,x,dx,pl,L,ps,rfl,fx,s0,hx,hpl,hl,k⟩:=h
  refine⟨_,kac (kaA (pv 0) (pv 1) rfl)
   (kac (kaA (pv 0) (kfV (N:=["part"]) (CompScope.plain rfl (by cutsat) (by cutsat) (by cutsat) (nd1 _)) rfl (kaK (K:=K) (pv 2)) (fun _ _ _ _=>pgn (i:=0) (nd1 _)) (fun _ _ _ _=>khj (kav op_ne (pv 0) kat (kaB _))) (fun _ _ _ _=>(pv 0))) rfl)
   (kag (kaA (pv 0) kaq rfl))),?_⟩
  rwa[8,8,x,d.c_Row,dx,[],6,hx,W.c_Row.cl,W.Uq,by decide,?_]
  have s1:Same H0 (upd H x (.ins d.c_Row dx (putF "line" (.int L) []))):=kar fx s0 (nx hx)
  have hx1:(upd H x (.ins d.c_Row dx (putF "line" (.int L) []))) x>>(.ins d.c_Row dx (putF "line" (.int L) [])):=kad
  generalize upd H x (.ins d.c_Row dx (putF "line" (.int L) []))=H1 at *
  rwa[8,pl,6,⟨_,SqL.of (s1 _ _ hpl)⟩,kfz (xs:=ps.map V.str) (fun i σ ys H'=>H'=H1/\ys=((ps.take i).filter noE).map V.str/\∃v,σ=[v]) ⟨rfl,rfl,none,rfl⟩ (by rw[Mu];exact Mz hl (by decide)) ?_ ?_ ?_]
  ·rintro i σ ys H' hi ⟨rfl,rfl,_⟩
   rwa[SqL.of (s1 _ _ hpl),by rw[Mu];exact Mz (Do _ _) (by rw[MU];lia)]
  ·rintro i y σ ys H' hy ⟨rfl,rfl,v,rfl⟩
   rw[MN] at hy
   obtain⟨z,ez,rfl⟩:=Aa.mp hy
   rwa[8,6,8,?_]
   rw[take_snoc ez,EG,EM,E3]
   by_cases c:z=""
   ·subst c
    refine iteF ⟨rfl,?_,_,rfl⟩
    rw[if_neg (by decide),El]
   ·rw[show(!decide (V.str z=V.str ""))=true by rw[decide_eq_false (fun h=>c (by injection h))];rfl]
    refine iteT ⟨_,rfl,rfl,?_,_,rfl⟩
    rw[if_pos (show noE z=true from decide_eq_true c),MC]
    rfl
  rintro σ ys H' ⟨rfl,rfl,v,rfl⟩ wl fwl
  rw[Mu,M0]
  have n2:=kai (o:=.lst ((ps.filter noE).map V.str)) fwl
  have e2:(upd H' wl (.lst ((ps.filter noE).map V.str))) wl>>(.lst ((ps.filter noE).map V.str)):=kad
  have nw:wl≠x:=(kak hx1 fwl).symm
  have f0:=s1.free fwl
  have hx2:=n2 _ _ hx1
  have s2:=s1.trans n2
  clear n2
  generalize upd H' wl (.lst ((ps.filter noE).map V.str))=H2 at *
  rwa[8,x,d.c_Row,dx,8,hx2,W.c_Row.cl,W.XG,few (Mz (kal (n:=0) (Mv _)) (by decide)),?_]
  have s3:Same H0 (upd H2 x (.ins d.c_Row dx (putF "words" (.ref wl) (putF "line" (.int L) [])))):=kar fx s2 (nx hx2)
  have hx3:(upd H2 x (.ins d.c_Row dx (putF "words" (.ref wl) (putF "line" (.int L) [])))) x>>(.ins d.c_Row dx (putF "words" (.ref wl) (putF "line" (.int L) []))):=kad
  have e3:(upd H2 x (.ins d.c_Row dx (putF "words" (.ref wl) (putF "line" (.int L) [])))) wl>>(.lst ((ps.filter noE).map V.str)):=by rw[kah nw];exact e2
  generalize upd H2 x (.ins d.c_Row dx (putF "words" (.ref wl) (putF "line" (.int L) [])))=H3 at *
  rwa[8,x,d.c_Row,dx,8,hx3,W.c_Row.cl,W.QI,few (Mz (kal (kal (n:=0) (Mv _))) (by decide)),?_]
  refine k _ wl (kar fx s3 (nx hx3)) f0 ⟨dx,_,kad,?_,?_,?_,?_,fun g g1 g2 g3=>?_⟩ (by rw[kah nw];exact e3)
  ·rw[kab,if_neg (by cutsat),kab,if_neg (by cutsat),kab,if_pos rfl]
  ·rw[kab,if_neg (by cutsat),kab,if_pos rfl]
  ·rw[kab,if_pos rfl]
   rfl
  ·exact kal (kal (kal (n:=0) (Mv _)))
  ·rw[kab,if_neg g3,kab,if_neg g2,kab,if_neg g1]
   rfl
theorem int_lt(p n:Nat):decide ((p:Int)<(n:Int))=decide (p<n):=by
 rw[EV,decide_eq_true_iff,decide_eq_true_iff]
 lia
inductive kl1(d:D)(vs:List V)(H:Hp)(Q:VK)(E_:XK):Prop
 |ct(x wl:Addr)(L:Int)(p:Nat)(ws:List Str)(_:vs=[.ref x])(_:RowAt d H x L wl p)(_:H wl>>(.lst (ws.map V.str)))(_:Q (.bl (decide (p<ws.length))) H):kl1 d vs H Q E_
theorem keH:kam ["self"] ["self"] (kaf kck):=by ac_rfl
theorem kaL(W:WB K mg d base):FO P w W 1 d.Vi d.Vj ["self"] (kl1 d):=by
 exists W.ql.F,keH
 ·obtain⟨x,wl,L,p,ws,rfl,⟨dx,fs,hx,l1,l2,l3,l4,l5⟩,hwl,k⟩:=h
  rwa[_,kag (kao (kbJ op_lt (kaj (K:=K) (pv 0) rfl) (kap (r:=kaQ K) kas (by rfl) W.B.len b_len (kaa (kaj (K:=K) (pv 0) rfl) kae)) (kaB _))),?_]
  rwa[8,x,d.c_Row,dx,fs,8,hx,W.c_Row.cl,W.QI,l3,8,x,d.c_Row,dx,fs,8,hx,W.c_Row.cl,W.XG,l2,wl,8, .inl (SqL.of hwl),9,?_]
  show Q (.bl (decide ((p:Int)<(((ws.map V.str).length:Nat):Int)))) H
  rw[Mu,int_lt]
  exact k
inductive spEnd(d:D)(vs:List V)(H:Hp)(Q:VK)(E_:XK):Prop
 |ct(x wl:Addr)(L:Int)(p:Nat)(ws:List Str)(_:vs=[.ref x])(_:RowAt d H x L wl p)(_:H wl>>(.lst (ws.map V.str)))(_:ws.length<=p)(_:Q .non H):spEnd d vs H Q E_
theorem keG:kam ["self"] ["self"] (kaf kci):=by ac_rfl
theorem ka2(W:WB K mg d base):FO P w W 2 d.Vk d.Vl ["self"] (spEnd d):=by
 exists W.qp.F,keG
 ·obtain⟨x,wl,L,p,ws,rfl,hR,hwl,hp,k⟩:=h
  obtain⟨dx,fs,hx,l1,l2,l3,l4,l5⟩:=id hR
  exists qm,kaL,W
  rwa[_,kag (ps_if (kaX (kaz (pv 0) W.c_Row.cl W.ql.me qm hr W.ql.b .nil pass0)) (kag (ps_no)) (kau)),?_]
  rwa[8,x,dx,fs,6,hx,l5 _ (by cutsat) (by cutsat) (by cutsat),x,wl,L,p,ws,6,hR,hwl,?_]
  rw[decide_eq_false (by lia)]
  rwa[8,iteF k]
inductive kl3(vs:List V)(H:Hp)(Q:VK)(E_:XK):Prop
 |ct(x:Addr)(most many:Int)(_:vs=[.ref x, .int most, .int many])(_:many<=most)(_:Q .non H):kl3 vs H Q E_
theorem kdj:kam ["self","most","many"] ["self","most","many"] (kaf kbs):=by ac_rfl
theorem kaV(W:WB K mg d base):FO P w W 1 d.Vm d.Vn ["self","most","many"] kl3:=by
 exists W.qr.F,kdj
 ·obtain⟨x,m,n,rfl,hm,k⟩:=h
  rwa[_,kag (ps_if (kav op_gt (pv 2) (pv 1) (kaB _)) (kag (ps_no)) (kau)),?_]
  rwa[8,8,9,8,?_]
  rw[decide_eq_false (by lia)]
  exact iteF k
inductive kjh(d:D)(vs:List V)(H:Hp)(Q:VK)(E_:XK):Prop
 |ct(x wl:Addr)(L:Int)(p:Nat)(ws:List Str)(w:Str)(_:vs=[.ref x])(_:RowAt d H x L wl p)(_:H wl>>(.lst (ws.map V.str)))(_:ws[p]?>>w)(_:∀H',But x H H'->RowAt d H' x L wl (p+1)->Q (.str w) H'):kjh d vs H Q E_
theorem keo:kam ["self"] ["self"] (kaf kbU):=by ac_rfl
theorem kbL(W:WB K mg d base):FO P w W 2 d.Vo d.Vp ["self"] (kjh d):=by
 exists W.qJ.F,keo
 ·obtain⟨x,wl,L,p,ws,z,rfl,hR,hwl,hw,k⟩:=h
  have nwl:=hR.ne hwl
  obtain⟨dx,fs,hx,l1,l2,l3,l4,l5⟩:=id hR
  exists qm,kaL,W
  refine⟨_,kac (ps_if (kfl (kaX (kaz (pv 0) W.c_Row.cl W.ql.me qm hr W.ql.b .nil pass0))) (kag (ps_no)) (kau))
   (kac (kjN (pv 0) kaq koe)
   (kag (kao (pe_ix (r:=rIxL K) kaR (kaj (K:=K) (pv 0) rfl) (pe_op kfn (kaj (K:=K) (pv 0) rfl) kaq) (fun _ _=>rfl))))),?_⟩
  rwa[8,x,dx,fs,6,hx,l5 _ (by cutsat) (by cutsat) (by cutsat),x,wl,L,p,ws,6,hR,hwl,?_]
  rw[decide_eq_true (at_lt hw)]
  rwa[8,iteF ?_]
  rwa[8,x,d.c_Row,dx,fs,8,hx,W.c_Row.cl,W.QI,l3,9,dx,fs,hx,by lia,?_]
  have m1:(putF "passed" (.int ((p:Int)+1)) fs).lookup ("words" :Str)>>(.ref wl):=by rw[kab,if_neg (by cutsat)];exact l2
  have m2:(putF "passed" (.int ((p:Int)+1)) fs).lookup ("passed" :Str)>>(.int ((p:Int)+1)):=by rw[kab,if_pos rfl]
  have hwl1:(upd H x (.ins d.c_Row dx (putF "passed" (.int ((p:Int)+1)) fs))) wl>>(.lst (ws.map V.str)):=by rw[kah nwl];exact hwl
  rwa[8,x,d.c_Row,dx,_,8,kad,W.c_Row.cl,W.XG,m1,8,x,d.c_Row,dx,_,8,kad,W.c_Row.cl,W.QI,m2,9,wl,_,9,SqL.of hwl1,?_,k _ (kax (nx hx)) ⟨dx,_,kad,?_,m1,m2,?_,fun g g1 g2 g3=>?_⟩]
  ·rw[show(p:Int)+1-1=(p:Int) by lia]
   exact ka4 (v:=V.str z) (by rw[MN,hw];rfl)
  ·rw[kab,if_neg (by cutsat)]
   exact l1
  ·rw[kgA l3]
   exact l4
  ·rw[kab,if_neg g3]
   exact l5 g g1 g2 g3
noncomputable def FIG:Str:="0123456789"
noncomputable def LET:Str:="abcdefghijklmnopqrstuvwxyz"
noncomputable def KEPT:List Str:=[("kind" :Str),("under" :Str),("voucher" :Str),("off" :Str),("share" :Str),("line" :Str),("basket" :Str),("cheapest" :Str),("bundle" :Str),("carriage" :Str),("of" :Str),("needs" :Str),("most" :Str),("member" :Str),("once" :Str),("lone" :Str),("rule" :Str),("only" :Str),("never" :Str),("ahead" :Str),("behind" :Str),("back" :Str),("again" :Str),("shares" :Str),("ware" :Str),("special" :Str),("hold" :Str),("use" :Str),("best" :Str),("buy" :Str),("take" :Str),("unlike" :Str),("spill" :Str)]
structure NumW(z:Str)(n:Int):Prop where
 l1:1<=z.length
 l2:z.length<=13
 as:z.cps.all (· < 128)=true
 md:kfu z FIG=true
 hd:z="0"∨∃c,z.cps.toList[0]?>>c/\(⟨#[c]⟩:Str)≠"0"
 tx:PySem.intText? z>>n
structure NameW(z:Str):Prop where
 l1:1<=z.length
 l2:z.length<=12
 as:z.cps.all (· < 128)=true
 md:kfu z LET=true
 kp:z∉KEPT
inductive kjs(vs:List V)(H:Hp)(Q:VK)(E_:XK):Prop
 |ct(z:Str)(n:Int)(_:vs=[.str z])(_:NumW z n)(_:∀H',Same H H'->Q (.bl true) H'):kjs vs H Q E_
theorem kgr:kam ["word"] ["word"] (kaf kdp):=by ac_rfl
theorem kgE(W:WB K mg d base):FO P w W 2 d.Zm d.Zn ["word"] kjs:=by
 exists W.V9.F,kgr
 ·obtain⟨z,n,rfl,hn,k⟩:=h
  have h1:=hn.l1
  have h2:=hn.l2
  have hz:z.length<=sizeLine:=Mz h2 (by decide)
  exists X2,kdM,W
  rwa[_,kag (kao (kdK (kh7 op_le op_le kaq (kap kei (by rfl) W.B.len b_len (kaa (pv 0) kae)) (kaI (v:=.int 13) (by rfl) W.g_MOST_FIGURES ⟨_,rfl⟩)) (kdK (pcl X2 hr W.Xs (kaa (pv 0) (kaa (kaI (v:=.str "0123456789") (by rfl) W.g_FIGURES ⟨_,rfl⟩) kae))) (kd5 (pe_or (kbJ op_eq (pv 0) kat (kaB _)) (kd5 (kbJ op_ne (pe_ix kkf (pv 0) kaq (fun _ _=>rfl)) kat (kaB _)))))))),?_]
  rwa[8,z,6,hz,9,8,?_]
  rw[decide_eq_true (show(1:Int)<=(z.length:Int) by lia)]
  refine iteT ⟨_,_,rfl,rfl,_,rfl,?_⟩
  rw[decide_eq_true (show(z.length:Int)<=13 by lia)]
  refine iteT ⟨_,rfl,z,FIG,rfl,hn.as,(by show z.length<=1000;lia),fun H' s'=>⟨_,rfl,?_⟩⟩
  rw[hn.md]
  refine iteT ⟨_,rfl,rfl,_,rfl,?_⟩
  rcases hn.hd with e|⟨c,e,ne⟩
  ·subst e
   rw[decide_eq_true (show V.str "0"=V.str "0" from rfl)]
   exact iteT (k _ s')
  ·by_cases e0:z="0"
   ·rw[e0,decide_eq_true (show V.str "0"=V.str "0" from rfl)]
    exact iteT (k _ s')
   ·rw[decide_eq_false (show ¬V.str z=V.str "0" from fun h=>e0 (by injection h))]
    refine iteF ⟨_,rfl,z,0,c,rfl,rfl,hz,ka4 (j:=0) e,rfl,?_⟩
    rw[decide_eq_false (show ¬V.str ⟨#[c]⟩=V.str "0" from fun h=>ne (by injection h))]
    exact k _ s'
inductive khN(vs:List V)(H:Hp)(Q:VK)(E_:XK):Prop
 |ct(z:Str)(_:vs=[.str z])(_:NameW z)(_:∀H',Same H H'->Q (.bl true) H'):khN vs H Q E_
theorem kiL:kam ["word"] ["word"] (kaf keJ):=by ac_rfl
theorem kiQ(W:WB K mg d base):FO P w W 2 d.Zk d.Zl ["word"] khN:=by
 exists W.V8.F,kiL
 ·obtain⟨z,rfl,hn,k⟩:=h
  have h1:=hn.l1
  have h2:=hn.l2
  have hz:z.length<=sizeLine:=Mz h2 (by decide)
  exists X2,kdM,W
  rwa[_,kag (kao (kdK (kh7 op_le op_le kaq (kap kei (by rfl) W.B.len b_len (kaa (pv 0) kae)) (kaI (v:=.int 12) (by rfl) W.g_MOST_LETTERS ⟨_,rfl⟩)) (kdK (pcl X2 hr W.Xs (kaa (pv 0) (kaa (kaI (v:=.str "abcdefghijklmnopqrstuvwxyz") (by rfl) W.g_LETTERS ⟨_,rfl⟩) kae))) (kd5 (kbJ kb8 (pv 0) (kaI (v:=.ref d.a_KEPT_WORDS) (by rfl) W.g_KEPT_WORDS rfl) (by with_unfolding_all rfl)))))),?_]
  rwa[8,z,6,hz,9,8,?_]
  rw[decide_eq_true (show(1:Int)<=(z.length:Int) by lia)]
  refine iteT ⟨_,_,rfl,rfl,_,rfl,?_⟩
  rw[decide_eq_true (show(z.length:Int)<=12 by lia)]
  refine iteT ⟨_,rfl,z,LET,rfl,hn.as,(by show z.length<=1000;lia),fun H' s'=>⟨_,rfl,?_⟩⟩
  rw[hn.md]
  refine iteT ⟨_,rfl,d.a_KEPT_WORDS,KEPT.map V.str,rfl, .inr W.t_KEPT_WORDS.sq,rfl,kcZ _,?_⟩
  rw[ke1,decide_eq_false hn.kp]
  exact k _ s'
inductive kji(K:Mt)(d:D)(vs:List V)(H:Hp)(Q:VK)(E_:XK):Prop
 |ct(x wl c:Addr)(L:Int)(p:Nat)(ws cs:List Str)(z:Str)(_:vs=[.ref x, .ref c])(_:RowAt d H x L wl p)(_:H wl>>(.lst (ws.map V.str)))(_:(SqL K H c (cs.map V.str)∨SqT K H c (cs.map V.str)))(_:ws[p]?>>z)(_:z∈cs)(_:∀H',But x H H'->RowAt d H' x L wl (p+1)->Q (.str z) H'):kji K d vs H Q E_
theorem UB:kam ["self","choices","word"] ["self","choices"] (kaf kcx):=by ac_rfl
theorem ka8(W:WB K mg d base):FO P w W 3 d.Vq d.Vr ["self","choices"] (kji K d):=by
 exists W.qt.F,UB
 ·obtain⟨x,wl,c,L,p,ws,cs,z,rfl,hR,hwl,hc,hw,hz,k⟩:=h
  obtain⟨dx,fs,hx,l1,l2,l3,l4,l5⟩:=id hR
  exists Qm,kbL,W
  refine⟨_,kac (psl (i:=2) UB.nd (kaz (pv 0) W.c_Row.cl W.qJ.me Qm hr W.qJ.b .nil pass0))
   (kac (ps_if (kav kb8 (pv 2) (pv 1) (by with_unfolding_all rfl)) (kag (ps_no)) (kau))
   (kag (kao (pv 2)))),?_⟩
  rwa[8,x,dx,fs,6,hx,l5 _ (by cutsat) (by cutsat) (by cutsat),x,wl,L,p,ws,z,6,hR,hwl,hw,fun H1 b1 R1=>?_]
  rwa[8,8,c,cs.map V.str,6,kmR b1 hx hc,6,kcZ _,8,?_]
  rw[ke1,decide_eq_true hz]
  exact iteF ⟨_,rfl,k _ b1 R1⟩
inductive kjj(d:D)(vs:List V)(H:Hp)(Q:VK)(E_:XK):Prop
 |ct(x wl:Addr)(L least most n:Int)(p:Nat)(ws:List Str)(z:Str)(_:vs=[.ref x, .int least, .int most])(_:RowAt d H x L wl p)(_:H wl>>(.lst (ws.map V.str)))(_:ws[p]?>>z)(_:NumW z n)(_:least<=n)(_:n<=most)(_:∀H',But x H H'->RowAt d H' x L wl (p+1)->Q (.int n) H'):kjj d vs H Q E_
theorem UC:kam ["self","least","most","word"] ["self","least","most"] (kaf kby):=by ac_rfl
theorem kbt(W:WB K mg d base):FO P w W 3 d.Vt d.Vu ["self","least","most"] (kjj d):=by
 exists W.qK.F,UC
 ·obtain⟨x,wl,L,a,b,n,p,ws,z,rfl,hR,hwl,hw,hn,h1,h2,k⟩:=h
  obtain⟨dx,fs,hx,l1,l2,l3,l4,l5⟩:=id hR
  have h6:z.length<=640:=Mz hn.l2 (by decide)
  exists Qm,kbL,W
  exists Js,kgE,W
  refine⟨_,kac (psl (i:=3) UC.nd (kaz (pv 0) W.c_Row.cl W.qJ.me Qm hr W.qJ.b .nil pass0))
   (kac (ps_if (PW.pt (pw_or (kfl (kaX (pcl Js hr W.V9 (kaa (pv 3) kae)))) (kh0 (kfl (klc op_le op_le (pv 1) (kaZ kgZ (by rfl) W.B.int b_int (kaa (pv 3) kae)) (pv 2)))))) (kag (ps_no)) (kau))
   (kag (kao (kaZ kgZ (by rfl) W.B.int b_int (kaa (pv 3) kae))))),?_⟩
  rwa[8,x,dx,fs,6,hx,l5 _ (by cutsat) (by cutsat) (by cutsat),x,wl,L,p,ws,z,6,hR,hwl,hw,fun H1 b1 R1=>?_]
  rwa[8,z,n,6,hn,fun H2 s2=>⟨_,rfl,iteF ?_⟩]
  rwa[8,8,z,n,6,hn.tx,h6,9,8,?_]
  rw[decide_eq_true h1]
  refine iteT ⟨_,rfl,_,_,rfl,rfl,_,rfl,?_⟩
  rw[decide_eq_true h2]
  exact iteF ⟨_,rfl,z,n,rfl,hn.tx,h6,k _ (b1.same s2) (R1.same s2)⟩
inductive kjk(d:D)(vs:List V)(H:Hp)(Q:VK)(E_:XK):Prop
 |ct(x wl:Addr)(L n:Int)(p:Nat)(ws:List Str)(z:Str)(_:vs=[.ref x])(_:RowAt d H x L wl p)(_:H wl>>(.lst (ws.map V.str)))(_:ws[p]?>>z)(_:NumW z n)(_:0<=n)(_:n<=1000000000000)(_:∀H',But x H H'->RowAt d H' x L wl (p+1)->Q (.int n) H'):kjk d vs H Q E_
theorem kdV:kam ["self"] ["self"] (kaf kbI):=by ac_rfl
theorem kbz(W:WB K mg d base):FO P w W 4 d.Vv d.Vw ["self"] (kjk d):=by
 exists W.qB.F,kdV
 ·obtain⟨x,wl,L,n,p,ws,z,rfl,hR,hwl,hw,hn,h1,h2,k⟩:=h
  obtain⟨dx,fs,hx,l1,l2,l3,l4,l5⟩:=id hR
  exists Qn,kbt,W
  rwa[_,kag (kao (kaH (pv 0) W.c_Row.cl W.qK.me Qn hr W.qK.b .nil pass0 (kaa kaq (kaa (kaI (v:=.int 1000000000000) (by rfl) W.g_MOST_COINS ⟨_,rfl⟩) kae)))),?_]
  rwa[8,x,dx,fs,6,hx,l5 _ (by cutsat) (by cutsat) (by cutsat),x,wl,L,0,1000000000000,n,p,ws,z,6,hR,hwl,hw,hn,h1,h2,k]
inductive khM(d:D)(vs:List V)(H:Hp)(Q:VK)(E_:XK):Prop
 |ct(x wl:Addr)(L:Int)(p:Nat)(ws:List Str)(z:Str)(_:vs=[.ref x])(_:RowAt d H x L wl p)(_:H wl>>(.lst (ws.map V.str)))(_:ws[p]?>>z)(_:NameW z)(_:∀H',But x H H'->RowAt d H' x L wl (p+1)->Q (.str z) H'):khM d vs H Q E_
theorem UD:kam ["self","word"] ["self"] (kaf kbV):=by ac_rfl
theorem kcI(W:WB K mg d base):FO P w W 3 d.Vx d.Vy ["self"] (khM d):=by
 exists W.Qh.F,UD
 ·obtain⟨x,wl,L,p,ws,z,rfl,hR,hwl,hw,hn,k⟩:=h
  obtain⟨dx,fs,hx,l1,l2,l3,l4,l5⟩:=id hR
  exists Qm,kbL,W
  exists Jt,kiQ,W
  refine⟨_,kac (psl (i:=1) UD.nd (kaz (pv 0) W.c_Row.cl W.qJ.me Qm hr W.qJ.b .nil pass0))
   (kac (ps_if (kfl (kaX (pcl Jt hr W.V8 (kaa (pv 1) kae)))) (kag (ps_no)) (kau))
   (kag (kao (pv 1)))),?_⟩
  rwa[8,x,dx,fs,6,hx,l5 _ (by cutsat) (by cutsat) (by cutsat),x,wl,L,p,ws,z,6,hR,hwl,hw,fun H1 b1 R1=>?_]
  rwa[8,z,6,hn,fun H2 s2=>⟨_,rfl,iteF ⟨_,rfl,k _ (b1.same s2) (R1.same s2)⟩⟩]
inductive kgk(d:D)(vs:List V)(H:Hp)(Q:VK)(E_:XK):Prop
 |ct(x wl t:Addr)(L:Int)(p:Nat)(ws ts:List Str)(z:Str)(_:vs=[.ref x, .ref t])(_:RowAt d H x L wl p)(_:H wl>>(.lst (ws.map V.str)))(_:H t>>(.lst (ts.map V.str)))(_:ws[p]?>>z)(_:NameW z)(_:z∉ts)(_:∀H',But x H H'->RowAt d H' x L wl (p+1)->Q (.str z) H'):kgk d vs H Q E_
theorem UE:kam ["self","taken","name"] ["self","taken"] (kaf kbk):=by ac_rfl
theorem kbM(W:WB K mg d base):FO P w W 4 d.Vz d.VA ["self","taken"] (kgk d):=by
 exists W.Qi.F,UE
 ·obtain⟨x,wl,t,L,p,ws,ts,z,rfl,hR,hwl,ht,hw,hn,hz,k⟩:=h
  have nt:=hR.ne ht
  obtain⟨dx,fs,hx,l1,l2,l3,l4,l5⟩:=id hR
  exists X3,kcI,W
  refine⟨_,kac (psl (i:=2) UE.nd (kaz (pv 0) W.c_Row.cl W.Qh.me X3 hr W.Qh.b .nil pass0))
   (kac (ps_if (kav kco (pv 2) (pv 1) (by with_unfolding_all rfl)) (kag (ps_no)) (kau))
   (kag (kao (pv 2)))),?_⟩
  rwa[8,x,dx,fs,6,hx,l5 _ (by cutsat) (by cutsat) (by cutsat),x,wl,L,p,ws,z,6,hR,hwl,hw,hn,fun H1 b1 R1=>?_]
  rwa[8,8,t,ts.map V.str,6, .inl (SqL.of (b1 _ _ nt ht)),6,kcZ _,8,?_]
  rw[ke1,decide_eq_false hz]
  exact iteF ⟨_,rfl,k _ b1 R1⟩
theorem kks(a b:Str):eqV (.str a) (.str b)=decide (a=b):=rfl
inductive kjm(d:D)(vs:List V)(H:Hp)(Q:VK)(E_:XK):Prop
 |ct(x wl t:Addr)(L:Int)(p j:Nat)(ws ts:List Str)(z:Str)(_:vs=[.ref x, .ref t])(_:RowAt d H x L wl p)(_:H wl>>(.lst (ws.map V.str)))(_:H t>>(.lst (ts.map V.str)))(_:ws[p]?>>z)(_:NameW z)(_:ts[j]?>>z)(_:ts.Nodup)(_:ts.length<=1000)(_:∀H',But x H H'->RowAt d H' x L wl (p+1)->Q (iV j) H'):kjm d vs H Q E_
theorem UF:kam ["self","names","name"] ["self","names"] (kaf kbH):=by ac_rfl
theorem ka1(W:WB K mg d base):FO P w W 4 d.VB d.VC ["self","names"] (kjm d):=by
 exists W.qu.F,UF
 ·obtain⟨x,wl,t,L,p,j,ws,ts,z,rfl,hR,hwl,ht,hw,hn,hz,nd,hl,k⟩:=h
  have nt:=hR.ne ht
  have hj:=at_lt hz
  obtain⟨dx,fs,hx,l1,l2,l3,l4,l5⟩:=id hR
  exists X3,kcI,W
  refine⟨_,kac (psl (i:=2) UF.nd (kaz (pv 0) W.c_Row.cl W.Qh.me X3 hr W.Qh.b .nil pass0))
   (kac (ps_if (kav kb8 (pv 2) (pv 1) (by with_unfolding_all rfl)) (kag (ps_no)) (kau))
   (kag (kao (pe_bm MW PySem.F.slot_list_index PySem.F.type_list_index kls (pv 1) (kaa (pv 2) kae))))),?_⟩
  rwa[8,x,dx,fs,6,hx,l5 _ (by cutsat) (by cutsat) (by cutsat),x,wl,L,p,ws,z,6,hR,hwl,hw,hn,fun H1 b1 R1=>?_]
  rwa[8,8,t,ts.map V.str,6, .inl (SqL.of (b1 _ _ nt ht)),6,kcZ _,8,?_]
  rw[ke1,decide_eq_true (MK hz)]
  refine iteF ⟨_,rfl, .inl ⟨rfl,_,SqL.of (b1 _ _ nt ht)⟩,_,rfl,t,ts.map V.str, .str z, .str z,j,rfl,rfl,b1 _ _ nt ht,rfl,kcZ _,by rw[MN,hz];rfl,by rw[kks];exact decide_eq_true rfl,fun m u hm hu=>?_,by lia,k _ b1 R1⟩
  rw[MN] at hu
  obtain⟨y,hy,rfl⟩:=Aa.mp hu
  rw[kks]
  refine decide_eq_false fun e=>?_
  subst e
  have:=(DR (at_lt hy) nd).mp (hy.trans hz.symm)
  lia
noncomputable def NL:Str:="\n"
noncomputable def BL:Str:=" "
noncomputable def wordsOf(l:Str):List Str:=(Txt.split l BL).filter noE
noncomputable def rowsF:Nat->List Str->List (Nat×List Str)
 |_,[]=>[]
 |k,l::ls=>(k,wordsOf l)::rowsF (k+1) ls
noncomputable def rowsM(text:Str):List (Nat×List Str):=(rowsF 1 (Txt.split text NL)).filter fun r=>decide (0<r.2.length)
def RowNew(d:D)(H0 H:Hp)(x:Addr)(r:Nat×List Str):Prop:=∃wl,H0 x=none/\H0 wl=none/\RowAt d H x (r.1:Int) wl 0/\H wl>>(.lst (r.2.map V.str))
inductive klZ(d:D)(vs:List V)(H:Hp)(Q:VK)(E_:XK):Prop
 |ct(text:Str)(_:vs=[.str text])(_:text.length+2<=1000000)(_:(Txt.split text NL).length<=1000)(_:(∀l∈Txt.split text NL,l.length+2<=1000000/\(Txt.split l BL).length<=1000))(_:∀(H':Hp)(rl:Addr)(xs:List Addr),Same H H'->H rl=none->H' rl>>(.lst (xs.map V.ref))->P2 (fun x r=>RowNew d H H' x r) xs (rowsM text)->xs.Nodup->Q (.ref rl) H'):klZ d vs H Q E_
theorem khX:∀{ls:List Str}{k i:Nat}{l:Str},ls[i]?>>l->(rowsF k ls)[i]?>>(k+i,wordsOf l)
 |[],k,i,l,h=>by simp at h
 |z::ls,k,0,l,h=>by
  have e:z=l:=by simpa using h
  rw[e]
  rfl
 |z::ls,k,i+1,l,h=>by
  have:=khX (k:=k+1) (show ls[i]?>>l by simpa using h)
  show(rowsF (k+1) ls)[i]?=_
  rw[this,show k+1+i=k+(i+1) by lia]
theorem kcR:∀{ls:List Str}{k:Nat},(rowsF k ls).length=ls.length
 |[],k=>rfl
 |z::ls,k=>by
  show(rowsF (k+1) ls).length+1=_
  rw[kcR]
  rfl
theorem RowNew.same{d:D}{H0 H H':Hp}{x:Addr}{r:Nat×List Str}(s:Same H H'):RowNew d H0 H x r->RowNew d H0 H' x r:=by rintro⟨wl,h1,h2,h3,h4⟩;exact⟨wl,h1,h2,h3.same s,s _ _ h4⟩
theorem RowNew.here{d:D}{H0 H:Hp}{x:Addr}{r:Nat×List Str}:RowNew d H0 H x r->∃o,H x>>o:=by rintro⟨wl,h1,h2,⟨dx,fs,h,_⟩,h4⟩;exact⟨_,h⟩
theorem UG:kam ["text","rows"] ["text"] (kaf keI):=by ac_rfl
theorem kiP(W:WB K mg d base):FO P w W 3 d.Zi d.Zj ["text"] (klZ d):=by
 exists W.V7.F,UG
 ·obtain⟨text,rfl,hl1,hl2,hl3,k⟩:=h
  have big:∀n:Nat,n<=1000000->n<=sizeLine:=fun n h=>Mz h (by decide)
  exists Ju,khl,W
  exists qm,kaL,W
  have hr1:Room 1 _:=hr.mono (by decide)
  refine⟨_,kac (keQ (N:=["number","line"]) (CompScope.plain rfl (by cutsat) (by cutsat) (by cutsat) (show(["number","line"]:List Str).Nodup by cutsat)) rfl (klh rfl W.B.enum (kfm (K:=K) (r:=kjJ) Dv Ay Az kig (pv 0) (kaa kat kae)) (by decide)) (fun _ _ _ _=>kbm (K:=K) (n:=2) rfl (kaw (pgn (i:=0) (show(["number","line"]:List Str).Nodup by cutsat)) (kaw (pgn (i:=1) (show(["number","line"]:List Str).Nodup by cutsat)) kbl))) (fun _ _ _ _=>(kbc (W.XH.mk' W.c_Row) Ju hr rfl W.c_Row.m W.XH.b .nil pass0 (kaa (pv 0) (kaa (kfm (K:=K) (r:=kjJ) Dv Ay Az kig (pv 1) (kaa kat kae)) kae)))) (pgn (i:=1) UG.nd))
   (kag (kao (kfV (N:=["row"]) (CompScope.plain rfl (by cutsat) (by cutsat) (by cutsat) (nd1 _)) rfl (kaK (K:=K) (pv 1)) (fun _ _ _ _=>pgn (i:=0) (nd1 _)) (fun _ _ _ _=>khj (kaX (kaz (pv 0) W.c_Row.cl W.ql.me qm hr1 W.ql.b .nil pass0))) (fun _ _ _ _=>(pv 0))))),?_⟩
  rwa[8,6,text,NL,6,6,by decide,big _ hl1,big _ (by lia),fun sl fsl=>?_]
  exists H,sl,H1,n1,e1,fsl
  rwa[sl,8,e1,kiX (z:=1) (xs:=(Txt.split text NL).map V.str) (fun i σ ys H'=>Same H1 H'/\∃(xs:List Addr)(v0 v1:Option V),ys=xs.map V.ref/\P2 (fun x r=>RowNew d H H' x r) xs ((rowsF 1 (Txt.split text NL)).take i)/\xs.Nodup/\xs.length=i/\σ=[v0,v1]) ⟨Same.refl _,[],none,none,rfl, .nil,ES,rfl,rfl⟩ (by rw[Mu];exact big _ (by lia)) ?_ ?_ ?_]
  ·rintro i σ ys H' hi ⟨si,xs,v0,v1,rfl,hxs,hnd,hln,rfl⟩
   rwa[si _ _ e1,by rw[Mu];exact hln]
  ·rintro i y t σ ys Hi hy ⟨si,xs,v0,v1,rfl,hxs,hnd,hln,rfl⟩ ft
   rw[MN] at hy
   obtain⟨l,el,rfl⟩:=Aa.mp hy
   obtain⟨b1,b2⟩:=hl3 l (MK el)
   exists Hi,t,H2,n2,e2,ft
   rwa[t,8,SqT.of e2,6,_,8,9,?_]
   rwa[8,8,6,l,BL,6,6,by decide,big _ b1,big _ (by lia),fun pl fpl=>?_]
   exists H2,pl,H3,n3,e3,fpl
   intro x dx fx fdx ndx
   rwa[H3,x,dx,pl,_,8,fx,ka3 fx fdx,kad,e3,b2,fun H4 wl s4 fwl hR hw=>⟨rfl,?_⟩]
   have si3:=n2.trans n3
   have s04:=n1.trans (si.trans si3)
   rwa[si.trans (si3.trans s4),xs++[x],_,_,by rw[MC];rfl,?_,?_,by rw[ML,hln];rfl,6]
   ·rw[take_snoc (khX (k:=1) el)]
    refine P2.snoc (hxs.mono fun x r h=>h.same (si3.trans s4)) ⟨wl,s04.free fx,s04.free fwl,?_,hw⟩
    rw[show 1+i=i+1 by lia]
    exact hR
   ·refine Ab.mpr ⟨hnd,by simp,fun a ha b hb e=>?_⟩
    rw[ME.mp hb] at e
    subst e
    obtain⟨j,hj⟩:=List.getElem?_of_mem ha
    obtain⟨r,_,hr⟩:=hxs.at hj
    obtain⟨o,ho⟩:=hr.here
    rw[si3.free fx] at ho
    cases ho
  rintro σ ys H2 ⟨s2,xs,v0,v1,rfl,hxs,hnd,hln,rfl⟩ rw1 frw
  rw[Mu,<-kcR (k:=1),M0] at hxs
  exists H2,rw1,H3,n3,e3,frw
  have s03:=n1.trans (s2.trans n3)
  replace hxs:=hxs.mono fun x r h=>RowNew.same n3 h
  have lxs:=hxs.len
  rw[kcR] at lxs
  rwa[8,rw1,6,⟨_,SqL.of e3⟩,kfz (xs:=xs.map V.ref) (fun i σ ys H'=>H'=H3/\∃(as:List Addr)(v0:Option V),ys=as.map V.ref/\P2 (fun x r=>RowNew d H H3 x r) as (((rowsF 1 (Txt.split text NL)).take i).filter fun r=>decide (0<r.2.length))/\as.Sublist (xs.take i)/\σ=[v0]) ⟨rfl,[],none,rfl, .nil,Dt.refl _,rfl⟩ (by rw[Mu];exact big _ (by lia)) ?_ ?_ ?_]
  ·rintro i σ ys H' hi ⟨rfl,as,v0,rfl,has,hsub,rfl⟩
   rwa[SqL.of e3,by rw[Mu];exact Mz hsub.length_le (by rw[MU];lia)]
  ·rintro i y σ ys H' hy ⟨rfl,as,v0,rfl,has,hsub,rfl⟩
   obtain⟨x,ex,rfl⟩:=kcS hy
   obtain⟨r,er,hr⟩:=hxs.at ex
   obtain⟨wl,f1,f2,hR,hw⟩:=id hr
   obtain⟨dx,fs,hx,l1,l2,l3,l4,l5⟩:=id hR
   rwa[8,x,dx,fs,6,hx,l5 _ (by cutsat) (by cutsat) (by cutsat),x,wl,_,0,r.2,6,hR,hw,8,?_]
   rw[take_snoc er,take_snoc ex,EG,EM,E3]
   by_cases c:0<r.2.length
   ·rw[decide_eq_true c]
    exact iteT ⟨_,rfl,rfl,as++[x],_,by rw[MC];rfl,P2.snoc has hr,hsub.append (Dt.refl _),rfl⟩
   ·rw[decide_eq_false c]
    refine iteF ?_
    rw[if_neg MD,El]
    rwa[6,as,8,has,hsub.trans (DY _ _),6]
  rintro σ ys H' ⟨rfl,as,v0,rfl,has,hsub,rfl⟩ rl frl
  rw[Mu,lxs,<-kcR (k:=1),M0] at has
  have hnd2:as.Nodup:=(hsub.trans (List.take_sublist _ _)).nodup hnd
  have n4:=kai (o:=.lst (as.map V.ref)) frl
  exact k _ rl as (s03.trans n4) (s03.free frl) kad (has.mono fun x r h=>RowNew.same n4 h) hnd2
def Chg(M:List Addr)(H H':Hp):Prop:=∀b o,b∉M->H b>>o->Ev H H' b o
theorem Chg.trans{M:List Addr}{H H1 H2:Hp}(a:Chg M H H1)(b:Chg M H1 H2):Chg M H H2:=fun c o n h=>ka9 (a c o n h) fun o' e=>b c o' n e
theorem Chg.of_same{M:List Addr}{H H1:Hp}(b:Same H H1):Chg M H H1:=fun c o _ h=>b c o h
theorem Chg.same{M:List Addr}{H H1 H2:Hp}(a:Chg M H H1)(b:Same H1 H2):Chg M H H2:=a.trans (.of_same b)
theorem Chg.of_but{M:List Addr}{x:Addr}{H H1:Hp}(hx:x∈M)(b:But x H H1):Chg M H H1:=fun c o n h=>b c o (fun e=>n (e▸hx)) h
theorem Chg.put{M:List Addr}{m:Addr}{H:Hp}{o:HO}(hm:m∈M)(hx:NX H m):Chg M H (upd H m o):=.of_but hm (kax hx)
theorem Chg.up{M N:List Addr}{H H1:Hp}(h:∀m∈M,m∈N)(a:Chg M H H1):Chg N H H1:=fun c o n e=>a c o (fun z=>n (h c z)) e
theorem Chg.keep0{M:List Addr}{H0 H H':Hp}(s:Same H0 H)(f:∀m∈M,H0 m=none)(c:Chg M H H'):Same H0 H':=fun b o e=>ka9 (s b o e) fun o' e'=>c b o' (fun z=>by rw[f b z] at e;cases e) e'
theorem P2.mem'{α β:Type}{R R': α->β->Prop}:∀{as:List α}{bs:List β},P2 R as bs->(∀a b,a∈as->R a b->R' a b)->P2 R' as bs
 |_,_, .nil,_=>.nil
 |_,_, .cons h t,f=>.cons (f _ _ Mx h) (P2.mem' t fun a b ha hr=>f a b (MH _ ha) hr)
theorem P2.memR{α β:Type}{R R': α->β->Prop}:∀{as:List α}{bs:List β},P2 R as bs->(∀a b,a∈as->b∈bs->R a b->R' a b)->P2 R' as bs
 |_,_, .nil,_=>.nil
 |_,_, .cons h t,f=>.cons (f _ _ Mx Mx h) (P2.memR t fun a b ha hb hr=>f a b (MH _ ha) (MH _ hb) hr)
theorem P2.put'{H:Hp}{o:HO}:∀{ms:List Addr}{os:List HO}{i:Nat}{m:Addr},ms.Nodup->P2 (fun m o=>H m>>o) ms os->ms[i]?>>m->P2 (fun m' o'=>(upd H m o) m'>>o') ms (os.set i o)
 |[],_,i,m,_,_,h=>by simp at h
 |a::as,o1::os,0,m,nd, .cons h t,e=>by
  have e:a=m:=by simpa using e
  subst e
  refine .cons kad (P2.mem' t fun b o' hb h'=>?_)
  rw[kah (show b≠a from fun z=>(Ed.mp nd).1 (z▸hb))]
  exact h'
 |a::as,o1::os,i+1,m,nd, .cons h t,e=>by
  have e':as[i]?>>m:=by simpa using e
  refine .cons ?_ (P2.put' (Ed.mp nd).2 t e')
  rw[kah (show a≠m from fun z=>(Ed.mp nd).1 (z.symm▸MK e'))]
  exact h
theorem kog{H H':Hp}{b:Addr}{o:HO}(e:Ev H H' b o)(n:∀ps,o≠.tbl ps):H' b>>o:=by
 cases o <;> first|exact e|exact absurd rfl (n _)
structure DeskD where
 kn:List Str
 ps:List (Option Nat)
 vn:List Str
 vs:List Vch
 rs:List Rul
 bk:Str
 bs:List Bask
 hs:List (List (Key×V))
structure DeskF(fs:List (Str×V))(k1 k2 k3 k4 rl bl hl:Addr)(bk:Str):Prop where
 f1:fs.lookup ("kind_names" :Str)>>(.ref k1)
 f2:fs.lookup ("parents" :Str)>>(.ref k2)
 f3:fs.lookup ("voucher_names" :Str)>>(.ref k3)
 f4:fs.lookup ("vouchers" :Str)>>(.ref k4)
 f5:fs.lookup ("rules" :Str)>>(.ref rl)
 f6:fs.lookup ("back" :Str)>>(.str bk)
 f7:fs.lookup ("baskets" :Str)>>(.ref bl)
 f8:fs.lookup ("held" :Str)>>(.ref hl)
 no:∀g∈([("names_so_far" :Str),("till_so_far" :Str),("basket_so_far" :Str),("hand_so_far" :Str),("names_of" :Str)]:List Str),fs.lookup g=none
 ln:fs.length<=9
noncomputable def dObjs(d:D)(dx:Addr)(fs:List (Str×V))(S:DeskD)(va ra ba ha:List Addr):List HO:=[.ins d.qe dx fs, .lst (S.kn.map V.str), .lst (S.ps.map pV), .lst (S.vn.map V.str), .lst (va.map V.ref), .lst (ra.map V.ref), .lst (ba.map V.ref), .lst (ha.map V.ref)]++S.hs.map HO.dK
structure DeskA(d:D)(G H:Hp)(ms:List Addr)(S:DeskD)(dx:Addr)(fs:List (Str×V))(t k1 k2 k3 k4 rl bl hl:Addr)(ha va ra ba:List Addr):Prop where
 em:ms=[t,k1,k2,k3,k4,rl,bl,hl]++ha
 fd:DeskF fs k1 k2 k3 k4 rl bl hl S.bk
 sub:Same G H
 tb:Tbs d G
 fr:∀m∈ms,G m=none
 nd:ms.Nodup
 at':P2 (fun m o=>H m>>o) ms (dObjs d dx fs S va ra ba ha)
 vs:P2 (fun a V=>VchIs d G a V) va S.vs
 rs:P2 (fun a r=>RulIs G a r) ra S.rs
 bs:P2 (fun b B=>BaskIs d.qf d.qh G b B) ba S.bs
inductive kbp(d:D)(G H:Hp)(ms:List Addr)(S:DeskD):Prop
 |ct dx fs t k1 k2 k3 k4 rl bl hl ha va ra ba (_:DeskA d G H ms S dx fs t k1 k2 k3 k4 rl bl hl ha va ra ba):kbp d G H ms S
theorem kiu{d:D}{dx:Addr}{fs:List (Str×V)}{S:DeskD}{va ra ba ha:List Addr}{o:HO}(h:o∈dObjs d dx fs S va ra ba ha):(∀ps,o≠.tbl ps)/\nxo o=true:=by
 unfold dObjs at h
 simp only[EZ,EW,MB,MZ] at h
 rcases h with rfl|rfl|rfl|rfl|rfl|rfl|rfl|rfl|⟨x,_,rfl⟩ <;> exact⟨fun _ z=>(by cases z),rfl⟩
section
variable{G G' H H':Hp}{ms:List Addr}{S:DeskD}{dx t k1 k2 k3 k4 rl bl hl:Addr}{fs:List (Str×V)}{ha va ra ba:List Addr}
theorem DeskA.o(D:DeskA d G H ms S dx fs t k1 k2 k3 k4 rl bl hl ha va ra ba){i:Nat}{m:Addr}{o:HO}(hm:([t,k1,k2,k3,k4,rl,bl,hl]++ha)[i]?>>m)(ho:(dObjs d dx fs S va ra ba ha)[i]?>>o):H m>>o:=D.at'.get (by rw[D.em];exact hm) ho
theorem DeskA.mem(D:DeskA d G H ms S dx fs t k1 k2 k3 k4 rl bl hl ha va ra ba){i:Nat}{m:Addr}(hm:([t,k1,k2,k3,k4,rl,bl,hl]++ha)[i]?>>m):m∈ms:=by rw[D.em];exact MK hm
theorem DeskA.here(D:DeskA d G H ms S dx fs t k1 k2 k3 k4 rl bl hl ha va ra ba){m:Addr}(hm:m∈ms):∃o,H m>>o/\nxo o=true:=by
 obtain⟨i,hi⟩:=List.getElem?_of_mem hm
 obtain⟨o,ho,h⟩:=D.at'.at hi
 rwa[o,h,(kiu (MK ho)).2]
theorem DeskA.on(D:DeskA d G H ms S dx fs t k1 k2 k3 k4 rl bl hl ha va ra ba){M:List Addr}(c:Chg M H H')(hM:∀m∈ms,m∉M)(hG:∀m∈M,G m=none):DeskA d G H' ms S dx fs t k1 k2 k3 k4 rl bl hl ha va ra ba:=
 {D with
  sub:=c.keep0 D.sub hG
  at':=P2.memR D.at' fun m o hm ho h=>kog (c m o (hM m hm) h) (kiu ho).1}
theorem DeskA.same(D:DeskA d G H ms S dx fs t k1 k2 k3 k4 rl bl hl ha va ra ba)(s:Same H H'):DeskA d G H' ms S dx fs t k1 k2 k3 k4 rl bl hl ha va ra ba:=D.on (M:=[]) (.of_same s) (fun _ _ h=>by cases h) (fun _ h=>by cases h)
theorem DeskA.more(D:DeskA d G H ms S dx fs t k1 k2 k3 k4 rl bl hl ha va ra ba)(s:Same G G')(s':Same G' H)(f:∀m∈ms,G' m=none):DeskA d G' H ms S dx fs t k1 k2 k3 k4 rl bl hl ha va ra ba:=
 {D with
  sub:=s',tb:=D.tb.same s,fr:=f
  vs:=D.vs.mono fun a V h=>h.same s
  rs:=D.rs.mono fun a r h=>s _ _ h
  bs:=D.bs.mono fun b B h=>h.same s}
theorem DeskA.put(D:DeskA d G H ms S dx fs t k1 k2 k3 k4 rl bl hl ha va ra ba){i:Nat}{m:Addr}{o:HO}{S':DeskD}{va' ra' ba':List Addr}{fs':List (Str×V)}(hm:([t,k1,k2,k3,k4,rl,bl,hl]++ha)[i]?>>m)(ho:dObjs d dx fs' S' va' ra' ba' ha=(dObjs d dx fs S va ra ba ha).set i o)(hf:DeskF fs' k1 k2 k3 k4 rl bl hl S'.bk)
  (hv:P2 (fun a V=>VchIs d G a V) va' S'.vs)(hr:P2 (fun a r=>RulIs G a r) ra' S'.rs)(hb:P2 (fun b B=>BaskIs d.qf d.qh G b B) ba' S'.bs):DeskA d G (upd H m o) ms S' dx fs' t k1 k2 k3 k4 rl bl hl ha va' ra' ba':=by
 have hm':=D.mem hm
 obtain⟨o0,h0,n0⟩:=D.here hm'
 exact {em:=D.em,fd:=hf,sub:=kar (D.fr m hm') D.sub (nx h0 n0),tb:=D.tb,fr:=D.fr,nd:=D.nd,at':=by rw[ho];exact P2.put' D.nd D.at' (by rw[D.em];exact hm),vs:=hv,rs:=hr,bs:=hb}
end
structure Bld(d:D)(H0 H:Hp)(t dx:Addr)(fs:List (Str×V))(ks:List Addr)(n:Nat):Prop where
 s:Same H0 H
 f:H0 t=none
 i:H t>>(.ins d.qe dx fs)
 k:∀k∈ks,H k>>(.lst [])/\H0 k=none
 nd:(t::ks).Nodup
 ln:fs.length<=n
theorem Bld.list{d:D}{H0 H:Hp}{t dx k:Addr}{fs:List (Str×V)}{ks:List Addr}{n:Nat}(B:Bld d H0 H t dx fs ks n)(fk:H k=none)(f:Str):Bld d H0 (upd (upd H k (.lst [])) t (.ins d.qe dx (putF f (.ref k) fs))) t dx (putF f (.ref k) fs) (ks++[k]) (n+1):=by
 have nt:t≠k:=kak B.i fk
 have s1:=B.s.trans (kai (o:=.lst []) fk)
 have nks:∀z∈ks,z≠k:=fun z hz=>kak (B.k z hz).1 fk
 have ntk:∀z∈ks,z≠t:=fun z hz e=>(Ed.mp B.nd).1 (e▸hz)
 rwa[kar B.f s1 (nx (by rw[kah nt];exact B.i)),B.f,kad,fun z hz=>?_,?_,kal B.ln]
 ·rcases MY.mp hz with hz|hz
  ·rw[kah (ntk z hz),kah (nks z hz)]
   exact B.k z hz
  ·rw[ME.mp hz,kah nt.symm,kad]
   rwa[6,B.s.free fk]
 ·rw[<-EZ]
  refine Ab.mpr ⟨B.nd,by simp,fun a ha b hb e=>?_⟩
  rw[ME.mp hb] at e
  subst e
  rcases MB.mp ha with e|e
  ·exact nt e.symm
  ·exact nks a e rfl
theorem Bld.flat{d:D}{H0 H:Hp}{t dx:Addr}{fs:List (Str×V)}{ks:List Addr}{n:Nat}(B:Bld d H0 H t dx fs ks n)(f:Str)(v:V):Bld d H0 (upd H t (.ins d.qe dx (putF f v fs))) t dx (putF f v fs) ks (n+1):=
 ⟨kar B.f B.s (nx B.i),B.f,kad,fun z hz=>by rw[kah (show z≠t from fun e=>(Ed.mp B.nd).1 (e▸hz))];exact B.k z hz,B.nd,kal B.ln⟩
theorem Bld.few{d:D}{H0 H:Hp}{t dx:Addr}{fs:List (Str×V)}{ks:List Addr}{n:Nat}(B:Bld d H0 H t dx fs ks n)(h:autoParam (n<1000) jQ):fs.length<1000:=Ex B.ln h
inductive klX(d:D)(vs:List V)(H:Hp)(Q:VK)(E_:XK):Prop
 |ct(H0:Hp)(t dx:Addr)(_:vs=[.ref t])(_:Bld d H0 H t dx [] [] 0)(_:∀(H':Hp)(fs:List (Str×V))(k1 k2 k3 k4 rl bl hl:Addr),Bld d H0 H' t dx fs [k1,k2,k3,k4,rl,bl,hl] 8->DeskF fs k1 k2 k3 k4 rl bl hl "again"->fs.lookup ("account" :Str)=none->Q .non H'):klX d vs H Q E_
theorem ken:kam ["self"] ["self"] (kaf kbS):=by ac_rfl
theorem kes(W:WB K mg d base):FO P w W 1 d.Q7 d.Vf ["self"] (klX d):=by
 exists W.XF.F,ken
 ·obtain⟨H0,t,dx,rfl,b0,k⟩:=h
  refine⟨_,kac (kaA (pv 0) (kaJ kae) rfl)
   (kac (kaA (pv 0) (kaJ kae) rfl)
   (kac (kaA (pv 0) (kaJ kae) rfl)
   (kac (kaA (pv 0) (kaJ kae) rfl)
   (kac (kaA (pv 0) (kaJ kae) rfl)
   (kac (kaA (pv 0) kat rfl)
   (kac (kaA (pv 0) (kaJ kae) rfl)
   (kag (kaA (pv 0) (kaJ kae) rfl)))))))),?_⟩
  rwa[by decide,fun k1 f1=>⟨_,rfl,t,d.qe,dx,_,rfl,(by rw[kah (kak b0.i f1)];exact b0.i),W.qe.cl,W.QJ,b0.few,?_⟩]
  have b1:=b0.list f1 "kind_names"
  generalize upd (upd H k1 _) t _=H1 at *
  rwa[by decide,fun k2 f2=>⟨_,rfl,t,d.qe,dx,_,rfl,(by rw[kah (kak b1.i f2)];exact b1.i),W.qe.cl,W.QK,b1.few,?_⟩]
  have b2:=b1.list f2 "parents"
  generalize upd (upd H1 k2 _) t _=H2 at *
  rwa[by decide,fun k3 f3=>⟨_,rfl,t,d.qe,dx,_,rfl,(by rw[kah (kak b2.i f3)];exact b2.i),W.qe.cl,W.qL,b2.few,?_⟩]
  have b3:=b2.list f3 "voucher_names"
  generalize upd (upd H2 k3 _) t _=H3 at *
  rwa[by decide,fun k4 f4=>⟨_,rfl,t,d.qe,dx,_,rfl,(by rw[kah (kak b3.i f4)];exact b3.i),W.qe.cl,W.Qj,b3.few,?_⟩]
  have b4:=b3.list f4 "vouchers"
  generalize upd (upd H3 k4 _) t _=H4 at *
  rwa[by decide,fun rl f5=>⟨_,rfl,t,d.qe,dx,_,rfl,(by rw[kah (kak b4.i f5)];exact b4.i),W.qe.cl,W.QL,b4.few,?_⟩]
  have b5:=b4.list f5 "rules"
  generalize upd (upd H4 rl _) t _=H5 at *
  rwa[8,t,d.qe,dx,8,b5.i,W.qe.cl,W.Ur,b5.few,?_]
  have b6:=b5.flat "back" (.str "again")
  generalize upd H5 t _=H6 at *
  rwa[by decide,fun bl f7=>⟨_,rfl,t,d.qe,dx,_,rfl,(by rw[kah (kak b6.i f7)];exact b6.i),W.qe.cl,W.qT,b6.few,?_⟩]
  have b7:=b6.list f7 "baskets"
  generalize upd (upd H6 bl _) t _=H7 at *
  rwa[by decide,fun hl f8=>⟨_,rfl,t,d.qe,dx,_,rfl,(by rw[kah (kak b7.i f8)];exact b7.i),W.qe.cl,W.QM,b7.few,?_⟩]
  have b8:=b7.list f8 "held"
  refine k _ _ k1 k2 k3 k4 rl bl hl b8 ⟨?_,?_,?_,?_,?_,?_,?_,?_,fun g hg=>?_,Nat.le_succ_of_le b8.ln⟩ ?_
  ·ac_nf
  ·ac_nf
  ·ac_nf
  ·ac_nf
  ·ac_nf
  ·ac_nf
  ·ac_nf
  ·ac_nf
  ·simp only[MB,MR,or_false] at hg
   rcases hg with rfl|rfl|rfl|rfl|rfl <;> (ac_nf;rfl)
  ·ac_nf
   rfl
inductive kjv(d:D)(vs:List V)(H:Hp)(Q:VK)(E_:XK):Prop
 |ct(H0:Hp)(t dx:Addr)(_:vs=[.ref t])(_:Bld d H0 H t dx [] [] 0)(_:∀(H':Hp)(fs:List (Str×V))(k1 k2 k3 k4 rl bl hl:Addr),Bld d H0 H' t dx fs [k1,k2,k3,k4,rl,bl,hl] 9->DeskF fs k1 k2 k3 k4 rl bl hl "again"->fs.lookup ("account" :Str)>>.non->Q .non H'):kjv d vs H Q E_
theorem kgv:kam ["self"] ["self"] (kaf kdv):=by ac_rfl
theorem kgJ(W:WB K mg d base):FO P w W 2 d.VD d.VE ["self"] (kjv d):=by
 exists W.XI.F,kgv
 ·obtain⟨H0,t,dx,rfl,b0,k⟩:=h
  exists Jv,kes,W
  refine⟨_,kac (kay (kjZ W.U7 Jv hr rfl W.qA.m W.XF.F.kp W.XF.b .nil pass0 (kaa (pv 0) kae)))
   (kag (kaA (pv 0) kbg rfl)),?_⟩
  rwa[8,H0,t,dx,6,b0,fun H1 fs k1 k2 k3 k4 rl bl hl b1 F ea=>?_]
  rwa[8,t,d.qe,dx,8,b1.i,W.qe.cl,W.U5,b1.few,?_]
  have b2:=b1.flat "account" .non
  refine k _ _ k1 k2 k3 k4 rl bl hl b2 ⟨?_,?_,?_,?_,?_,?_,?_,?_,fun g hg=>?_,b2.ln⟩ ?_
  ·ac_nf
   exact F.f1
  ·ac_nf
   exact F.f2
  ·ac_nf
   exact F.f3
  ·ac_nf
   exact F.f4
  ·ac_nf
   exact F.f5
  ·ac_nf
   exact F.f6
  ·ac_nf
   exact F.f7
  ·ac_nf
   exact F.f8
  ·rw[kab,if_neg]
   ·exact F.no g hg
   ·intro e
    subst e
    revert hg
    cutsat
  ·ac_nf
inductive kjl(d:D)(vs:List V)(H:Hp)(Q:VK)(E_:XK):Prop
 |ct(G:Hp)(ms:List Addr)(S:DeskD)(t:Addr)(_:vs=[.ref t])(_:ms[0]?>>t)(_:kbp d G H ms S)(_:S.kn.length<=100)(_:S.vn.length<=100)(_:∀l,H l=none->Q (.ref l) (upd H l (.lst ((S.kn++S.vn).map V.str)))):kjl d vs H Q E_
theorem kcm:kam ["self"] ["self"] (kaf kaP):=by ac_rfl
theorem kbo(W:WB K mg d base):FO P w W 1 d.Q8 d.Q9 ["self"] (kjl d):=by
 exists W.U1.F,kcm
 ·obtain⟨G,ms,S,t,rfl,et,⟨dx,fs,t0,k1,k2,k3,k4,rl,bl,hl,ha,va,ra,ba,D⟩,l1,l2,k⟩:=h
  rw[D.em] at et
  cases et
  rwa[_,kag (kao (pe_op kd6 (kaj (K:=K) (pv 0) rfl) (kaj (K:=K) (pv 0) rfl))),?_]
  rwa[8,t,d.qe,dx,fs,8,D.o (i:=0) rfl rfl,W.qe.cl,W.QJ,D.fd.f1,8,t,d.qe,dx,fs,8,D.o (i:=0) rfl rfl,W.qe.cl,W.qL,D.fd.f3,k1,k3,9,D.o (i:=1) rfl rfl,D.o (i:=3) rfl rfl,MI (kan (by rw[Mu,Mu];lia)),fun l fl=>?_]
  rw[<-MC]
  exact k l fl
inductive khI(d:D)(vs:List V)(H:Hp)(Q:VK)(E_:XK):Prop
 |ct(G:Hp)(ms:List Addr)(S:DeskD)(t:Addr)(_:vs=[.ref t])(_:ms[0]?>>t)(_:kbp d G H ms S)(_:∀(H':Hp)(x:Addr),Same H H'->H x=none->TillIs d H' x ⟨S.ps,S.vs,S.rs,S.bk⟩->Q (.ref x) H'):khI d vs H Q E_
theorem kcs:kam ["self"] ["self"] (kaf kaW):=by ac_rfl
theorem kcA(W:WB K mg d base):FO P w W 3 d.Xa d.Xb ["self"] (khI d):=by
 exists W.U2.F,kcs
 ·obtain⟨G,ms,S,t,rfl,et,⟨dx,fs,t0,k1,k2,k3,k4,rl,bl,hl,ha,va,ra,ba,D⟩,k⟩:=h
  rw[D.em] at et
  cases et
  have ht:=D.o (i:=0) rfl rfl
  exists X4,kec,W
  rwa[_,kag (kao (kbc (W.QH.mk' W.qg) X4 hr rfl W.qg.m W.QH.b .nil pass0 (kaa (kaj (K:=K) (pv 0) rfl) (kaa (kaj (K:=K) (pv 0) rfl) (kaa (kaj (K:=K) (pv 0) rfl) (kaa (kaj (K:=K) (pv 0) rfl) kae)))))),?_]
  rwa[8,t,d.qe,dx,fs,8,ht,W.qe.cl,W.QK,D.fd.f2,8,t,d.qe,dx,fs,8,ht,W.qe.cl,W.Qj,D.fd.f4,8,t,d.qe,dx,fs,8,ht,W.qe.cl,W.QL,D.fd.f5,8,t,d.qe,dx,fs,8,ht,W.qe.cl,W.Ur,D.fd.f6,fun x dy fx fdy ndy=>?_]
  rwa[H,x,dy,k2,k4,rl,_,_,_,S.bk,6,fx,ka3 fx fdy,kad,D.o (i:=2) rfl rfl,D.o (i:=4) rfl rfl,D.o (i:=5) rfl rfl,fun H1 p' vl' rl' gs s1 f1 f2 f3 e1 e2 e3 e4 g1 g2 g3 g4=>⟨rfl,?_⟩]
  have sG:=D.sub.trans s1
  exact k H1 x s1 fx ⟨dy,gs,p',vl',rl',va,ra,e4,g1,g2,g3,g4,e1,e2,D.vs.mono fun a V h=>h.same sG,e3,D.rs.mono fun a r h=>sG _ _ h⟩
theorem kez{α:Type}:∀{xs:List α}{v: α},xs.getLast?>>v->atI xs (-1)>>v:=fun {xs v} h=>by
 have hn:xs≠[]:=fun e=>by rw[e] at h;cases h
 have hl:=List.length_pos_iff.mpr hn
 have e:ixN xs.length (-1)>>(xs.length-1):=by
  unfold ixN
  rw[if_neg (by decide),if_pos (by lia)]
  congr 1
  lia
 unfold atI
 rw[e]
 show xs[xs.length-1]?>>v
 rw[<-h,Ac]
theorem P2.last{α β:Type}{R: α->β->Prop}{as:List α}{bs:List β}{b: β}(h:P2 R as bs)(e:bs.getLast?>>b):∃a,as.getLast?>>a/\R a b:=by
 have hl:=h.len
 rw[Ac] at e⊢
 obtain⟨a,ea⟩:=at_of (xs:=as) (i:=as.length-1) (by have:=at_lt e;lia)
 rwa[a,ea,h.get ea (by rw[hl];exact e)]
inductive khQ(d:D)(vs:List V)(H:Hp)(Q:VK)(E_:XK):Prop
 |ct(G:Hp)(ms:List Addr)(S:DeskD)(t:Addr)(B:Bask)(_:vs=[.ref t])(_:ms[0]?>>t)(_:kbp d G H ms S)(_:S.bs.getLast?>>B)(_:∀b,BaskIs d.qf d.qh G b B->Q (.ref b) H):khQ d vs H Q E_
theorem kcb:kam ["self"] ["self"] (kaf kaM):=by ac_rfl
theorem kbh(W:WB K mg d base):FO P w W 1 d.Xc d.Xd ["self"] (khQ d):=by
 exists W.U3.F,kcb
 ·obtain⟨G,ms,S,t,B,rfl,et,⟨dx,fs,t0,k1,k2,k3,k4,rl,bl,hl,ha,va,ra,ba,D⟩,eB,k⟩:=h
  rw[D.em] at et
  cases et
  obtain⟨b,eb,hb⟩:=P2.last D.bs eB
  rwa[_,kag (kao (pe_ix (r:=rIxL K) kaR (kaj (K:=K) (pv 0) rfl) (pe_un kgf kaq) (fun _ _=>rfl))),?_]
  rwa[8,t,d.qe,dx,fs,8,D.o (i:=0) rfl rfl,W.qe.cl,W.qT,D.fd.f7,8,bl,_,9,SqL.of (D.o (i:=6) rfl rfl),kez (v:=V.ref b) (by rw[Ad,eb];rfl),k b hb]
theorem P2.unmap{α β γ:Type}{R: α->β->Prop}{f: γ->β}:∀{as:List α}{cs:List γ},P2 R as (cs.map f)->P2 (fun a c=>R a (f c)) as cs
 |_,[], .nil=>.nil
 |_,c::cs, .cons h t=>.cons h (P2.unmap t)
noncomputable def hldM(kvs:List (Key×V))(n:Nat):V:=(valV kvs (.inl (n:Int))).getD (.int 0)
inductive khO(d:D)(vs:List V)(H:Hp)(Q:VK)(E_:XK):Prop
 |ct(G:Hp)(ms:List Addr)(S:DeskD)(t:Addr)(kvs:List (Key×V))(hand:List Int)(_:vs=[.ref t])(_:ms[0]?>>t)(_:kbp d G H ms S)(_:S.hs.getLast?>>kvs)(_:hand.length=S.vs.length)(_:S.vs.length<=100)(_:(∀n z,hand[n]?>>z->hldM kvs n=.int z))(_:∀l,H l=none->Q (.ref l) (upd H l (.lst (hand.map V.int)))):khO d vs H Q E_
theorem kct:kam ["self"] ["self"] (kaf kaF):=by ac_rfl
theorem kcB(W:WB K mg d base):FO P w W 1 d.Xe d.Xf ["self"] (khO d):=by
 exists W.U4.F,kct
 ·obtain⟨G,ms,S,t,kvs,hand,rfl,et,⟨dx,fs,t0,k1,k2,k3,k4,rl,bl,hl,ha,va,ra,ba,D⟩,eK,ln,l8,hh,k⟩:=h
  rw[D.em] at et
  cases et
  have ht:=D.o (i:=0) rfl rfl
  have lva:=D.vs.len
  have hda:P2 (fun m kvs=>H m>>(.dK kvs)) ha S.hs:=by
   have:=D.at'
   rw[D.em] at this
   unfold dObjs at this
   cases this with|cons _ q
   cases q with|cons _ q
   cases q with|cons _ q
   cases q with|cons _ q
   cases q with|cons _ q
   cases q with|cons _ q
   cases q with|cons _ q
   cases q with|cons _ q
   have q':P2 (fun m o=>H m>>o) ha (S.hs.map HO.dK):=q
   exact P2.unmap (R:=fun m o=>H m>>o) (f:=HO.dK) q'
  obtain⟨h,eh,hk⟩:=P2.last hda eK
  rwa[_,kag (kao (kbf (N:=["number","self"]) (CompScope.of (N:=["number","self"]) (cap:=[none,some 0]) (kaf kaF).names ["self"] rfl rfl (by cutsat)) rfl (kdJ rfl W.B.range (kaa (kap (r:=kaQ K) kas (by rfl) W.B.len b_len (kaa (kaj (K:=K) (pv 0) rfl) kae)) kae)) (fun _ _ _ _=>pgn (i:=0) (show(["number","self"]:List Str).Nodup by cutsat)) (fun _ _ _ _=>(kfm (K:=K) (r:=rGet K) Dw EU Dx kih (pe_ix (r:=rIxL K) kaR (kaj (K:=K) (pv 1) rfl) (pe_un kgf kaq) (fun _ _=>rfl)) (kaa (pv 0) (kaa kaq kae)))))),?_]
  rwa[8,t,d.qe,dx,fs,8,ht,W.qe.cl,W.Qj,D.fd.f4,k4,8, .inl (SqL.of (D.o (i:=4) rfl rfl)),8,by lia,(by rw[Mu];lia),kdb (fun i σ ys H'=>H'=H/\ys=(hand.take i).map V.int/\∃v0:Option V,σ=[v0,some (.ref t)]) ⟨rfl,rfl,none,rfl⟩ (by rw[Mu,Int.toNat_natCast];exact MI (kan (by lia))) ?_ ?_ ?_]
  ·rintro i σ ys H' hi ⟨rfl,rfl,_⟩
   rw[Mu,Int.toNat_natCast] at hi
   rw[Mu,MU]
   lia
  ·rintro i σ ys H' hi ⟨rfl,rfl,v0,rfl⟩
   rw[Mu,Int.toNat_natCast] at hi
   rw[Int.zero_add]
   obtain⟨z,ez⟩:=at_of (xs:=hand) (i:=i) (by lia)
   rwa[8,t,d.qe,dx,fs,8,ht,W.qe.cl,W.QM,D.fd.f8,8,hl,_,9,SqL.of (D.o (i:=7) rfl rfl),kez (v:=V.ref h) (by rw[Ad,eh];rfl), .inr (.inr (.inl ⟨rfl, .inl ⟨_,hk⟩⟩)),8,h,kvs, .inl (i:Int), .int 0,6, .inr rfl,hk,6,?_,8]
   rw[take_snoc ez,MC,show(valV kvs (.inl (i:Int))).getD (.int 0)=.int z from hh i z ez]
   rfl
  rintro σ ys H' ⟨rfl,rfl,v0,rfl⟩ l fl
  rw[Mu,Int.toNat_natCast,lva,<-ln,M0]
  exact k l fl
def RowIn(d:D)(G H:Hp)(x:Addr)(L:Int)(ws:List Str)(p:Nat):Prop:=G x=none/\∃wl,RowAt d H x L wl p/\G wl>>(.lst (ws.map V.str))
def RdQ(d:D)(G H:Hp)(ms:List Addr)(x:Addr)(S':DeskD)(P:Hp->Prop):Prop:=∀(H' G':Hp)(ms':List Addr),Chg (x::ms) H H'->Same G G'->(∀b,H b≠none->G b=none->G' b=none)->(∀m∈ms',m∈ms∨H m=none)->ms'[0]?=ms[0]?->kbp d G' H' ms' S'->P H'
theorem Chg.one{x:Addr}{ms:List Addr}{H H':Hp}(c:Chg [x] H H'):Chg (x::ms) H H':=c.up fun m hm=>by rw[ME.mp hm];exact Mx
inductive kc6(d:D)(vs:List V)(H:Hp)(Q:VK)(E_:XK):Prop
 |ct(G:Hp)(ms:List Addr)(S:DeskD)(t x:Addr)(L:Int)(ws:List Str)(p:Nat)(z:Str)(_:vs=[.ref x, .ref t])(_:ms[0]?>>t)(_:x∉ms)(_:kbp d G H ms S)(_:RowIn d G H x L ws p)(_:ws[p]?>>z)(_:ws.length=p+1)(_:NameW z)(_:z∉S.kn++S.vn)(_:S.ps.length<20)(_:S.kn.length=S.ps.length)(_:S.vn.length<=100)(_:RdQ d G H ms x {S with kn:=S.kn++[z],ps:=S.ps++[none]} (Q .non)):kc6 d vs H Q E_
theorem QX:kam ["row","told","name","parent"] ["row","told"] (kaf kdn):=by ac_rfl
theorem kd9(W:WB K mg d base):FO P w W 5 d.Qq d.Y3 ["row","told"] (kc6 d):=by
 exists W.Xm.F,QX
 ·obtain⟨G,ms,S,t,x,L,ws,p,z,rfl,et,hxm,hD,⟨gx,wl,hR,gw⟩,hw,hln,hn,hz,h20,hkp,hv,k⟩:=h
  obtain⟨dD,fD,t0,k1,k2,k3,k4,rl,bl,hl,ha,va,ra,ba,D⟩:=id hD
  have et':=et
  rw[D.em] at et'
  cases et'
  obtain⟨dx,fs,hx,l1,l2,l3,l4,l5⟩:=id hR
  have hwl:=D.sub _ _ gw
  exists X5,kbM,W
  exists X6,kbo,W
  exists qm,kaL,W
  exists qv,ka8,W
  exists qx,ka1,W
  exists qw,ka2,W
  exists qy,kaV,W
  have hr1:Room 1 _:=hr.mono (by decide)
  have hr2:Room 2 _:=hr.mono (by decide)
  have hr3:Room 3 _:=hr.mono (by decide)
  refine⟨_,kac (psl (i:=2) QX.nd (kaH (pv 0) W.c_Row.cl W.Qi.me X5 hr W.Qi.b .nil pass0 (kaa (kaz (pv 1) W.qe.cl W.QN.me X6 hr1 W.QN.b .nil pass0) kae)))
   (kac (psl (i:=3) QX.nd kbg)
   (kac (ps_if (kaX (kaz (pv 0) W.c_Row.cl W.ql.me qm hr1 W.ql.b .nil pass0)) (kac (kay (kaH (pv 0) W.c_Row.cl W.qt.me qv hr3 W.qt.b .nil pass0 (kaa (ka7 (kaa kat kae)) kae)))
   (kag (psl (i:=3) QX.nd (kaH (pv 0) W.c_Row.cl W.qu.me qx hr W.qu.b .nil pass0 (kaa (kaj (K:=K) (pv 1) rfl) kae))))) (kau))
   (kac (kay (kaz (pv 0) W.c_Row.cl W.qp.me qw hr2 W.qp.b .nil pass0))
   (kac (kay (kaH (pv 0) W.c_Row.cl W.qr.me qy hr1 W.qr.b .nil pass0 (kaa (kaI (v:=.int 20) (by rfl) W.g_MOST_KINDS ⟨_,rfl⟩) (kaa (pe_op kbC (kap (r:=kaQ K) kas (by rfl) W.B.len b_len (kaa (kaj (K:=K) (pv 1) rfl) kae)) kaq) kae))))
   (kac (kay (pe_bm MW M1 M3 kaG (kaj (K:=K) (pv 1) rfl) (kaa (pv 2) kae)))
   (kag (kay (pe_bm MW M1 M3 kaG (kaj (K:=K) (pv 1) rfl) (kaa (pv 3) kae))))))))),?_⟩
  rwa[8,x,dx,fs,6,hx,l5 _ (by cutsat) (by cutsat) (by cutsat),8,t,dD,fD,6,D.o (i:=0) rfl rfl,D.fd.no _ (by cutsat),G,ms,S,t,6,et,hD,by lia,hv,fun l fl=>?_]
  have n1:=kai (o:=.lst ((S.kn++S.vn).map V.str)) fl
  have e1:(upd H l (.lst ((S.kn++S.vn).map V.str))) l>>(.lst ((S.kn++S.vn).map V.str)):=kad
  generalize upd H l (.lst ((S.kn++S.vn).map V.str))=H1 at *
  rwa[x,wl,l,L,p,ws,S.kn++S.vn,z,6,hR.same n1,n1 _ _ hwl,e1,hw,hn,hz,fun H2 b2 R2=>?_]
  have c2:Chg [x] H H2:=(Chg.of_same n1).trans (.of_but Mx b2)
  have D2:=D.on c2 (fun m hm h=>hxm (ME.mp h▸hm)) (fun m hm=>by rw[ME.mp hm];exact gx)
  have hwl2:=D2.sub _ _ gw
  obtain⟨dx2,fs2,hx2,m1,m2,m3,m4,m5⟩:=id R2
  rwa[8,x,dx2,fs2,6,hx2,m5 _ (by cutsat) (by cutsat) (by cutsat),x,wl,L,p+1,ws,6,R2,hwl2,?_]
  rw[decide_eq_false (by lia)]
  rwa[8,iteF ?_]
  rwa[8,x,dx2,fs2,6,hx2,m5 _ (by cutsat) (by cutsat) (by cutsat),x,wl,L,p+1,ws,6,R2,hwl2,by lia,?_]
  rwa[8,x,dx2,fs2,6,hx2,m5 _ (by cutsat) (by cutsat) (by cutsat),8,t,d.qe,dD,fD,8,D2.o (i:=0) rfl rfl,W.qe.cl,W.QK,D.fd.f2,k2,8, .inl (SqL.of (D2.o (i:=2) rfl rfl)),9,x,20,8,by rw[Mu];lia,?_]
  rwa[8,t,d.qe,dD,fD,8,D2.o (i:=0) rfl rfl,W.qe.cl,W.QJ,D.fd.f1, .inl ⟨rfl,_,SqL.of (D2.o (i:=1) rfl rfl)⟩,8,k1,9,D2.o (i:=1) rfl rfl,kan (by rw[Mu];lia),?_]
  have c3:Chg (x::ms) H2 (upd H2 k1 (.lst (S.kn.map V.str++[.str z]))):=.put (MH _ (D2.mem (i:=1) rfl)) (nx (D2.o (i:=1) rfl rfl))
  have D3:=D2.put (i:=1) (o:=.lst (S.kn.map V.str++[.str z])) (S':={S with kn:=S.kn++[z]}) (m:=k1) rfl (by simp only[dObjs,MC,MQ,Ep];rfl) D.fd D.vs D.rs D.bs
  generalize upd H2 k1 (.lst (S.kn.map V.str++[.str z]))=H3 at *
  rwa[8,t,d.qe,dD,fD,8,D3.o (i:=0) rfl rfl,W.qe.cl,W.QK,D.fd.f2, .inl ⟨rfl,_,SqL.of (D3.o (i:=2) rfl rfl)⟩,8,k2,9,D3.o (i:=2) rfl rfl,kan (by rw[Mu];show S.ps.length<=1000;lia),?_]
  have c4:Chg (x::ms) H3 (upd H3 k2 (.lst (S.ps.map pV++[.non]))):=.put (MH _ (D3.mem (i:=2) rfl)) (nx (D3.o (i:=2) rfl rfl))
  have D4:=D3.put (i:=2) (o:=.lst (S.ps.map pV++[.non])) (S':={S with kn:=S.kn++[z],ps:=S.ps++[none]}) (m:=k2) rfl (by simp only[dObjs,MC,MQ,Ep];rfl) D.fd D.vs D.rs D.bs
  exact k _ G ms ((c2.one.trans c3).trans c4) (Same.refl _) (fun _ _ h=>h) (fun m hm=>.inl hm) rfl ⟨_,_,_,_,_,_,_,_,_,_,_,_,_,_,D4⟩
inductive khJ(d:D)(vs:List V)(H:Hp)(Q:VK)(E_:XK):Prop
 |ct(t x wl:Addr)(L:Int)(ws:List Str)(p:Nat)(_:vs=[.ref x, .ref t])(_:RowAt d H x L wl p)(_:H wl>>(.lst (ws.map V.str)))(_:ws.length<=p)(_:∀(H':Hp)(mA:Addr),Same H H'->H mA=none->MksIs d.qi H' mA mks0->Q (.ref mA) H'):khJ d vs H Q E_
theorem X7:kam ["row","told","found","word"] ["row","told"] (kaf kcN):=by ac_rfl
theorem kfY(W:WB K mg d base):FO P w W 6 d.Za d.Zb ["row","told"] (khJ d):=by
 exists W.V5.F,X7
 ·obtain⟨t,x,wl,L,ws,p,rfl,hR,hwl,hp,k⟩:=h
  exists qm,kaL,W
  exists XM,kdO,W
  have hr1:Room 1 _:=hr.mono (by decide)
  have hr2:Room 2 _:=hr.mono (by decide)
  refine⟨_,kac (psl (i:=2) X7.nd klk)
   (kac (kfQ PassesOwn.never (kaX (kaz (pv 0) W.c_Row.cl W.ql.me qm hr1 W.ql.b .nil pass0))
   (kac (psl (i:=3) X7.nd pe_no)
   (kag (kjP (hu_of hr) (pv 2) (pv 3) pe_no rfl))))
   (kag (kao (kbc (W.Qz.mk' W.qi) XM hr2 rfl W.qi.m W.Qz.b .nil pass0 (kaa (kfm (K:=K) (r:=rGet K) Dw EU Dx kih (pv 2) (kaa kat kae)) (kaa (kfm (K:=K) (r:=rGet K) Dw EU Dx kih (pv 2) (kaa kat (kaa kaq kae))) (kaa (kfm (K:=K) (r:=rGet K) Dw EU Dx kih (pv 2) (kaa kat kae)) (kaa (kjX (kj0 (hu_of hr) kat (pv 2))) (kaa (kjX (kj0 (hu_of hr) kat (pv 2))) (kaa (kjX (kj0 (hu_of hr) kat (pv 2))) kae)))))))))),?_⟩
  intro dd fd
  have n1:=kai (o:=.dK []) fd
  have e1:(upd H dd (.dK [])) dd>>(.dK []):=kad
  generalize upd H dd (.dK [])=H1 at *
  have R1:=hR.same n1
  have hwl1:=n1 _ _ hwl
  obtain⟨dx,fs,hx,l1,l2,l3,l4,l5⟩:=id R1
  refine kfD (fun σ H'=>σ=[some (.ref x),some (.ref t),some (.ref dd),none]/\H'=H1) (fun _ _=>0) ⟨rfl,rfl⟩ ?_ ?_
  ·rintro σ H' ⟨rfl,rfl⟩
   rwa[8,x,dx,fs,6,hx,l5 _ (by cutsat) (by cutsat) (by cutsat),x,wl,L,p,ws,6,R1,hwl1,8,?_]
   rw[decide_eq_false (by lia)]
   refine iteF ?_
   rwa[8, .inr (.inr (.inl ⟨rfl, .inl ⟨_,e1⟩⟩)),dd,[], .inr "of", .non,6, .inl ⟨rfl,rfl⟩,e1,?_]
   rwa[8, .inr (.inr (.inl ⟨rfl, .inl ⟨_,e1⟩⟩)),dd,[], .inr "needs", .int 0,6, .inr rfl,e1,?_]
   rwa[8, .inr (.inr (.inl ⟨rfl, .inl ⟨_,e1⟩⟩)),dd,[], .inr "most", .non,6, .inl ⟨rfl,rfl⟩,e1,?_]
   rwa[8,dd,8,DGet.k (k:=.inr "member") e1,?_]
   rwa[8,dd,8,DGet.k (k:=.inr "once") e1,?_]
   rwa[8,dd,8,DGet.k (k:=.inr "lone") e1,?_]
   exact kij (M:=mks0) fun H' mA s' f' hm=>k H' mA (n1.trans s') (n1.free f') hm
  ·rintro σ H Q Q' hq ⟨v,hv,a,dx,fs,h1,h2,h3,x,wl,L,p,ws,g1,g2,g3,c,hc,q⟩
   rwa[v,hv,a,dx,fs,h1,h2,h3,x,wl,L,p,ws,g1,g2,g3,c,hc,hq _ _ q]
inductive VchP(d:D)(H0 H:Hp)(v:Addr)(V:Vch):Prop
 |ct(mA dx:Addr)(fs:List (Str×L2.V))(_:H0 v=none)(_:H0 mA=none)(_:H v>>(.ins (clsOf d V.so) dx fs))(_:fs.lookup ("marks" :Str)>>(.ref mA))(_:SrtIs fs V.so)(_:MksIs d.qi H mA V.ms)(_:here V.so=true):VchP d H0 H v V
inductive kjf(d:D)(vs:List V)(H:Hp)(Q:VK)(E_:XK):Prop
 |ct(t x wl:Addr)(L n:Int)(ws:List Str)(p:Nat)(z:Str)(_:vs=[.ref x, .ref t])(_:RowAt d H x L wl p)(_:H wl>>(.lst (ws.map V.str)))(_:ws[p]?>>"off")(_:ws[p+1]?>>z)(_:ws.length=p+2)(_:NumW z n)(_:0<=n)(_:n<=1000000000000)(_:∀(H':Hp)(v:Addr),But x H H'->RowAt d H' x L wl (p+2)->VchP d H H' v ⟨.off n,mks0⟩->Q (.ref v) H'):kjf d vs H Q E_
theorem UH:kam ["row","told","sort"] ["row","told"] (kaf kdl):=by ac_rfl
theorem kgD(W:WB K mg d base):FO P w W 7 d.Y7 d.Y9 ["row","told"] (kjf d):=by
 exists W.V4.F,UH
 ·obtain⟨t,x,wl,L,n,ws,p,z,rfl,hR,hwl,hw1,hw2,hln,hn,h1,h2,k⟩:=h
  have nwl:=hR.ne hwl
  obtain⟨dx,fs,hx,l1,l2,l3,l4,l5⟩:=id hR
  exists qv,ka8,W
  exists X8,keW,W
  exists qU,kbz,W
  exists Jw,kfY,W
  have hr3:Room 3 _:=hr.mono (by decide)
  have hr4:Room 4 _:=hr.mono (by decide)
  have hr5:Room 5 _:=hr.mono (by decide)
  refine⟨_,kac (psl (i:=2) UH.nd (kaH (pv 0) W.c_Row.cl W.qt.me qv hr3 W.qt.b .nil pass0 (kaa (ka7 (kaa kat (kaa kat (kaa kat (kaa kat (kaa kat kae)))))) kae)))
   (kac (ps_if (kav op_eq (pv 2) kat (kaB _)) (kag (kao (kbc (W.QA.mk' W.c_Off) X8 hr5 rfl W.c_Off.m W.QA.b .nil pass0 (kaa (kaz (pv 0) W.c_Row.cl W.qB.me qU hr4 W.qB.b .nil pass0) (kaa (pcl Jw hr W.V5 (kaa (pv 0) (kaa (pv 1) kae))) kae))))) (kau))
   (kac (ps_if (kav op_eq (pv 2) kat (kaB _)) (kag (kao pe_no)) (kau))
   (kac (ps_if (kav op_eq (pv 2) kat (kaB _)) (kag (kao pe_no)) (kau))
   (kac (ps_if (kav op_eq (pv 2) kat (kaB _)) (kag (kao pe_no)) (kau))
   (kag (kao pe_no)))))),?_⟩
  rwa[8,x,dx,fs,6,hx,l5 _ (by cutsat) (by cutsat) (by cutsat),(by show 5<=sizeLine;decide),fun c fc=>?_]
  exists H,c,H1,n1,e1,fc
  rwa[x,wl,c,L,p,ws,[("off" :Str),("share" :Str),("cheapest" :Str),("bundle" :Str),("carriage" :Str)],"off",6,hR.same n1,n1 _ _ hwl, .inr (SqT.of e1),hw1,Mx,fun H2 b2 R2=>?_]
  have b02:But x H H2:=(But.of_same n1).trans b2
  have hwl2:=b02 _ _ nwl hwl
  obtain⟨dx2,fs2,hx2,m1,m2,m3,m4,m5⟩:=id R2
  rwa[8,6,8,?_]
  rw[decide_eq_true (show V.str "off"=V.str "off" from rfl)]
  refine iteT ⟨_,rfl,x,dx2,fs2,rfl,hx2,m5 _ (by cutsat) (by cutsat) (by cutsat),x,wl,L,n,p+1,ws,z,rfl,R2,hwl2,hw2,hn,h1,h2,fun H3 b3 R3=>?_⟩
  have b03:=b02.trans b3
  have hwl3:=b03 _ _ nwl hwl
  rwa[8,8,t,x,wl,L,ws,p+1+1,6,R3,hwl3,by lia,fun H4 mA s4 fA hM=>?_]
  intro v dv fv fdv ndv
  rwa[v,dv, .off n, .ref mA,⟨n,rfl⟩,6,kad, .inr ⟨mA,rfl⟩,fun H5 mA' fs5 b5 hm h5 h6 h7=>⟨rfl,?_⟩]
  have eA:mA'=mA:=by
   rcases hm with e|⟨e,_⟩
   ·injection e with e
    exact e.symm
   ·cases e
  subst eA
  have s5:=kbd fv fdv b5
  have s35:=s4.trans s5
  have hx3:∃o,H3 x>>o:=let⟨_,_,hx,_⟩:=R3;⟨_,hx⟩
  obtain⟨o3,ho3⟩:=hx3
  refine k H5 v (b03.same s35) (R3.same s35) ⟨mA',dv,fs5,But.free b03 ho3 (s4.free fv),But.free b03 ho3 fA,h5,h6,h7,hM.same s5,rfl⟩
noncomputable def ext(N:List Addr)(G H:Hp):Hp:=fun b=>if b∈N then H b else G b
theorem kbv{N:List Addr}{G H:Hp}{b:Addr}(h:b∈N):ext N G H b=H b:=if_pos h
theorem kc1{N:List Addr}{G H:Hp}{b:Addr}(h:b∉N):ext N G H b=G b:=if_neg h
def Plain(o:HO):Prop:=nxo o=true/\∀ps,o≠.tbl ps
theorem kdg{N:List Addr}{G H:Hp}(s:Same G H)(fN:∀b∈N,G b=none)(hN:∀b∈N,∃o,H b>>o/\Plain o):Same G (ext N G H)/\Same (ext N G H) H:=by
 have out:∀{b:Addr}{o:HO},G b>>o->b∉N:=fun {b o} e h=>by rw[fN b h] at e;cases e
 have s1:Same G (ext N G H):=fun b o e=>ev_eq (by rw[kc1 (out e)];exact e) fun⟨ps,e1,t,hor⟩=>⟨ps,by rw[kc1 (out e1)];exact e1,t,fun pos z ez=>by
  obtain⟨q,rfl,e2⟩:=hor pos z ez
  exact⟨q,rfl,by rw[kc1 (out e2)];exact e2⟩⟩
 rwa[s1,fun b o e=>?_]
 by_cases c:b∈N
 ·rw[kbv c] at e
  obtain⟨o',e',_,n2⟩:=hN b c
  rw[e'] at e
  cases e
  refine ev_eq e' fun zz=>?_
  obtain⟨ps,e1,_⟩:=zz
  rw[kbv c,e'] at e1
  cases e1
  exact absurd rfl (n2 ps)
 ·rw[kc1 c] at e
  refine ka9 (show Ev (ext N G H) G b o from ev_eq e fun⟨ps,e1,t,hor⟩=>⟨ps,by rw[kc1 c] at e1;exact e1,t,fun pos z ez=>?_⟩) fun u e'=>s b u e'
  obtain⟨q,rfl,e2⟩:=hor pos z ez
  rwa[q,6,?_]
  by_cases cq:q∈N
  ·rw[kbv cq] at e2
   obtain⟨o',e',n1,_⟩:=hN q cq
   rw[e'] at e2
   cases e2
   cases n1
  ·rw[kc1 cq] at e2
   exact e2
theorem kbu{N:List Addr}{G H H':Hp}(fN:∀b∈N,H b=none){b:Addr}(h:H b≠none)(g:G b=none):ext N G H' b=none:=by
 rw[kc1 (fun c=>h (fN b c))]
 exact g
theorem VchP.grow{d:D}{G H H':Hp}{v:Addr}{V:Vch}(tb:Tbs d G)(sG:Same G H)(s:Same G H'):VchP d H H' v V->∃N:List Addr,(∀b∈N,H b=none)/\Same G (ext N G H')/\Same (ext N G H') H'/\VchIs d (ext N G H') v V:=fun⟨mA,dx,fs,f1,f2,h1,h2,h3,⟨dm,fm,hm,q⟩,h5⟩=>by
 have fN:∀b∈[v,mA],H b=none:=fun b hb=>by
  simp only[MB,MR,or_false] at hb
  rcases hb with rfl|rfl
  ·exact f1
  ·exact f2
 obtain⟨s1,s2⟩:=kdg (N:=[v,mA]) s (fun b hb=>sG.free (fN b hb)) fun b hb=>by
  simp only[MB,MR,or_false] at hb
  rcases hb with rfl|rfl
  ·rwa[_,h1,6,fun _ z=>by cases z]
  ·rwa[_,hm,6,fun _ z=>by cases z]
 rwa[[v,mA],fN,s1,s2,mA,dx,fs,by rw[kbv Mx];exact h1,h2,h3,⟨dm,fm,by rw[kbv (MH _ Mx)];exact hm,q⟩,h5,tb.same s1]
inductive kdG(d:D)(vs:List V)(H:Hp)(Q:VK)(E_:XK):Prop
 |ct(G:Hp)(ms:List Addr)(S:DeskD)(t x:Addr)(L n:Int)(ws:List Str)(p:Nat)(z y:Str)(_:vs=[.ref x, .ref t])(_:ms[0]?>>t)(_:x∉ms)(_:kbp d G H ms S)(_:RowIn d G H x L ws p)(_:ws[p]?>>z)(_:ws[p+1]?>>"off")(_:ws[p+2]?>>y)(_:ws.length=p+3)(_:NameW z)(_:NumW y n)(_:0<=n)(_:n<=1000000000000)(_:z∉S.kn++S.vn)(_:S.vs.length<8)(_:S.vn.length=S.vs.length)(_:S.kn.length<=100)(_:RdQ d G H ms x {S with vn:=S.vn++[z],vs:=S.vs++[⟨.off n,mks0⟩]} (Q .non)):kdG d vs H Q E_
theorem X9:kam ["row","told","name","voucher"] ["row","told"] (kaf kcc):=by ac_rfl
theorem kcT(W:WB K mg d base):FO P w W 8 d.Qr d.Y5 ["row","told"] (kdG d):=by
 exists W.Xn.F,X9
 ·obtain⟨G,ms,S,t,x,L,n,ws,p,z,y,rfl,et,hxm,hD,⟨gx,wl,hR,gw⟩,hw,hw2,hw3,hln,hn,hy,hy1,hy2,hz,h8,hvv,hk,k⟩:=h
  obtain⟨dD,fD,t0,k1,k2,k3,k4,rl,bl,hl,ha,va,ra,ba,D⟩:=id hD
  have et':=et
  rw[D.em] at et'
  cases et'
  obtain⟨dx,fs,hx,l1,l2,l3,l4,l5⟩:=id hR
  have hwl:=D.sub _ _ gw
  have lva:=D.vs.len
  exists X5,kbM,W
  exists X6,kbo,W
  exists Jx,kgD,W
  exists qy,kaV,W
  have hr1:Room 1 _:=hr.mono (by decide)
  have hr4:Room 4 _:=hr.mono (by decide)
  refine⟨_,kac (psl (i:=2) X9.nd (kaH (pv 0) W.c_Row.cl W.Qi.me X5 hr4 W.Qi.b .nil pass0 (kaa (kaz (pv 1) W.qe.cl W.QN.me X6 hr1 W.QN.b .nil pass0) kae)))
   (kac (psl (i:=3) X9.nd (pcl Jx hr W.V4 (kaa (pv 0) (kaa (pv 1) kae))))
   (kac (kay (kaH (pv 0) W.c_Row.cl W.qr.me qy hr1 W.qr.b .nil pass0 (kaa (kaI (v:=.int 8) (by rfl) W.g_MOST_VOUCHERS ⟨_,rfl⟩) (kaa (pe_op kbC (kap (r:=kaQ K) kas (by rfl) W.B.len b_len (kaa (kaj (K:=K) (pv 1) rfl) kae)) kaq) kae))))
   (kac (kay (pe_bm MW M1 M3 kaG (kaj (K:=K) (pv 1) rfl) (kaa (pv 2) kae)))
   (kag (kay (pe_bm MW M1 M3 kaG (kaj (K:=K) (pv 1) rfl) (kaa (pv 3) kae))))))),?_⟩
  rwa[8,x,dx,fs,6,hx,l5 _ (by cutsat) (by cutsat) (by cutsat),8,t,dD,fD,6,D.o (i:=0) rfl rfl,D.fd.no _ (by cutsat),G,ms,S,t,6,et,hD,hk,by lia,fun l fl=>?_]
  have n1:=kai (o:=.lst ((S.kn++S.vn).map V.str)) fl
  have e1:(upd H l (.lst ((S.kn++S.vn).map V.str))) l>>(.lst ((S.kn++S.vn).map V.str)):=kad
  generalize upd H l (.lst ((S.kn++S.vn).map V.str))=H1 at *
  rwa[x,wl,l,L,p,ws,S.kn++S.vn,z,6,hR.same n1,n1 _ _ hwl,e1,hw,hn,hz,fun H2 b2 R2=>?_]
  have b02:But x H H2:=(But.of_same n1).trans b2
  have nwl:=hR.ne hwl
  rwa[8,8,t,x,wl,L,n,ws,p+1,y,6,R2,b02 _ _ nwl hwl,hw2,hw3,hln,hy,hy1,hy2,fun H3 v b3 R3 hV=>?_]
  have b03:=b02.trans b3
  have c3:Chg [x] H H3:=.of_but Mx b03
  have D3:=D.on c3 (fun m hm h=>hxm (ME.mp h▸hm)) (fun m hm=>by rw[ME.mp hm];exact gx)
  obtain⟨o2,ho2⟩:∃o,H2 x>>o:=let⟨_,_,hx,_⟩:=R2;⟨_,hx⟩
  obtain⟨N,fN,sN1,sN2,hVN⟩:=VchP.grow D.tb (D.on (M:=[x]) (.of_but Mx b02) (fun m hm h=>hxm (ME.mp h▸hm)) (fun m hm=>by rw[ME.mp hm];exact gx)).sub D3.sub hV
  have fN0:∀b∈N,H b=none:=fun b hb=>But.free b02 ho2 (fN b hb)
  have D3':=D3.more sN1 sN2 fun m hm=>kbu fN0 (by obtain⟨o,ho,_⟩:=D.here hm;rw[ho];simp) (D.fr m hm)
  obtain⟨dx3,fs3,hx3,m1,m2,m3,m4,m5⟩:=id R3
  rwa[8,x,dx3,fs3,6,hx3,m5 _ (by cutsat) (by cutsat) (by cutsat),8,t,d.qe,dD,fD,8,D3.o (i:=0) rfl rfl,W.qe.cl,W.Qj,D.fd.f4,k4,8, .inl (SqL.of (D3.o (i:=4) rfl rfl)),9,x,(8:Int),8,by rw[Mu];lia,?_]
  rwa[8,t,d.qe,dD,fD,8,D3.o (i:=0) rfl rfl,W.qe.cl,W.qL,D.fd.f3, .inl ⟨rfl,_,SqL.of (D3.o (i:=3) rfl rfl)⟩,8,k3,9,D3.o (i:=3) rfl rfl,kan (by rw[Mu];lia),?_]
  have c4:Chg (x::ms) H3 (upd H3 k3 (.lst (S.vn.map V.str++[.str z]))):=.put (MH _ (D3.mem (i:=3) rfl)) (nx (D3.o (i:=3) rfl rfl))
  have D4:=D3'.put (i:=3) (o:=.lst (S.vn.map V.str++[.str z])) (S':={S with vn:=S.vn++[z]}) (m:=k3) rfl (by simp only[dObjs,MC,MQ,Ep];rfl) D.fd D3'.vs D3'.rs D3'.bs
  generalize upd H3 k3 (.lst (S.vn.map V.str++[.str z]))=H4 at *
  rwa[8,t,d.qe,dD,fD,8,D4.o (i:=0) rfl rfl,W.qe.cl,W.Qj,D.fd.f4, .inl ⟨rfl,_,SqL.of (D4.o (i:=4) rfl rfl)⟩,8,k4,9,D4.o (i:=4) rfl rfl,kan (by rw[Mu];lia),?_]
  have c5:Chg (x::ms) H4 (upd H4 k4 (.lst (va.map V.ref++[.ref v]))):=.put (MH _ (D4.mem (i:=4) rfl)) (nx (D4.o (i:=4) rfl rfl))
  have D5:=D4.put (i:=4) (o:=.lst (va.map V.ref++[.ref v])) (S':={S with vn:=S.vn++[z],vs:=S.vs++[⟨.off n,mks0⟩]}) (m:=k4) (va':=va++[v]) rfl (by simp only[dObjs,MC,MQ,Ep];rfl) D.fd (P2.snoc D4.vs hVN) D4.rs D4.bs
  exact k _ _ ms ((c3.one.trans c4).trans c5) sN1 (fun b h g=>kbu fN0 h g) (fun m hm=>.inl hm) rfl ⟨_,_,_,_,_,_,_,_,_,_,_,_,_,_,D5⟩
noncomputable def rulM(w:Str)(i j:Nat):Rul:=if w="behind" then⟨"ahead",j,i⟩ else⟨w,i,j⟩
noncomputable def kdh:List Str:=[("only" :Str),("never" :Str),("ahead" :Str),("behind" :Str)]
inductive kc5(d:D)(vs:List V)(H:Hp)(Q:VK)(E_:XK):Prop
 |ct(G:Hp)(ms:List Addr)(S:DeskD)(t x:Addr)(L:Int)(ws:List Str)(p i j:Nat)(a b c:Str)(_:vs=[.ref x, .ref t])(_:ms[0]?>>t)(_:x∉ms)(_:kbp d G H ms S)(_:RowIn d G H x L ws p)(_:ws[p]?>>a)(_:ws[p+1]?>>c)(_:ws[p+2]?>>b)(_:ws.length=p+3)(_:NameW a)(_:NameW b)(_:c∈kdh)(_:S.vn[i]?>>a)(_:S.vn[j]?>>b)(_:S.vn.Nodup)(_:S.vn.length<=100)(_:S.rs.length<20)(_:RdQ d G H ms x {S with rs:=S.rs++[rulM c i j]} (Q .non)):kc5 d vs H Q E_
theorem QY:kam ["row","told","one","word","other"] ["row","told"] (kaf kdm):=by ac_rfl
theorem kd8(W:WB K mg d base):FO P w W 5 d.Qs d.Zc ["row","told"] (kc5 d):=by
 exists W.Xo.F,QY
 ·obtain⟨G,ms,S,t,x,L,ws,p,i,j,a,b,c,rfl,et,hxm,hD,⟨gx,wl,hR,gw⟩,hw1,hw2,hw3,hln,ha',hb',hc,hi,hj,nd,hv,h20,k⟩:=h
  obtain⟨dD,fD,t0,k1,k2,k3,k4,rl,bl,hl,ha,va,ra,ba,D⟩:=id hD
  have et':=et
  rw[D.em] at et'
  cases et'
  obtain⟨dx,fs,hx,l1,l2,l3,l4,l5⟩:=id hR
  have onx:∀{H':Hp},But x H H'->DeskA d G H' ms S dD fD t k1 k2 k3 k4 rl bl hl ha va ra ba:=fun {H'} b=>D.on (M:=[x]) (.of_but Mx b) (fun m hm h=>hxm (ME.mp h▸hm)) (fun m hm=>by rw[ME.mp hm];exact gx)
  have lra:=D.rs.len
  exists qx,ka1,W
  exists qv,ka8,W
  exists qw,ka2,W
  exists qy,kaV,W
  have hr1:Room 1 _:=hr.mono (by decide)
  have hr2:Room 2 _:=hr.mono (by decide)
  have hr3:Room 3 _:=hr.mono (by decide)
  refine⟨_,kac (psl (i:=2) QY.nd (kaH (pv 0) W.c_Row.cl W.qu.me qx hr W.qu.b .nil pass0 (kaa (kaj (K:=K) (pv 1) rfl) kae)))
   (kac (psl (i:=3) QY.nd (kaH (pv 0) W.c_Row.cl W.qt.me qv hr3 W.qt.b .nil pass0 (kaa (ka7 (kaa kat (kaa kat (kaa kat (kaa kat kae))))) kae)))
   (kac (psl (i:=4) QY.nd (kaH (pv 0) W.c_Row.cl W.qu.me qx hr W.qu.b .nil pass0 (kaa (kaj (K:=K) (pv 1) rfl) kae)))
   (kac (kay (kaz (pv 0) W.c_Row.cl W.qp.me qw hr2 W.qp.b .nil pass0))
   (kac (kay (kaH (pv 0) W.c_Row.cl W.qr.me qy hr1 W.qr.b .nil pass0 (kaa (kaI (v:=.int 20) (by rfl) W.g_MOST_RULES ⟨_,rfl⟩) (kaa (pe_op kbC (kap (r:=kaQ K) kas (by rfl) W.B.len b_len (kaa (kaj (K:=K) (pv 1) rfl) kae)) kaq) kae))))
   (kag (kay (pe_bm MW M1 M3 kaG (kaj (K:=K) (pv 1) rfl) (kaa (kfU (kav op_eq (pv 3) kat (kaB _)) (ka7 (kaa kat (kaa (pv 4) (kaa (pv 2) kae)))) (ka7 (kaa (pv 3) (kaa (pv 2) (kaa (pv 4) kae))))) kae)))))))),?_⟩
  rwa[8,x,dx,fs,6,hx,l5 _ (by cutsat) (by cutsat) (by cutsat),8,t,d.qe,dD,fD,8,D.o (i:=0) rfl rfl,W.qe.cl,W.qL,D.fd.f3,x,wl,k3,L,p,i,ws,S.vn,a,6,hR,D.sub _ _ gw,D.o (i:=3) rfl rfl,hw1,ha',hi,nd,by lia,fun H1 b1 R1=>?_]
  have D1:=onx b1
  obtain⟨dx1,fs1,hx1,_,_,_,_,m5⟩:=id R1
  rwa[8,x,dx1,fs1,6,hx1,m5 _ (by cutsat) (by cutsat) (by cutsat),(by show 4<=sizeLine;decide),fun cc fc=>?_]
  exists H1,cc,H2,n2,e2,fc
  have D2:=onx (b1.same n2)
  rwa[x,wl,cc,L,p+1,ws,kdh,c,6,R1.same n2,D2.sub _ _ gw, .inr (SqT.of e2),hw2,hc,fun H3 b3 R3=>?_]
  have b03:=(b1.same n2).trans b3
  have D3:=onx b03
  obtain⟨dx3,fs3,hx3,_,_,_,_,m5'⟩:=id R3
  rwa[8,x,dx3,fs3,6,hx3,m5' _ (by cutsat) (by cutsat) (by cutsat),8,t,d.qe,dD,fD,8,D3.o (i:=0) rfl rfl,W.qe.cl,W.qL,D.fd.f3,x,wl,k3,L,p+1+1,j,ws,S.vn,b,6,R3,D3.sub _ _ gw,D3.o (i:=3) rfl rfl,hw3,hb',hj,nd,by lia,fun H4 b4 R4=>?_]
  have b04:=b03.trans b4
  have D4:=onx b04
  obtain⟨dx4,fs4,hx4,_,_,_,_,m6⟩:=id R4
  rwa[8,x,dx4,fs4,6,hx4,m6 _ (by cutsat) (by cutsat) (by cutsat),x,wl,L,p+1+1+1,ws,6,R4,D4.sub _ _ gw,by lia,?_]
  rwa[8,x,dx4,fs4,6,hx4,m6 _ (by cutsat) (by cutsat) (by cutsat),8,t,d.qe,dD,fD,8,D4.o (i:=0) rfl rfl,W.qe.cl,W.QL,D.fd.f5,rl,8, .inl (SqL.of (D4.o (i:=5) rfl rfl)),9,x,20,8,by rw[Mu];lia,?_]
  rwa[8,t,d.qe,dD,fD,8,D4.o (i:=0) rfl rfl,W.qe.cl,W.QL,D.fd.f5, .inl ⟨rfl,_,SqL.of (D4.o (i:=5) rfl rfl)⟩,8,6,8,?_]
  have fin:∀(q:Addr)(H5:Hp),H4 q=none->Same H4 H5->RulIs H5 q (rulM c i j)->kjK (.ref rl) [.ref q] H5 (fun _ H'=>Q .non H'):=fun q H5 fq s5 hq=>by
   have D5:=onx (b04.same s5)
   obtain⟨o4,ho4⟩:∃o,H4 x>>o:=⟨_,hx4⟩
   have fq0:∀z∈[q],H z=none:=fun z hz=>by rw[ME.mp hz];exact But.free b04 ho4 fq
   obtain⟨sN1,sN2⟩:=kdg (N:=[q]) D5.sub (fun z hz=>D.sub.free (fq0 z hz)) fun z hz=>by rw[ME.mp hz];exact⟨_,hq,rfl,fun _ y=>by cases y⟩
   have D5':=D5.more sN1 sN2 fun m hm=>kbu fq0 (by obtain⟨o,ho,_⟩:=D.here hm;rw[ho];simp) (D.fr m hm)
   rwa[rl,9,D5.o (i:=5) rfl rfl,kan (by rw[Mu];lia),?_]
   have c6:Chg (x::ms) H5 (upd H5 rl (.lst (ra.map V.ref++[.ref q]))):=.put (MH _ (D5.mem (i:=5) rfl)) (nx (D5.o (i:=5) rfl rfl))
   have D6:=D5'.put (i:=5) (o:=.lst (ra.map V.ref++[.ref q])) (S':={S with rs:=S.rs++[rulM c i j]}) (m:=rl) (ra':=ra++[q]) rfl (by simp only[dObjs,MC,MQ,Ep];rfl) D.fd D5'.vs (P2.snoc D5'.rs (show RulIs (ext [q] G H5) q _ from by unfold RulIs;rw[kbv Mx];exact hq)) D5'.bs
   exact k _ _ ms ((Chg.one (.of_but Mx (b04.same s5))).trans c6) sN1 (fun b h g=>kbu fq0 h g) (fun m hm=>.inl hm) rfl ⟨_,_,_,_,_,_,_,_,_,_,_,_,_,_,D6⟩
  by_cases e:c="behind"
  ·rw[decide_eq_true (show V.str c=V.str "behind" by rw[e])]
   refine iteT ⟨_,rfl,_,rfl,(by show 3<=sizeLine;decide),fun q fq=>?_⟩
   exact fin q _ fq (kai fq) (by unfold rulM;rw[if_pos e];exact kad)
  ·rw[decide_eq_false (show ¬V.str c=V.str "behind" from fun h=>e (by injection h))]
   refine iteF ⟨_,rfl,_,rfl,_,rfl,(by show 3<=sizeLine;decide),fun q fq=>?_⟩
   exact fin q _ fq (kai fq) (by unfold rulM;rw[if_neg e];exact kad)
theorem dSet7{d:D}{dx:Addr}{fs:List (Str×V)}{S:DeskD}{va ra ba ha ha':List Addr}:(dObjs d dx fs S va ra ba ha).set 7 (.lst (ha'.map V.ref))=dObjs d dx fs S va ra ba ha':=rfl
theorem P2.app'{α β:Type}{R: α->β->Prop}{as':List α}{bs':List β}(h':P2 R as' bs'):∀{as:List α}{bs:List β},P2 R as bs->P2 R (as++as') (bs++bs')
 |_,_, .nil=>h'
 |_,_, .cons h t=>.cons h (P2.app' h' t)
theorem DeskA.addD{d:D}{G H:Hp}{ms:List Addr}{S:DeskD}{dx t k1 k2 k3 k4 rl bl hl dn:Addr}{fs:List (Str×V)}{ha va ra ba:List Addr}(D:DeskA d G H ms S dx fs t k1 k2 k3 k4 rl bl hl ha va ra ba)(hd:H dn>>(.dK []))(nm:dn∉ms)(gd:G dn=none):DeskA d G (upd H hl (.lst ((ha++[dn]).map V.ref))) (ms++[dn]) {S with hs:=S.hs++[[]]} dx fs t k1 k2 k3 k4 rl bl hl (ha++[dn]) va ra ba:=by
 have hm':=D.mem (i:=7) (m:=hl) rfl
 obtain⟨o0,h0,n0⟩:=D.here hm'
 have nh:dn≠hl:=fun e=>nm (e▸hm')
 refine {em:=by rw[D.em,M6],fd:=D.fd,sub:=kar (D.fr hl hm') D.sub (nx h0 n0),tb:=D.tb,fr:=fun m hm=>?_,nd:=?_,at':=?_,vs:=D.vs,rs:=D.rs,bs:=D.bs}
 ·rcases MY.mp hm with h|h
  ·exact D.fr m h
  ·rw[ME.mp h]
   exact gd
 ·refine Ab.mpr ⟨D.nd,by simp,fun a ha b hb e=>?_⟩
  rw[ME.mp hb] at e
  exact nm (e▸ha)
 ·have h1:=P2.put' (o:=.lst ((ha++[dn]).map V.ref)) (i:=7) (m:=hl) D.nd D.at' (by rw[D.em];rfl)
  rw[dSet7] at h1
  have h2:P2 (fun m o=>(upd H hl (.lst ((ha++[dn]).map V.ref))) m>>o) [dn] [HO.dK []]:=.cons (by rw[kah nh];exact hd) .nil
  have h3:=P2.app' h2 h1
  have e:dObjs d dx fs {S with hs:=S.hs++[[]]} va ra ba (ha++[dn])=dObjs d dx fs S va ra ba (ha++[dn])++[HO.dK []]:=by
   unfold dObjs
   rw[M6,show({S with hs:=S.hs++[[]]}:DeskD).hs.map HO.dK=S.hs.map HO.dK++[HO.dK []] from MC]
  rw[e]
  exact h3
inductive kc8(d:D)(vs:List V)(H:Hp)(Q:VK)(E_:XK):Prop
 |ct(G:Hp)(ms:List Addr)(S:DeskD)(t x:Addr)(L n:Int)(ws:List Str)(p:Nat)(z:Str)(_:vs=[.ref x, .ref t])(_:ms[0]?>>t)(_:x∉ms)(_:kbp d G H ms S)(_:RowIn d G H x L ws p)(_:ws[p]?>>z)(_:ws.length=p+1)(_:NumW z n)(_:0<=n)(_:n<=1000000000000)(_:S.bs.length<20)(_:S.hs.length<20)(_:RdQ d G H ms x {S with bs:=S.bs++[⟨[],n,false⟩],hs:=S.hs++[[]]} (Q .non)):kc8 d vs H Q E_
theorem Ya:kam ["row","told","carriage","member"] ["row","told"] (kaf kcu):=by ac_rfl
theorem kde(W:WB K mg d base):FO P w W 5 d.Qt d.Zd ["row","told"] (kc8 d):=by
 exists W.Xp.F,Ya
 ·obtain⟨G,ms,S,t,x,L,n,ws,p,z,rfl,et,hxm,hD,⟨gx,wl,hR,gw⟩,hw1,hln,hn,h1,h2,h20,hh20,k⟩:=h
  obtain⟨dD,fD,t0,k1,k2,k3,k4,rl,bl,hl,ha,va,ra,ba,D⟩:=id hD
  have et':=et
  rw[D.em] at et'
  cases et'
  obtain⟨dx,fs,hx,l1,l2,l3,l4,l5⟩:=id hR
  have onx:∀{H':Hp},But x H H'->DeskA d G H' ms S dD fD t k1 k2 k3 k4 rl bl hl ha va ra ba:=fun {H'} b=>D.on (M:=[x]) (.of_but Mx b) (fun m hm h=>hxm (ME.mp h▸hm)) (fun m hm=>by rw[ME.mp hm];exact gx)
  have lba:=D.bs.len
  have lha:ha.length=S.hs.length:=by
   have:=D.at'.len
   rw[D.em] at this
   unfold dObjs at this
   simp only[ML,MV,Dl,Mu] at this
   lia
  exists qU,kbz,W
  exists qm,kaL,W
  exists qv,ka8,W
  exists qw,ka2,W
  exists qy,kaV,W
  exists Qo,kcl,W
  have hr1:Room 1 _:=hr.mono (by decide)
  have hr2:Room 2 _:=hr.mono (by decide)
  have hr3:Room 3 _:=hr.mono (by decide)
  refine⟨_,kac (psl (i:=2) Ya.nd (kaz (pv 0) W.c_Row.cl W.qB.me qU hr W.qB.b .nil pass0))
   (kac (psl (i:=3) Ya.nd (kaz (pv 0) W.c_Row.cl W.ql.me qm hr1 W.ql.b .nil pass0))
   (kac (ps_if (kaX (pv 3)) (kag (kay (kaH (pv 0) W.c_Row.cl W.qt.me qv hr3 W.qt.b .nil pass0 (kaa (ka7 (kaa kat kae)) kae)))) (kau))
   (kac (kay (kaz (pv 0) W.c_Row.cl W.qp.me qw hr2 W.qp.b .nil pass0))
   (kac (kay (kaH (pv 0) W.c_Row.cl W.qr.me qy hr1 W.qr.b .nil pass0 (kaa (kaI (v:=.int 20) (by rfl) W.g_MOST_BASKETS ⟨_,rfl⟩) (kaa (pe_op kbC (kap (r:=kaQ K) kas (by rfl) W.B.len b_len (kaa (kaj (K:=K) (pv 1) rfl) kae)) kaq) kae))))
   (kac (kay (pe_bm MW M1 M3 kaG (kaj (K:=K) (pv 1) rfl) (kaa (kbc (W.qN.mk' W.qh) Qo hr2 rfl W.qh.m W.qN.b .nil pass0 (kaa (kaJ kae) (kaa (pv 2) (kaa (pv 3) kae)))) kae)))
   (kag (kay (pe_bm MW M1 M3 kaG (kaj (K:=K) (pv 1) rfl) (kaa kll kae))))))))),?_⟩
  rwa[8,x,dx,fs,6,hx,l5 _ (by cutsat) (by cutsat) (by cutsat),x,wl,L,n,p,ws,z,6,hR,D.sub _ _ gw,hw1,hn,h1,h2,fun H1 b1 R1=>?_]
  have D1:=onx b1
  obtain⟨dx1,fs1,hx1,_,_,_,_,m5⟩:=id R1
  have hwl1:=D1.sub _ _ gw
  rwa[8,x,dx1,fs1,6,hx1,m5 _ (by cutsat) (by cutsat) (by cutsat),x,wl,L,p+1,ws,6,R1,hwl1,?_]
  rw[decide_eq_false (by lia)]
  rwa[8,8,iteF ?_]
  rwa[8,x,dx1,fs1,6,hx1,m5 _ (by cutsat) (by cutsat) (by cutsat),x,wl,L,p+1,ws,6,R1,hwl1,by lia,?_]
  rwa[8,x,dx1,fs1,6,hx1,m5 _ (by cutsat) (by cutsat) (by cutsat),8,t,d.qe,dD,fD,8,D1.o (i:=0) rfl rfl,W.qe.cl,W.qT,D.fd.f7,bl,8, .inl (SqL.of (D1.o (i:=6) rfl rfl)),9,x,20,8,by rw[Mu];lia,?_]
  rwa[8,t,d.qe,dD,fD,8,D1.o (i:=0) rfl rfl,W.qe.cl,W.qT,D.fd.f7, .inl ⟨rfl,_,SqL.of (D1.o (i:=6) rfl rfl)⟩,by decide,fun l0 f0=>?_]
  have n2:=kai (o:=.lst []) f0
  have e2:(upd H1 l0 (.lst [])) l0>>(.lst []):=kad
  generalize upd H1 l0 (.lst [])=H2 at *
  rwa[8,8,fun b db fb fdb ndb=>?_]
  rwa[b,db,l0,n,false,[],6,kad,SqL.of (kcW fb fdb e2),fun H3 l' b3 fl' el' hB=>⟨rfl,?_⟩]
  have s3:=kbd fb fdb b3
  have s13:=n2.trans s3
  have D3:=onx (b1.same s13)
  obtain⟨o1,ho1⟩:∃o,H1 x>>o:=⟨_,hx1⟩
  have fl2:H2 l'=none:=kcq fl'
  have fN:∀y∈[b,l'],H y=none:=fun y hy=>by
   simp only[MB,MR,or_false] at hy
   rcases hy with rfl|rfl
   ·exact But.free b1 ho1 (n2.free fb)
   ·exact But.free b1 ho1 (n2.free fl2)
  obtain⟨dB,fB,hBi,hBq⟩:=id hB
  obtain⟨sN1,sN2⟩:=kdg (N:=[b,l']) D3.sub (fun y hy=>D.sub.free (fN y hy)) fun y hy=>by
   simp only[MB,MR,or_false] at hy
   rcases hy with rfl|rfl
   ·rwa[_,hBi,6,fun _ z=>by cases z]
   ·rwa[_,el',6,fun _ z=>by cases z]
  have D3':=D3.more sN1 sN2 fun m hm=>kbu fN (by obtain⟨o,ho,_⟩:=D.here hm;rw[ho];simp) (D.fr m hm)
  have hBG:BaskIs d.qf d.qh (ext [b,l'] G H3) b ⟨[],n,false⟩:=⟨l',[],⟨dB,fB,by rw[kbv Mx];exact hBi,hBq⟩,by rw[kbv (MH _ Mx)];exact el', .nil⟩
  rwa[bl,9,D3.o (i:=6) rfl rfl,kan (by rw[Mu];lia),?_]
  have c4:Chg (x::ms) H3 (upd H3 bl (.lst (ba.map V.ref++[.ref b]))):=.put (MH _ (D3.mem (i:=6) rfl)) (nx (D3.o (i:=6) rfl rfl))
  have D4:=D3'.put (i:=6) (o:=.lst (ba.map V.ref++[.ref b])) (S':={S with bs:=S.bs++[⟨[],n,false⟩]}) (m:=bl) (ba':=ba++[b]) rfl (by simp only[dObjs,MC,MQ,Ep];rfl) D.fd D3'.vs D3'.rs (P2.snoc D3'.bs hBG)
  have fr4:∀y,(upd H3 bl (.lst (ba.map V.ref++[.ref b]))) y=none->H3 y=none:=fun y hy=>by
   by_cases e:y=bl
   ·rw[e,kad] at hy
    cases hy
   ·rw[kah e] at hy
    exact hy
  generalize upd H3 bl (.lst (ba.map V.ref++[.ref b]))=H4 at *
  rwa[8,t,d.qe,dD,fD,8,D4.o (i:=0) rfl rfl,W.qe.cl,W.QM,D.fd.f8, .inl ⟨rfl,_,SqL.of (D4.o (i:=7) rfl rfl)⟩,fun dn fdn=>?_]
  have n5:=kai (o:=.dK []) fdn
  have e5:(upd H4 dn (.dK [])) dn>>(.dK []):=kad
  have D5:=D4.same n5
  have nm:dn∉ms:=fun h=>by
   obtain⟨o,ho,_⟩:=D4.here h
   rw[fdn] at ho
   cases ho
  have f3:H3 dn=none:=fr4 dn fdn
  have f0':H dn=none:=But.free b1 ho1 (s13.free f3)
  have D6:=D5.addD e5 nm (D4.sub.free fdn)
  rwa[hl,9,D5.o (i:=7) rfl rfl,kan (by rw[Mu,lha];lia),?_]
  rw[show ha.map V.ref++[V.ref dn]=(ha++[dn]).map V.ref by rw[MC];rfl]
  have c6:Chg (x::ms) (upd H4 dn (.dK [])) (upd (upd H4 dn (.dK [])) hl (.lst ((ha++[dn]).map V.ref))):=.put (MH _ (D5.mem (i:=7) rfl)) (nx (D5.o (i:=7) rfl rfl))
  refine k _ _ (ms++[dn]) ((((Chg.one (.of_but Mx (b1.same s13))).trans c4).same n5).trans c6) sN1 (fun b h g=>kbu fN h g) (fun m hm=>?_) ?_ ⟨_,_,_,_,_,_,_,_,_,_,_,_,_,_,D6⟩
  ·rcases MY.mp hm with h|h
   ·exact .inl h
   ·rw[ME.mp h]
    exact .inr f0'
  ·rw[EO (at_lt et)]
theorem kfJ{α:Type}{y: α}:∀{xs:List α},xs≠[]->xs.set (xs.length-1) y=xs.dropLast++[y]
 |[],h=>absurd rfl h
 |[a],_=>rfl
 |a::b::xs,_=>by
  have ih:=kfJ (y:=y) (xs:=b::xs) (by simp)
  show a::(b::xs).set ((b::xs).length-1) y=_
  rw[ih]
  rfl
theorem DeskA.hda{d:D}{G H:Hp}{ms:List Addr}{S:DeskD}{dx t k1 k2 k3 k4 rl bl hl:Addr}{fs:List (Str×V)}{ha va ra ba:List Addr}(D:DeskA d G H ms S dx fs t k1 k2 k3 k4 rl bl hl ha va ra ba):P2 (fun m kvs=>H m>>(.dK kvs)) ha S.hs:=by
 have:=D.at'
 rw[D.em] at this
 unfold dObjs at this
 cases this with|cons _ q
 cases q with|cons _ q
 cases q with|cons _ q
 cases q with|cons _ q
 cases q with|cons _ q
 cases q with|cons _ q
 cases q with|cons _ q
 cases q with|cons _ q
 have q':P2 (fun m o=>H m>>o) ha (S.hs.map HO.dK):=q
 exact P2.unmap (R:=fun m o=>H m>>o) (f:=HO.dK) q'
inductive kc7(d:D)(vs:List V)(H:Hp)(Q:VK)(E_:XK):Prop
 |ct(G:Hp)(ms:List Addr)(S:DeskD)(t x:Addr)(L n:Int)(ws:List Str)(p j:Nat)(z y:Str)(kvs:List (Key×V))(_:vs=[.ref x, .ref t])(_:ms[0]?>>t)(_:x∉ms)(_:kbp d G H ms S)(_:RowIn d G H x L ws p)(_:ws[p]?>>z)(_:ws[p+1]?>>y)(_:ws.length=p+2)(_:NameW z)(_:NumW y n)(_:0<=n)(_:n<=5)(_:S.vn[j]?>>z)(_:S.vn.Nodup)(_:S.vn.length<=100)(_:S.hs.getLast?>>kvs)(_:kvs.length<=100)(_:RdQ d G H ms x {S with hs:=S.hs.dropLast++[putK kvs (.inl (j:Int)) (.int n)]} (Q .non)):kc7 d vs H Q E_
theorem Yb:kam ["row","told","number","many"] ["row","told"] (kaf kdo):=by ac_rfl
theorem kea(W:WB K mg d base):FO P w W 5 d.Qv d.Zh ["row","told"] (kc7 d):=by
 exists W.Xr.F,Yb
 ·obtain⟨G,ms,S,t,x,L,n,ws,p,j,z,y,kvs,rfl,et,hxm,hD,⟨gx,wl,hR,gw⟩,hw1,hw2,hln,hz,hy,h1,h2,hj,nd,hv,hkv,lkv,k⟩:=h
  obtain⟨dD,fD,t0,k1,k2,k3,k4,rl,bl,hl,ha,va,ra,ba,D⟩:=id hD
  have et':=et
  rw[D.em] at et'
  cases et'
  obtain⟨dx,fs,hx,l1,l2,l3,l4,l5⟩:=id hR
  have onx:∀{H':Hp},But x H H'->DeskA d G H' ms S dD fD t k1 k2 k3 k4 rl bl hl ha va ra ba:=fun {H'} b=>D.on (M:=[x]) (.of_but Mx b) (fun m hm h=>hxm (ME.mp h▸hm)) (fun m hm=>by rw[ME.mp hm];exact gx)
  exists qx,ka1,W
  exists Qn,kbt,W
  exists qw,ka2,W
  have hr2:Room 2 _:=hr.mono (by decide)
  have hr3:Room 3 _:=hr.mono (by decide)
  refine⟨_,kac (psl (i:=2) Yb.nd (kaH (pv 0) W.c_Row.cl W.qu.me qx hr W.qu.b .nil pass0 (kaa (kaj (K:=K) (pv 1) rfl) kae)))
   (kac (psl (i:=3) Yb.nd (kaH (pv 0) W.c_Row.cl W.qK.me Qn hr3 W.qK.b .nil pass0 (kaa kaq (kaa (kaI (v:=.int 5) (by rfl) W.g_MOST_HELD ⟨_,rfl⟩) kae))))
   (kac (kay (kaz (pv 0) W.c_Row.cl W.qp.me qw hr2 W.qp.b .nil pass0))
   (kag (kjP (hu_of hr) (pe_ix (r:=rIxL K) kaR (kaj (K:=K) (pv 1) rfl) (pe_un kgf kaq) (fun _ _=>rfl)) (pv 2) (pv 3) rfl)))),?_⟩
  rwa[8,x,dx,fs,6,hx,l5 _ (by cutsat) (by cutsat) (by cutsat),8,t,d.qe,dD,fD,8,D.o (i:=0) rfl rfl,W.qe.cl,W.qL,D.fd.f3,x,wl,k3,L,p,j,ws,S.vn,z,6,hR,D.sub _ _ gw,D.o (i:=3) rfl rfl,hw1,hz,hj,nd,by lia,fun H1 b1 R1=>?_]
  have D1:=onx b1
  obtain⟨dx1,fs1,hx1,_,_,_,_,m5⟩:=id R1
  rwa[8,x,dx1,fs1,6,hx1,m5 _ (by cutsat) (by cutsat) (by cutsat),x,wl,L,0,5,n,p+1,ws,y,6,R1,D1.sub _ _ gw,hw2,hy,h1,h2,fun H2 b2 R2=>?_]
  have b02:=b1.trans b2
  have D2:=onx b02
  obtain⟨dx2,fs2,hx2,_,_,_,_,m6⟩:=id R2
  rwa[8,x,dx2,fs2,6,hx2,m6 _ (by cutsat) (by cutsat) (by cutsat),x,wl,L,p+1+1,ws,6,R2,D2.sub _ _ gw,by lia,?_]
  obtain⟨h,eh,hk⟩:=P2.last D2.hda hkv
  rwa[8,8,t,d.qe,dD,fD,8,D2.o (i:=0) rfl rfl,W.qe.cl,W.QM,D.fd.f8,8,hl,_,9,SqL.of (D2.o (i:=7) rfl rfl),kez (v:=V.ref h) (by rw[Ad,eh];rfl),8,h,8,DPut.k (k:=.inl (j:Int)) hk (kan (by lia)),?_]
  have lha:=D2.hda.len
  have hne:S.hs≠[]:=fun e=>by rw[e] at hkv;cases hkv
  have hm:([t,k1,k2,k3,k4,rl,bl,hl]++ha)[8+(ha.length-1)]?>>h:=by
   rw[EJ (by simp)]
   rw[Ac] at eh
   rw[show 8+(ha.length-1)-([t,k1,k2,k3,k4,rl,bl,hl]:List Addr).length=ha.length-1 by simp]
   exact eh
  have c3:Chg (x::ms) H2 (upd H2 h (.dK (putK kvs (.inl (j:Int)) (.int n)))):=.put (MH _ (D2.mem hm)) (nx hk)
  have D3:=D2.put (o:=.dK (putK kvs (.inl (j:Int)) (.int n))) (S':={S with hs:=S.hs.dropLast++[putK kvs (.inl (j:Int)) (.int n)]}) hm (by
   unfold dObjs
   rw[List.set_append_right _ _ (by simp)]
   congr 1
   rw[show 8+(ha.length-1)-([HO.ins d.qe dD fD, .lst (S.kn.map V.str), .lst (S.ps.map pV), .lst (S.vn.map V.str), .lst (va.map V.ref), .lst (ra.map V.ref), .lst (ba.map V.ref), .lst (ha.map V.ref)]:List HO).length=S.hs.length-1 by simp;lia]
   rw[<-E5,kfJ hne]) D.fd D.vs D.rs D.bs
  exact k _ G ms ((Chg.one (.of_but Mx b02)).trans c3) (Same.refl _) (fun _ _ h=>h) (fun m hm=>.inl hm) rfl ⟨_,_,_,_,_,_,_,_,_,_,_,_,_,_,D3⟩
theorem klB{n:Nat}(h:0<n):ixN n (-1)>>(n-1):=by
 unfold ixN
 rw[if_neg (by decide),if_pos (by lia)]
 congr 1
 lia
theorem P2.dropL{α β:Type}{R: α->β->Prop}:∀{as:List α}{bs:List β},P2 R as bs->P2 R as.dropLast bs.dropLast
 |_,_, .nil=>.nil
 |_,_, .cons _ .nil=>.nil
 |_,_, .cons h (.cons h' t)=>.cons h (P2.dropL (.cons h' t))
inductive kgo(d:D)(vs:List V)(H:Hp)(Q:VK)(E_:XK):Prop
 |ct(G:Hp)(ms:List Addr)(S:DeskD)(t x y:Addr)(L:Int)(wl:Addr)(p:Nat)(B:Bask)(l:War.Row)(_:vs=[.ref y, .ref x, .ref t])(_:ms[0]?>>t)(_:x∉ms)(_:kbp d G H ms S)(_:G x=none)(_:RowAt d H x L wl p)(_:LineAt d.qf G y l)(_:S.bs.getLast?>>B)(_:B.rs.length<12)(_:((B.rs++[l]).map fun r=>r.mn).sum<=60)(_:RdQ d G H ms x {S with bs:=S.bs.dropLast++[⟨B.rs++[l],B.cg,B.m⟩]} (Q .non)):kgo d vs H Q E_
theorem Yc:kam ["line","row","told","basket","lines"] ["line","row","told"] (kaf kdW):=by ac_rfl
theorem khk(W:WB K mg d base):FO P w W 3 d.Zf d.Zg ["line","row","told"] (kgo d):=by
 exists W.V6.F,Yc
 ·obtain⟨G,ms,S,t,x,y,L,wl,p,B,l,rfl,et,hxm,hD,gx,hR,hl,eB,h12,h60,k⟩:=h
  obtain⟨dD,fD,t0,k1,k2,k3,k4,rl,bl,hl',ha,va,ra,ba,D⟩:=id hD
  have et':=et
  rw[D.em] at et'
  cases et'
  obtain⟨dx,fs,hx,l1,l2,l3,l4,l5⟩:=id hR
  exists Yd,kbh,W
  exists qy,kaV,W
  exists Qo,kcl,W
  have hr1:Room 1 _:=hr.mono (by decide)
  refine⟨_,kac (psl (i:=3) Yc.nd (kaz (pv 2) W.qe.cl W.QO.me Yd hr1 W.QO.b .nil pass0))
   (kac (psl (i:=4) Yc.nd (pe_op kd6 (kaj (K:=K) (pv 3) rfl) (kaJ (kaa (pv 0) kae))))
   (kac (kay (kaH (pv 1) W.c_Row.cl W.qr.me qy hr1 W.qr.b .nil pass0 (kaa (kaI (v:=.int 12) (by rfl) W.g_MOST_LINES ⟨_,rfl⟩) (kaa (kap (r:=kaQ K) kas (by rfl) W.B.len b_len (kaa (pv 4) kae)) kae))))
   (kac (kay (kaH (pv 1) W.c_Row.cl W.qr.me qy hr1 W.qr.b .nil pass0 (kaa (kaI (v:=.int 60) (by rfl) W.g_MOST_PIECES ⟨_,rfl⟩) (kaa (kap (r:=rSum K) (kdQ rfl) (by rfl) W.B.sum b_sum (kaa (kbf (N:=["each"]) (CompScope.plain rfl (by cutsat) (by cutsat) (by cutsat) (nd1 _)) rfl (kaK (K:=K) (pv 4)) (fun _ _ _ _=>pgn (i:=0) (nd1 _)) (fun _ _ _ _=>(kaj (K:=K) (pv 0) rfl))) kae)) kae))))
   (kag (kh1 (kbc (W.qN.mk' W.qh) Qo hr rfl W.qh.m W.qN.b .nil pass0 (kaa (pv 4) (kaa (kaj (K:=K) (pv 3) rfl) (kaa (kaj (K:=K) (pv 3) rfl) kae)))) (kh4 (kaj (K:=K) (pv 2) rfl) (pe_un kgf kaq) set_list)))))),?_⟩
  rwa[8,t,dD,fD,6,D.o (i:=0) rfl rfl,D.fd.no _ (by cutsat),G,ms,S,t,B,6,et,hD,eB,fun b hB=>?_]
  obtain⟨lb,ls,hBa,hlb0,hLG⟩:=hB
  obtain⟨dxb,fsb,hb,lbl,lbc,lbm⟩:=hBa.same D.sub
  have hlb:=D.sub _ _ hlb0
  have hL:=hLG.same D.sub
  have hll:=hL.len
  rwa[8,b,d.qh,dxb,fsb,8,hb,W.qh.cl,W.QD,lbl,8,(by show 1<=sizeLine;decide),fun q fq=>?_]
  have n1:=kai (o:=.lst [.ref y]) fq
  have e1:(upd H q (.lst [.ref y])) q>>(.lst [.ref y]):=kad
  generalize upd H q (.lst [.ref y])=H1 at *
  rwa[lb,q,9,n1 _ _ hlb,e1,MI (kan (by rw[Mu];show _+1<=1000;lia)),fun q2 fq2=>?_]
  have n2:=kai (o:=.lst (ls.map V.ref++[.ref y])) fq2
  have e2:(upd H1 q2 (.lst (ls.map V.ref++[.ref y]))) q2>>(.lst ((ls++[y]).map V.ref)):=by rw[MC];exact kad
  generalize upd H1 q2 (.lst (ls.map V.ref++[.ref y]))=H2 at *
  have s2:=n1.trans n2
  have D2:=D.same s2
  have hL2:Lines d.qf H2 (ls++[y]) (B.rs++[l]):=(P2.snoc (hL.same s2) ((hl.same D.sub).same s2))
  have hll2:=hL2.len
  have hx2:=s2 _ _ hx
  rwa[8,x,dx,fs,6,hx2,l5 _ (by cutsat) (by cutsat) (by cutsat),8,q2,8, .inl (SqL.of e2),x,12,8,by rw[Mu,hll2,ML];show((B.rs.length+1:Nat):Int)<=12;lia,?_]
  rwa[8,x,dx,fs,6,hx2,l5 _ (by cutsat) (by cutsat) (by cutsat),8,q2,6,⟨_,SqL.of e2⟩,kb3 (xs:=(ls++[y]).map V.ref) (fun i σ ys H'=>H'=H2/\ys=(((B.rs++[l]).take i).map fun r=>r.mn).map V.int/\∃v,σ=[v]) ⟨rfl,rfl,none,rfl⟩ (by rw[Mu,hll2,ML];exact MI (kan (by show B.rs.length+1<=1000;lia))) ?_ ?_ ?_]
  ·rintro i σ ys H' hi ⟨rfl,rfl,_⟩
   rwa[SqL.of e2,by rw[Mu,Mu,MU];rw[Mu,hll2] at hi;lia]
  ·rintro i z σ ys H' hz ⟨rfl,rfl,v,rfl⟩
   obtain⟨lx,el,rfl⟩:=kcS hz
   obtain⟨r,er⟩:=at_of (xs:=B.rs++[l]) (i:=i) (by have:=at_lt el;lia)
   obtain⟨dxl,fsl,hlx,lk1,lk2,lk3,lk4⟩:=hL2.get el er
   rwa[8,lx,d.qf,dxl,fsl,8,hlx,W.qf.cl,W.QB,lk3,6,?_,8]
   rw[take_snoc er,MC,MC]
   rfl
  ·rintro σ ys H' ⟨rfl,rfl,v,rfl⟩ q3 fq3
   rw[Mu,hll2,M0]
   have n3:=kai (o:=.lst (((B.rs++[l]).map fun r=>r.mn).map V.int)) fq3
   have e3:(upd H' q3 (.lst (((B.rs++[l]).map fun r=>r.mn).map V.int))) q3>>(.lst (((B.rs++[l]).map fun r=>r.mn).map V.int)):=kad
   generalize upd H' q3 (.lst (((B.rs++[l]).map fun r=>r.mn).map V.int))=H3 at *
   have s3:=s2.trans n3
   have D3:=D.same s3
   rwa[q3,8,SqL.of e3,x,60,8,h60,?_]
   rwa[8,8,b,d.qh,dxb,fsb,8,s3 _ _ hb,W.qh.cl,W.Xz,lbc,8,b,d.qh,dxb,fsb,8,s3 _ _ hb,W.qh.cl,W.QE,lbm,fun nb db fb fdb ndb=>?_]
   rwa[nb,db,q2,B.cg,B.m,8,kad,SqL.of (kcW fb fdb (n3 _ _ e2)),fun H4 l4 b4 fl4 el4 hB4=>⟨rfl,?_⟩]
   have s4:=kbd fb fdb b4
   have s04:=s3.trans s4
   have D4:=D.same s04
   have fl3:H3 l4=none:=kcq fl4
   have fN:∀y∈[nb,l4],H y=none:=fun y hy=>by
    simp only[MB,MR,or_false] at hy
    rcases hy with rfl|rfl
    ·exact s3.free fb
    ·exact s3.free fl3
   obtain⟨dB,fB,hBi,hBq⟩:=id hB4
   obtain⟨sN1,sN2⟩:=kdg (N:=[nb,l4]) D4.sub (fun y hy=>D.sub.free (fN y hy)) fun y hy=>by
    simp only[MB,MR,or_false] at hy
    rcases hy with rfl|rfl
    ·rwa[_,hBi,6,fun _ z=>by cases z]
    ·rwa[_,el4,6,fun _ z=>by cases z]
   have D4':=D4.more sN1 sN2 fun m hm=>kbu fN (by obtain⟨o,ho,_⟩:=D.here hm;rw[ho];simp) (D.fr m hm)
   have hBG:BaskIs d.qf d.qh (ext [nb,l4] G H4) nb ⟨B.rs++[l],B.cg,B.m⟩:=⟨l4,ls++[y],⟨dB,fB,by rw[kbv Mx];exact hBi,hBq⟩,by rw[kbv (MH _ Mx)];exact el4,P2.snoc (hLG.same sN1) (hl.same sN1)⟩
   have lba:=D.bs.len
   have hne:S.bs≠[]:=fun e=>by rw[e] at eB;cases eB
   have hbn:ba≠[]:=fun e=>hne (AA.mp (by rw[<-lba,e];rfl))
   have hb0:=List.length_pos_iff.mpr hbn
   rwa[8,t,d.qe,dD,fD,8,D4.o (i:=0) rfl rfl,W.qe.cl,W.qT,D.fd.f7,8,bl,_,9,D4.o (i:=6) rfl rfl,klB (by rw[Mu];exact hb0),?_]
   rw[Mu,<-E5 (f:=V.ref) (a:=nb)]
   rw[kfJ hbn]
   have c5:Chg (x::ms) H4 (upd H4 bl (.lst ((ba.dropLast++[nb]).map V.ref))):=.put (MH _ (D4.mem (i:=6) rfl)) (nx (D4.o (i:=6) rfl rfl))
   have D5:=D4'.put (i:=6) (m:=bl) (o:=.lst ((ba.dropLast++[nb]).map V.ref)) (S':={S with bs:=S.bs.dropLast++[⟨B.rs++[l],B.cg,B.m⟩]}) (ba':=ba.dropLast++[nb]) rfl rfl D.fd D4'.vs D4'.rs (P2.snoc (P2.dropL D4'.bs) hBG)
   exact k _ _ ms ((Chg.of_same s04).trans c5) sN1 (fun b h g=>kbu fN h g) (fun m hm=>.inl hm) rfl ⟨_,_,_,_,_,_,_,_,_,_,_,_,_,_,D5⟩
inductive kc4(d:D)(vs:List V)(H:Hp)(Q:VK)(E_:XK):Prop
 |ct(G:Hp)(ms:List Addr)(S:DeskD)(t x:Addr)(L n2 n3:Int)(ws:List Str)(p j:Nat)(z1 z2 z3:Str)(B:Bask)(_:vs=[.ref x, .ref t])(_:ms[0]?>>t)(_:x∉ms)(_:kbp d G H ms S)(_:RowIn d G H x L ws p)(_:ws[p]?>>z1)(_:ws[p+1]?>>z2)(_:ws[p+2]?>>z3)(_:ws.length=p+3)(_:NameW z1)(_:NumW z2 n2)(_:NumW z3 n3)(_:0<=n2)(_:n2<=1000000000000)(_:0<=n3)(_:n3<=20)(_:S.kn[j]?>>z1)(_:S.kn.Nodup)(_:S.kn.length<=100)(_:S.bs.getLast?>>B)(_:B.rs.length<12)(_:((B.rs++[(⟨j,n2,n3,none⟩:War.Row)]).map fun r=>r.mn).sum<=60)(_:RdQ d G H ms x {S with bs:=S.bs.dropLast++[⟨B.rs++[⟨j,n2,n3,none⟩],B.cg,B.m⟩]} (Q .non)):kc4 d vs H Q E_
theorem qV:kam ["row","told","kind","price","many","special"] ["row","told"] (kaf kdk):=by ac_rfl
theorem kd7(W:WB K mg d base):FO P w W 5 d.Qu d.Ze ["row","told"] (kc4 d):=by
 exists W.Xq.F,qV
 ·obtain⟨G,ms,S,t,x,L,n2,n3,ws,p,j,z1,z2,z3,B,rfl,et,hxm,hD,⟨gx,wl,hR,gw⟩,hw1,hw2,hw3,hln,hz1,hz2,hz3,h20,h21,h30,h31,hj,nd,hv,eB,h12,h60,k⟩:=h
  obtain⟨dD,fD,t0,k1,k2,k3,k4,rl,bl,hl,ha,va,ra,ba,D⟩:=id hD
  have et':=et
  rw[D.em] at et'
  cases et'
  obtain⟨dx,fs,hx,l1,l2,l3,l4,l5⟩:=id hR
  have onx:∀{H':Hp},But x H H'->DeskA d G H' ms S dD fD t k1 k2 k3 k4 rl bl hl ha va ra ba:=fun {H'} b=>D.on (M:=[x]) (.of_but Mx b) (fun m hm h=>hxm (ME.mp h▸hm)) (fun m hm=>by rw[ME.mp hm];exact gx)
  exists qx,ka1,W
  exists qU,kbz,W
  exists Qn,kbt,W
  exists qm,kaL,W
  exists qv,ka8,W
  exists qw,ka2,W
  exists Jy,khk,W
  exists Ye,ked,W
  have hr1:Room 1 _:=hr.mono (by decide)
  have hr2:Room 2 _:=hr.mono (by decide)
  have hr3:Room 3 _:=hr.mono (by decide)
  refine⟨_,kac (psl (i:=2) qV.nd (kaH (pv 0) W.c_Row.cl W.qu.me qx hr W.qu.b .nil pass0 (kaa (kaj (K:=K) (pv 1) rfl) kae)))
   (kac (psl (i:=3) qV.nd (kaz (pv 0) W.c_Row.cl W.qB.me qU hr W.qB.b .nil pass0))
   (kac (psl (i:=4) qV.nd (kaH (pv 0) W.c_Row.cl W.qK.me Qn hr3 W.qK.b .nil pass0 (kaa kaq (kaa (kaI (v:=.int 20) (by rfl) W.g_MOST_OF_A_LINE ⟨_,rfl⟩) kae))))
   (kac (psl (i:=5) qV.nd kbg)
   (kac (ps_if (kaX (kaz (pv 0) W.c_Row.cl W.ql.me qm hr1 W.ql.b .nil pass0)) (kac (kay (kaH (pv 0) W.c_Row.cl W.qt.me qv hr3 W.qt.b .nil pass0 (kaa (ka7 (kaa kat kae)) kae)))
   (kag (psl (i:=5) qV.nd (kaz (pv 0) W.c_Row.cl W.qB.me qU hr W.qB.b .nil pass0)))) (kau))
   (kac (kay (kaz (pv 0) W.c_Row.cl W.qp.me qw hr2 W.qp.b .nil pass0))
   (kag (kay (pcl Jy hr3 W.V6 (kaa (kbc (W.QC.mk' W.qf) Ye hr2 rfl W.qf.m W.QC.b .nil pass0 (kaa (pv 2) (kaa (pv 3) (kaa (pv 4) (kaa (pv 5) kae))))) (kaa (pv 0) (kaa (pv 1) kae))))))))))),?_⟩
  rwa[8,x,dx,fs,6,hx,l5 _ (by cutsat) (by cutsat) (by cutsat),8,t,d.qe,dD,fD,8,D.o (i:=0) rfl rfl,W.qe.cl,W.QJ,D.fd.f1,x,wl,k1,L,p,j,ws,S.kn,z1,6,hR,D.sub _ _ gw,D.o (i:=1) rfl rfl,hw1,hz1,hj,nd,by lia,fun H1 b1 R1=>?_]
  have D1:=onx b1
  obtain⟨dx1,fs1,hx1,_,_,_,_,m5⟩:=id R1
  rwa[8,x,dx1,fs1,6,hx1,m5 _ (by cutsat) (by cutsat) (by cutsat),x,wl,L,n2,p+1,ws,z2,6,R1,D1.sub _ _ gw,hw2,hz2,h20,h21,fun H2 b2 R2=>?_]
  have b02:=b1.trans b2
  have D2:=onx b02
  obtain⟨dx2,fs2,hx2,_,_,_,_,m6⟩:=id R2
  rwa[8,x,dx2,fs2,6,hx2,m6 _ (by cutsat) (by cutsat) (by cutsat),x,wl,L,0,20,n3,p+1+1,ws,z3,6,R2,D2.sub _ _ gw,hw3,hz3,h30,h31,fun H3 b3 R3=>?_]
  have b03:=b02.trans b3
  have D3:=onx b03
  obtain⟨dx3,fs3,hx3,_,_,_,_,m7⟩:=id R3
  have hwl3:=D3.sub _ _ gw
  rwa[8,x,dx3,fs3,6,hx3,m7 _ (by cutsat) (by cutsat) (by cutsat),x,wl,L,p+1+1+1,ws,6,R3,hwl3,?_]
  rw[decide_eq_false (by lia)]
  rwa[8,iteF ?_]
  rwa[8,x,dx3,fs3,6,hx3,m7 _ (by cutsat) (by cutsat) (by cutsat),x,wl,L,p+1+1+1,ws,6,R3,hwl3,by lia,?_]
  rwa[8,8,8,8,fun y dy fy fdy ndy=>?_]
  rwa[y,dy,⟨j,n2,n3,none⟩,6,kad,fun H4 b4 hl4=>⟨rfl,?_⟩]
  have s4:=kbd fy fdy b4
  have b04:=b03.same s4
  have D4:=onx b04
  have R4:=R3.same s4
  have hx4:=s4 _ _ hx3
  have fN:∀q∈[y],H q=none:=fun q hq=>by
   rw[ME.mp hq]
   exact But.free b03 hx3 fy
  obtain⟨dl,fl,hli,hlq⟩:=id hl4
  obtain⟨sN1,sN2⟩:=kdg (N:=[y]) D4.sub (fun q hq=>D.sub.free (fN q hq)) fun q hq=>by
   rw[ME.mp hq]
   rwa[_,hli,6,fun _ z=>by cases z]
  have up:∀{b:Addr},H b≠none->G b=none->ext [y] G H4 b=none:=fun h g=>kbu fN h g
  have D4':=D4.more sN1 sN2 fun m hm=>up (by obtain⟨o,ho,_⟩:=D.here hm;rw[ho];simp) (D.fr m hm)
  have hlG:LineAt d.qf (ext [y] G H4) y ⟨j,n2,n3,none⟩:=⟨dl,fl,by rw[kbv Mx];exact hli,hlq⟩
  rwa[8,8,ext [y] G H4,ms,S,t,x,y,L,wl,_,B,⟨j,n2,n3,none⟩,6,et,hxm,⟨_,_,_,_,_,_,_,_,_,_,_,_,_,_,D4'⟩,up (by rw[hx];simp) gx,R4,hlG,eB,h12,h60,fun H5 G5 ms5 c5 sG kn5 mm5 e5 DA=>?_]
  exact k H5 G5 ms5 ((Chg.of_but Mx b04).trans c5) (sN1.trans sG) (fun b h g=>kn5 b (fun e=>h (But.free b04 hx4 e)) (up h g)) (fun m hm=>(mm5 m hm).imp id fun e=>But.free b04 hx4 e) e5 DA
def Rdr(d:D)(a:Addr)(sp:Sp):Prop:=(a=d.Qq/\sp=kc6 d)∨(a=d.Qr/\sp=kdG d)∨(a=d.Qs/\sp=kc5 d)∨(a=d.Qt/\sp=kc8 d)∨(a=d.Qu/\sp=kc4 d)∨(a=d.Qv/\sp=kc7 d)
theorem knN(W:WB K mg d base):∀a sp,Rdr d a sp->∃fd ps,FO P w W 8 a fd ps sp/\MJ K (.ref a)=true/\Binds K fd ps []:=by
 rintro a sp (⟨rfl,rfl⟩|⟨rfl,rfl⟩|⟨rfl,rfl⟩|⟨rfl,rfl⟩|⟨rfl,rfl⟩|⟨rfl,rfl⟩)
 ·rwa[_,_,(kd9 W).mono (by decide),W.Xm.F.kp,W.Xm.b]
 ·rwa[_,_,(kcT W).mono (by decide),W.Xn.F.kp,W.Xn.b]
 ·rwa[_,_,(kd8 W).mono (by decide),W.Xo.F.kp,W.Xo.b]
 ·rwa[_,_,(kde W).mono (by decide),W.Xp.F.kp,W.Xp.b]
 ·rwa[_,_,(kd7 W).mono (by decide),W.Xq.F.kp,W.Xq.b]
 ·rwa[_,_,(kea W).mono (by decide),W.Xr.F.kp,W.Xr.b]
def TellS(d:D)(z:Str)(sp:Sp):Prop:=(z=("kind" :Str)/\sp=kc6 d)∨(z=("voucher" :Str)/\sp=kdG d)∨(z=("rule" :Str)/\sp=kc5 d)∨(z=("basket" :Str)/\sp=kc8 d)∨(z=("ware" :Str)/\sp=kc4 d)∨(z=("hold" :Str)/\sp=kc7 d)
inductive klY(d:D)(vs:List V)(H:Hp)(Q:VK)(E_:XK):Prop
 |ct(z:Str)(x t:Addr)(sp:Sp)(_:vs=[.str z, .ref x, .ref t])(_:TellS d z sp)(_:sp [.ref x, .ref t] H (fun _ H'=>Q .non H') E0):klY d vs H Q E_
theorem keE:kam ["word","row","told"] ["word","row","told"] (kaf kcd):=by ac_rfl
theorem keR(W:WB K mg d base):FO P w W 9 d.Y1 d.Y2 ["word","row","told"] (klY d):=by
 exists W.V3.F,keE
 ·obtain⟨z,x,t,sp,rfl,ht,k⟩:=h
  exists Mm,kd9,W
  exists Mn,kcT,W
  exists Mo,kd8,W
  exists Mp,kde,W
  exists Mq,kd7,W
  exists Mr,kea,W
  rwa[_,kag (kay (kh8 (kjW W.t_READERS (kaI (v:=.ref d.a_READERS) (by rfl) W.g_READERS rfl) (pv 0) (fun _ _=>rfl)) (knN W) hr (kaa (pv 1) (kaa (pv 2) kae)))),?_]
  rcases ht with⟨rfl,rfl⟩|⟨rfl,rfl⟩|⟨rfl,rfl⟩|⟨rfl,rfl⟩|⟨rfl,rfl⟩|⟨rfl,rfl⟩
  ·rwa[8,9,6,_,8, .inl ⟨rfl,rfl⟩,8,8,k]
  ·rwa[8,9,6,_,8, .inr (.inl ⟨rfl,rfl⟩),8,8,k]
  ·rwa[8,9,6,_,8, .inr (.inr (.inl ⟨rfl,rfl⟩)),8,8,k]
  ·rwa[8,9,6,_,8, .inr (.inr (.inr (.inl ⟨rfl,rfl⟩))),8,8,k]
  ·rwa[8,9,6,_,8, .inr (.inr (.inr (.inr (.inl ⟨rfl,rfl⟩)))),8,8,k]
  ·rwa[8,9,6,_,8, .inr (.inr (.inr (.inr (.inr ⟨rfl,rfl⟩)))),8,8,k]
abbrev FW1:List Str:=[("kind" :Str),("voucher" :Str),("rule" :Str),("back" :Str),("basket" :Str),("never" :Str),("unlike" :Str),("spill" :Str)]
abbrev FW2:List Str:=[("ware" :Str),("hold" :Str),("use" :Str),("best" :Str),("buy" :Str),("take" :Str)]
inductive kjt(K:Mt)(d:D)(vs:List V)(H:Hp)(Q:VK)(E_:XK):Prop
 |ct(G:Hp)(ms:List Addr)(S:DeskD)(t:Addr)(_:vs=[.ref t])(_:ms[0]?>>t)(_:kbp d G H ms S)(_:S.bs.length<=1000)(_:∀(a:Addr)(H':Hp),Same H H'->SqT K H' a ((if S.bs.length=0 then FW1 else FW1++FW2).map V.str)->Q (.ref a) H'):kjt K d vs H Q E_
theorem ke9:kam ["desk"] ["desk"] (kaf kcw):=by ac_rfl
theorem kfd(W:WB K mg d base):FO P w W 1 d.Zs d.Zt ["desk"] (kjt K d):=by
 exists W.Ub.F,ke9
 ·obtain⟨G,ms,S,t,rfl,et,⟨dD,fD,t0,k1,k2,k3,k4,rl,bl,hl,ha,va,ra,ba,D⟩,h1000,k⟩:=h
  have et':=et
  rw[D.em] at et'
  cases et'
  have lba:=D.bs.len
  refine⟨_,kac (ps_if (kav op_eq (kap (r:=kaQ K) kas (by rfl) W.B.len b_len (kaa (kaj (K:=K) (pv 0) rfl) kae)) kaq (kaB _)) (kag (kao (kaI (v:=.ref d.a_FIRST_WORDS) (by rfl) W.g_FIRST_WORDS rfl))) (kau))
   (kag (kao (pe_op kj5 (kaI (v:=.ref d.a_FIRST_WORDS) (by rfl) W.g_FIRST_WORDS rfl) (kaI (v:=.ref d.a_FIRST_WORDS_OF_A_BASKET) (by rfl) W.g_FIRST_WORDS_OF_A_BASKET rfl)))),?_⟩
  rwa[8,t,d.qe,dD,fD,8,D.o (i:=0) rfl rfl,W.qe.cl,W.qT,D.fd.f7,bl,8, .inl (SqL.of (D.o (i:=6) rfl rfl)),?_]
  rw[Mu,lba]
  by_cases h0:S.bs.length=0
  ·rw[if_pos h0] at k
   rwa[6,8,?_]
   rw[decide_eq_true (by rw[h0];rfl)]
   exact iteT (k _ _ (Same.refl _) W.t_FIRST_WORDS.sq)
  ·rw[if_neg h0] at k
   rwa[6,8,?_]
   rw[decide_eq_false (fun e=>h0 (by simpa using e))]
   refine iteF ?_
   rwa[_,_,9,W.t_FIRST_WORDS.sq,W.t_FIRST_WORDS_OF_A_BASKET.sq,by simp,by decide,fun e=>(by cases e),fun _ p fp=>k _ _ (kai fp) (SqT.of kad)]
theorem But.fresh{x o:Addr}{H H':Hp}{v:HO}(f:H o=none)(b:But x H H')(n:NX H' o):But x H (upd H' o v):=fun c u nc e=>ka9 (b c u nc e) fun o' e'=>kax n c o' (fun z=>by rw[z,f] at e;cases e) e'
def OrdW(ws:List Str)(p:Nat)(vn:List Str)(js:List Nat):Prop:=ws.length=p+js.length/\∀i j,js[i]?>>j->∃z,ws[p+i]?>>z/\NameW z/\vn[j]?>>z
inductive kgj(d:D)(vs:List V)(H:Hp)(Q:VK)(E_:XK):Prop
 |ct(G:Hp)(ms:List Addr)(S:DeskD)(t x:Addr)(L:Int)(ws:List Str)(p:Nat)(js:List Nat)(_:vs=[.ref x, .ref t])(_:ms[0]?>>t)(_:x∉ms)(_:kbp d G H ms S)(_:RowIn d G H x L ws p)(_:OrdW ws p S.vn js)(_:js.length<=8)(_:S.vn.Nodup)(_:S.vn.length<=100)(_:∀(H':Hp)(o wl:Addr),But x H H'->H o=none->H' o>>(.lst (js.map iV))->RowAt d H' x L wl ws.length->Q (.ref o) H'):kgj d vs H Q E_
theorem UI:kam ["row","desk","order"] ["row","desk"] (kaf kcM):=by ac_rfl
theorem kfX(W:WB K mg d base):FO P w W 5 d.Zu d.Zv ["row","desk"] (kgj d):=by
 exists W.Uc.F,UI
 ·obtain⟨G,ms,S,t,x,L,ws,p,js,rfl,et,hxm,hD,⟨gx,wl,hR,gw⟩,⟨hln,hw⟩,h8,nd,hv,k⟩:=h
  obtain⟨dD,fD,t0,k1,k2,k3,k4,rl,bl,hl,ha,va,ra,ba,D⟩:=id hD
  have et':=et
  rw[D.em] at et'
  cases et'
  obtain⟨dx,fs,hx,l1,l2,l3,l4,l5⟩:=id hR
  have onx:∀{H':Hp},But x H H'->DeskA d G H' ms S dD fD t k1 k2 k3 k4 rl bl hl ha va ra ba:=fun {H'} b=>D.on (M:=[x]) (.of_but Mx b) (fun m hm h=>hxm (ME.mp h▸hm)) (fun m hm=>by rw[ME.mp hm];exact gx)
  exists qm,kaL,W
  exists qx,ka1,W
  exists qw,ka2,W
  have hr1:Room 1 _:=hr.mono (by decide)
  have hr2:Room 2 _:=hr.mono (by decide)
  refine⟨_,kac (psl (i:=2) UI.nd (kaJ kae))
   (kac (kfQ PassesOwn.never (PW.pt (kcn (kaX (kaz (pv 0) W.c_Row.cl W.ql.me qm hr1 W.ql.b .nil pass0)) (kbX (kav op_lt (kap (r:=kaQ K) kas (by rfl) W.B.len b_len (kaa (pv 2) kae)) (kaI (v:=.int 8) (by rfl) W.g_MOST_USED ⟨_,rfl⟩) (kaB _)))))
   (kag (kay (pe_bm MW M1 M3 kaG (pv 2) (kaa (kaH (pv 0) W.c_Row.cl W.qu.me qx hr W.qu.b .nil pass0 (kaa (kaj (K:=K) (pv 1) rfl) kae)) kae)))))
   (kac (kay (kaz (pv 0) W.c_Row.cl W.qp.me qw hr2 W.qp.b .nil pass0))
   (kag (kao (pv 2))))),?_⟩
  rwa[(by show 0<=sizeLine;decide),fun o fo=>?_]
  have n1:=kai (o:=.lst []) fo
  have e1:(upd H o (.lst [])) o>>(.lst []):=kad
  generalize upd H o (.lst [])=H1 at *
  have nox:o≠x:=fun e=>by rw[e,hx] at fo;cases fo
  refine kfD (fun σ H'=>∃i,i<=js.length/\But x H H'/\H' o>>(.lst ((js.take i).map iV))/\RowAt d H' x L wl (p+i)/\σ=[some (.ref x),some (.ref t),some (.ref o)]) (fun _ H'=>match H' o with|some (.lst xs)=>9-xs.length|_=>0) ⟨0,M7 _,But.of_same n1,e1,hR.same n1,rfl⟩ ?_ ?_
  ·rintro σ H2 ⟨i,hi,b2,e2,R2,rfl⟩
   have D2:=onx b2
   obtain⟨dx2,fs2,hx2,_,_,_,_,m5⟩:=id R2
   have hwl2:=D2.sub _ _ gw
   rwa[8,x,dx2,fs2,6,hx2,m5 _ (by cutsat) (by cutsat) (by cutsat),x,wl,L,p+i,ws,6,R2,hwl2,8,?_]
   by_cases hlt:i<js.length
   ·rw[decide_eq_true (by lia)]
    refine iteT ⟨_,rfl,o,_,rfl, .inl (SqL.of e2),_,_,rfl,rfl,_,rfl,?_⟩
    rw[Mu,MU,decide_eq_true (by lia)]
    obtain⟨j,hj⟩:=at_of (xs:=js) (i:=i) hlt
    obtain⟨z,hz1,hz2,hz3⟩:=hw i j hj
    refine iteT ⟨_,rfl, .inl ⟨rfl,_,SqL.of e2⟩,_,rfl,x,dx2,fs2,rfl,hx2,m5 _ (by cutsat) (by cutsat) (by cutsat),_,rfl,t,d.qe,dD,fD,_,rfl,D2.o (i:=0) rfl rfl,W.qe.cl,W.qL,D.fd.f3,x,wl,k3,L,p+i,j,ws,S.vn,z,rfl,R2,hwl2,D2.o (i:=3) rfl rfl,hz1,hz2,hz3,nd,by lia,fun H3 b3 R3=>?_⟩
    have e3:=b3 _ _ nox e2
    rwa[o,9,e3,kan (by rw[Mu,MU];lia),?_]
    have e4:(js.take i).map iV++[iV j]=(js.take (i+1)).map iV:=by rw[take_snoc hj,MC];rfl
    rw[e4]
    rwa[⟨i+1,hlt,But.fresh fo (b2.trans b3) (nx e3),kad,?_,rfl⟩,?_]
    ·obtain⟨dx3,fs3,hx3,r3⟩:=id R3
     rwa[dx3,fs3,by rw[kah (Ne.symm nox)];exact hx3,r3]
    ·show(match(upd H3 o _) o with|some (.lst xs)=>9-xs.length|_=>0)<(match H2 o with|some (.lst xs)=>9-xs.length|_=>0)
     rw[kad,e2]
     show 9-((js.take (i+1)).map iV).length<9-((js.take i).map iV).length
     rw[Mu,Mu,MU,MU]
     lia
   ·have ei:i=js.length:=by lia
    subst ei
    rw[decide_eq_false (by lia)]
    refine iteF (iteF ?_)
    rwa[8,x,dx2,fs2,6,hx2,m5 _ (by cutsat) (by cutsat) (by cutsat),x,wl,L,_,ws,6,R2,hwl2,by lia,?_]
    rw[M0] at e2
    rwa[8,k _ o wl b2 fo e2 (by rw[hln];exact R2)]
  ·rintro σ H' Q' Q'' hq ⟨v,hv',x',dx',fs',e,hx',no,x2,wl2,L2,p2,ws2,e2,R2',hw2,c,ec,q⟩
   rwa[v,hv',x',dx',fs',e,hx',no,x2,wl2,L2,p2,ws2,e2,R2',hw2,c,ec,?_]
   cases c with
   |false=>
    rw[if_neg MD] at q
    exact iteF (hq _ _ q)
   |true=>
    rw[if_pos rfl] at q
    obtain⟨v1,hv1,p1,ys,e1,hs,i,j,ei,ej,b,eb,qq⟩:=q
    exact iteT ⟨v1,hv1,p1,ys,e1,hs,i,j,ei,ej,b,eb,hq _ _ qq⟩
theorem kh6{X:Cx}{K:Mt}{e:Expr}{ta:TE}{fl:Str}{pos:Pos}(he:PE X e ta)(hb:attributeBase e fl X.env (eval e X.env)=eval e X.env)(hK:autoParam (X.K=K) jz):PE X (.Attribute e fl pos) (tFldX K ta fl):=by
 subst hK
 exact km5 he hb
noncomputable def useV(T:TillD)(B:Bask)(hand:List Int)(o:List Nat):List V:=match kdf T B hand o with
 |none=>[.str ("price" :Str), .int (kkI T B o).total]
 |some (k,z)=>[.str ("fault" :Str),iV k,z]
inductive kfH(d:D)(vs:List V)(H:Hp)(Q:VK)(E_:XK):Prop
 |ct(G:Hp)(ms:List Addr)(S:DeskD)(t x:Addr)(L:Int)(ws:List Str)(p:Nat)(js:List Nat)(kvs:List (Key×V))(hand:List Int)(B:Bask)(_:vs=[.ref x, .ref t])(_:ms[0]?>>t)(_:x∉ms)(_:kbp d G H ms S)(_:RowIn d G H x L ws p)(_:OrdW ws p S.vn js)(_:js.length<=8)(_:S.vn.Nodup)(_:S.vn.length<=100)(_:ke8 ⟨S.ps,S.vs,S.rs,S.bk⟩)(_:S.bs.getLast?>>B)(_:Wf S.ps B (stnd0 B))(_:S.hs.getLast?>>kvs)(_:hand.length=S.vs.length)(_:S.vs.length<=100)(_:(∀n z,hand[n]?>>z->hldM kvs n=.int z))(_:(∀n∈js,n<S.vs.length))(_:∀(H':Hp)(a:Addr),But x H H'->(∃o,H' x>>o)->H a=none->H' a>>(.tup (useV ⟨S.ps,S.vs,S.rs,S.bk⟩ B hand js))->Q (.ref a) H'):kfH d vs H Q E_
theorem QZ:kam ["row","desk","order","bill","refusal"] ["row","desk"] (kaf keL):=by ac_rfl
theorem kfq(W:WB K mg d base):FO P w W 10 d.qW d.Zw ["row","desk"] (kfH d):=by
 exists W.Xt.F,QZ
 ·obtain⟨G,ms,S,t,x,L,ws,p,js,kvs,hand,B,rfl,et,hxm,hD,hRI,hO,h8,nd,hv,tok,eB,wf0,eH,hhl,hvs,hhd,hlt,k⟩:=h
  obtain⟨dD,fD,t0,k1,k2,k3,k4,rl,bl,hl,ha,va,ra,ba,D⟩:=id hD
  have et':=et
  rw[D.em] at et'
  cases et'
  have gx:=hRI.1
  have onx:∀{H':Hp},But x H H'->DeskA d G H' ms S dD fD t k1 k2 k3 k4 rl bl hl ha va ra ba:=fun {H'} b=>D.on (M:=[x]) (.of_but Mx b) (fun m hm h=>hxm (ME.mp h▸hm)) (fun m hm=>by rw[ME.mp hm];exact gx)
  exists Jz,kfX,W
  exists GX_priced,kfp,W
  exists JA,kcA,W
  exists Yd,kbh,W
  exists JB,kcB,W
  have hr1:Room 1 _:=hr.mono (by decide)
  have hr3:Room 3 _:=hr.mono (by decide)
  have hr5:Room 5 _:=hr.mono (by decide)
  refine⟨_,kac (psl (i:=2) QZ.nd (pcl Jz hr5 W.Uc (kaa (pv 0) (kaa (pv 1) kae))))
   (kac (knR (n:="refusal") (i:=4) ki4 QZ.nd rfl rfl rfl W.Uu (knv (i:=3) QZ.nd (kmG ki4 (fun _ _ z=>z) GX_priced hr rfl W.q0.m W.q0.F.kp W.q0.b .nil (kaa (kaz (pv 1) W.qe.cl W.Us.me JA hr3 W.Us.b .nil pass0) (kaa (kaz (pv 1) W.qe.cl W.QO.me Yd hr1 W.QO.b .nil pass0) (kaa (kaz (pv 1) W.qe.cl W.Ut.me JB hr1 W.Ut.b .nil pass0) (kaa (pv 2) kae)))))) (fun _=>kag (kao (ka7 (kaa kat (kaa (kh6 (K:=K) (pv 4) rfl) (kaa (kh6 (K:=K) (pv 4) rfl) kae)))))))
   (kag (kao (ka7 (kaa kat (kaa (kaj (K:=K) (pv 3) rfl) kae)))))),?_⟩
  rwa[8,8,G,ms,S,t,x,L,ws,p,js,6,et,hxm,hD,hRI,hO,h8,nd,hv,fun H1 o wl b1 fo eo R1=>?_]
  have D1:=onx b1
  obtain⟨dx1,fs1,hx1,_⟩:=id R1
  rwa[8,t,dD,fD,6,D1.o (i:=0) rfl rfl,D.fd.no _ (by cutsat),G,ms,S,t,6,et,⟨_,_,_,_,_,_,_,_,_,_,_,_,_,_,D1⟩,fun H2 tl s2 ftl hT=>?_]
  have b2:=b1.same s2
  have D2:=onx b2
  have DA2:kbp d G H2 ms S:=⟨_,_,_,_,_,_,_,_,_,_,_,_,_,_,D2⟩
  rwa[8,t,dD,fD,6,D2.o (i:=0) rfl rfl,D.fd.no _ (by cutsat),G,ms,S,t,B,6,et,DA2,eB,fun b hB=>?_]
  rwa[8,t,dD,fD,6,D2.o (i:=0) rfl rfl,D.fd.no _ (by cutsat),G,ms,S,t,kvs,hand,6,et,DA2,eH,hhl,hvs,hhd,fun l fl=>?_]
  have n3:=kai (o:=.lst (hand.map V.int)) fl
  have e3:(upd H2 l (.lst (hand.map V.int))) l>>(.lst (hand.map V.int)):=kad
  generalize upd H2 l (.lst (hand.map V.int))=H3 at *
  have b3:=b2.same n3
  have hx3:=n3 _ _ (s2 _ _ hx1)
  have fin:∀{H4:Hp}{a:Addr}{o':HO},Same H3 H4->H4 a=none->But x H (upd H4 a o')/\(∃o,(upd H4 a o') x>>o)/\H a=none:=fun {H4 a o'} s4 fa=>⟨b3.same (s4.trans (kai fa)),⟨_,(s4.trans (kai fa)) _ _ hx3⟩,But.free b3 hx3 (s4.free fa)⟩
  rwa[8,tl,b,l,o,⟨S.ps,S.vs,S.rs,S.bk⟩,B,hand,js,6,hT.same n3,tok,(hB.same D2.sub).same n3,wf0,e3,n3 _ _ (s2 _ _ eo),hhl,hlt,by lia,fun hf H0 H4 bi s30 s04 hBi=>?_,fun kk z hf H4 dx s4 hd=>⟨W.xm_NotLet_NotLet,fun a fa=>?_⟩]
  ·obtain⟨dxB,fsB,oB,sB,pB,saB,hb,lb1,lb2,lb3,lb4,lb5,_⟩:=id hBi
   rwa[8,bi,d.qj,dxB,fsB,8,hb,W.qj.cl,W.XD,lb5,(by show 2<=sizeLine;decide),fun a fa=>?_]
   obtain⟨q1,q3,q2⟩:=fin (s30.trans s04) fa
   refine k _ a q1 q3 q2 ?_
   rw[kad]
   unfold useV
   rw[hf]
  ·have n5:=kai (o:=ExcO a (.ref d.qk) (some dx)) fa
   have e5:(upd H4 a (ExcO a (.ref d.qk) (some dx))) a>>(ExcO a (.ref d.qk) (some dx)):=kad
   generalize upd H4 a (ExcO a (.ref d.qk) (some dx))=H5 at *
   have hd5:=n5 _ _ hd
   rwa[8,a,d.qk,d.qH,dx,_,8,e5,hd5,W.x_NotLet,W.w_NotLet,W.Uv,6,8,a,d.qk,d.qH,dx,_,8,e5,hd5,W.x_NotLet,W.w_NotLet,W.Uw,6,(by show 3<=sizeLine;decide),fun q fq=>?_]
   obtain⟨q1,q3,q2⟩:=fin (s4.trans n5) fq
   refine k _ q q1 q3 q2 ?_
   rw[kad]
   unfold useV
   rw[hf]
inductive Tells:DeskD->List Str->DeskD->Prop
 |kind {S:DeskD} {z:Str} (h1:NameW z) (h2:z∉S.kn++S.vn) (h3:S.ps.length<20) (h4:S.kn.length=S.ps.length) (h5:S.vn.length<=100):Tells S [("kind" :Str),z] {S with kn:=S.kn++[z],ps:=S.ps++[none]}
 |vch {S:DeskD} {z y:Str} {n:Int} (h1:NameW z) (h2:NumW y n) (h3:0<=n) (h4:n<=1000000000000) (h5:z∉S.kn++S.vn) (h6:S.vs.length<8) (h7:S.vn.length=S.vs.length) (h8:S.kn.length<=100):Tells S [("voucher" :Str),z,("off" :Str),y] {S with vn:=S.vn++[z],vs:=S.vs++[⟨.off n,mks0⟩]}
 |rule {S:DeskD} {a b c:Str} {i j:Nat} (h1:NameW a) (h2:NameW b) (h3:c∈kdh) (h4:S.vn[i]?>>a) (h5:S.vn[j]?>>b) (h6:S.vn.Nodup) (h7:S.vn.length<=100) (h8:S.rs.length<20):Tells S [("rule" :Str),a,c,b] {S with rs:=S.rs++[rulM c i j]}
 |bask {S:DeskD} {z:Str} {n:Int} (h1:NumW z n) (h2:0<=n) (h3:n<=1000000000000) (h4:S.bs.length<20) (h5:S.hs.length<20):Tells S [("basket" :Str),z] {S with bs:=S.bs++[⟨[],n,false⟩],hs:=S.hs++[[]]}
 |ware {S:DeskD} {z1 z2 z3:Str} {n2 n3:Int} {j:Nat} {B:Bask} (h1:NameW z1) (h2:NumW z2 n2) (h3:NumW z3 n3) (h4:0<=n2) (h5:n2<=1000000000000) (h6:0<=n3) (h7:n3<=20) (h8:S.kn[j]?>>z1) (h9:S.kn.Nodup) (h10:S.kn.length<=100) (h11:S.bs.getLast?>>B) (h12:B.rs.length<12) (h13:((B.rs++[(⟨j,n2,n3,none⟩:War.Row)]).map fun r=>r.mn).sum<=60):Tells S [("ware" :Str),z1,z2,z3] {S with bs:=S.bs.dropLast++[⟨B.rs++[⟨j,n2,n3,none⟩],B.cg,B.m⟩]}
 |hold {S:DeskD} {z y:Str} {n:Int} {j:Nat} {kvs:List (Key×V)} (h0:S.bs.length≠0) (h1:NameW z) (h2:NumW y n) (h3:0<=n) (h4:n<=5) (h5:S.vn[j]?>>z) (h6:S.vn.Nodup) (h7:S.vn.length<=100) (h8:S.hs.getLast?>>kvs) (h9:kvs.length<=100):Tells S [("hold" :Str),z,y] {S with hs:=S.hs.dropLast++[putK kvs (.inl (j:Int)) (.int n)]}
inductive Asks:DeskD->List Str->List V->Prop
 |use {S:DeskD} {ws:List Str} {js:List Nat} {kvs:List (Key×V)} {hand:List Int} {B:Bask} (h1:OrdW (("use" :Str)::ws) 1 S.vn js) (h2:js.length<=8) (h3:S.vn.Nodup) (h4:S.vn.length<=100) (h5:ke8 ⟨S.ps,S.vs,S.rs,S.bk⟩) (h6:S.bs.getLast?>>B) (h7:Wf S.ps B (stnd0 B)) (h8:S.hs.getLast?>>kvs) (h9:hand.length=S.vs.length) (h10:S.vs.length<=100) (h11:∀n z,hand[n]?>>z->hldM kvs n=.int z) (h12:∀n∈js,n<S.vs.length):Asks S (("use" :Str)::ws) (useV ⟨S.ps,S.vs,S.rs,S.bk⟩ B hand js)
inductive Runs:DeskD->List (Nat×List Str)->List (Nat×List V)->Prop
 |nil {S:DeskD}:Runs S [] []
 |tell {S S':DeskD} {n:Nat} {ws:List Str} {rs:List (Nat×List Str)} {os:List (Nat×List V)} (b:S.bs.length<=1000) (h:Tells S ws S') (t:Runs S' rs os):Runs S ((n,ws)::rs) os
 |ask {S:DeskD} {n:Nat} {ws:List Str} {v:List V} {rs:List (Nat×List Str)} {os:List (Nat×List V)} (b:S.bs.length<=1000) (h:Asks S ws v) (t:Runs S rs os):Runs S ((n,ws)::rs) ((n,v)::os)
noncomputable def fw(S:DeskD):List Str:=if S.bs.length=0 then FW1 else FW1++FW2
theorem keX{α:Type}{xs:List α}{a: α}(h:xs.getLast?>>a):xs.length≠0:=fun e=>by
 rw[AA.mp e] at h
 cases h
theorem kkm{S:DeskD}{z:Str}(h0:S.bs.length≠0)(h:z∈FW2):z∈fw S:=by
 unfold fw
 rw[if_neg h0]
 exact Ea _ h
theorem kip{S:DeskD}{z:Str}(h:z∈FW1):z∈fw S:=by
 unfold fw
 split
 ·exact h
 ·exact Dz _ h
abbrev kkO:List Str:=[("kind" :Str),("voucher" :Str),("rule" :Str),("basket" :Str),("ware" :Str),("hold" :Str)]
theorem Tells.first{S S':DeskD}{ws:List Str}(h:Tells S ws S'):∃z,ws[0]?>>z/\z∈kkO/\z∈fw S:=by
 cases h with
 |kind=>exact⟨_,rfl,by cutsat,kip (by cutsat)⟩
 |vch=>exact⟨_,rfl,by cutsat,kip (by cutsat)⟩
 |rule=>exact⟨_,rfl,by cutsat,kip (by cutsat)⟩
 |bask=>exact⟨_,rfl,by cutsat,kip (by cutsat)⟩
 |ware _ _ _ _ _ _ _ _ _ _ h11=>exact⟨_,rfl,by cutsat,kkm (keX h11) (by cutsat)⟩
 |hold h0=>exact⟨_,rfl,by cutsat,kkm h0 (by cutsat)⟩
theorem Tells.sp{S S':DeskD}{ws:List Str}(T:Tells S ws S'){G H:Hp}{ms:List Addr}{t x:Addr}{L:Int}{R:Hp->Prop}(et:ms[0]?>>t)(hx:x∉ms)(hD:kbp d G H ms S)(hR:RowIn d G H x L ws 1)(k:RdQ d G H ms x S' R):∃z sp,ws[0]?>>z/\TellS d z sp/\sp [.ref x, .ref t] H (fun _ H'=>R H') E0:=by
 cases T with
 |kind h1 h2 h3 h4 h5=>exact⟨_,_,rfl, .inl ⟨rfl,rfl⟩,G,ms,S,t,x,L,_,1,_,rfl,et,hx,hD,hR,rfl,rfl,h1,h2,h3,h4,h5,k⟩
 |vch h1 h2 h3 h4 h5 h6 h7 h8=>exact⟨_,_,rfl, .inr (.inl ⟨rfl,rfl⟩),G,ms,S,t,x,L,_,_,1,_,_,rfl,et,hx,hD,hR,rfl,rfl,rfl,rfl,h1,h2,h3,h4,h5,h6,h7,h8,k⟩
 |rule h1 h2 h3 h4 h5 h6 h7 h8=>exact⟨_,_,rfl, .inr (.inr (.inl ⟨rfl,rfl⟩)),G,ms,S,t,x,L,_,1,_,_,_,_,_,rfl,et,hx,hD,hR,rfl,rfl,rfl,rfl,h1,h2,h3,h4,h5,h6,h7,h8,k⟩
 |bask h1 h2 h3 h4 h5=>exact⟨_,_,rfl, .inr (.inr (.inr (.inl ⟨rfl,rfl⟩))),G,ms,S,t,x,L,_,_,1,_,rfl,et,hx,hD,hR,rfl,rfl,h1,h2,h3,h4,h5,k⟩
 |ware h1 h2 h3 h4 h5 h6 h7 h8 h9 h10 h11 h12 h13=>exact⟨_,_,rfl, .inr (.inr (.inr (.inr (.inl ⟨rfl,rfl⟩)))),G,ms,S,t,x,L,_,_,_,1,_,_,_,_,_,rfl,et,hx,hD,hR,rfl,rfl,rfl,rfl,h1,h2,h3,h4,h5,h6,h7,h8,h9,h10,h11,h12,h13,k⟩
 |hold h0 h1 h2 h3 h4 h5 h6 h7 h8 h9=>exact⟨_,_,rfl, .inr (.inr (.inr (.inr (.inr ⟨rfl,rfl⟩)))),G,ms,S,t,x,L,_,_,1,_,_,_,_,rfl,et,hx,hD,hR,rfl,rfl,rfl,h1,h2,h3,h4,h5,h6,h7,h8,h9,k⟩
def AskF(d:D)(a:Addr)(sp:Sp):Prop:=a=d.qW/\sp=kfH d
theorem kom(W:WB K mg d base):∀a sp,AskF d a sp->∃fd ps,FO P w W 10 a fd ps sp/\MJ K (.ref a)=true/\Binds K fd ps []:=by
 rintro a sp ⟨rfl,rfl⟩
 rwa[_,_,kfq W,W.Xt.F.kp,W.Xt.b]
noncomputable def DESK0:DeskD:=⟨[],[],[],[],[],("again" :Str),[],[]⟩
def FndIs(H:Hp)(a:Addr)(r:Nat×List V):Prop:=∃q,H a>>(.tup [iV r.1, .str ("use" :Str), .ref q])/\H q>>(.tup r.2)
theorem FndIs.same{H H':Hp}{a:Addr}{r:Nat×List V}(s:Same H H'):FndIs H a r->FndIs H' a r:=by rintro⟨q,h1,h2⟩;exact⟨q,s _ _ h1,s _ _ h2⟩
theorem RowAt.on{d:D}{M:List Addr}{H H':Hp}{x wl:Addr}{L:Int}{p:Nat}(n:x∉M)(c:Chg M H H'):RowAt d H x L wl p->RowAt d H' x L wl p:=by rintro⟨dx,fs,h,r⟩;exact⟨dx,fs,c _ _ n h,r⟩
theorem kfj{H0 H:Hp}:∀{xs:List Addr}{rs:List (Nat×List Str)},P2 (fun x r=>RowNew d H0 H x r) xs rs->∃wls:List Addr,(∀w∈wls,H0 w=none/\∃ys,H w>>(.lst ys))/\P2 (fun x r=>∃wl,wl∈wls/\H0 x=none/\RowAt d H x (r.1:Int) wl 0/\H wl>>(.lst (r.2.map V.str))) xs rs
 |_,_, .nil=>⟨[],fun _ h=>(by cases h), .nil⟩
 |_,_, .cons h t=>by
  obtain⟨wl,f1,f2,hr,hw⟩:=h
  obtain⟨wls,h1,h2⟩:=kfj t
  rwa[wl::wls,fun w hm=>?_, .cons ⟨wl,Mx,f1,hr,hw⟩ (h2.mono fun _ _ ⟨w,hm,r⟩=>⟨w,MH _ hm,r⟩)]
  rcases MB.mp hm with rfl|hm
  ·rwa[f2,_,hw]
  ·exact h1 w hm
inductive AnsI(d:D)(H0 H:Hp)(t fo rl:Addr)(xs:List Addr)(rows:List (Nat×List Str))(os:List (Nat×List V))(i:Nat):Prop
 |ct(G:Hp)(ms:List Addr)(S:DeskD)(fa:List Addr)(os1 os2:List (Nat×List V))(_:Same H0 G)(_:kbp d G H ms S)(_:ms[0]?>>t)(_:G rl>>(.lst (xs.map V.ref)))(_:fo∉ms)(_:G fo=none)(_:H fo>>(.lst (fa.map V.ref)))(_:fa.length<=i)(_:P2 (fun a r=>FndIs G a r) fa os1)(_:(∀j x r,i<=j->xs[j]?>>x->rows[j]?>>r->x∉ms/\RowIn d G H x (r.1:Int) r.2 0))(_:os=os1++os2)(_:Runs S (rows.drop i) os2):AnsI d H0 H t fo rl xs rows os i
theorem kkM{H H1 H3:Hp}{t dx fo rl k1 k2 k3 k4 r0 bl hl:Addr}{fs:List (Str×V)}{xs:List Addr}{rows:List (Nat×List Str)}{os:List (Nat×List V)}(htb:Tbs d H)(B:Bld d H H1 t dx fs [k1,k2,k3,k4,r0,bl,hl] 9)(hF:DeskF fs k1 k2 k3 k4 r0 bl hl ("again" :Str))(ffo:H1 fo=none)(s3:Same (upd H1 fo (.lst [])) H3)(frl:(upd H1 fo (.lst [])) rl=none)(erl:H3 rl>>(.lst (xs.map V.ref)))(hr:P2 (fun x r=>RowNew d (upd H1 fo (.lst [])) H3 x r) xs rows)(run:Runs DESK0 rows os):AnsI d H H3 t fo rl xs rows os 0:=by
 have n1:=kai (o:=.lst []) ffo
 have efo:(upd H1 fo (.lst [])) fo>>(.lst []):=kad
 generalize upd H1 fo (.lst [])=H2 at *
 have s02:=B.s.trans n1
 have s13:=n1.trans s3
 have s03:=s02.trans s3
 obtain⟨wls,hw,hr'⟩:=kfj hr
 have hN:∀b∈rl::wls,H2 b=none/\∃ys,H3 b>>(.lst ys):=fun b hb=>by
  rcases MB.mp hb with rfl|hb
  ·rwa[frl,_,erl]
  ·exact hw b hb
 have hms:∀m∈[t,k1,k2,k3,k4,r0,bl,hl],H m=none/\∃o,H1 m>>o:=fun m hm=>by
  rcases MB.mp hm with rfl|hm
  ·rwa[B.f,_,B.i]
  ·rwa[(B.k m hm).2,_,(B.k m hm).1]
 have kk:∀k∈[k1,k2,k3,k4,r0,bl,hl],H3 k>>(.lst []):=fun k hk=>s13 _ _ (B.k k hk).1
 have at0:P2 (fun m o=>H3 m>>o) [t,k1,k2,k3,k4,r0,bl,hl] (dObjs d dx fs DESK0 [] [] [] []):=.cons (s13 _ _ B.i) (.cons (kk _ (by simp)) (.cons (kk _ (by simp)) (.cons (kk _ (by simp)) (.cons (kk _ (by simp)) (.cons (kk _ (by simp)) (.cons (kk _ (by simp)) (.cons (kk _ (by simp)) .nil)))))))
 have D1:DeskA d H H3 [t,k1,k2,k3,k4,r0,bl,hl] DESK0 dx fs t k1 k2 k3 k4 r0 bl hl [] [] [] []:={em:=rfl,fd:=hF,sub:=s03,tb:=htb,fr:=fun m hm=>(hms m hm).1,nd:=B.nd,at':=at0,vs:=.nil,rs:=.nil,bs:=.nil}
 obtain⟨sN1,sN2⟩:=kdg (N:=rl::wls) s03 (fun b hb=>s02.free (hN b hb).1) fun b hb=>by
  obtain⟨_,ys,e⟩:=hN b hb
  rwa[_,e,6,fun _ z=>by cases z]
 have out:∀{b:Addr},H2 b≠none->H b=none->ext (rl::wls) H H3 b=none:=fun h g=>kbu (fun b hb=>(hN b hb).1) h g
 have live:∀m∈[t,k1,k2,k3,k4,r0,bl,hl],H2 m≠none:=fun m hm e=>by
  obtain⟨_,o,ho⟩:=hms m hm
  rw[n1.free e] at ho
  cases ho
 have D2:=D1.more sN1 sN2 fun m hm=>out (live m hm) (hms m hm).1
 rwa[_,_,_,[],[],os,sN1,⟨_,_,_,_,_,_,_,_,_,_,_,_,_,_,D2⟩,6,by rw[kbv Mx];exact erl,fun hm=>?_,out (by rw[efo];simp) (B.s.free ffo),s3 _ _ efo,Mv _, .nil,fun j x r _ ex er=>?_,6,run]
 ·obtain⟨_,o,ho⟩:=hms fo hm
  rw[ffo] at ho
  cases ho
 ·obtain⟨wl,hwm,fx,hR,hwl⟩:=hr'.get ex er
  rwa[fun hm=>live x hm fx,?_,wl,hR,by rw[kbv (MH _ hwm)];exact hwl]
  rw[kc1 fun hb=>?_]
  ·exact s02.free fx
  ·obtain⟨_,ys,e⟩:=hN x hb
   obtain⟨dx',fs',hx,_⟩:=hR
   rw[e] at hx
   cases hx
theorem tw_no{d:D}{z:Str}(h:z∈kkO):(PyProof.Rows.KTD.datumAt z [(("use" :Str),V.ref d.qW),(("best" :Str), .ref d.VG),(("buy" :Str), .ref d.VH),(("take" :Str), .ref d.VI),(("never" :Str), .ref d.VJ),(("unlike" :Str), .ref d.VL),(("spill" :Str), .ref d.VM)]).isSome=false:=by
 simp only[kkO,MB,MR,or_false] at h
 rcases h with rfl|rfl|rfl|rfl|rfl|rfl <;> rfl
theorem Asks.first{S:DeskD}{ws:List Str}{v:List V}(h:Asks S ws v):∃z,ws[0]?>>z/\z∈fw S:=by
 cases h with
 |use _ _ _ _ _ h6=>exact⟨_,rfl,kkm (keX h6) (by cutsat)⟩
theorem Runs.first{S:DeskD}{n:Nat}{ws:List Str}{rs:List (Nat×List Str)}{os:List (Nat×List V)}(h:Runs S ((n,ws)::rs) os):S.bs.length<=1000/\∃z,ws[0]?>>z/\z∈fw S:=by
 cases h with
 |tell b h _=>
  obtain⟨z,e,_,f⟩:=h.first
  rwa[b,z,e,f]
 |ask b h _=>exact⟨b,h.first⟩
theorem kjG(text:Str):(rowsM text).length<=(Txt.split text NL).length:=by
 unfold rowsM
 refine Mz (Do _ _) ?_
 rw[kcR]
 exact Mv _
inductive kgn(d:D)(vs:List V)(H:Hp)(Q:VK)(E_:XK):Prop
 |ct(text:Str)(os:List (Nat×List V))(_:vs=[.str text])(_:Tbs d H)(_:text.length+2<=1000000)(_:(Txt.split text NL).length<=1000)(_:(∀l∈Txt.split text NL,l.length+2<=1000000/\(Txt.split l BL).length<=1000))(_:Runs DESK0 (rowsM text) os)(_:∀(H':Hp)(l:Addr)(fa:List Addr),Same H H'->H l=none->H' l>>(.lst (fa.map V.ref))->P2 (fun a r=>FndIs H' a r) fa os->Q (.ref l) H'):kgn d vs H Q E_
theorem Qp:kam ["text","desk","found","row","word"] ["text"] (kaf keM):=by ac_rfl
theorem kiS(W:WB K mg d base):FO P w W 11 d.Zq d.Zr ["text"] (kgn d):=by
 exists W.Ua.F,Qp
 ·obtain⟨text,os,rfl,htb,hl1,hl2,hl3,hrun,k⟩:=h
  exists JC,kgJ,W
  exists JD,kiP,W
  exists qv,ka8,W
  exists JE,kfd,W
  exists Ms,kfq,W
  exists JF,keR,W
  have hr1:Room 1 _:=hr.mono (by decide)
  have hr3:Room 3 _:=hr.mono (by decide)
  have hr9:Room 9 _:=hr.mono (by decide)
  refine⟨_,kac (psl (i:=1) Qp.nd (kh5 (W.XI.mk' W.qe) JC hr3 rfl W.qe.m W.XI.b .nil pass0))
   (kac (psl (i:=2) Qp.nd (kaJ kae))
   (kac (kcF PassesOwn.never rfl (kaK (K:=K) (pcl JD hr3 W.V7 (kaa (pv 0) kae))) (pgn (i:=3) Qp.nd)
   (kac (psl (i:=4) Qp.nd (kaH (pv 3) W.c_Row.cl W.qt.me qv hr3 W.qt.b .nil pass0 (kaa (pcl JE hr1 W.Ub (kaa (pv 1) kae)) kae)))
   (kag (ps_if (knQ (kn0 W.t_QUESTIONS (pv 4) (kaI (v:=.ref d.a_QUESTIONS) (by rfl) W.g_QUESTIONS rfl))) (kag (kay (pe_bm MW M1 M3 kaG (pv 2) (kaa (ka7 (kaa (kaj (K:=K) (pv 3) rfl) (kaa (pv 4) (kaa (kh8 (kjW W.t_QUESTIONS (kaI (v:=.ref d.a_QUESTIONS) (by rfl) W.g_QUESTIONS rfl) (pv 4) (fun _ _=>rfl)) (kom W) hr (kaa (pv 3) (kaa (pv 1) kae))) kae)))) kae)))) (kag (kay (pcl JF hr9 W.V3 (kaa (pv 4) (kaa (pv 3) (kaa (pv 1) kae))))))))))
   (kag (kao (pv 2))))),?_⟩
  refine fun t dx ft fdx ndx=>⟨H,t,dx,rfl,⟨ka3 ft fdx,ft,kad,by simp,by simp,Mv _⟩,fun H1 fs k1 k2 k3 k4 r0 bl hl B1 hF hacc=>⟨rfl,?_⟩⟩
  rwa[(by show 0<=sizeLine;decide),fun fo ffo=>?_]
  rwa[8,text,6,hl1,hl2,hl3,fun H3 rl xs s3 frl erl hrows ndx=>?_]
  have st:=kkM htb B1 hF ffo s3 frl erl hrows hrun
  have hlen:=hrows.len
  have hrl:=kjG text
  have hfo:H fo=none:=B1.s.free ffo
  rwa[rl,6,⟨_,SqL.of erl⟩,kca (xs:=xs.map V.ref) (fun i σ H'=>AnsI d H H' t fo rl xs (rowsM text) os i/\∃v3 v4,σ=[some (.str text),some (.ref t),some (.ref fo),v3,v4]) ⟨st,_,_,rfl⟩ ?_ ?_ ?_]
  ·rintro i σ H' hi ⟨⟨G,ms,S,fa,os1,os2,sG,⟨dD,fD,t0,k1,k2,k3,k4,r0,bl,hl,ha,va,ra,ba,D⟩,et,gr,_⟩,_⟩
   exact SqL.of (D.sub _ _ gr)
  ·rintro i y σ H' hy ⟨⟨G,ms,S,fa,os1,os2,sG,hDA,et,gr,nfo,gfo,efo,lfa,hfa,hrw,hos,hru⟩,v3,v4,rfl⟩
   obtain⟨dD,fD,t0,k1,k2,k3,k4,r0,bl,hl,ha,va,ra,ba,D⟩:=id hDA
   obtain⟨x,ex,rfl⟩:=kcS hy
   obtain⟨⟨n,ws⟩,er⟩:=at_of (xs:=rowsM text) (i:=i) (by have:=at_lt ex;lia)
   obtain⟨hxm,gx,wl,hR,gw⟩:=hrw i x _ (Mv _) ex er
   have hR:RowAt d H' x (n:Int) wl 0:=hR
   have gw:G wl>>(.lst (ws.map V.str)):=gw
   have hdrop:(rowsM text).drop i=(n,ws)::(rowsM text).drop (i+1):=by
    obtain⟨hlt,e⟩:=MO.mp er
    rw[D8 hlt,e]
   rw[hdrop] at hru
   have et':=et
   rw[D.em] at et'
   cases et'
   have onx:∀{H' H'':Hp},DeskA d G H' ms S dD fD t k1 k2 k3 k4 r0 bl hl ha va ra ba->But x H' H''->DeskA d G H'' ms S dD fD t k1 k2 k3 k4 r0 bl hl ha va ra ba:=fun D b=>D.on (M:=[x]) (.of_but Mx b) (fun m hm h=>hxm (ME.mp h▸hm)) (fun m hm=>by rw[ME.mp hm];exact gx)
   obtain⟨hb,z,ez,hz⟩:=hru.first
   obtain⟨dx1,fs1,hx,l1,l2,l3,l4,l5⟩:=id hR
   have nfx:fo≠x:=fun e=>by rw[e,hx] at efo;cases efo
   rwa[8,x,dx1,fs1,6,hx,l5 _ (by cutsat) (by cutsat) (by cutsat),8,G,ms,S,t,6,et,hDA,hb,fun a H1 s1 ha=>?_]
   have D1:=D.same s1
   rwa[x,wl,a,_,0,ws,fw S,z,6,hR.same s1,D1.sub _ _ gw, .inr ha,ez,hz,fun H2 b2 R2=>?_]
   have b02:But x H' H2:=(But.of_same s1).trans b2
   have D2:=onx D b02
   have DA2:kbp d G H2 ms S:=⟨_,_,_,_,_,_,_,_,_,_,_,_,_,_,D2⟩
   have RI2:RowIn d G H2 x (n:Int) ws 1:=⟨gx,wl,R2,gw⟩
   have efo2:H2 fo>>(.lst (fa.map V.ref)):=b02 _ _ nfx efo
   obtain⟨dx2,fs2,hx2,m1,m2,m3,m4,m5⟩:=id R2
   have oth:∀j x' r,i+1<=j->xs[j]?>>x'->(rowsM text)[j]?>>r->x'∉x::ms/\RowIn d G H2 x' (r.1:Int) r.2 0:=fun j x' r hj ex' er'=>by
    obtain⟨h1,h2,wl',h3,h4⟩:=hrw j x' r (by lia) ex' er'
    have ne:x'≠x:=fun e=>by
     subst e
     have:=(DR (at_lt ex) ndx).mp (ex.trans ex'.symm)
     lia
    rwa[fun h=>(MB.mp h).elim ne h1,h2,wl',h3.on (M:=[x]) (fun h=>ne (ME.mp h)) (.of_but Mx b02),h4]
   rwa[8,z,6,6,8,?_]
   cases hru with
   | @tell _ S' _ _ _ _ _ hT hru'=>
    obtain⟨z',ez',hz',_⟩:=hT.first
    rw[ez] at ez'
    cases ez'
    rw[tw_no hz']
    refine iteF ?_
    have hk:RdQ d G H2 ms x S' (fun H''=>AnsI d H H'' t fo rl xs (rowsM text) os (i+1)/\∃v3 v4,[some (V.str text),some (.ref t),some (.ref fo),some (.ref x),some (.str z)]=[some (V.str text),some (.ref t),some (.ref fo),v3,v4]):=by
     intro H3 G' ms' c sG' kn mm e0 DA3
     rwa[⟨G',ms',S',fa,os1,os2,sG.trans sG',DA3,e0.trans et,sG' _ _ gr,?_,?_,?_,by lia,hfa.mono fun _ _ h=>h.same sG',?_,hos,hru'⟩,_,8]
     ·exact fun h=>(mm fo h).elim nfo fun e=>by rw[e] at efo2;cases efo2
     ·exact kn fo (by rw[efo2];simp) gfo
     ·exact c fo _ (fun h=>(MB.mp h).elim nfx nfo) efo2
     ·intro j x' r hj ex' er'
      obtain⟨h1,h2,wl',h3,h4⟩:=oth j x' r hj ex' er'
      obtain⟨dx',fs',hx',_⟩:=id h3
      rwa[fun h=>(mm x' h).elim (fun h=>h1 (MH _ h)) (fun e=>by rw[e] at hx';cases hx'),kn x' (by rw[hx'];simp) h2,wl',h3.on h1 c,sG' _ _ h4]
    obtain⟨z2,sp,ez2,hTS,hsp⟩:=hT.sp (d:=d) et hxm DA2 RI2 hk
    rw[ez] at ez2
    cases ez2
    rwa[8,8,8,z,x,t,sp,6,hTS,hsp]
   | @ask _ _ _ v _ os3 _ hA hru'=>
    cases hA with
    | @use ws' js kvs hand B h1 h2 h3 h4 h5 h6 h7 h8 h9 h10 h11 h12=>
     cases ez
     refine iteT ?_
     rwa[8, .inl ⟨rfl,_,SqL.of efo2⟩,8,x,d.c_Row,dx2,fs2,8,hx2,W.c_Row.cl,W.Uq,m1,8,8,9,6,_,8,⟨rfl,rfl⟩,8,8,G,ms,S,t,x,n,_,1,js,kvs,hand,B,6,et,hxm,DA2,RI2,h1,h2,h3,h4,h5,h6,h7,h8,h9,h10,h11,h12,fun H3 a3 b3 hx3 fa3 ea3=>?_]
     have b03:=b02.trans b3
     obtain⟨ox,hx3⟩:=hx3
     rwa[(by show 3<=sizeLine;decide),fun q fq=>?_]
     have n4:=kai (o:=.tup [.int (n:Int), .str ("use" :Str), .ref a3]) fq
     have e4:(upd H3 q (.tup [.int (n:Int), .str ("use" :Str), .ref a3])) q>>(.tup [.int (n:Int), .str ("use" :Str), .ref a3]):=kad
     generalize upd H3 q (.tup [.int (n:Int), .str ("use" :Str), .ref a3])=H4 at *
     have b04:=b03.same n4
     have b24:=b3.same n4
     have D4:=onx D b04
     have efo4:H4 fo>>(.lst (fa.map V.ref)):=b24 _ _ nfx efo2
     have fN:∀b∈[a3,q],H2 b=none:=fun b hb=>by
      simp only[MB,MR,or_false] at hb
      rcases hb with rfl|rfl
      ·exact fa3
      ·exact But.free b3 hx3 fq
     have ea4:=n4 _ _ ea3
     obtain⟨sN1,sN2⟩:=kdg (N:=[a3,q]) D4.sub (fun b hb=>D2.sub.free (fN b hb)) fun b hb=>by
      simp only[MB,MR,or_false] at hb
      rcases hb with rfl|rfl
      ·rwa[_,ea4,6,fun _ z=>by cases z]
      ·rwa[_,e4,6,fun _ z=>by cases z]
     have up:∀{b:Addr},H2 b≠none->G b=none->ext [a3,q] G H4 b=none:=fun h g=>kbu fN h g
     have D4':=D4.more sN1 sN2 fun m hm=>up (by obtain⟨o,ho,_⟩:=D2.here hm;rw[ho];simp) (D.fr m hm)
     have gfo':=up (by rw[efo2];simp) gfo
     rwa[fo,9,efo4,kan (by have:=at_lt er;rw[Mu];lia),?_]
     have c5:Chg [fo] H4 (upd H4 fo (.lst (fa.map V.ref++[.ref q]))):=.put Mx (nx efo4)
     have D5:=D4'.on c5 (fun m hm h=>nfo (ME.mp h▸hm)) (fun m hm=>by rw[ME.mp hm];exact gfo')
     have hq:FndIs (ext [a3,q] G H4) q (n,useV ⟨S.ps,S.vs,S.rs,S.bk⟩ B hand js):=⟨a3,by rw[kbv (MH _ Mx)];exact e4,by rw[kbv Mx];exact ea4⟩
     rwa[⟨_,ms,S,fa++[q],os1++[(n,useV ⟨S.ps,S.vs,S.rs,S.bk⟩ B hand js)],os3,sG.trans sN1,⟨_,_,_,_,_,_,_,_,_,_,_,_,_,_,D5⟩,et,sN1 _ _ gr,nfo,gfo',by rw[kad,MC];rfl,by rw[ML];show _+1<=_;lia,P2.snoc (hfa.mono fun _ _ h=>h.same sN1) hq,fun j x' r hj ex' er'=>?_,by rw[hos,M6];rfl,hru'⟩,_,8]
     obtain⟨h1',h2',wl',h3',h4'⟩:=oth j x' r hj ex' er'
     obtain⟨dx',fs',hx',_⟩:=id h3'
     have nx':x'≠fo:=fun e=>by rw[e,efo2] at hx';cases hx'
     rwa[fun h=>h1' (MH _ h),up (by rw[hx'];simp) h2',wl',(h3'.on (M:=[x]) (fun h=>h1' (ME.mp h▸Mx)) (.of_but Mx b24)).on (M:=[fo]) (fun h=>nx' (ME.mp h)) c5,sN1 _ _ h4']
  ·rintro σ H' ⟨⟨G,ms,S,fa,os1,os2,sG,⟨dD,fD,t0,k1,k2,k3,k4,r0,bl,hl,ha,va,ra,ba,D⟩,et,gr,nfo,gfo,efo,lfa,hfa,_,hos,hru⟩,v3,v4,rfl⟩
   rw[Mu,hlen,D9] at hru
   cases hru
   rw[El] at hos
   subst hos
   rwa[8,k H' fo fa (sG.trans D.sub) hfo efo (hfa.mono fun _ _ h=>h.same D.sub)]
inductive kjn(vs:List V)(H:Hp)(Q:VK)(E_:XK):Prop
 |ct(c k:Int)(_:vs=[.int c, .int k])(_:0<=k)(_:k<=1000)(_:∀z:Int,0<=z->z<998244353->Q (.int z) H):kjn vs H Q E_
theorem UJ:kam ["_law_cell_here","_law_k","_law_once"] ["_law_cell_here","_law_k"] (kaf kcO):=by ac_rfl
theorem kfZ(W:WB K mg d base):FO P w W 1 d.Zx d.Zy ["_law_cell_here","_law_k"] kjn:=by
 exists W.Qa.F,UJ
 ·obtain⟨c,k,rfl,k0,k1,kk⟩:=h
  refine⟨_,kac (psl (i:=2) UJ.nd (pe_op kbB (pe_op kgC (pe_op kbC (pe_op kbC (pe_op kbB (pv 0) kaq) (pe_op kgC kaq (pv 1))) kaq) kaq) kaq))
   (kag (kao (pe_op kbB (pe_op kgC (pv 2) (pe_op kbC (pe_op kbC (pe_op kbB (pv 2) kaq) (pv 1)) kaq)) kaq))),?_⟩
  rwa[8,9,(by show(0:Int)<1000000007;decide),8,9, .inl ⟨by decide,by decide⟩,9,9,9, .inr ⟨by decide,by decide⟩,9,(by show(0:Int)<2147483647;decide),?_]
  generalize ho:(c%1000000007+7*k+1)*48271%2147483647=o
  rwa[8,8,9,(by show(0:Int)<1009;decide),8,9,9,9, .inl ⟨by lia,by lia⟩,9,(by show(0:Int)<998244353;decide),?_]
  generalize o*(o%1009+k+3)=q
  exact kk _ (by lia) (by lia)
inductive kl7(K:Mt)(vs:List V)(H:Hp)(Q:VK)(E_:XK):Prop
 |ct(a:Addr)(ns:List Int)(n:Nat)(_:vs=[.ref a,iV n])(_:SqL K H a (ns.map V.int))(_:∀z:Int,Q (.int z) H):kl7 K vs H Q E_
theorem kgs:kam ["_law_script","_law_k"] ["_law_script","_law_k"] (kaf kdu):=by ac_rfl
theorem kgI(W:WB K mg d base):FO P w W 1 d.Zz d.ZA ["_law_script","_law_k"] (kl7 K):=by
 exists W.Ud.F,kgs
 ·obtain⟨a,ns,n,rfl,hS,kk⟩:=h
  refine⟨_,kac (ps_if (kav op_lt (pv 1) (kap (r:=kaQ K) kas (by rfl) W.B.len b_len (kaa (pv 0) kae)) (kaB _)) (kag (kao (pe_ix (r:=rIxL K) kaR (pv 0) (pv 1) (fun _ _=>rfl)))) (kau))
   (kag (kao kaq)),?_⟩
  rwa[8,8,a,8, .inl hS,9,8,ite2 (fun h=>?_) (fun _=>kk 0)]
  have hn:n<ns.length:=by
   have:(n:Int)<((ns.map V.int).length:Nat):=by simpa using h
   rw[Mu] at this
   lia
  obtain⟨z,ez⟩:=at_of hn
  rwa[8,8,a,_,9,hS,ka4 (v:=.int z) (by rw[MN,ez];rfl),kk z]
def Alk:Nat->Hp->V->V->Prop
 |0,_,_,_=>False
 |n+1,H,v,w=>(v=w/\(v=.non∨(∃z,v=.bl z)∨(∃z,v=.int z)∨∃z,v=.str z))∨∃(a b:Addr)(xs ys:List V),v=.ref a/\w=.ref b/\((H a>>(.lst xs)/\H b>>(.lst ys))∨(H a>>(.tup xs)/\H b>>(.tup ys)))/\xs.length=ys.length/\xs.length<=100/\∀(i:Nat)(x y:V),xs[i]?>>x->ys[i]?>>y->Alk n H x y
theorem Alk.same:∀{n:Nat}{H H':Hp}{v w:V},Same H H'->Alk n H v w->Alk n H' v w
 |0,_,_,_,_,_,h=>h
 | n+1,H,H',v,w,s,h=>by
  rcases h with h|⟨a,b,xs,ys,h1,h2,h3,h4,h5,h6⟩
  ·exact .inl h
  ·refine .inr ⟨a,b,xs,ys,h1,h2,?_,h4,h5,fun i x y e1 e2=>Alk.same s (h6 i x y e1 e2)⟩
   rcases h3 with⟨g1,g2⟩|⟨g1,g2⟩
   ·exact .inl ⟨s _ _ g1,s _ _ g2⟩
   ·exact .inr ⟨s _ _ g1,s _ _ g2⟩
inductive kdS(n:Nat)(vs:List V)(H:Hp)(Q:VK)(E_:XK):Prop
 |ct(v w:V)(_:vs=[v,w])(_:Alk n H v w)(_:∀H',Same H H'->Q (.bl true) H'):kdS n vs H Q E_
theorem khS{vs:List V}{H:Hp}{Q:VK}{E:XK}(h:kdS 0 vs H Q E):False:=by
 obtain⟨_,_,_,h,_⟩:=h
 exact h
theorem kfL:kam ["_law_found","_law_due"] ["_law_found","_law_due"] (kaf kcP):=by ac_rfl
theorem keC(W:WB K mg d base)(n:Nat)(G_rec:FO P w W (0+n) d.qX d.qY ["_law_found","_law_due"] (kdS n)):FO P w W (0+n+1) d.qX d.qY ["_law_found","_law_due"] (kdS (n+1)):=by
 exists W.Qb.F,kfL
 ·obtain⟨v,w,rfl,hv,k⟩:=h
  refine⟨_,kac (ps_if (kaX (kap (r:=kl8 K) kiZ (by rfl) W.B.isi b_isi (kaa (pv 1) (kaa (ka7 (kaa (kbK (v:=.ty "list") (by rfl) W.B.list kcr rfl) (kaa (kbK (v:=.ty "tuple") (by rfl) W.B.tuple khy rfl) kae))) kae)))) (kac (ps_if (PW.pt (pw_or (kav op_ne (kap (r:=rIsi K) kaD (by rfl) W.B.isi b_isi (kaa (pv 0) (kaa (kbK (v:=.ty "list") (by rfl) W.B.list kcr rfl) kae))) (kap (r:=rIsi K) kaD (by rfl) W.B.isi b_isi (kaa (pv 1) (kaa (kbK (v:=.ty "list") (by rfl) W.B.list kcr rfl) kae))) (kaB _)) (kh0 (kav op_ne (kap (r:=rIsi K) kaD (by rfl) W.B.isi b_isi (kaa (pv 0) (kaa (kbK (v:=.ty "tuple") (by rfl) W.B.tuple khy rfl) kae))) (kap (r:=rIsi K) kaD (by rfl) W.B.isi b_isi (kaa (pv 1) (kaa (kbK (v:=.ty "tuple") (by rfl) W.B.tuple khy rfl) kae))) (kaB _))))) (kag (kao pe_bl)) (kau))
   (kag (kao (kdK (kbJ op_eq (kap (r:=kaQ K) kas (by rfl) W.B.len b_len (kaa (pv 0) kae)) (kap (r:=kaQ K) kas (by rfl) W.B.len b_len (kaa (pv 1) kae)) (kaB _)) (kd5 (kap (kiw rfl) (by rfl) W.B.all b_all (kaa (kbf (N:=["_law_one","_law_other"]) (CompScope.plain rfl (by cutsat) (by cutsat) (by cutsat) (show(["_law_one","_law_other"]:List Str).Nodup by cutsat)) rfl (klg rfl W.B.zip (kaa (pv 0) (kaa (pv 1) kae))) (fun _ _ _ _=>kbm (K:=K) (n:=2) rfl (kaw (pgn (i:=0) (show(["_law_one","_law_other"]:List Str).Nodup by cutsat)) (kaw (pgn (i:=1) (show(["_law_one","_law_other"]:List Str).Nodup by cutsat)) kbl))) (fun _ _ _ _=>(kjY G_rec hr rfl W.Qb.m W.Qb.F.kp W.Qb.b .nil pass0 (kaa (pv 0) (kaa (pv 1) kae))))) kae))))))) (kau))
   (kac (ps_if (kav kfo (pv 1) kbg (kaB _)) (kag (kao (kbJ kfo (pv 0) kbg (kaB _)))) (kau))
   (kac (ps_if (kaX (kap (r:=rIsi K) kaD (by rfl) W.B.isi b_isi (kaa (pv 1) (kaa (kbK (v:=.ty "bool") (by rfl) W.B.bool kkJ rfl) kae)))) (kag (kao (kdK (kap (r:=rIsi K) kaD (by rfl) W.B.isi b_isi (kaa (pv 0) (kaa (kbK (v:=.ty "bool") (by rfl) W.B.bool kkJ rfl) kae))) (kd5 (kbJ op_eq (pv 0) (pv 1) (kaB _)))))) (kau))
   (kac (ps_if (kaX (kap (r:=rIsi K) kaD (by rfl) W.B.isi b_isi (kaa (pv 1) (kaa (kbK (v:=.ty "str") (by rfl) W.B.str b_str rfl) kae)))) (kag (kao (kdK (kap (r:=rIsi K) kaD (by rfl) W.B.isi b_isi (kaa (pv 0) (kaa (kbK (v:=.ty "str") (by rfl) W.B.str b_str rfl) kae))) (kd5 (kbJ op_eq (pv 0) (pv 1) (kaB _)))))) (kau))
   (kag (kao (kdK (kap (r:=rIsi K) kaD (by rfl) W.B.isi b_isi (kaa (pv 0) (kaa (kbK (v:=.ty "int") (by rfl) W.B.int b_int rfl) kae))) (kdK (knY (kap (r:=rIsi K) kaD (by rfl) W.B.isi b_isi (kaa (pv 0) (kaa (kbK (v:=.ty "bool") (by rfl) W.B.bool kkJ rfl) kae)))) (kd5 (kbJ op_eq (pv 0) (pv 1) (kaB _)))))))))),?_⟩
  rcases hv with⟨rfl,hv⟩|⟨a,b,xs,ys,rfl,rfl,hab,hlen,h100,hall⟩
  ·rcases hv with rfl|⟨z,rfl⟩|⟨z,rfl⟩|⟨z,rfl⟩
   ·rwa[8,(by show 2<=sizeLine;decide),fun tp htp=>⟨_,tp,_,rfl,SqT.of kad,TyOf.non, .inl rfl,(fun a e=>by cases e),_,rfl,?_⟩]
    have k1:=k _ (kai (o:=.tup [.ty "list", .ty "tuple"]) htp)
    rw[show isSeq (.type "NoneType")=false by cutsat]
    refine iteF ⟨_,rfl,rfl,_,rfl,?_⟩
    show if decide (V.non=V.non)=true then _ else _
    rw[show decide (V.non=V.non)=true by simp]
    refine iteT ⟨_,rfl,rfl,?_⟩
    show Q (.bl (decide (V.non=V.non))) _
    rw[show decide (V.non=V.non)=true by simp]
    exact k1
   ·rwa[8,(by show 2<=sizeLine;decide),fun tp htp=>⟨_,tp,_,rfl,SqT.of kad,TyOf.bl _, .inr (.inl rfl),(fun a e=>by cases e),_,rfl,?_⟩]
    have k1:=k _ (kai (o:=.tup [.ty "list", .ty "tuple"]) htp)
    rw[show isSeq (.type "bool")=false by cutsat]
    refine iteF ⟨_,rfl,rfl,_,rfl,?_⟩
    show if decide (V.bl z=V.non)=true then _ else _
    rw[show decide (V.bl z=V.non)=false by simp]
    refine iteF ⟨_,rfl,_,_,_,_,rfl, .inl ⟨_,rfl⟩,TyOf.bl _,kbi _ _,_,rfl,iteT ?_⟩
    rwa[8,_,_,_,8, .inl ⟨_,rfl⟩,TyOf.bl _,kbi _ _,8,iteT ⟨_,rfl,_,rfl,rfl,?_⟩]
    show Q (.bl (decide (V.bl z=V.bl z))) _
    rw[show decide (V.bl z=V.bl z)=true by simp]
    exact k1
   ·rwa[8,(by show 2<=sizeLine;decide),fun tp htp=>⟨_,tp,_,rfl,SqT.of kad,TyOf.int _, .inr (.inr (.inl rfl)),(fun a e=>by cases e),_,rfl,?_⟩]
    have k1:=k _ (kai (o:=.tup [.ty "list", .ty "tuple"]) htp)
    rw[show isSeq (.type "int")=false by cutsat]
    refine iteF ⟨_,rfl,rfl,_,rfl,?_⟩
    show if decide (V.int z=V.non)=true then _ else _
    rw[show decide (V.int z=V.non)=false by simp]
    refine iteF ⟨_,rfl,_,_,_,_,rfl, .inl ⟨_,rfl⟩,TyOf.int _,keg _,_,rfl,iteF ?_⟩
    rwa[8,_,_,_,8, .inl ⟨_,rfl⟩,TyOf.int _,kbZ (by cutsat) (by cutsat) (by cutsat),8,iteF ?_]
    rwa[8,_,_,_,8, .inl ⟨_,rfl⟩,TyOf.int _,kbi _ _,8,iteT ⟨_,rfl,_,_,_,_,rfl, .inl ⟨_,rfl⟩,TyOf.int _,keg _,_,rfl,?_⟩]
    rwa[8,iteT ⟨_,rfl,_,rfl,rfl,?_⟩]
    show Q (.bl (decide (V.int z=V.int z))) _
    rw[show decide (V.int z=V.int z)=true by simp]
    exact k1
   ·rwa[8,(by show 2<=sizeLine;decide),fun tp htp=>⟨_,tp,_,rfl,SqT.of kad,TyOf.str _, .inr (.inr (.inr (.inl rfl))),(fun a e=>by cases e),_,rfl,?_⟩]
    have k1:=k _ (kai (o:=.tup [.ty "list", .ty "tuple"]) htp)
    rw[show isSeq (.type "str")=false by cutsat]
    refine iteF ⟨_,rfl,rfl,_,rfl,?_⟩
    show if decide (V.str z=V.non)=true then _ else _
    rw[show decide (V.str z=V.non)=false by simp]
    refine iteF ⟨_,rfl,_,_,_,_,rfl, .inl ⟨_,rfl⟩,TyOf.str _,kbZ (by cutsat) (by cutsat) (by cutsat),_,rfl,iteF ?_⟩
    rwa[8,_,_,_,8, .inl ⟨_,rfl⟩,TyOf.str _,kbi _ _,8,iteT ?_]
    rwa[8,_,_,_,8, .inl ⟨_,rfl⟩,TyOf.str _,kbi _ _,8,iteT ⟨_,rfl,_,rfl,rfl,?_⟩]
    show Q (.bl (decide (V.str z=V.str z))) _
    rw[show decide (V.str z=V.str z)=true by simp]
    exact k1
  ·rcases hab with⟨ha,hb⟩|⟨ha,hb⟩
   ·rwa[8,(by show 2<=sizeLine;decide),fun tp htp=>?_]
    have n1:=kai (o:=.tup [.ty "list", .ty "tuple"]) htp
    have e1:(upd H tp (.tup [.ty "list", .ty "tuple"])) tp>>(.tup [.ty "list", .ty "tuple"]):=kad
    generalize upd H tp (.tup [.ty "list", .ty "tuple"])=H1 at *
    have ha1:=n1 _ _ ha
    have hb1:=n1 _ _ hb
    rwa[_,tp,8,SqT.of e1,TyOf.lst hb1, .inr (.inr (.inr (.inr (.inl rfl)))),(fun c e=>by cases e;exact .inl ⟨_,hb1⟩),8,?_]
    rw[show isSeq (.type "list")=true by cutsat]
    refine iteT ⟨_,rfl,_,_,_,_,rfl, .inl ⟨_,rfl⟩,TyOf.lst ha1,kbi _ _,_,rfl,_,_,_,_,rfl, .inl ⟨_,rfl⟩,TyOf.lst hb1,kbi _ _,rfl,_,rfl,iteF ?_⟩
    rwa[8,_,_,_,8, .inl ⟨_,rfl⟩,TyOf.lst ha1,kbZ (by cutsat) (by cutsat) (by cutsat),8,_,_,_,8, .inl ⟨_,rfl⟩,TyOf.lst hb1,kbZ (by cutsat) (by cutsat) (by cutsat),6,8,iteF ?_]
    rwa[8,a,8, .inl (SqL.of ha1),8,b,8, .inl (SqL.of hb1),6,8,?_]
    rw[hlen,show decide (V.int ((ys.length:Nat):Int)=V.int ((ys.length:Nat):Int))=true by simp]
    have em:min xs.length ys.length=ys.length:=by rw[hlen,EL]
    refine iteT ⟨_,rfl,_,rfl, .inl ⟨a,b,xs,ys,rfl,ha1,hb1,kf5 (xs:=xs) (ys:=ys) (fun i σ ws H'=>Same H1 H'/\ws=(My i true).map V.bl/\∃v0 v1:Option V,σ=[v0,v1])
     ⟨Same.refl _,rfl,none,none,rfl⟩ (by rw[em];exact MI (kan (by lia))) (fun i σ ws H' hi h=>⟨h.1 _ _ ha1,h.1 _ _ hb1,by rw[h.2.1];simp⟩) ?_ ?_⟩⟩
    ·rintro i y1 y2 t σ ws H' hy1 hy2 ⟨s1,rfl,v0,v1,rfl⟩ ht
     have n2:=kai (o:=.tup [y1,y2]) ht
     rwa[t,8,SqT.of kad,6,_,8,9,8,8,y1,y2,6,Alk.same ((n1.trans s1).trans n2) (hall i y1 y2 hy1 hy2),fun H2 s2=>⟨(s1.trans n2).trans s2,?_,_,_,rfl⟩]
     rw[E4,MC]
     rfl
    ·rintro σ ws H' ⟨s1,rfl,v0,v1,rfl⟩ D hD
     rw[em]
     rwa[D,My ys.length true,6,SqL.of kad,?_]
     rw[show(My ys.length true).all id=true by simp]
     exact k _ ((n1.trans s1).trans (kai hD))
   ·rwa[8,(by show 2<=sizeLine;decide),fun tp htp=>?_]
    have n1:=kai (o:=.tup [.ty "list", .ty "tuple"]) htp
    have e1:(upd H tp (.tup [.ty "list", .ty "tuple"])) tp>>(.tup [.ty "list", .ty "tuple"]):=kad
    generalize upd H tp (.tup [.ty "list", .ty "tuple"])=H1 at *
    have ha1:=n1 _ _ ha
    have hb1:=n1 _ _ hb
    rwa[_,tp,8,SqT.of e1,TyOf.tup hb1, .inr (.inr (.inr (.inr (.inr rfl)))),(fun c e=>by cases e;exact .inr ⟨_,hb1⟩),8,?_]
    rw[show isSeq (.type "tuple")=true by cutsat]
    refine iteT ⟨_,rfl,_,_,_,_,rfl, .inl ⟨_,rfl⟩,TyOf.tup ha1,kbZ (by cutsat) (by cutsat) (by cutsat),_,rfl,_,_,_,_,rfl, .inl ⟨_,rfl⟩,TyOf.tup hb1,kbZ (by cutsat) (by cutsat) (by cutsat),rfl,_,rfl,iteF ?_⟩
    rwa[8,_,_,_,8, .inl ⟨_,rfl⟩,TyOf.tup ha1,kbi _ _,8,_,_,_,8, .inl ⟨_,rfl⟩,TyOf.tup hb1,kbi _ _,6,8,iteF ?_]
    rwa[8,a,8, .inr (SqT.of ha1),8,b,8, .inr (SqT.of hb1),6,8,?_]
    rw[hlen,show decide (V.int ((ys.length:Nat):Int)=V.int ((ys.length:Nat):Int))=true by simp]
    have em:min xs.length ys.length=ys.length:=by rw[hlen,EL]
    refine iteT ⟨_,rfl,_,rfl, .inr ⟨a,b,xs,ys,rfl,ha1,hb1,kkB (xs:=xs) (ys:=ys) (fun i σ ws H'=>Same H1 H'/\ws=(My i true).map V.bl/\∃v0 v1:Option V,σ=[v0,v1])
     ⟨Same.refl _,rfl,none,none,rfl⟩ (by rw[em];exact MI (kan (by lia))) (fun i σ ws H' hi h=>⟨h.1 _ _ ha1,h.1 _ _ hb1,by rw[h.2.1];simp⟩) ?_ ?_⟩⟩
    ·rintro i y1 y2 t σ ws H' hy1 hy2 ⟨s1,rfl,v0,v1,rfl⟩ ht
     have n2:=kai (o:=.tup [y1,y2]) ht
     rwa[t,8,SqT.of kad,6,_,8,9,8,8,y1,y2,6,Alk.same ((n1.trans s1).trans n2) (hall i y1 y2 hy1 hy2),fun H2 s2=>⟨(s1.trans n2).trans s2,?_,_,_,rfl⟩]
     rw[E4,MC]
     rfl
    ·rintro σ ws H' ⟨s1,rfl,v0,v1,rfl⟩ D hD
     rw[em]
     rwa[D,My ys.length true,6,SqL.of kad,?_]
     rw[show(My ys.length true).all id=true by simp]
     exact k _ ((n1.trans s1).trans (kai hD))
theorem kdd(W:WB K mg d base):∀n:Nat,FO P w W (0+n) d.qX d.qY ["_law_found","_law_due"] (kdS n)
 |0=>⟨fun _ _ _ _ h=>(khS h).elim,fun _ _ _ _ _ _ _ _ _ _ _ _ _ h=>(khS h).elim⟩
 |n+1=>keC W n (kdd W n)
theorem kf0(W:WB K mg d base):FO P w W 5 d.qX d.qY ["_law_found","_law_due"] (kdS 5):=kdd W 5
noncomputable def nmS(k:Nat)(b:Bool)(m:Nat):Str:=⟨((110+k)::My m (if b then 120 else 121)).toArray⟩
instance (z:Str):Decidable (NameW z):=decidable_of_iff (1<=z.length/\z.length<=12/\z.cps.all (· < 128)=true/\kfu z LET=true/\z∉KEPT) ⟨fun⟨a,b,c,e,f⟩=>⟨a,b,c,e,f⟩,fun⟨a,b,c,e,f⟩=>⟨a,b,c,e,f⟩⟩
theorem knc:∀k:Fin 5,∀b:Bool,∀m:Fin 12,NameW (nmS k b m):=by cutsat
inductive kjr(vs:List V)(H:Hp)(Q:VK)(E_:XK):Prop
 |ct(k:Nat)(s:Int)(_:vs=[.int 1,iV k, .int s])(_:k<5)(_:0<=s)(_:∀b m H',m<12->Same H H'->Q (.str (nmS k b m)) H'):kjr vs H Q E_
theorem nm_is:∀k:Fin 5,∀b:Bool,∀m:Fin 12,((⟨#[110+k.val]⟩:Str)++Txt.mul ⟨#[if b then 120 else 121]⟩ ((m:Nat):Int))=nmS k b m/\(⟨#[110+k.val]⟩:Str).length+(Txt.mul ⟨#[if b then 120 else 121]⟩ ((m:Nat):Int)).length<=1000:=by cutsat
theorem lt_at:∀k:Fin 5,(("nopqrstuvwxyz" :Str)).cps.toList[k.val]?>>(110+k.val):=by cutsat
theorem kn6:∀b:Bool,∀m:Fin 12,MulOk (⟨#[if b then 120 else 121]⟩:Str) ((m:Nat):Int):=by
 unfold MulOk
 cutsat
theorem Yf:kam ["_law_which","_law_k","_law_salt","_law_letter","_law_size"] ["_law_which","_law_k","_law_salt"] (kaf kdt):=by ac_rfl
theorem kgH(W:WB K mg d base):FO P w W 1 d.ZC d.ZD ["_law_which","_law_k","_law_salt"] kjr:=by
 exists W.Ue.F,Yf
 ·obtain⟨k,s,rfl,hk,hs,kk⟩:=h
  refine⟨_,kac (psl (i:=3) Yf.nd (pe_ix kkf (pe_ix (r:=rIxL K) kaR (kaJ (kaa kat (kaa kat kae))) (pv 0) (fun _ _=>rfl)) (pv 1) (fun _ _=>rfl)))
   (kac (psl (i:=4) Yf.nd (pe_ix (r:=rIxL K) kaR (kaJ (kaa kaq (kaa kaq (kaa (pe_op kbC kaq (pe_op kbB (pe_op kcz (pv 2) kaq) kaq)) kae)))) (pe_op kbB (pv 2) kaq) (fun _ _=>rfl)))
   (kag (kao (pe_op kaN (pv 3) (pe_op km7 (pe_ix kkf kat (pe_op kbB (pe_op kcz (pv 2) kaq) kaq) (fun _ _=>rfl)) (pe_op kfn (pv 4) kaq)))))),?_⟩
  rwa[(by show 2<=sizeLine;decide),fun p1 f1=>?_]
  have n1:=kai (o:=.lst [.str ("abcdefghijklm" :Str), .str ("nopqrstuvwxyz" :Str)]) f1
  have e1:(upd H p1 (.lst [.str ("abcdefghijklm" :Str), .str ("nopqrstuvwxyz" :Str)])) p1>>(.lst [.str ("abcdefghijklm" :Str), .str ("nopqrstuvwxyz" :Str)]):=kad
  generalize upd H p1 (.lst [.str ("abcdefghijklm" :Str), .str ("nopqrstuvwxyz" :Str)])=H1 at *
  rwa[8,p1,_,9,SqL.of e1,6,8,_,9,(by cutsat),ka4 (lt_at ⟨k,hk⟩),?_]
  have h3:(0:Int)<=s/3%9/\s/3%9<9:=⟨by lia,by lia⟩
  have h27:s/27%2=0∨s/27%2=1:=by lia
  rwa[8,7,9,(by show(0:Int)<9;decide),9,(by show 3<=sizeLine;decide),fun p2 f2=>?_]
  have n2:=kai (o:=.lst [.int 1, .int 12, .int (2+s/3%9)]) f2
  have e2:(upd H1 p2 (.lst [.int 1, .int 12, .int (2+s/3%9)])) p2>>(.lst [.int 1, .int 12, .int (2+s/3%9)]):=kad
  generalize upd H1 p2 (.lst [.int 1, .int 12, .int (2+s/3%9)])=H2 at *
  obtain⟨m,hm,ea⟩:∃m:Nat,m<12/\atI [V.int 1, .int 12, .int (2+s/3%9)] (s%3)>>(.int (m+1)):=by
   have:s%3=0∨s%3=1∨s%3=2:=by lia
   rcases this with e|e|e
   ·rwa[0,by decide,by rw[e];rfl]
   ·rwa[11,by decide,by rw[e];rfl]
   ·obtain⟨q,eq⟩:=Int.eq_ofNat_of_zero_le h3.1
    rw[eq]
    rwa[1+q,by lia,?_]
    rw[e]
    show some (V.int (2+(q:Int)))=_
    congr 2
    lia
  rwa[8,9,(by show(0:Int)<3;decide),p2,_,9,SqL.of e2,ea,?_]
  obtain⟨b,eb⟩:∃b:Bool,atI (("yx" :Str)).cps.toList (s/27%2)>>(if b then 120 else 121):=by
   rcases h27 with e|e
   ·rwa[false,by rw[e];cutsat]
   ·rwa[true,by rw[e];cutsat]
  rwa[8,8,7,9,(by show(0:Int)<2;decide),_,9,(by cutsat),eb,8,9,9,?_]
  rw[show((m:Int)+1-1)=((⟨m,hm⟩:Fin 12):Nat) by show(m:Int)+1-1=(m:Int);lia]
  obtain⟨q1,q2⟩:=nm_is ⟨k,hk⟩ b ⟨m,hm⟩
  rwa[kn6 b ⟨m,hm⟩,9,MI (kan q2),?_]
  rw[q1]
  exact kk b m _ hm (n1.trans n2)
theorem slen(x y:Str):(x++y).length=x.length+y.length:=by
 show(x.cps++y.cps).size=_
 exact Array.size_append
theorem slenL:∀{n:Nat},n<=1000->n<=sizeLine:=fun h=>MI (kan h)
theorem rw_len{c:Str}(h:c∈kdh):c.length<=6:=by
 simp only[kdh,MB,MR,or_false] at h
 rcases h with rfl|rfl|rfl|rfl <;> cutsat
theorem kii{n k:Int}{l:Nat}(hl:0<l):∃i:Nat,i<l/\n/k%(l:Int)=(i:Int):=by
 have h1:=Int.emod_nonneg (n/k) (show(l:Int)≠0 by lia)
 have h2:=Int.emod_lt_of_pos (n/k) (show(0:Int)<l by lia)
 obtain⟨i,e⟩:=Int.eq_ofNat_of_zero_le h1
 rwa[i,by lia,e]
noncomputable def rowR(a c b:Str):Str:=("rule " :Str)++a++(" " :Str)++c++(" " :Str)++b
inductive kjq(K:Mt)(vs:List V)(H:Hp)(Q:VK)(E_:XK):Prop
 |ct(n:Int)(a r:Addr)(names:List Str)(ra:List Addr)(_:vs=[.int n, .ref a, .ref r])(_:0<=n)(_:H a>>(.lst (names.map V.str)))(_:0<names.length)(_:names.length<=10)(_:(∀z∈names,z.length<=12))(_:H r>>(.lst (ra.map V.ref)))(_:ra.length<=100)(_:∀(i j:Nat)(x y c:Str)(H':Hp)(p:Addr),names[i]?>>x->names[j]?>>y->c∈kdh->But r H H'->H p=none->RulIs H' p (rulM c i j)->H' r>>(.lst ((ra++[p]).map V.ref))->Q (.str (rowR x c y)) H'):kjq K vs H Q E_
theorem Q0:kam ["_law_drawn","_law_names","_law_rules","_law_one","_law_other","_law_word"] ["_law_drawn","_law_names","_law_rules"] (kaf kdr):=by ac_rfl
theorem kgG(W:WB K mg d base):FO P w W 1 d.ZG d.ZH ["_law_drawn","_law_names","_law_rules"] (kjq K):=by
 exists W.Uh.F,Q0
 ·obtain⟨n,a,r,names,ra,rfl,h0,ha,hp,h10,hz,hr',hra,k⟩:=h
  refine⟨_,kac (psl (i:=3) Q0.nd (pe_op kbB (pe_op kcz (pv 0) kaq) (kap (r:=kaQ K) kas (by rfl) W.B.len b_len (kaa (pv 1) kae))))
   (kac (psl (i:=4) Q0.nd (pe_op kbB (pe_op kcz (pv 0) kaq) (kap (r:=kaQ K) kas (by rfl) W.B.len b_len (kaa (pv 1) kae))))
   (kac (psl (i:=5) Q0.nd (pe_ix (r:=rIxL K) kaR (kaJ (kaa kat (kaa kat (kaa kat (kaa kat kae))))) (pe_op kbB (pv 0) kaq) (fun _ _=>rfl)))
   (kac (ps_if (kav op_eq (pv 5) kat (kaB _)) (kag (kay (pe_bm MW M1 M3 kaG (pv 2) (kaa (ka7 (kaa kat (kaa (pv 4) (kaa (pv 3) kae)))) kae)))) (kag (kay (pe_bm MW M1 M3 kaG (pv 2) (kaa (ka7 (kaa (pv 5) (kaa (pv 3) (kaa (pv 4) kae)))) kae)))))
   (kag (kao (pe_op kaN (pe_op kaN (pe_op kaN (pe_op kaN (pe_op kaN kat (pe_ix (r:=rIxL K) kaR (pv 1) (pv 3) (fun _ _=>rfl))) kat) (pv 5)) kat) (pe_ix (r:=rIxL K) kaR (pv 1) (pv 4) (fun _ _=>rfl)))))))),?_⟩
  rwa[8,7,8,a,8, .inl (SqL.of ha),9,(by show(0:Int)<_;rw[Mu];lia),?_]
  rw[Mu]
  obtain⟨i,hi,ei⟩:=kii (n:=n) (k:=4) hp
  show gName 3 (V.int (n/4%((names.length:Nat):Int))) _ _ _
  rw[ei]
  rwa[8,7,8,a,8, .inl (SqL.of ha),9,(by show(0:Int)<_;rw[Mu];lia),?_]
  rw[Mu]
  obtain⟨j,hj,ej⟩:=kii (n:=n) (k:=40) hp
  show gName 4 (V.int (n/40%((names.length:Nat):Int))) _ _ _
  rw[ej]
  rwa[(by show 4<=sizeLine;decide),fun p1 f1=>?_]
  have n1:=kai (o:=.lst [.str ("only" :Str), .str ("never" :Str), .str ("ahead" :Str), .str ("behind" :Str)]) f1
  have e1:(upd H p1 (.lst [.str ("only" :Str), .str ("never" :Str), .str ("ahead" :Str), .str ("behind" :Str)])) p1>>(.lst [.str ("only" :Str), .str ("never" :Str), .str ("ahead" :Str), .str ("behind" :Str)]):=kad
  generalize upd H p1 (.lst [.str ("only" :Str), .str ("never" :Str), .str ("ahead" :Str), .str ("behind" :Str)])=H1 at *
  obtain⟨c,hc,ec⟩:∃c:Str,c∈kdh/\atI [V.str ("only" :Str), .str ("never" :Str), .str ("ahead" :Str), .str ("behind" :Str)] (n%4)>>(.str c):=by
   have:n%4=0∨n%4=1∨n%4=2∨n%4=3:=by lia
   rcases this with e|e|e|e
   ·rwa["only",by cutsat,by rw[e];rfl]
   ·rwa["never",by cutsat,by rw[e];rfl]
   ·rwa["ahead",by cutsat,by rw[e];rfl]
   ·rwa["behind",by cutsat,by rw[e];rfl]
  rwa[8,9,(by show(0:Int)<4;decide),p1,_,9,SqL.of e1,ec,?_]
  obtain⟨x,hx⟩:=at_of hi
  obtain⟨y,hy⟩:=at_of hj
  have lx:=hz x (MK hx)
  have ly:=hz y (MK hy)
  have lc:=rw_len hc
  have nar:a≠r:=fun e=>by
   rw[e,hr'] at ha
   cases names with
   |nil=>exact absurd hp (Em 0)
   |cons z zs=>
    cases ra with
    |nil=>cases ha
    |cons b bs=>cases ha
  have hr1:=n1 _ _ hr'
  have fin:∀{H3:Hp}{p:Addr},Same H1 H3->H1 p=none->RulIs H3 p (rulM c i j)->H3 r>>(.lst (ra.map V.ref))/\(upd H3 r (.lst (ra.map V.ref++[.ref p]))) a>>(.lst (names.map V.str))/\Q (.str (rowR x c y)) (upd H3 r (.lst (ra.map V.ref++[.ref p]))):=fun {H3 p} s3 fp hR=>by
   have hr3:H3 r>>(.lst (ra.map V.ref)):=s3 _ _ hr1
   have npr:p≠r:=fun e=>by rw[e,hr1] at fp;cases fp
   rwa[hr3,by rw[kah nar];exact s3 _ _ (n1 _ _ ha),k i j x y c _ p hx hy hc ((But.of_same (n1.trans s3)).trans (kax (nx hr3))) (n1.free fp) ?_ (by rw[kad,MC];rfl)]
   show(upd H3 r _) p=_
   rw[kah npr]
   exact hR
  have l5:(("rule " :Str)).length=5:=by cutsat
  have l6:((" " :Str)).length=1:=by cutsat
  rwa[8,6,8,?_]
  by_cases hb:c="behind"
  ·rw[decide_eq_true (by rw[hb])]
   refine iteT ⟨_,rfl, .inl ⟨rfl,_,SqL.of hr1⟩,_,rfl,_,rfl,(by show 3<=sizeLine;decide),fun p fp=>?_⟩
   obtain⟨g1,g2,g3⟩:=fin (kai (o:=.tup [.str ("ahead" :Str),iV j,iV i]) fp) fp (by show(upd _ _ _) _=_;rw[kad];unfold rulM;rw[if_pos hb])
   rwa[r,9,g1,kan (by rw[Mu];lia),?_]
   rwa[8,8,a,_,9,SqL.of g2,ka4 (v:=.str x) (by rw[MN,hx];rfl),9,slenL (by lia),9,slenL (by rw[slen];lia),8,9,slenL (by rw[slen,slen];lia),9,slenL (by rw[slen,slen,slen];lia),8,8,a,_,9,SqL.of g2,ka4 (v:=.str y) (by rw[MN,hy];rfl),9,slenL (by rw[slen,slen,slen,slen];lia),g3]
  ·rw[decide_eq_false (fun e=>hb (by cases e;rfl))]
   refine iteF ⟨_,rfl, .inl ⟨rfl,_,SqL.of hr1⟩,_,rfl,_,rfl,_,rfl,(by show 3<=sizeLine;decide),fun p fp=>?_⟩
   obtain⟨g1,g2,g3⟩:=fin (kai (o:=.tup [.str c,iV i,iV j]) fp) fp (by show(upd _ _ _) _=_;rw[kad];unfold rulM;rw[if_neg hb])
   rwa[r,9,g1,kan (by rw[Mu];lia),?_]
   rwa[8,8,a,_,9,SqL.of g2,ka4 (v:=.str x) (by rw[MN,hx];rfl),9,slenL (by lia),9,slenL (by rw[slen];lia),8,9,slenL (by rw[slen,slen];lia),9,slenL (by rw[slen,slen,slen];lia),8,8,a,_,9,SqL.of g2,ka4 (v:=.str y) (by rw[MN,hy];rfl),9,slenL (by rw[slen,slen,slen,slen];lia),g3]
inductive khH(d:D)(vs:List V)(H:Hp)(Q:VK)(E_:XK):Prop
 |ct(t b h o:Addr)(T:TillD)(B:Bask)(hand:List Int)(order:List Nat)(_:vs=[.ref t, .ref b, .ref h, .ref o])(_:TillIs d H t T)(_:ke8 T)(_:BaskIs d.qf d.qh H b B)(_:Wf T.ps B (stnd0 B))(_:H h>>(.lst (hand.map V.int)))(_:H o>>(.lst (order.map iV)))(_:hand.length=T.vs.length)(_:(∀n∈order,n<T.vs.length))(_:order.length<64)(_:∀(H':Hp)(a:Addr),Same H H'->H a=none->H' a>>(.tup (useV T B hand order))->Q (.ref a) H'):khH d vs H Q E_
theorem UK:kam ["_law_till","_law_basket","_law_hand","_law_order","_law_wrong"] ["_law_till","_law_basket","_law_hand","_law_order"] (kaf kcg):=by ac_rfl
theorem keU(W:WB K mg d base):FO P w W 10 d.ZE d.ZF ["_law_till","_law_basket","_law_hand","_law_order"] (khH d):=by
 exists W.Ug.F,UK
 ·obtain⟨t,b,h,o,T,B,hand,order,rfl,hT,tok,hB,wf0,hh,ho,hl,hlt,h64,k⟩:=h
  exists X0,kia,W
  have JG:=(kfp (P:=P) (w:=w) (base:=base) W).calm
  have hr8:Room 8 _:=hr.mono (by decide)
  refine⟨_,kac (psl (i:=4) UK.nd (pcl X0 hr8 W.Xl (kaa (pv 0) (kaa (pv 1) (kaa (pv 2) (kaa (pv 3) kae))))))
   (kac (ps_if (kav kdy (pv 4) kbg (kaB _)) (kag (kao (pe_op kj5 (ka7 (kaa kat kae)) (pv 4)))) (kau))
   (kag (kao (ka7 (kaa kat (kaa (kaj (K:=K) (pcl JG hr W.q0 (kaa (pv 0) (kaa (pv 1) (kaa (pv 2) (kaa (pv 3) kae))))) rfl) kae)))))),?_⟩
  rwa[8,8,8,8,t,b,h,o,T,B,hand,order,6,hT,tok,hB,wf0,hh,ho,hl,hlt,h64,fun H1 v s1 hF=>?_]
  rwa[8,6,8,?_]
  cases e:kdf T B hand order with
  |none=>
   rw[e] at hF
   have ev:v=.non:=hF
   subst ev
   rw[show(!decide (V.non=V.non))=false by simp]
   refine iteF ?_
   rwa[8,8,8,8,t,b,h,o,T,B,hand,order,6,hT.same s1,tok,hB.same s1,wf0,s1 _ _ hh,s1 _ _ ho,hl,hlt,by lia,fun _ H0 H2 bl y0 y1 hBi=>?_,fun k z hf=>by rw[e] at hf;cases hf]
   obtain⟨dxB,fsB,oB,sB,pB,saB,hb,lb1,lb2,lb3,lb4,lb5,_⟩:=id hBi
   have s02:=s1.trans (y0.trans y1)
   rwa[bl,d.qj,dxB,fsB,8,hb,W.qj.cl,W.XD,lb5,(by show 2<=sizeLine;decide),fun a fa=>?_]
   refine k _ a (s02.trans (kai fa)) (s02.free fa) ?_
   rw[kad]
   unfold useV
   rw[e]
  |some pz=>
   obtain⟨kz,z⟩:=pz
   rw[e] at hF
   obtain⟨fa,rfl,hfa⟩:=hF
   rw[show(!decide (V.ref fa=V.non))=true by simp]
   refine iteT ⟨(by show 1<=sizeLine;decide),fun p fp=>?_⟩
   have n2:=kai (o:=.tup [.str ("fault" :Str)]) fp
   have e2:(upd H1 p (.tup [.str ("fault" :Str)])) p>>(.tup [.str ("fault" :Str)]):=kad
   generalize upd H1 p (.tup [.str ("fault" :Str)])=H2 at *
   rwa[8,p,fa,9,SqT.of e2,SqT.of (n2 _ _ hfa),by simp,(by show 3<=sizeLine;decide),fun h=>(by cases h),fun _ q fq=>?_]
   refine k _ q ((s1.trans n2).trans (kai fq)) ((s1.trans n2).free fq) ?_
   rw[kad]
   unfold useV
   rw[e]
   rfl
open TxM in
theorem kc3{x:Str}{ws:List Str}(hne:ws≠[])(e:cp x=glue 32 (ws.map cp))(hf:∀z∈ws,32∉cp z)(h0:∀z∈ws,noE z=true):wordsOf x=ws:=by
 have ex:x=Txt.join BL ws:=by
  rw[show Txt.join BL ws=Str.join ⟨#[32]⟩ ws from StrLaws.glued_eq_join _ _]
  apply kkA
  rw[kdC]
  exact e
 unfold wordsOf
 rw[ex,show Txt.split (Txt.join BL ws) BL=ws from split_join hne hf]
 exact List.filter_eq_self.mpr h0
structure Cln(z:Str):Prop where
 b:32∉TxM.cp z
 n:10∉TxM.cp z
 e:noE z=true
 l:z.length<=13
instance (z:Str):Decidable (Cln z):=decidable_of_iff (32∉TxM.cp z/\10∉TxM.cp z/\noE z=true/\z.length<=13) ⟨fun⟨a,b,c,e⟩=>⟨a,b,c,e⟩,fun⟨a,b,c,e⟩=>⟨a,b,c,e⟩⟩
theorem kn4:∀k:Fin 5,∀b:Bool,∀m:Fin 12,Cln (nmS k b m):=by cutsat
noncomputable def nuS(n:Nat):Str:=Str.ofString (toString (n:Int))
theorem kfr:∀n:Fin 6,Cln (nuS n):=by cutsat
noncomputable def hdOk(z:Str):Bool:=match z.cps.toList[0]? with
 |some c=>decide ((⟨#[c]⟩:Str)≠"0")
 |none=>false
theorem kic{z:Str}{n:Int}(h:1<=z.length/\z.length<=13/\z.cps.all (· < 128)=true/\kfu z FIG=true/\(z="0"∨hdOk z=true)/\PySem.intText? z>>n):NumW z n:=by
 obtain⟨a,b,c,e,f,g⟩:=h
 rwa[a,b,c,e,f.imp id fun h=>?_,g]
 unfold hdOk at h
 cases hc:z.cps.toList[0]? with
 |none=>rw[hc] at h;cases h
 |some c=>rw[hc] at h;exact⟨c,rfl,by simpa using h⟩
theorem kmc(n:Fin 6):NumW (nuS n) ((n:Nat):Int):=kic ((by cutsat:∀n:Fin 6,1<=(nuS n).length/\(nuS n).length<=13/\(nuS n).cps.all (· < 128)=true/\kfu (nuS n) FIG=true/\(nuS n="0"∨hdOk (nuS n)=true)/\PySem.intText? (nuS n)>>((n:Nat):Int)) n)
theorem knb:NumW ("100" :Str) 100:=kic (by cutsat)
theorem num_2:NumW ("2" :Str) 2:=kic (by cutsat)
theorem num_3:NumW ("3" :Str) 3:=kic (by cutsat)
open TxM in
theorem ke3{s:Str}{l:List Nat}(h:s.cps.toList=l):cp s=l:=h
open TxM in
theorem wo2{p a:Str}{x:Str}(hp:cp x=cp p++32::cp a)(c1:Cln p)(c2:Cln a):wordsOf x=[p,a]:=kc3 (by simp) hp (by simp[c1.b,c2.b]) (by simp[c1.e,c2.e])
open TxM in
theorem wo3{p a b:Str}{x:Str}(hp:cp x=cp p++32::(cp a++32::cp b))(c1:Cln p)(c2:Cln a)(c3:Cln b):wordsOf x=[p,a,b]:=kc3 (by simp) hp (by simp[c1.b,c2.b,c3.b]) (by simp[c1.e,c2.e,c3.e])
open TxM in
theorem wo4{p a b c:Str}{x:Str}(hp:cp x=cp p++32::(cp a++32::(cp b++32::cp c)))(c1:Cln p)(c2:Cln a)(c3:Cln b)(c4:Cln c):wordsOf x=[p,a,b,c]:=kc3 (by simp) hp (by simp[c1.b,c2.b,c3.b,c4.b]) (by simp[c1.e,c2.e,c3.e,c4.e])
noncomputable def rowV(z y:Str):Str:=("voucher " :Str)++z++(" off " :Str)++y
noncomputable def rowH(z y:Str):Str:=("hold " :Str)++z++(" " :Str)++y
noncomputable def rowH2(z:Str):Str:=("hold " :Str)++z++(" 2" :Str)
open TxM in
theorem knx{z y:Str}(c1:Cln z)(c2:Cln y):wordsOf (rowV z y)=[("voucher" :Str),z,("off" :Str),y]:=by
 refine wo4 ?_ (by cutsat) c1 (by cutsat) c2
 unfold rowV
 rw[cp_app,cp_app,cp_app,ke3 (s:=("voucher " :Str)) (l:=cp ("voucher" :Str)++[32]) (by cutsat),ke3 (s:=(" off " :Str)) (l:=32::cp ("off" :Str)++[32]) (by cutsat)]
 simp
open TxM in
theorem knz{z y:Str}(c1:Cln z)(c2:Cln y):wordsOf (rowH z y)=[("hold" :Str),z,y]:=by
 refine wo3 ?_ (by cutsat) c1 c2
 unfold rowH
 rw[cp_app,cp_app,cp_app,ke3 (s:=("hold " :Str)) (l:=cp ("hold" :Str)++[32]) (by cutsat),ke3 (s:=(" " :Str)) (l:=[32]) (by cutsat)]
 simp
open TxM in
theorem khY(z:Str):rowH2 z=rowH z ("2" :Str):=by
 apply kkA
 unfold rowH2 rowH
 rw[cp_app,cp_app,cp_app,cp_app,cp_app,ke3 (s:=(" 2" :Str)) (l:=cp (" " :Str)++cp ("2" :Str)) (by cutsat)]
 simp
open TxM in
theorem kny{a c b:Str}(c1:Cln a)(c2:Cln c)(c3:Cln b):wordsOf (rowR a c b)=[("rule" :Str),a,c,b]:=by
 refine wo4 ?_ (by cutsat) c1 c2 c3
 unfold rowR
 rw[cp_app,cp_app,cp_app,cp_app,cp_app,ke3 (s:=("rule " :Str)) (l:=cp ("rule" :Str)++[32]) (by cutsat),ke3 (s:=(" " :Str)) (l:=[32]) (by cutsat)]
 simp
open TxM in
theorem w_use{zs:List Str}(h:∀z∈zs,Cln z):wordsOf (Txt.join BL (("use" :Str)::zs))=("use" :Str)::zs:=by
 refine kc3 (by simp) ?_ (fun z hz=>?_) (fun z hz=>?_)
 ·rw[show Txt.join BL (("use" :Str)::zs)=Str.join ⟨#[32]⟩ (("use" :Str)::zs) from StrLaws.glued_eq_join _ _,kdC]
 ·rcases MB.mp hz with rfl|hz
  ·cutsat
  ·exact(h z hz).b
 ·rcases MB.mp hz with rfl|hz
  ·cutsat
  ·exact(h z hz).e
theorem knA:wordsOf ("kind a" :Str)=[("kind" :Str),("a" :Str)]:=wo2 (by cutsat) (by cutsat) (by cutsat)
theorem knB:wordsOf ("basket 3" :Str)=[("basket" :Str),("3" :Str)]:=wo2 (by cutsat) (by cutsat) (by cutsat)
theorem knw:wordsOf ("ware a 100 2" :Str)=[("ware" :Str),("a" :Str),("100" :Str),("2" :Str)]:=wo4 (by cutsat) (by cutsat) (by cutsat) (by cutsat) (by cutsat)
inductive RunTo:List Str->List (Nat×List V)->DeskD->Prop
 |nil:RunTo [] [] DESK0
 |tell {rows:List Str} {os:List (Nat×List V)} {S S':DeskD} {x:Str} {ws:List Str} (t:RunTo rows os S) (b:S.bs.length<=1000) (w:wordsOf x=ws) (h:Tells S ws S'):RunTo (rows++[x]) os S'
 |ask {rows:List Str} {os:List (Nat×List V)} {S:DeskD} {x:Str} {ws:List Str} {v:List V} (t:RunTo rows os S) (b:S.bs.length<=1000) (w:wordsOf x=ws) (h:Asks S ws v):RunTo (rows++[x]) (os++[(rows.length+1,v)]) S
theorem keO:∀{ls:List Str}{k:Nat}{x:Str},rowsF k (ls++[x])=rowsF k ls++[(k+ls.length,wordsOf x)]
 |[],_,_=>rfl
 |l::ls,k,x=>by
  show(k,wordsOf l)::rowsF (k+1) (ls++[x])=_
  rw[keO]
  show _=(k,wordsOf l)::(rowsF (k+1) ls++[(k+(ls.length+1),wordsOf x)])
  rw[show k+1+ls.length=k+(ls.length+1) by lia]
theorem Tells.pos{S S':DeskD}{ws:List Str}(h:Tells S ws S'):0<ws.length:=by cases h <;> simp
theorem Asks.pos{S:DeskD}{ws:List Str}{v:List V}(h:Asks S ws v):0<ws.length:=by cases h;simp
theorem RunTo.runs{rows:List Str}{os:List (Nat×List V)}{S:DeskD}(r:RunTo rows os S):∀{rest:List (Nat×List Str)}{os':List (Nat×List V)},Runs S rest os'->Runs DESK0 ((rowsF 1 rows).filter (fun r=>decide (0<r.2.length))++rest) (os++os'):=by
 induction r with
 |nil=>exact fun h=>h
 | @tell rows os S S' x ws t b w h ih=>
  intro rest os' hr
  rw[keO,EG,M6]
  refine ih ?_
  rw[EM,if_pos (by rw[w];exact decide_eq_true h.pos),E3,w]
  exact .tell b h hr
 | @ask rows os S x ws v t b w h ih=>
  intro rest os' hr
  rw[keO,EG,M6,M6]
  refine ih ?_
  rw[EM,if_pos (by rw[w];exact decide_eq_true h.pos),E3,w,Nat.add_comm 1 rows.length]
  exact .ask b h hr
structure RowT(x:Str):Prop where
 n:10∉TxM.cp x
 l:x.length<=150
theorem kgg{rows:List Str}(hne:rows≠[])(hf:∀x∈rows,RowT x):Txt.split (Txt.join NL rows) NL=rows:=TxM.split_join hne fun r hr=>(hf r hr).n
theorem RunTo.text{rows:List Str}{os:List (Nat×List V)}{S:DeskD}(r:RunTo rows os S)(hne:rows≠[])(hf:∀x∈rows,RowT x):Runs DESK0 (rowsM (Txt.join NL rows)) os:=by
 unfold rowsM
 rw[kgg hne hf]
 have:=r.runs (Runs.nil (S:=S))
 rw[El,El] at this
 exact this
open TxM in
theorem kik:∀(rows:List Str),(∀x∈rows,x.length<=150)->(Str.join ⟨#[10]⟩ rows).length<=rows.length*151
 |[],_=>Mv _
 |[x],h=>by
  show x.length<=1*151
  have:=h x Mx
  lia
 |x::y::r,h=>by
  show(x++ ⟨#[10]⟩ ++Str.join ⟨#[10]⟩ (y::r)).length<=_
  rw[slen,slen]
  have h1:=h x Mx
  have h2:=kik (y::r) fun z hz=>h z (MH _ hz)
  have h3:(⟨#[10]⟩:Str).length=1:=rfl
  simp only[MV] at h2⊢
  lia
theorem text_len{rows:List Str}(hf:∀x∈rows,RowT x)(hl:rows.length<=100):(Txt.join NL rows).length<=15100:=by
 rw[show Txt.join NL rows=Str.join ⟨#[10]⟩ rows from StrLaws.glued_eq_join _ _]
 have:=kik rows fun x hx=>(hf x hx).l
 lia
theorem kcV{x y:Str}(h1:10∉TxM.cp x)(h2:10∉TxM.cp y):10∉TxM.cp (x++y):=by
 rw[TxM.cp_app]
 simp[h1,h2]
theorem knD{z y:Str}(c1:Cln z)(c2:Cln y):RowT (rowV z y):=by
 unfold rowV
 rwa[kcV (kcV (kcV (by cutsat) c1.n) (by cutsat)) c2.n,?_]
 have:=c1.l;have:=c2.l
 rw[slen,slen,slen,show(("voucher " :Str)).length=8 by cutsat,show((" off " :Str)).length=5 by cutsat]
 lia
theorem klS{z y:Str}(c1:Cln z)(c2:Cln y):RowT (rowH z y):=by
 unfold rowH
 rwa[kcV (kcV (kcV (by cutsat) c1.n) (by cutsat)) c2.n,?_]
 have:=c1.l;have:=c2.l
 rw[slen,slen,slen,show(("hold " :Str)).length=5 by cutsat,show((" " :Str)).length=1 by cutsat]
 lia
theorem knE{a c b:Str}(c1:Cln a)(c2:Cln c)(c3:Cln b):RowT (rowR a c b):=by
 unfold rowR
 rwa[kcV (kcV (kcV (kcV (kcV (by cutsat) c1.n) (by cutsat)) c2.n) (by cutsat)) c3.n,?_]
 have:=c1.l;have:=c2.l;have:=c3.l
 rw[slen,slen,slen,slen,slen,show(("rule " :Str)).length=5 by cutsat,show((" " :Str)).length=1 by cutsat]
 lia
open TxM in
theorem kkl{c e:Nat}(hce:c≠e):∀{xs:List (List Nat)},(∀x∈xs,e∉x)->e∉glue c xs
 |[],_=>by simp[glue]
 |[x],h=>h x Mx
 |x::y::r,h=>by
  show e∉x++c::glue c (y::r)
  simp only[MY,MB,not_or]
  rwa[h x Mx,Ne.symm hce,kkl hce fun z hz=>h z (MH _ hz)]
theorem kgP:∀(rows:List Str),(∀x∈rows,x.length<=13)->(Str.join ⟨#[32]⟩ rows).length<=rows.length*14
 |[],_=>Mv _
 |[x],h=>by
  show x.length<=1*14
  have:=h x Mx
  lia
 |x::y::r,h=>by
  show(x++ ⟨#[32]⟩ ++Str.join ⟨#[32]⟩ (y::r)).length<=_
  rw[slen,slen]
  have h1:=h x Mx
  have h2:=kgP (y::r) fun z hz=>h z (MH _ hz)
  have h3:(⟨#[32]⟩:Str).length=1:=rfl
  simp only[MV] at h2⊢
  lia
open TxM in
theorem t_use{zs:List Str}(h:∀z∈zs,Cln z)(hl:zs.length<=8):RowT (Txt.join BL (("use" :Str)::zs)):=by
 rw[show Txt.join BL (("use" :Str)::zs)=Str.join ⟨#[32]⟩ (("use" :Str)::zs) from StrLaws.glued_eq_join _ _]
 have c:∀z∈(("use" :Str)::zs),Cln z:=fun z hz=>by
  rcases MB.mp hz with rfl|hz
  ·cutsat
  ·exact h z hz
 rwa[?_,?_]
 ·rw[kdC]
  refine kkl (by decide) fun x hx=>?_
  obtain⟨z,hz,rfl⟩:=MZ.mp hx
  exact(c z hz).n
 ·have:=kgP _ fun x hx=>(c x hx).l
  simp only[MV] at this
  lia
noncomputable def offs(n:Nat):List Vch:=(MG n).map fun(k:Nat)=>⟨.off ((k:Int)+1),mks0⟩
theorem kgL(n:Nat):offs (n+1)=offs n++[⟨.off ((n:Int)+1),mks0⟩]:=by
 unfold offs
 rw[EF,MC]
 rfl
theorem kbN(n:Nat):(offs n).length=n:=by simp[offs]
noncomputable def BK45:Bask:=⟨[⟨0,100,2,none⟩],3,false⟩
noncomputable def st45(names:List Str)(rs:List Rul)(kvs:List (Key×V)):DeskD:=⟨[("a" :Str)],[none],names,offs names.length,rs,("again" :Str),[BK45],[kvs]⟩
noncomputable def stV(names:List Str):DeskD:=⟨[("a" :Str)],[none],names,offs names.length,[],("again" :Str),[],[]⟩
structure Nms(names:List Str):Prop where
 l:names.length<=5
 z:∀k z,names[k]?>>z->∃b m,m<12/\z=nmS k b m
theorem Nms.cln{names:List Str}(h:Nms names){k:Nat}{z:Str}(e:names[k]?>>z):Cln z:=by
 obtain⟨b,m,hm,rfl⟩:=h.z k z e
 exact kn4 ⟨k,by have:=at_lt e;have:=h.l;lia⟩ b ⟨m,hm⟩
theorem Nms.name{names:List Str}(h:Nms names){k:Nat}{z:Str}(e:names[k]?>>z):NameW z:=by
 obtain⟨b,m,hm,rfl⟩:=h.z k z e
 exact knc ⟨k,by have:=at_lt e;have:=h.l;lia⟩ b ⟨m,hm⟩
theorem kne(k:Nat)(b:Bool)(m:Nat):(TxM.cp (nmS k b m)).head?>>(110+k):=rfl
theorem Nms.head{names:List Str}(h:Nms names){k:Nat}{z:Str}(e:names[k]?>>z):(TxM.cp z).head?>>(110+k):=by
 obtain⟨b,m,hm,rfl⟩:=h.z k z e
 exact kne k b m
theorem Nms.nodup{names:List Str}(h:Nms names):names.Nodup:=by
 refine DW.mpr fun i j hi hj hij e=>?_
 have h1:=h.head (Ez hi)
 have h2:=h.head (Ez hj)
 rw[e,h2] at h1
 have:=Option.some.inj h1
 lia
theorem Nms.take{names:List Str}(h:Nms names)(n:Nat):Nms (names.take n):=⟨by rw[MU];have:=h.l;lia,fun k z e=>by
 rw[D7] at e
 split at e
 ·exact h.z k z e
 ·cases e⟩
theorem Nms.notA{names:List Str}(h:Nms names){k:Nat}{z:Str}(e:names[k]?>>z):z≠("a" :Str):=fun ea=>by
 have h1:=h.head e
 rw[ea] at h1
 have h2:(TxM.cp ("a" :Str)).head?>>97:=by cutsat
 rw[h2] at h1
 have:=Option.some.inj h1
 lia
theorem kk8:RunTo [("kind a" :Str)] [] (stV []):=by
 have T:=Tells.kind (S:=DESK0) (z:=("a" :Str)) (by cutsat) (by cutsat) (by decide) rfl (by decide)
 have e:({DESK0 with kn:=DESK0.kn++[("a" :Str)],ps:=DESK0.ps++[none]}:DeskD)=stV []:=rfl
 rw[e] at T
 exact .tell (rows:=[]) .nil (by decide) knA T
noncomputable def rowsV(names:List Str):List Str:=("kind a" :Str)::names.zipIdx.map fun p=>rowV p.1 (nuS (p.2+1))
theorem kiO{names:List Str}{z:Str}:rowsV (names++[z])=rowsV names++[rowV z (nuS (names.length+1))]:=by
 unfold rowsV
 rw[List.zipIdx_append,MC]
 simp
theorem kmV{names:List Str}(h:Nms names):∀n,n<=names.length->RunTo (rowsV (names.take n)) [] (stV (names.take n)):=by
 intro n
 induction n with
 |zero=>intro _;exact kk8
 | succ n ih=>
  intro hn
  obtain⟨z,ez⟩:=at_of (xs:=names) (i:=n) hn
  have et:=take_snoc ez
  have hl:=h.l
  have hlt:(names.take n).length=n:=by rw[MU];lia
  rw[et,kiO,hlt]
  have hn5:n+1<6:=by lia
  have hnum:=kmc ⟨n+1,hn5⟩
  have hc:=kfr ⟨n+1,hn5⟩
  have r:=ih (by lia)
  have T:=Tells.vch (S:=stV (names.take n)) (z:=z) (y:=nuS (n+1)) (n:=((n+1:Nat):Int)) (h.name ez) hnum (by lia) (by lia) (by
   show z∉[("a" :Str)]++names.take n
   intro hm
   rcases MY.mp hm with hm|hm
   ·exact h.notA ez (ME.mp hm)
   ·obtain⟨i,hi,e⟩:=EE hm
    have ei:(names.take n)[i]?>>z:=by rw[Ez hi,e]
    have h1:=(h.take n).head ei
    rw[h.head ez] at h1
    have:=Option.some.inj h1
    lia) (by show(offs (names.take n).length).length<8;rw[kbN,hlt];lia) (by show(names.take n).length=(offs (names.take n).length).length;rw[kbN]) (by show 1<=100;decide)
  have e2:({stV (names.take n) with vn:=(stV (names.take n)).vn++[z],vs:=(stV (names.take n)).vs++[⟨.off ((n+1:Nat):Int),mks0⟩]}:DeskD)=stV (names.take n++[z]):=by
   unfold stV
   rw[ML,hlt]
   show(⟨_,_,names.take n++[z],offs n++[⟨.off ((n+1:Nat):Int),mks0⟩],_,_,_,_⟩:DeskD)=⟨_,_,_,offs (n+1),_,_,_,_⟩
   rw[kgL]
   rfl
  rw[e2] at T
  exact .tell r (by show 0<=1000;decide) (knx (h.cln ez) hc) T
theorem kk9{names rows:List Str}(r:RunTo rows [] (stV names)):RunTo (rows++[("basket 3" :Str)]++[("ware a 100 2" :Str)]) [] (st45 names [] []):=by
 have T1:=Tells.bask (S:=stV names) (z:=("3" :Str)) (n:=3) num_3 (by decide) (by decide) (by show 0<20;decide) (by show 0<20;decide)
 have r1:=RunTo.tell r (by show 0<=1000;decide) knB T1
 have T2:=Tells.ware (S:={stV names with bs:=(stV names).bs++[⟨[],3,false⟩],hs:=(stV names).hs++[[]]}) (z1:=("a" :Str)) (z2:=("100" :Str)) (z3:=("2" :Str)) (n2:=100) (n3:=2) (j:=0) (B:=⟨[],3,false⟩) (by cutsat) knb num_2 (by decide) (by decide) (by decide) (by decide) rfl (by show [("a" :Str)].Nodup;cutsat) (by show 1<=100;decide) rfl (by show 0<12;decide) (by decide)
 exact .tell r1 (by show 1<=1000;decide) knw T2
theorem khW{names rows:List Str}{os:List (Nat×List V)}{rs:List Rul}{kvs:List (Key×V)}(h:Nms names)(r:RunTo rows os (st45 names rs kvs)){j:Nat}{z:Str}(e:names[j]?>>z){n:Nat}(hn:n<6)(hk:kvs.length<=100):RunTo (rows++[rowH z (nuS n)]) os (st45 names rs (putK kvs (.inl (j:Int)) (.int n))):=by
 have T:=Tells.hold (S:=st45 names rs kvs) (z:=z) (y:=nuS n) (n:=(n:Int)) (j:=j) (kvs:=kvs) (by show 1≠0;decide) (h.name e) (kmc ⟨n,hn⟩) (by lia) (by lia) e h.nodup (by have:=h.l;show names.length<=100;lia) rfl hk
 exact .tell r (by show 1<=1000;decide) (knz (h.cln e) (kfr ⟨n,hn⟩)) T
def kfC(kvs:List (Key×V))(hand:List Int):Prop:=∀n z,hand[n]?>>z->hldM kvs n=.int z
theorem kkj(kvs:List (Key×V))(j k:Nat)(v:V):hldM (putK kvs (.inl (j:Int)) v) k=if k=j then v else hldM kvs k:=by
 unfold hldM
 rw[kk2]
 by_cases e:k=j
 ·subst e
  rw[if_pos rfl,if_pos rfl]
  rfl
 ·rw[if_neg e,if_neg (fun h=>e (by cases h;rfl))]
theorem klE{kvs:List (Key×V)}{hand:List Int}(h:kfC kvs hand){j:Nat}(n:Nat):kfC (putK kvs (.inl (j:Int)) (.int n)) (hand.set j n):=fun k z e=>by
 rw[kkj]
 rw[List.getElem?_set] at e
 by_cases hk:k=j
 ·subst hk
  rw[if_pos rfl] at e⊢
  split at e
  ·cases e;rfl
  ·cases e
 ·rw[if_neg (Ne.symm hk)] at e
  rw[if_neg hk]
  exact h k z e
theorem kjF{names rows:List Str}(h:Nms names)(r:RunTo rows [] (st45 names [] [])):∀n,n<=names.length->∃kvs,RunTo (rows++(names.take n).map rowH2) [] (st45 names [] kvs)/\kvs.length<=n/\∀k,k<n->hldM kvs k=.int 2:=by
 intro n
 induction n with
 |zero=>intro _;exact⟨[],by rw[List.take_zero,Ep,El];exact r,Mv _,fun k hk=>by lia⟩
 | succ n ih=>
  intro hn
  obtain⟨kvs,r',hl,hk⟩:=ih (by lia)
  obtain⟨z,ez⟩:=at_of (xs:=names) (i:=n) hn
  have h5:=h.l
  have r2:=khW h r' ez (n:=2) (by decide) (by lia)
  rwa[putK kvs (.inl (n:Int)) (.int 2),?_,Mz (kcC _ _ _) (by lia),fun k hk'=>?_]
  ·rw[take_snoc ez,MC,<-M6]
   show RunTo (_++[rowH2 z]) _ _
   rw[khY,show("2" :Str)=nuS 2 by cutsat]
   exact r2
  ·rw[kkj]
   split
   ·rfl
   ·exact hk k (by lia)
theorem rw_cln{c:Str}(h:c∈kdh):Cln c:=by
 simp only[kdh,MB,MR,or_false] at h
 rcases h with rfl|rfl|rfl|rfl <;> cutsat
theorem kk7{names rows:List Str}{os:List (Nat×List V)}{rs:List Rul}{kvs:List (Key×V)}(h:Nms names)(r:RunTo rows os (st45 names rs kvs)){i j:Nat}{x y c:Str}(ex:names[i]?>>x)(ey:names[j]?>>y)(hc:c∈kdh)(hr:rs.length<20):RunTo (rows++[rowR x c y]) os (st45 names (rs++[rulM c i j]) kvs):=by
 have T:=Tells.rule (S:=st45 names rs kvs) (a:=x) (b:=y) (c:=c) (i:=i) (j:=j) (h.name ex) (h.name ey) hc ex ey h.nodup (by have:=h.l;show names.length<=100;lia) hr
 exact .tell r (by show 1<=1000;decide) (kny (h.cln ex) (rw_cln hc) (h.cln ey)) T
noncomputable def T45(names:List Str)(rs:List Rul):TillD:=⟨[none],offs names.length,rs,("again" :Str)⟩
theorem klR{names:List Str}(h:Nms names)(rs:List Rul):ke8 (T45 names rs):=by
 rwa[fun V hV=>?_,by show(offs names.length).length<=8;rw[kbN];have:=h.l;lia]
 obtain⟨k,hk,rfl⟩:=MZ.mp hV
 have hk:=List.mem_range.mp hk
 have:=h.l
 rwa[by constructor <;> lia,fun _ h=>(by cases h),(show(0:Int)<=0/\(0:Int)<=1000000000000 by decide),fun _ h=>(by cases h)]
theorem wf45:Wf [none] BK45 (stnd0 BK45):=by
 rwa[fun i k e=>?_,by decide,by decide,fun r hr=>?_,by decide,by decide,6,by cutsat,by cutsat,by cutsat,by cutsat,by cutsat]
 ·cases i with
  |zero=>cases e
  |succ i=>simp at e
 ·rw[ME.mp hr]
  rwa[by decide,by decide,by decide,by decide,fun _ h=>(by cases h)]
theorem kmW{names rows:List Str}{os:List (Nat×List V)}{rs:List Rul}{kvs:List (Key×V)}{hand:List Int}(h:Nms names)(r:RunTo rows os (st45 names rs kvs))(ho:kfC kvs hand)(hl:hand.length=names.length){js:List Nat}{zs:List Str}(hz:P2 (fun j z=>names[j]?>>z) js zs)(h8:js.length<=8):RunTo (rows++[Txt.join BL (("use" :Str)::zs)]) (os++[(rows.length+1,useV (T45 names rs) BK45 hand js)]) (st45 names rs kvs):=by
 have hlz:=hz.len
 have A:=Asks.use (S:=st45 names rs kvs) (ws:=zs) (js:=js) (kvs:=kvs) (hand:=hand) (B:=BK45) ⟨by rw[MV];lia,fun i j e=>by
   obtain⟨z,ez⟩:=at_of (xs:=zs) (i:=i) (by have:=at_lt e;lia)
   have q:=hz.get e ez
   exact⟨z,by rw[Nat.add_comm 1 i,List.getElem?_cons_succ];exact ez,h.name q,q⟩⟩ h8 h.nodup (by have:=h.l;show names.length<=100;lia) (klR h rs) rfl wf45 rfl (by show hand.length=(offs names.length).length;rw[kbN];exact hl) (by show(offs names.length).length<=100;rw[kbN];have:=h.l;lia) ho (fun n hn=>by
   show n<(offs names.length).length
   rw[kbN]
   obtain⟨i,hi,e⟩:=EE hn
   have ei:js[i]?>>n:=by rw[Ez hi,e]
   obtain⟨z,ez⟩:=at_of (xs:=zs) (i:=i) (by lia)
   exact at_lt (hz.get ei ez))
 refine .ask r (by show 1<=1000;decide) (w_use fun z hz'=>?_) A
 obtain⟨i,hi,e⟩:=EE hz'
 have ei:zs[i]?>>z:=by rw[Ez hi,e]
 obtain⟨j,ej⟩:=at_of (xs:=js) (i:=i) (by lia)
 exact h.cln (hz.get ej ei)
noncomputable def rmv(x:Addr)(H:Hp):Hp:=fun a=>if a=x then none else H a
theorem kgy{x:Addr}{H:Hp}:rmv x H x=none:=if_pos rfl
theorem kb7{x a:Addr}{H:Hp}(n:a≠x):rmv x H a=H a:=if_neg n
theorem kfP{x a:Addr}{H:Hp}{o:HO}(h:rmv x H a>>o):H a>>o:=by
 by_cases e:a=x
 ·subst e
  rw[kgy] at h
  cases h
 ·rw[kb7 e] at h
  exact h
theorem kmY{x:Addr}{H:Hp}(hx:NX H x):But x H (rmv x H):=fun b u n e=>ev_eq (by rw[kb7 n];exact e) fun⟨ps,e1,t,hor⟩=>⟨ps,by rw[kb7 n];exact e1,t,fun pos c ec=>by
 obtain⟨c',rfl,z2⟩:=hor pos c ec
 exact⟨c',rfl,by rw[kb7 fun e=>hx _ (e▸z2)];exact z2⟩⟩
theorem rmv_sub{x:Addr}{H:Hp}:Same (rmv x H) H:=fun b u e=>ev_eq (kfP e) fun⟨ps,e1,t,hor⟩=>⟨ps,kfP e1,t,fun pos c ec=>by
 obtain⟨c',rfl,z2⟩:=hor pos c ec
 exact⟨c',rfl,kfP z2⟩⟩
theorem klM{Hs H H':Hp}{x:Addr}(s:Same Hs H)(b:But x H H')(f:Hs x=none):Same Hs H':=fun c u e=>ka9 (s c u e) fun u' e'=>b c u' (kak e f) e'
theorem khZ{H0 H:Hp}{q:Addr}{xs:List V}(s:Same H0 H)(f:H0 q=none)(e:H q>>(.lst xs)):Same H0 (rmv q H):=Chg.keep0 (M:=[q]) s (fun m hm=>by rw[ME.mp hm];exact f) (.of_but Mx (kmY (nx e)))
theorem VchIs.rmv{H:Hp}{q v:Addr}{V:Vch}{xs:List L2.V}(hq:H q>>(.lst xs))(tb:Tbs d (rmv q H)):VchIs d H v V->VchIs d (rmv q H) v V:=by rintro⟨mA,dx,fs,h1,h2,h3,⟨dm,fm,m1,m2⟩,h5,_⟩;exact⟨mA,dx,fs,by rw[kb7 (fun e=>by rw[e,hq] at h1;cases h1)];exact h1,h2,h3,⟨dm,fm,by rw[kb7 (fun e=>by rw[e,hq] at m1;cases m1)];exact m1,m2⟩,h5,tb⟩
theorem LineAt.rmv{C:Addr}{H:Hp}{q x:Addr}{r:War.Row}{xs:List L2.V}(hq:H q>>(.lst xs)):LineAt C H x r->LineAt C (rmv q H) x r:=by rintro⟨dx,fs,h1,h2⟩;exact⟨dx,fs,by rw[kb7 (fun e=>by rw[e,hq] at h1;cases h1)];exact h1,h2⟩
theorem BaskAt.rmv{C:Addr}{H:Hp}{q b l:Addr}{cg:Int}{m:Bool}{xs:List L2.V}(hq:H q>>(.lst xs)):BaskAt C H b l cg m->BaskAt C (rmv q H) b l cg m:=by rintro⟨dx,fs,h1,h2⟩;exact⟨dx,fs,by rw[kb7 (fun e=>by rw[e,hq] at h1;cases h1)];exact h1,h2⟩
def LI(d:D)(H0 H:Hp)(names:List Str)(na ro ve ha ba ru du:Addr)(nr nk:Nat):Prop:=∃(G:Hp)(rows:List Str)(os:List (Nat×List V))(rs:List Rul)(kvs:List (Key×V))(hand:List Int)(ra da va:List Addr),Same H0 G/\Same G H/\(G ro=none/\G ha=none/\G ru=none/\G du=none)/\G na>>(.lst (names.map V.str))/\G ve>>(.lst (va.map V.ref))/\P2 (fun a V=>VchIs d G a V) va (offs names.length)/\BaskIs d.qf d.qh G ba BK45/\
 (H ro>>(.lst (rows.map V.str))/\H ha>>(.lst (hand.map V.int))/\H ru>>(.lst (ra.map V.ref))/\H du>>(.lst (da.map V.ref)))/\P2 (fun a r=>RulIs G a r) ra rs/\P2 (fun a r=>FndIs G a r) da os/\RunTo rows os (st45 names rs kvs)/\(∀x∈rows,RowT x)/\rows≠[]/\rows.length<=nr/\kfC kvs hand/\hand.length=names.length/\kvs.length<=nk/\rs.length<=18
def LC(d:D)(H0 H:Hp)(names:List Str)(na ro ve ha ba ru du qc:Addr)(cv:List V)(nr nk:Nat):Prop:=∃(G:Hp)(rows:List Str)(os:List (Nat×List V))(rs:List Rul)(kvs:List (Key×V))(hand:List Int)(ra da va:List Addr),Same H0 G/\Same G H/\(G ro=none/\G ha=none/\G ru=none/\G du=none)/\G na>>(.lst (names.map V.str))/\G ve>>(.lst (va.map V.ref))/\P2 (fun a V=>VchIs d G a V) va (offs names.length)/\BaskIs d.qf d.qh G ba BK45/\
 (H ro>>(.lst (rows.map V.str))/\H ha>>(.lst (hand.map V.int))/\H ru>>(.lst (ra.map V.ref))/\H du>>(.lst (da.map V.ref)))/\P2 (fun a r=>RulIs G a r) ra rs/\P2 (fun a r=>FndIs G a r) da os/\RunTo rows os (st45 names rs kvs)/\(∀x∈rows,RowT x)/\rows≠[]/\rows.length<=nr/\kfC kvs hand/\hand.length=names.length/\kvs.length<=nk/\rs.length<=18/\G qc>>(.lst cv)
theorem kmZ(k:Nat):(My k [V.int 2]).flatten=(My k (2:Int)).map V.int:=by
 induction k with
 |zero=>rfl
 |succ k ih=>
  rw[Et,Ef,ih,Et]
  rfl
theorem kla{names:List Str}(hN:Nms names):∃kvs,RunTo (rowsV names++[("basket 3" :Str)]++[("ware a 100 2" :Str)]++names.map rowH2) [] (st45 names [] kvs)/\kvs.length<=names.length/\kfC kvs (My names.length 2)/\∀x∈rowsV names++[("basket 3" :Str)]++[("ware a 100 2" :Str)]++names.map rowH2,RowT x:=by
 have r1:=kmV hN names.length (Mv _)
 rw[M0] at r1
 obtain⟨kvs,r2,hl,hk⟩:=kjF hN (kk9 r1) names.length (Mv _)
 rw[M0] at r2
 rwa[kvs,r2,hl,fun n z e=>?_,fun x hx=>?_]
 ·rw[De] at e
  split at e
  ·next h=>cases e;exact hk n h
  ·cases e
 ·rcases MY.mp hx with hx|hx
  ·rcases MY.mp hx with hx|hx
   ·rcases MY.mp hx with hx|hx
    ·rcases MB.mp hx with rfl|hx
     ·rwa[by cutsat,by cutsat]
     ·obtain⟨⟨z,i⟩,hm,rfl⟩:=MZ.mp hx
      have hz:names[i]?>>z:=List.mem_zipIdx_iff_getElem?.mp hm
      have:=at_lt hz
      have:=hN.l
      exact knD (hN.cln hz) (kfr ⟨i+1,by lia⟩)
    ·rw[ME.mp hx]
     rwa[by cutsat,by cutsat]
   ·rw[ME.mp hx]
    rwa[by cutsat,by cutsat]
  ·obtain⟨z,hm,rfl⟩:=MZ.mp hx
   obtain⟨i,hi,e⟩:=EE hm
   have hz:names[i]?>>z:=by rw[Ez hi,e]
   rw[khY]
   exact klS (hN.cln hz) (by cutsat)
theorem kly{H Hk Hf:Hp}{names:List Str}{na ro ve ha ba ru du l y:Addr}{va:List Addr}(htb:Tbs d H)(hN:Nms names)(s:Same H Hk)(hro:H ro=none)(hha:H ha=none)(nn:ro≠ha)(ero:Hk ro>>(.lst ((rowsV names++[("basket 3" :Str)]++[("ware a 100 2" :Str)]++names.map rowH2).map V.str)))(eha:Hk ha>>(.lst ((My names.length (2:Int)).map V.int)))(ena:Hk na>>(.lst (names.map V.str)))(n1:na≠ro/\na≠ha)(eve:Hk ve>>(.lst (va.map V.ref)))(n2:ve≠ro/\ve≠ha)(hva:P2 (fun a V=>VchIs d Hk a V) va (offs names.length))(hB:BaskAt d.qh Hk ba l 3 false)(el:Hk l>>(.lst [.ref y]))(n3:l≠ro/\l≠ha)(hL:LineAt d.qf Hk y ⟨0,100,2,none⟩)(sf:Same Hk Hf)(fru:Hk ru=none)(fdu:Hk du=none)(eru:Hf ru>>(.lst []))(edu:Hf du>>(.lst [])):LI d H Hf names na ro ve ha ba ru du 13 5:=by
 obtain⟨kvs,hrun,hkl,hho,hrt⟩:=kla hN
 have ero':(rmv ha Hk) ro>>(.lst ((rowsV names++[("basket 3" :Str)]++[("ware a 100 2" :Str)]++names.map rowH2).map V.str)):=by rw[kb7 nn];exact ero
 have s1:Same H (rmv ha Hk):=khZ s hha eha
 have s2:Same H (rmv ro (rmv ha Hk)):=khZ s1 hro ero'
 have at2:∀{b:Addr}{o:HO},b≠ro/\b≠ha->Hk b>>o->(rmv ro (rmv ha Hk)) b>>o:=fun n e=>by rw[kb7 n.1,kb7 n.2];exact e
 have no2:∀{b:Addr},Hk b=none->(rmv ro (rmv ha Hk)) b=none:=fun {b} e=>by
  by_cases h:b=ro
  ·rw[h];exact kgy
  ·rw[kb7 h]
   by_cases h':b=ha
   ·rw[h'];exact kgy
   ·rw[kb7 h'];exact e
 have h5:=hN.l
 rwa[rmv ro (rmv ha Hk),_,[],[],kvs,_,[],[],va,s2,(rmv_sub.trans rmv_sub).trans sf,⟨kgy,by rw[kb7 (Ne.symm nn)];exact kgy,no2 fru,no2 fdu⟩,at2 n1 ena,at2 n2 eve,hva.mono fun _ _ h=>(h.rmv eha (htb.same s1)).rmv ero' (htb.same s2),⟨l,[y],(hB.rmv eha).rmv ero',at2 n3 el, .cons ((hL.rmv eha).rmv ero') .nil⟩,⟨sf _ _ ero,sf _ _ eha,eru,edu⟩, .nil, .nil,hrun,hrt,by simp[rowsV],?_,hho,by rw[EB],by lia,by decide]
 simp only[rowsV,ML,MV,Mu,Dl,List.length_zipIdx]
 lia
theorem LI.same{H0 H H':Hp}{names:List Str}{na ro ve ha ba ru du:Addr}{nr nk:Nat}(s:Same H H'):LI d H0 H names na ro ve ha ba ru du nr nk->LI d H0 H' names na ro ve ha ba ru du nr nk:=by rintro⟨G,rows,os,rs,kvs,hand,ra,da,va,h1,h2,h3,h4,h5,h6,h7,⟨g1,g2,g3,g4⟩,r⟩;exact⟨G,rows,os,rs,kvs,hand,ra,da,va,h1,h2.trans s,h3,h4,h5,h6,h7,⟨s _ _ g1,s _ _ g2,s _ _ g3,s _ _ g4⟩,r⟩
theorem if_or{t u:TT}{a b:TS}{D:Ends}{σ:St}{H:Hp}(c1 c2:Bool)(h1:∀Q:Bool->Hp->Prop,Q c1 H->t σ H Q)(h2:∀Q:Bool->Hp->Prop,Q c2 H->u σ H Q)(hA:(c1||c2)=true->a D σ H)(hB:(c1||c2)=false->b D σ H):tIfS (tOr t u) a b D σ H:=by
 unfold tIfS tOr
 apply h1
 cases c1 with
 |true=>exact iteT (iteT (hA rfl))
 |false=>
  refine iteF (h2 _ ?_)
  cases c2 with
  |true=>exact iteT (hA rfl)
  |false=>exact iteF (hB rfl)
theorem LC.same{H0 H H':Hp}{names:List Str}{na ro ve ha ba ru du qc:Addr}{cv:List V}{nr nk:Nat}(s:Same H H'):LC d H0 H names na ro ve ha ba ru du qc cv nr nk->LC d H0 H' names na ro ve ha ba ru du qc cv nr nk:=by rintro⟨G,rows,os,rs,kvs,hand,ra,da,va,h1,h2,h3,h4,h5,h6,h7,⟨g1,g2,g3,g4⟩,r⟩;exact⟨G,rows,os,rs,kvs,hand,ra,da,va,h1,h2.trans s,h3,h4,h5,h6,h7,⟨s _ _ g1,s _ _ g2,s _ _ g3,s _ _ g4⟩,r⟩
theorem klz{H0 H:Hp}{names:List Str}{na ro ve ha ba ru du qc:Addr}{cv:List V}{nr nk:Nat}(hI:LI d H0 H names na ro ve ha ba ru du nr nk)(f:H qc=none):LC d H0 (upd H qc (.lst cv)) names na ro ve ha ba ru du qc cv nr nk:=by
 obtain⟨G,rows,os,rs,kvs,hand,ra,da,va,sG,gH,⟨g1,g2,g3,g4⟩,gna,gve,hva,hB,⟨ero,eha,eru,edu⟩,hra,hda,h1,h2,h3,h4,h5,h6,h7,h8⟩:=hI
 have n:=kai (o:=.lst cv) f
 have eq:(upd H qc (.lst cv)) qc>>(.lst cv):=kad
 generalize upd H qc (.lst cv)=H' at *
 have fN:∀b∈[qc],H b=none:=fun b hb=>by rw[ME.mp hb];exact f
 obtain⟨sN1,sN2⟩:=kdg (N:=[qc]) (gH.trans n) (fun b hb=>gH.free (fN b hb)) fun b hb=>by
  rw[ME.mp hb]
  rwa[_,eq,6,fun _ z=>by cases z]
 have no:∀{b:Addr}{o:HO},H b>>o->G b=none->ext [qc] G H' b=none:=fun e g=>kbu fN (by rw[e];simp) g
 rwa[ext [qc] G H',rows,os,rs,kvs,hand,ra,da,va,sG.trans sN1,sN2,⟨no ero g1,no eha g2,no eru g3,no edu g4⟩,sN1 _ _ gna,sN1 _ _ gve,hva.mono fun _ _ h=>h.same sN1,hB.same sN1,⟨n _ _ ero,n _ _ eha,n _ _ eru,n _ _ edu⟩,hra.mono fun _ _ h=>sN1 _ _ h,hda.mono fun _ _ h=>h.same sN1,h1,h2,h3,h4,h5,h6,h7,h8,by rw[kbv Mx];exact eq]
theorem kg7{B:Nat}:∀{xs:List Str},(∀x∈xs,x.length<=B)->(xs.map (·.length)).sum<=xs.length*B
 |[],_=>by simp
 |x::xs,h=>by
  have h1:=h x Mx
  have h2:=kg7 (xs:=xs) fun z hz=>h z (MH _ hz)
  simp only[MQ,List.sum_cons,MV,Nat.add_mul,Nat.one_mul]
  lia
variable{T:TillD}{B:Bask}{hand:List Int}
theorem kga:∀(o u:List Nat)(S:Stnd),∃p s,o=p++s/\(walkM T B hand o u S).1=u++p/\∀n s',s=n::s'->∀V,T.vs[n]?>>V->dueM V T B hand (walkM T B hand o u S).1 (walkM T B hand o u S).2 n≠.non
 |[],u,S=>⟨[],[],rfl,(El u).symm,fun n s' e=>by cases e⟩
 | n ::o,u,S=>by
  unfold walkM
  cases hV:T.vs[n]? with
  |none=>exact⟨[],n::o,rfl,(El u).symm,fun m s' e V hV'=>by cases e;rw[hV] at hV';cases hV'⟩
  | some V=>
   dsimp only
   by_cases hn:dueM V T B hand u S n=.non
   ·rw[if_pos hn]
    obtain⟨p,s,e1,e2,e3⟩:=kga o (u++[n]) (aftM V T.ps (kds B) S)
    rwa[n::p,s,by rw[e1];rfl,by rw[e2,M6];rfl,e3]
   ·rw[if_neg hn]
    exact⟨[],n::o,rfl,(El u).symm,fun m s' e V' hV'=>by
     cases e
     rw[hV] at hV'
     cases hV'
     exact hn⟩
theorem knm{V:Vch}{T:TillD}{B:Bask}{hand:List Int}{u:List Nat}{S:Stnd}{n:Nat}(h:dueM V T B hand u S n≠.non):∃z,dueM V T B hand u S n=.str z:=by
 unfold dueM at h⊢
 cases e:wordM V T.rs hand u n with
 |some z=>exact⟨z,rfl⟩
 | none=>
  rw[e] at h
  dsimp only at h⊢
  unfold hindM at h⊢
  split
  ·rwa[8]
  ·split
   ·rwa[8]
   ·split
    ·rwa[8]
    ·rename_i h1 h2 h3
     rw[if_neg h1,if_neg h2,if_neg h3] at h
     exact absurd rfl h
theorem kkp{o:List Nat}{k:Nat}{z:L2.V}(h:kdf T B hand o>>(k,z)):∃w,z=.str w:=by
 unfold kdf at h
 obtain⟨p,s,e1,e2,e3⟩:=kga (T:=T) (B:=B) (hand:=hand) o [] (stnd0 B)
 generalize walkM T B hand o [] (stnd0 B)=r at *
 obtain⟨u,S⟩:=r
 dsimp only at *
 rw[EW] at e2
 subst e2
 by_cases hl:u.length<o.length
 ·rw[if_pos hl] at h
  cases s with
  |nil=>
   rw[e1,El] at hl
   exact absurd hl (Em _)
  | cons n s'=>
   have eg:o.getD u.length 0=n:=by rw[e1,M9,EJ (Mv _),Nat.sub_self];rfl
   rw[eg] at h
   cases hV:T.vs[n]? with
   |none=>rw[hV] at h;cases h
   |some V=>
    rw[hV] at h
    obtain⟨w,ew⟩:=knm (e3 n s' rfl V hV)
    dsimp only at h
    rw[ew] at h
    cases h
    rwa[w,6]
 ·rw[if_neg hl] at h
  split at h
  ·cases h
  ·cases h
   rwa[8]
def Flt(v:List V):Prop:=v.length<=100/\∀x∈v,x=.non∨(∃z,x=.bl z)∨(∃z,x=.int z)∨∃z,x=.str z
theorem kk3(T:TillD)(B:Bask)(hand:List Int)(o:List Nat):Flt (useV T B hand o):=by
 unfold useV
 cases e:kdf T B hand o with
 |none=>
  rwa[by show 2<=100;decide,fun x hx=>?_]
  simp only[MB,MR,or_false] at hx
  rcases hx with rfl|rfl
  ·exact .inr (.inr (.inr ⟨_,rfl⟩))
  ·exact .inr (.inr (.inl ⟨_,rfl⟩))
 |some p=>
  obtain⟨k,z⟩:=p
  obtain⟨w,rfl⟩:=kkp e
  rwa[by show 3<=100;decide,fun x hx=>?_]
  simp only[MB,MR,or_false] at hx
  rcases hx with rfl|rfl|rfl
  ·exact .inr (.inr (.inr ⟨_,rfl⟩))
  ·exact .inr (.inr (.inl ⟨_,rfl⟩))
  ·exact .inr (.inr (.inr ⟨_,rfl⟩))
theorem RunTo.flat{rows:List Str}{os:List (Nat×List V)}{S:DeskD}(r:RunTo rows os S):(∀q∈os,Flt q.2)/\os.length<=rows.length:=by
 induction r with
 |nil=>exact⟨fun _ h=>(by cases h),Mv _⟩
 |tell t b w h ih=>exact⟨ih.1,by rw[ML];have:=ih.2;lia⟩
 | ask t b w h ih=>
  rwa[fun q hq=>?_,by rw[ML,ML];have:=ih.2;show _+1<=_+1;lia]
  rcases MY.mp hq with hq|hq
  ·exact ih.1 q hq
  ·rw[ME.mp hq]
   cases h
   exact kk3 _ _ _ _
theorem kns{H:Hp}{a b:Addr}{r:Nat×List V}(f:Flt r.2)(h1:FndIs H a r)(h2:FndIs H b r):Alk 4 H (.ref a) (.ref b):=by
 obtain⟨q,e1,e2⟩:=h1
 obtain⟨q',e1',e2'⟩:=h2
 refine .inr ⟨a,b,_,_,rfl,rfl, .inr ⟨e1,e1'⟩,rfl,(by show 3<=100;decide),fun i x y ex ey=>?_⟩
 match i,ex,ey with
 |0,ex,ey=>cases ex;cases ey;exact .inl ⟨rfl, .inr (.inr (.inl ⟨_,rfl⟩))⟩
 |1,ex,ey=>cases ex;cases ey;exact .inl ⟨rfl, .inr (.inr (.inr ⟨_,rfl⟩))⟩
 |2,ex,ey=>
  cases ex;cases ey
  refine .inr ⟨q,q',_,_,rfl,rfl, .inr ⟨e2,e2'⟩,rfl,f.1,fun j x y ex ey=>?_⟩
  rw[ex] at ey
  cases ey
  exact .inl ⟨rfl,f.2 x (MK ex)⟩
 |i+3,ex,ey=>simp at ex
theorem knt{H:Hp}{l m:Addr}{fa da:List Addr}{os:List (Nat×List V)}(el:H l>>(.lst (fa.map V.ref)))(em:H m>>(.lst (da.map V.ref)))(h1:P2 (fun a r=>FndIs H a r) fa os)(h2:P2 (fun a r=>FndIs H a r) da os)(hf:∀q∈os,Flt q.2)(hl:os.length<=100):Alk 5 H (.ref l) (.ref m):=by
 have l1:=h1.len
 have l2:=h2.len
 refine .inr ⟨l,m,_,_,rfl,rfl, .inl ⟨el,em⟩,by rw[Mu,Mu];lia,by rw[Mu];lia,fun i x y ex ey=>?_⟩
 obtain⟨a,ea,rfl⟩:=kcS ex
 obtain⟨b,eb,rfl⟩:=kcS ey
 obtain⟨r,er⟩:=at_of (xs:=os) (i:=i) (by have:=at_lt ea;lia)
 exact kns (hf r (MK er)) (h1.get ea er) (h2.get eb er)
open TxM in
theorem kim{c:Nat}:∀(xs:List (List Nat)),xs.length<=(glue c xs).length+1
 |[]=>by simp
 |[x]=>by simp
 |x::y::r=>by
  have:=kim (c:=c) (y::r)
  show(y::r).length+1<=(x++c::glue c (y::r)).length+1
  rw[ML,MV (a:=c)]
  lia
open TxM in
theorem split_len(x:Str):(Txt.split x BL).length<=x.length+1:=by
 have h:=StrLaws.join_split x ⟨#[32]⟩
 have h1:=kim (c:=32) ((Txt.split x ⟨#[32]⟩).map cp)
 rw[<-kdC,h,Mu] at h1
 exact h1
theorem qo:kam ["_law_script","_law_cell_here","_law_names","_law_rows","_law_vouchers","_law_hand","_law_basket","_law_rules","_law_due","_law_k","_law_one","_law_drawn","_law_at","_law_order"] ["_law_script"] (kaf s_law):=by ac_rfl
theorem kn3(W:WB K mg d base):FO P w W 12 d.f_law d.ZI ["_law_script"] (keD K d.tP_falling_groups d.tP_first_use):=by
 refine FunD.ok W.d_law.F qo (fun vs H Q E h=>?_) (fun cdv A outer s H vs Q E hr h=>?_)
 ·obtain⟨a,ns,rfl,_⟩:=h
  rfl
 ·obtain⟨a,ns,rfl,hS,hn,htb0,_,k⟩:=h
  have htb:Tbs d H:=htb0
  exists JH,kgI,W
  exists Q1,kfZ,W
  exists JI,kgH,W
  exists X8,keW,W
  exists Qo,kcl,W
  exists Ye,ked,W
  exists JJ,kgG,W
  exists JK,keU,W
  exists X4,kec,W
  exists JL,kf0,W
  exists JM,kiS,W
  have hr1:Room 1 _:=hr.mono (by decide)
  have hr2:Room 2 _:=hr.mono (by decide)
  have hr5:Room 5 _:=hr.mono (by decide)
  have hr10:Room 10 _:=hr.mono (by decide)
  refine⟨_,kac (psl (i:=1) qo.nd (pcl JH hr1 W.Ud (kaa (pv 0) (kaa kaq kae))))
   (kac (psl (i:=2) qo.nd (kbf (N:=["_law_k","_law_cell_here"]) (CompScope.of (N:=["_law_k","_law_cell_here"]) (cap:=[none,some 1]) (kaf s_law).names ["_law_script","_law_cell_here","_law_names","_law_rows","_law_vouchers","_law_hand","_law_basket","_law_rules","_law_due","_law_k","_law_one","_law_drawn","_law_at","_law_order"] rfl rfl (by cutsat)) rfl (kdJ rfl W.B.range (kaa (pe_op kbC kaq (pe_op kbB (pcl Q1 hr1 W.Qa (kaa (pv 1) (kaa kaq kae))) kaq)) kae)) (fun _ _ _ _=>pgn (i:=0) (show(["_law_k","_law_cell_here"]:List Str).Nodup by cutsat)) (fun _ _ _ _=>(pcl JI hr1 W.Ue (kaa kaq (kaa (pv 0) (kaa (pcl Q1 hr1 W.Qa (kaa (pv 1) (kaa (pe_op kbC kaq (pv 0)) kae))) kae)))))))
   (kac (psl (i:=3) qo.nd (pe_op kd6 (kaJ (kaa kat kae)) (kbf (N:=["_law_k","_law_name_here"]) (CompScope.plain rfl (by cutsat) (by cutsat) (by cutsat) (show(["_law_k","_law_name_here"]:List Str).Nodup by cutsat)) rfl (kfT rfl W.B.enum (kaa (pv 2) kae)) (fun _ _ _ _=>kbm (K:=K) (n:=2) rfl (kaw (pgn (i:=0) (show(["_law_k","_law_name_here"]:List Str).Nodup by cutsat)) (kaw (pgn (i:=1) (show(["_law_k","_law_name_here"]:List Str).Nodup by cutsat)) kbl))) (fun _ _ _ _=>(pe_op kaN (pe_op kaN (pe_op kaN kat (pv 1)) kat) (kaZ keh (by rfl) W.B.str b_str (kaa (pe_op kbC (pv 0) kaq) kae)))))))
   (kac (psl (i:=3) qo.nd (pe_op kd6 (pe_op kd6 (pv 3) (kaJ (kaa kat (kaa kat kae)))) (kbf (N:=["_law_name_here"]) (CompScope.plain rfl (by cutsat) (by cutsat) (by cutsat) (nd1 _)) rfl (kaK (K:=K) (pv 2)) (fun _ _ _ _=>pgn (i:=0) (nd1 _)) (fun _ _ _ _=>(pe_op kaN (pe_op kaN kat (pv 0)) kat)))))
   (kac (keQ (N:=["_law_k"]) (CompScope.plain rfl (by cutsat) (by cutsat) (by cutsat) (nd1 _)) rfl (kdJ rfl W.B.range (kaa (kap (r:=kaQ K) kas (by rfl) W.B.len b_len (kaa (pv 2) kae)) kae)) (fun _ _ _ _=>pgn (i:=0) (nd1 _)) (fun _ _ _ _=>(kbc (W.QA.mk' W.c_Off) X8 hr5 rfl W.c_Off.m W.b1_Off_init (show Vals [.non] [.none] from(.cons rfl .nil)) pass0 (kaa (pe_op kbC (pv 0) kaq) kae))) (pgn (i:=4) qo.nd))
   (kac (psl (i:=5) qo.nd (pe_op kj4 (kaJ (kaa kaq kae)) (kap (r:=kaQ K) kas (by rfl) W.B.len b_len (kaa (pv 2) kae))))
   (kac (psl (i:=6) qo.nd (kbc (W.qN.mk' W.qh) Qo hr2 rfl W.qh.m W.b1_Basket_init (show Vals [.bl false] [.bool false] from(.cons rfl .nil)) pass0 (kaa (kaJ (kaa (kbc (W.QC.mk' W.qf) Ye hr2 rfl W.qf.m W.b1_Line_init (show Vals [.non] [.none] from(.cons rfl .nil)) pass0 (kaa kaq (kaa kaq (kaa kaq kae)))) kae)) (kaa kaq kae))))
   (kac (psl (i:=7) qo.nd (kaJ kae))
   (kac (psl (i:=8) qo.nd (kaJ kae))
   (kac (kcF PassesOwn.never rfl (kfT rfl W.B.enum (kaa (pe_op kd6 (kaJ (kaa (pv 1) kae)) (kli (r:=rSlL K) kmP (pv 0) (kjU kaq) (kjU kaq))) kae)) (kbm (K:=K) (n:=2) rfl (kaw (pgn (i:=9) qo.nd) (kaw (pgn (i:=10) qo.nd) kbl)))
   (kac (psl (i:=11) qo.nd (pcl Q1 hr1 W.Qa (kaa (pv 10) (kaa (pe_op kbC kaq (pv 9)) kae))))
   (kac (ps_if (PW.pt (pw_or (kav op_eq (pe_op kbB (pv 11) kaq) kaq (kaB _)) (kh0 (kav op_gt (kap (r:=kaQ K) kas (by rfl) W.B.len b_len (kaa (pv 7) kae)) kaq (kaB _))))) (kac (psl (i:=12) qo.nd (pe_op kbB (pe_op kcz (pv 11) kaq) (kap (r:=kaQ K) kas (by rfl) W.B.len b_len (kaa (pv 2) kae))))
   (kac (kh1 (pe_op kbB (pe_op kcz (pv 11) kaq) kaq) (kh4 (pv 5) (pv 12) set_list))
   (kag (kay (pe_bm MW M1 M3 kaG (pv 3) (kaa (pe_op kaN (pe_op kaN (pe_op kaN kat (pe_ix (r:=rIxL K) kaR (pv 2) (pv 12) (fun _ _=>rfl))) kat) (kaZ keh (by rfl) W.B.str b_str (kaa (pe_ix (r:=rIxL K) kaR (pv 5) (pv 12) (fun _ _=>rfl)) kae))) kae)))))) (kag (ps_if (kav op_gt (pe_op kbB (pv 11) kaq) kaq (kaB _)) (kag (kay (pe_bm MW M1 M3 kaG (pv 3) (kaa (pcl JJ hr1 W.Uh (kaa (pe_op kcz (pv 11) kaq) (kaa (pv 2) (kaa (pv 7) kae)))) kae)))) (kau))))
   (kac (keQ (N:=["_law_j","_law_one","_law_names"]) (CompScope.of (N:=["_law_j","_law_one","_law_names"]) (cap:=[none,some 10,some 2]) (kaf s_law).names ["_law_script","_law_cell_here","_law_names","_law_rows","_law_vouchers","_law_hand","_law_basket","_law_rules","_law_due","_law_k","_law_one","_law_drawn","_law_at","_law_order"] rfl rfl (by cutsat)) rfl (kdJ rfl W.B.range (kaa (pe_op kbB (pe_op kcz (pv 11) kaq) kaq) kae)) (fun _ _ _ _=>pgn (i:=0) (show(["_law_j","_law_one","_law_names"]:List Str).Nodup by cutsat)) (fun _ _ _ _=>(pe_op kbB (pcl Q1 hr1 W.Qa (kaa (pv 1) (kaa (pe_op kbC kaq (pv 0)) kae))) (kap (r:=kaQ K) kas (by rfl) W.B.len b_len (kaa (pv 2) kae)))) (pgn (i:=13) qo.nd))
   (kac (kay (pe_bm MW M1 M3 kaG (pv 3) (kaa (pe_bm Dv AB AC kj8 kat (kaa (pe_op kd6 (kaJ (kaa kat kae)) (kbf (N:=["_law_voucher","_law_names"]) (CompScope.of (N:=["_law_voucher","_law_names"]) (cap:=[none,some 2]) (kaf s_law).names ["_law_script","_law_cell_here","_law_names","_law_rows","_law_vouchers","_law_hand","_law_basket","_law_rules","_law_due","_law_k","_law_one","_law_drawn","_law_at","_law_order"] rfl rfl (by cutsat)) rfl (kaK (K:=K) (pv 13)) (fun _ _ _ _=>pgn (i:=0) (show(["_law_voucher","_law_names"]:List Str).Nodup by cutsat)) (fun _ _ _ _=>(pe_ix (r:=rIxL K) kaR (pv 1) (pv 0) (fun _ _=>rfl))))) kae)) kae)))
   (kag (kay (pe_bm MW M1 M3 kaG (pv 8) (kaa (ka7 (kaa (kap (r:=kaQ K) kas (by rfl) W.B.len b_len (kaa (pv 3) kae)) (kaa kat (kaa (pcl JK hr10 W.Ug (kaa (kbc (W.QH.mk' W.qg) X4 hr2 rfl W.qg.m W.b1_Till_init (show Vals [.str "again"] [.str "again" d.tok0_Till_init] from(.cons ⟨_,rfl⟩ .nil)) pass0 (kaa (kaJ (kaa kbg kae)) (kaa (pv 4) (kaa (pv 7) kae)))) (kaa (pv 6) (kaa (pv 5) (kaa (pv 13) kae))))) kae)))) kae)))))))))
   (kag (kao (pcl JL hr5 W.Qb (kaa (pcl JM hr W.Ua (kaa (pe_bm Dv AB AC kj8 kat (kaa (pv 3) kae)) kae)) (kaa (pv 8) kae)))))))))))))),?_⟩
  rwa[8,a,ns,0,6,hS,fun c=>?_]
  rwa[8,c,60,6,by decide,by decide,fun z0 z00 z01=>⟨_,_,rfl,rfl,(by show(0:Int)<4;decide),_,_,rfl,rfl,_,rfl,by lia,by lia,?_⟩]
  obtain⟨m,hm2,hm5,em⟩:∃m:Nat,2<=m/\m<=5/\(2+z0%4).toNat=m:=⟨_,by lia,by lia,rfl⟩
  rw[em]
  refine kdb (fun i σ ys H'=>Same H H'/\∃(zs:List Str)(v0:Option V),ys=zs.map V.str/\zs.length=i/\(∀k z,zs[k]?>>z->∃b m,m<12/\z=nmS k b m)/\σ=[v0,some (.int c)]) ⟨Same.refl _,[],none,rfl,rfl,(fun k z h=>by simp at h),rfl⟩ (MI (kan (by lia))) (fun i σ ys H' hi h=>by obtain⟨_,zs,v0,rfl,hl,_⟩:=h;rw[Mu];exact hl) ?_ ?_
  ·rintro i σ ys H' hi ⟨s1,zs,v0,rfl,hl,hz,rfl⟩
   rw[Int.zero_add]
   rwa[8,8,8,9,c,63+(i:Int),6,by lia,by lia,fun z z00 z01=>?_]
   rwa[i,z,6,by lia,z00,fun b mm H2 hmm s2=>⟨s1.trans s2,zs++[nmS i b mm],_,by rw[MC];rfl,by simp[hl],fun k' z' e=>?_,rfl⟩]
   by_cases hk:k'<zs.length
   ·rw[EO hk] at e
    exact hz k' z' e
   ·rw[EJ (by lia)] at e
    have e0:k'-zs.length=0:=by have:=at_lt e;simp at this;lia
    rw[e0] at e
    cases e
    rwa[b,mm,hmm,by rw[show k'=i by lia]]
  rintro σ ys H1 ⟨s1,names,v0,rfl,hnl,hnz,rfl⟩ na fna
  have hN:Nms names:=⟨by lia,hnz⟩
  have n2:=kai (o:=.lst (names.map V.str)) fna
  have e2:(upd H1 na (.lst (names.map V.str))) na>>(.lst (names.map V.str)):=kad
  generalize upd H1 na (.lst (names.map V.str))=H2 at *
  have s2:=s1.trans n2
  clear n2 s1 fna
  rwa[(by show 1<=sizeLine;decide),fun q1 f1=>?_]
  have n3:=kai (o:=.lst [.str ("kind a" :Str)]) f1
  have e3:(upd H2 q1 (.lst [.str ("kind a" :Str)])) q1>>(.lst [.str ("kind a" :Str)]):=kad
  generalize upd H2 q1 (.lst [.str ("kind a" :Str)])=H3 at *
  rwa[8,na,8,n3 _ _ e2,kkC (xs:=names.map V.str) (fun i σ ys H'=>Same H3 H'/\ys=((names.zipIdx.take i).map fun p=>rowV p.1 (nuS (p.2+1))).map V.str/\∃v0 v1:Option V,σ=[v0,v1]) ⟨Same.refl _,rfl,none,none,rfl⟩ (by rw[Mu];exact MI (kan (by lia))) ?_ ?_ ?_]
  ·rintro i σ ys H' hi ⟨s4,rfl,_⟩
   rw[Mu] at hi
   rwa[s4 _ _ (n3 _ _ e2),by simp;lia]
  ·rintro i y t σ ys H' hy ⟨s4,rfl,v0,v1,rfl⟩ ft
   obtain⟨z,ez,rfl⟩:∃z,names[i]?>>z/\y=.str z:=by
    rw[MN] at hy
    cases e:names[i]? with
    |none=>rw[e] at hy;cases hy
    |some z=>rw[e] at hy;cases hy;exact⟨z,rfl,rfl⟩
   have hi:=at_lt ez
   have cz:=hN.cln ez
   have lz:=cz.l
   have ly:=(kfr ⟨i+1,by lia⟩).l
   exists H',t,H4,n4,e4,ft
   rwa[t,8,SqT.of e4,6,_,8,9,?_]
   have lv:(("voucher " :Str)).length=8:=by cutsat
   have lo:((" off " :Str)).length=5:=by cutsat
   have ly':(Str.ofString (toString ((i:Int)+1))).length<=13:=ly
   have hlog:((i:Int)+1).natAbs.log2<1920:=by
    have:((i:Int)+1).natAbs<=6:=by lia
    exact Ex (Nat.log2_le_self _) (by lia)
   rwa[8,9,slenL (by lia),9,slenL (by rw[slen];lia),8,9,8,hlog,9,slenL (by rw[slen,slen];lia),s4.trans n4,?_,_,8]
   rw[take_snoc (rs:=names.zipIdx) (show names.zipIdx[i]?>>(z,i) by rw[List.getElem?_zipIdx,ez];simp),MC,MC]
   rfl
  rintro σ ys H4 ⟨s4,rfl,v0,v1,rfl⟩ q2 f2
  rw[Mu,show names.zipIdx.take names.length=names.zipIdx by rw[ER (by simp)]]
  exists H4,q2,H5,n5,e5,f2
  rwa[q1,q2,9,n5 _ _ (s4 _ _ e3),e5,MI (kan (by simp;lia)),fun q3 f3=>?_]
  exists H5,q3,H6,n6,e6,f3
  have e6:H6 q3>>(.lst ((rowsV names).map V.str)):=e6
  have s6:=s2.trans (((n3.trans s4).trans n5).trans n6)
  have e2:=(((n3.trans s4).trans n5).trans n6) _ _ e2
  clear e3 e5 n3 s4 n5 n6 f1 f2 f3 s2
  rwa[8,(by show 2<=sizeLine;decide),fun q4 f4=>?_]
  exists H6,q4,H7,n7,e7,f4
  rwa[q3,q4,9,n7 _ _ e6,e7,MI (kan (by simp[rowsV];lia)),fun q5 f5=>?_]
  exists H7,q5,H8,n8,e8,f5
  have s8:=n7.trans n8
  rwa[8,na,6,⟨_,SqL.of (s8 _ _ e2)⟩,kb3 (xs:=names.map V.str) (fun i σ ys H'=>H'=H8/\ys=((names.take i).map rowH2).map V.str/\∃v0:Option V,σ=[v0]) ⟨rfl,rfl,none,rfl⟩ (by rw[Mu];exact MI (kan (by lia))) ?_ ?_ ?_]
  ·rintro i σ ys H' hi ⟨rfl,rfl,_⟩
   rw[Mu] at hi
   rwa[SqL.of (s8 _ _ e2),by simp;lia]
  ·rintro i y σ ys H' hy ⟨rfl,rfl,v0,rfl⟩
   obtain⟨z,ez,rfl⟩:∃z,names[i]?>>z/\y=.str z:=by
    rw[MN] at hy
    cases e:names[i]? with
    |none=>rw[e] at hy;cases hy
    |some z=>rw[e] at hy;cases hy;exact⟨z,rfl,rfl⟩
   have lz:=(hN.cln ez).l
   have lv:(("hold " :Str)).length=5:=by cutsat
   have lo:((" 2" :Str)).length=2:=by cutsat
   rwa[8,9,slenL (by lia),9,slenL (by rw[slen];lia),6,?_,8]
   rw[take_snoc ez,MC,MC]
   rfl
  rintro σ ys H' ⟨rfl,rfl,v0,rfl⟩ q6 f6
  rw[Mu,M0]
  exists H',q6,H9,n9,e9,f6
  rwa[q5,q6,9,n9 _ _ e8,e9,MI (kan (by simp[rowsV];lia)),fun ro fro=>?_]
  exists H9,ro,H10,n10,ero,fro
  obtain⟨rows0,er0⟩:∃r,r=rowsV names++[("basket 3" :Str)]++[("ware a 100 2" :Str)]++names.map rowH2:=⟨_,rfl⟩
  have ero:H10 ro>>(.lst (rows0.map V.str)):=by
   rw[ero,er0]
   simp only[MC,M6]
   rfl
  have s10:Same H H10:=s6.trans ((s8.trans n9).trans n10)
  have hro:H ro=none:=(s6.trans (s8.trans n9)).free fro
  have nna:na≠ro:=fun e=>by
   have e9na:H9 na>>(.lst (names.map V.str)):=(s8.trans n9) _ _ e2
   rw[e,fro] at e9na
   cases e9na
  have e2:H10 na>>(.lst (names.map V.str)):=((s8.trans n9).trans n10) _ _ e2
  clear e6 e7 e8 e9 n7 n8 n9 n10 s8 s6 f4 f5 f6 fro
  rwa[8,na,8, .inl (SqL.of e2),8,by lia,by rw[Mu];lia,?_]
  rw[show(((names.map V.str).length:Nat):Int).toNat=names.length by rw[Mu];lia]
  refine kdb (fun i σ ys H'=>Same H10 H'/\∃(va:List Addr)(v0:Option V),ys=va.map V.ref/\P2 (fun a V=>VchIs d H' a V) va (offs i)/\σ=[v0]) ⟨Same.refl _,[],none,rfl, .nil,rfl⟩ (MI (kan (by lia))) (fun i σ ys H' hi h=>by obtain⟨_,va,v0,rfl,hv,_⟩:=h;rw[Mu,hv.len,kbN]) ?_ ?_
  ·rintro i σ ys H' hi ⟨s11,va,v0,rfl,hv,rfl⟩
   rw[Int.zero_add]
   have htb':Tbs d H':=htb.same (s10.trans s11)
   rwa[8,9,knf (so:=.off ((i:Int)+1)) ⟨_,rfl⟩ rfl fun H12 v s12 fv hV=>?_]
   rwa[s11.trans s12,va++[v],_,by rw[MC];rfl,by rw[kgL];exact P2.snoc (hv.mono fun _ _ h=>h.same s12) hV,6]
  rintro σ ys H11 ⟨s11,va,v0,rfl,hva,rfl⟩ ve fve
  exists H11,ve,H12,n12,eve12,fve
  have s12:=s11.trans n12
  have hva:=P2.mono hva fun _ _ h=>h.same n12
  rwa[(by show 1<=sizeLine;decide),fun q7 f7=>?_]
  exists H12,q7,H13,n13,e13,f7
  rwa[8,na,8, .inl (SqL.of ((s12.trans n13) _ _ e2)),q7,9,e13,by lia,by rw[Mu];lia,MI (kan (by rw[Mu];show 1*_<=1000;lia)),fun ha fha=>?_]
  exists H13,ha,H14,n14,eha,fha
  rw[show(((names.map V.str).length:Nat):Int).toNat=names.length by rw[Mu];lia,kmZ] at eha
  have s14:=(s12.trans n13).trans n14
  have eve:H14 ve>>(.lst (va.map V.ref)):=(n13.trans n14) _ _ eve12
  have hva:=P2.mono hva fun _ _ h=>h.same (n13.trans n14)
  have hha:H ha=none:=(s10.trans (s12.trans n13)).free fha
  have e10:∀{b:Addr}{o:HO},H13 b>>o->b≠ha:=fun e z=>by rw[z,fha] at e;cases e
  have ne1:ro≠ha:=e10 ((s12.trans n13) _ _ ero)
  have ne2:na≠ha:=e10 ((s12.trans n13) _ _ e2)
  have ne3:ve≠ha:=e10 (o:=.lst (va.map V.ref)) (n13 _ _ eve12)
  have ne4:ve≠ro:=fun e=>by
   have q:H11 ro>>(.lst (rows0.map V.str)):=s11 _ _ ero
   rw[<-e,fve] at q
   cases q
  have ero:H14 ro>>(.lst (rows0.map V.str)):=s14 _ _ ero
  have e2:H14 na>>(.lst (names.map V.str)):=s14 _ _ e2
  have s14:=s10.trans s14
  clear s10 s11 n12 s12 n13 n14 e13 f7 fha fve
  refine fun y dy fy fdy ndy=>⟨y,dy,⟨0,100,2,none⟩,rfl,kad,fun H15 b15 hL=>⟨rfl,?_⟩⟩
  have s15:=kbd fy fdy b15
  rwa[(by show 1<=sizeLine;decide),fun q8 f8=>?_]
  exists H15,q8,H16,n16,e16,f8
  refine fun ba db fb fdb ndb=>⟨ba,db,q8,3,false,[.ref y],rfl,kad,SqL.of (kcW fb fdb e16),fun H17 l17 b17 fl17 el17 hB=>⟨rfl,?_⟩⟩
  have s17:=kbd fb fdb b17
  have fl16:H16 l17=none:=kcq fl17
  have nl:∀{b:Addr}{o:HO},H14 b>>o->l17≠b:=fun {b o} e z=>by
   have q:H14 l17=none:=(s15.trans n16).free fl16
   rw[z,e] at q
   cases q
  have sk:=(s15.trans n16).trans s17
  rwa[(by show 0<=sizeLine;decide),fun ru fru=>?_]
  exists H17,ru,H18,n18,eru,fru
  rwa[(by show 0<=sizeLine;decide),fun du fdu=>?_]
  exists H18,du,H19,n19,edu,fdu
  rw[er0] at ero
  have st:LI d H H19 names na ro ve ha ba ru du 13 5:=kly htb hN (s14.trans sk) hro hha ne1 (sk _ _ ero) (sk _ _ eha) (sk _ _ e2) ⟨nna,ne2⟩ (sk _ _ eve) ⟨ne4,ne3⟩ (hva.mono fun _ _ h=>h.same sk) hB el17 ⟨nl ero,nl eha⟩ ((hL.same n16).same s17) (n18.trans n19) fru (n18.free fdu) (n19 _ _ eru) edu
  have sH:=s14.trans (sk.trans (n18.trans n19))
  have nru:∀{b:Addr}{o:HO},H17 b>>o->b≠ru:=fun e z=>by rw[z,fru] at e;cases e
  have ndu:∀{b:Addr}{o:HO},H18 b>>o->b≠du:=fun e z=>by rw[z,fdu] at e;cases e
  have dis:(ro≠ha/\ro≠ru/\ro≠du)/\(ha≠ru/\ha≠du)/\ru≠du:=⟨⟨ne1,nru (sk _ _ ero),ndu ((sk.trans n18) _ _ ero)⟩,⟨nru (sk _ _ eha),ndu ((sk.trans n18) _ _ eha)⟩,ndu eru⟩
  have hru0:H ro=none/\H ha=none/\H ru=none/\H du=none:=⟨hro,hha,(s14.trans sk).free fru,((s14.trans sk).trans n18).free fdu⟩
  clear nru ndu sk n18 n19 eru edu fdu fru b17 b15 s15 s17 n16 e16 hB hL el17 hva eve eha e2 ero ne1 ne2 ne3 ne4 nna hro hha s14 fl16 fl17
  rwa[8,(by show 1<=sizeLine;decide),fun q9 f9=>?_]
  exists H19,q9,H20,n20,e20,f9
  rwa[8,8,8,a,8,(sH.trans n20).seq hS,fun q10 f10=>?_]
  rw[show(1:Int)=((1:Nat):Int) from rfl,show(21:Int)=((1+20:Nat):Int) from rfl,kno]
  exists H20,q10,H21,n21,e21,f10
  rwa[q9,q10,9,n21 _ _ e20,e21,MI (kan (by simp;lia)),fun q11 f11=>?_]
  obtain⟨cs,ecs,hcs⟩:∃cs:List Int,[V.int c]++((ns.map V.int).drop 1).take 20=cs.map V.int/\cs.length<=21:=⟨c::(ns.drop 1).take 20,by simp,by simp;lia⟩
  rw[ecs]
  have st:=klz (cv:=cs.map V.int) (st.same (n20.trans n21)) f11
  have e22:(upd H21 q11 (.lst (cs.map V.int))) q11>>(.lst (cs.map V.int)):=kad
  generalize upd H21 q11 (.lst (cs.map V.int))=H22 at *
  clear n20 n21 e20 e21 f9 f10 sH
  rwa[q11,8,e22,kiq (xs:=cs.map V.int) (fun i σ H'=>LC d H H' names na ro ve ha ba ru du q11 (cs.map V.int) (13+2*i) (5+i)/\∃v9 v10 v11 v12 v13:Option V,σ=[some (.ref a),some (.int c),some (.ref na),some (.ref ro),some (.ref ve),some (.ref ha),some (.ref ba),some (.ref ru),some (.ref du),v9,v10,v11,v12,v13]) ⟨st,_,_,_,_,_,rfl⟩ (fun i σ H' _ h=>by obtain⟨⟨G,_,_,_,_,_,_,_,_,_,gH,_,_,_,_,_,_,_,_,_,_,_,_,_,_,_,_,gq⟩,_⟩:=h;exact gH _ _ gq) ?_ ?_]
  ·rintro i y tq σ Hi hy ⟨hI,v9,v10,v11,v12,v13,rfl⟩ ftq
   obtain⟨one,eone,rfl⟩:∃z,cs[i]?>>z/\y=.int z:=by
    rw[MN] at hy
    cases e:cs[i]? with
    |none=>rw[e] at hy;cases hy
    |some z=>rw[e] at hy;cases hy;exact⟨z,rfl,rfl⟩
   have hi:=at_lt eone
   exists Hi,tq,H1,n1,e1,ftq
   rwa[tq,8,SqT.of e1,6,_,8,9,?_]
   have hI:=hI.same n1
   clear n1 e1 ftq
   refine sN fun A0 hA0=>?_
   rwa[8,8,9,one,120+(i:Int),6,by lia,by lia,fun dr d0 d1=>?_]
   refine hA0 _ _ ?_
   clear hA0 A0
   refine sN fun A1 hA1=>?_
   have J:∀(H':Hp)(w12:Option V),LC d H H' names na ro ve ha ba ru du q11 (cs.map V.int) (14+2*i) (6+i)->A1 [some (.ref a),some (.int c),some (.ref na),some (.ref ro),some (.ref ve),some (.ref ha),some (.ref ba),some (.ref ru),some (.ref du),some (iV i),some (.int one),some (.int dr),w12,v13] H':=fun H2 w12 hI2=>by
    refine hA1 _ _ ?_
    obtain⟨G,rows,os,rs,kvs,hand,ra,da,va,sG,gH,⟨g1,g2,g3,g4⟩,gna,gve,hva,hB,⟨ero,eha,eru,edu⟩,hra,hda,hrun,hrt,hne,hrl,hho,hhl,hkl,hrs,gq⟩:=hI2
    have ena:H2 na>>(.lst (names.map V.str)):=gH _ _ gna
    have hm0:0<names.length:=by lia
    obtain⟨⟨d1',d2',d3'⟩,⟨d4',d5'⟩,d6'⟩:=dis
    rwa[8,7,9,(by show(0:Int)<7;decide),8,by lia,by lia,?_]
    have hd7:(dr/16%7).toNat<=6:=by lia
    generalize (dr/16%7).toNat=mo at *
    refine kdb (fun j σ ys H'=>H'=H2/\∃(js:List Nat)(v0:Option V),ys=js.map iV/\js.length=j/\(∀n∈js,n<names.length)/\σ=[v0,some (.int one),some (.ref na)]) ⟨rfl,[],none,rfl,rfl,(fun n h=>by simp at h),rfl⟩ (MI (kan (by lia))) (fun j σ ys H' hj h=>by obtain⟨_,js,v0,rfl,hl,_⟩:=h;rw[Mu];exact hl) ?_ ?_
    ·rintro j σ ys H' hj ⟨rfl,js,v0,rfl,hl,hlt,rfl⟩
     rw[Int.zero_add]
     rwa[8,8,9,one,140+(j:Int),6,by lia,by lia,fun z z0 z1=>?_]
     rwa[8,na,8, .inl (SqL.of ena),9,(by show(0:Int)<_;rw[Mu];lia),?_]
     rw[Mu]
     have e0:0<=z%(names.length:Int):=Int.emod_nonneg _ (by lia)
     have e1:z%(names.length:Int)<(names.length:Int):=Int.emod_lt_of_pos _ (by lia)
     rwa[6,js++[(z%(names.length:Int)).toNat],_,?_,by simp[hl],fun n hn=>?_,6]
     ·rw[MC]
      show _=_++[V.int (((z%(names.length:Int)).toNat:Nat):Int)]
      rw[Int.toNat_of_nonneg e0]
     ·rcases MY.mp hn with h|h
      ·exact hlt n h
      ·have:n=(z%(names.length:Int)).toNat:=by simpa using h
       lia
    rintro σ ys H' ⟨rfl,js,v0,rfl,hjl,hlt,rfl⟩ oo foo
    exists H',oo,H3,n3,eoo,foo
    have gH3:Same G H3:=gH.trans n3
    have ero3:H3 ro>>(.lst (rows.map V.str)):=n3 _ _ ero
    rwa[8, .inl ⟨rfl,_,SqL.of ero3⟩,6,(by show 1<=sizeLine;decide),fun q1 f1=>?_]
    exists H3,q1,H4,n4,e4,f1
    have eoo4:H4 oo>>(.lst (js.map iV)):=n4 _ _ eoo
    have ena4:H4 na>>(.lst (names.map V.str)):=(gH3.trans n4) _ _ gna
    rwa[8,oo,6,⟨_,SqL.of eoo4⟩,kb3 (xs:=js.map iV) (fun j σ ys H'=>H'=H4/\∃(zs:List Str)(v0:Option V),ys=zs.map V.str/\P2 (fun j z=>names[j]?>>z) (js.take j) zs/\σ=[v0,some (.ref na)]) ⟨rfl,[],none,rfl, .nil,rfl⟩ (by rw[Mu];exact MI (kan (by lia))) ?_ ?_ ?_]
    ·rintro j σ ys H' hj ⟨rfl,zs,v0,rfl,hz,rfl⟩
     have:=hz.len
     rw[MU] at this
     rw[Mu] at hj
     rwa[SqL.of eoo4,by rw[Mu];lia]
    ·rintro j y σ ys H' hy ⟨rfl,zs,v0,rfl,hz,rfl⟩
     obtain⟨n,en,rfl⟩:=kcK hy
     obtain⟨z,ez⟩:=at_of (xs:=names) (i:=n) (hlt n (MK en))
     rwa[8,8,na,_,9,SqL.of ena4,ka4 (v:=.str z) (by rw[MN,ez];rfl),6,zs++[z],_,by rw[MC];rfl,by rw[take_snoc en];exact P2.snoc hz ez,6]
    rintro σ ys H' ⟨rfl,zs,v0',rfl,hz,rfl⟩ q2 f2
    rw[Mu,M0] at hz
    exists H',q2,H5,n5,e5,f2
    have lzs:=hz.len
    rwa[q1,q2,9,n5 _ _ e4,e5,MI (kan (by rw[Mu];show 1+_<=1000;lia)),fun q3 f3=>?_]
    exists H5,q3,H6,n6,e6,f3
    have e6:H6 q3>>(.lst ((("use" :Str)::zs).map V.str)):=e6
    have s36:=(n4.trans n5).trans n6
    have hzc:∀z∈zs,Cln z:=fun z hz'=>by
     obtain⟨q,hq,e⟩:=EE hz'
     have ei:zs[q]?>>z:=by rw[Ez hq,e]
     obtain⟨j,ej⟩:=at_of (xs:=js) (i:=q) (by lia)
     exact hN.cln (hz.get ej ei)
    rwa[BL,q3,("use" :Str)::zs,6,6,SqL.of e6,?_,?_]
    ·have h1:=kg7 (B:=13) (xs:=("use" :Str)::zs) fun z hz'=>by
      rcases MB.mp hz' with rfl|hz'
      ·cutsat
      ·exact(hzc z hz').l
     have h2:BL.length=1:=by cutsat
     rw[h2]
     simp only[MV] at h1⊢
     lia
    have ero6:H6 ro>>(.lst (rows.map V.str)):=s36 _ _ ero3
    rwa[ro,9,ero6,kan (by rw[Mu];lia),?_]
    have ero7:(upd H6 ro (.lst (rows.map V.str++[.str (Txt.join BL (("use" :Str)::zs))]))) ro>>(.lst ((rows++[Txt.join BL (("use" :Str)::zs)]).map V.str)):=by rw[kad,MC];rfl
    have gH7:Same G (upd H6 ro (.lst (rows.map V.str++[.str (Txt.join BL (("use" :Str)::zs))]))):=kar g1 (gH3.trans s36) (nx ero6)
    have keep7:∀{b:Addr},b≠ro->(upd H6 ro (.lst (rows.map V.str++[.str (Txt.join BL (("use" :Str)::zs))]))) b=H6 b:=fun nb=>kah nb
    generalize upd H6 ro (.lst (rows.map V.str++[.str (Txt.join BL (("use" :Str)::zs))]))=H7 at *
    have s26:=n3.trans s36
    have eha7:H7 ha>>(.lst (hand.map V.int)):=by rw[keep7 (Ne.symm d1')];exact s26 _ _ eha
    have eru7:H7 ru>>(.lst (ra.map V.ref)):=by rw[keep7 (Ne.symm d2')];exact s26 _ _ eru
    have edu7:H7 du>>(.lst (da.map V.ref)):=by rw[keep7 (Ne.symm d3')];exact s26 _ _ edu
    have noo:oo≠ro:=fun e=>by rw[e,ero] at foo;cases foo
    have eoo7:H7 oo>>(.lst (js.map iV)):=by rw[keep7 noo];exact s36 _ _ eoo
    clear e4 e5 e6 n4 n5 n6 f1 f2 f3 s36 s26 ero6 eoo4 ena4 keep7
    rwa[8, .inl ⟨rfl,_,SqL.of edu7⟩,8,ro,8, .inl (SqL.of ero7),(by show 1<=sizeLine;decide),fun q4 f4=>?_]
    exists H7,q4,H8,n8,e8,f4
    have gH8:=gH7.trans n8
    rwa[8,8,kng (T:=T45 names rs) (va:=va) (ra:=ra) e8 (gH8 _ _ gve) (hva.mono fun _ _ h=>h.same gH8) (n8 _ _ eru7) (hra.mono fun _ _ h=>gH8 _ _ h) fun H9 tl s9 ftl hT=>?_]
    have s79:=n8.trans s9
    have gH9:=gH7.trans s79
    rwa[8,8,8,tl,ba,ha,oo,T45 names rs,BK45,hand,js,6,hT,klR hN rs,hB.same gH9,wf45,s79 _ _ eha7,s79 _ _ eoo7,by show _=(offs names.length).length;rw[kbN];exact hhl,fun n hn'=>by show n<(offs names.length).length;rw[kbN];exact hlt n hn',by lia,fun H10 a10 s10 f10 e10=>?_]
    rwa[(by show 3<=sizeLine;decide),fun q5 f5=>?_]
    rw[Mu,ML]
    exists H10,q5,H11,n11,e11,f5
    have e11:H11 q5>>(.tup [iV (rows.length+1), .str ("use" :Str), .ref a10]):=e11
    have s711:=(s79.trans s10).trans n11
    have edu11:H11 du>>(.lst (da.map V.ref)):=s711 _ _ edu7
    have lda:=hda.len
    rwa[du,9,edu11,kan (by have:=hrun.flat.2;rw[Mu];lia),?_]
    have gH11:=gH7.trans s711
    have ea11:H11 a10>>(.tup (useV (T45 names rs) BK45 hand js)):=n11 _ _ e10
    have fN:∀b∈[a10,q5],H7 b=none:=fun b hb=>by
     simp only[MB,MR,or_false] at hb
     rcases hb with rfl|rfl
     ·exact s79.free f10
     ·exact(s79.trans s10).free f5
    obtain⟨sN1,sN2⟩:=kdg (N:=[a10,q5]) gH11 (fun b hb=>gH7.free (fN b hb)) fun b hb=>by
     simp only[MB,MR,or_false] at hb
     rcases hb with rfl|rfl
     ·rwa[_,ea11,6,fun _ z=>by cases z]
     ·rwa[_,e11,6,fun _ z=>by cases z]
    have no:∀{b:Addr}{o:HO},H7 b>>o->G b=none->ext [a10,q5] G H11 b=none:=fun e g=>kbu fN (by rw[e];simp) g
    have hF:FndIs (ext [a10,q5] G H11) q5 (rows.length+1,useV (T45 names rs) BK45 hand js):=⟨a10,by rw[kbv (MH _ Mx)];exact e11,by rw[kbv Mx];exact ea11⟩
    rwa[⟨ext [a10,q5] G H11,rows++[Txt.join BL (("use" :Str)::zs)],os++[(rows.length+1,useV (T45 names rs) BK45 hand js)],rs,kvs,hand,ra,da++[q5],va,sG.trans sN1,kar (no edu7 g4) sN2 (nx edu11),⟨no ero7 g1,no eha7 g2,no eru7 g3,no edu7 g4⟩,sN1 _ _ gna,sN1 _ _ gve,hva.mono fun _ _ h=>h.same sN1,hB.same sN1,⟨by rw[kah d3'];exact s711 _ _ ero7,by rw[kah d5'];exact s711 _ _ eha7,by rw[kah d6'];exact s711 _ _ eru7,by rw[kad,MC];rfl⟩,hra.mono fun _ _ h=>sN1 _ _ h,P2.snoc (hda.mono fun _ _ h=>h.same sN1) hF,kmW hN hrun hho hhl hz (by lia),fun x hx=>?_,by simp,by rw[ML];show _+1<=_;lia,hho,hhl,by lia,hrs,sN1 _ _ gq⟩,_,_,_,_,8]
    rcases MY.mp hx with hx|hx
    ·exact hrt x hx
    ·rw[ME.mp hx]
     exact t_use hzc (by lia)
   clear hA1
   obtain⟨G,rows,os,rs,kvs,hand,ra,da,va,sG,gH,⟨g1,g2,g3,g4⟩,gna,gve,hva,hB,⟨ero,eha,eru,edu⟩,hra,hda,hrun,hrt,hne,hrl,hho,hhl,hkl,hrs,gq⟩:=hI
   have ena:=(gH _ _ gna:H1 na>>(.lst (names.map V.str)))
   have hm0:0<names.length:=by lia
   have lra:=hra.len
   obtain⟨⟨d1',d2',d3'⟩,⟨d4',d5'⟩,d6'⟩:=dis
   have l5:(("hold " :Str)).length=5:=by cutsat
   have l1:((" " :Str)).length=1:=by cutsat
   refine if_or (decide (dr%4=3)) (decide (17<(ra.length:Int))) (fun Q q=>?_) (fun Q q=>?_) (fun _=>?_) (fun hc=>?_)
   ·rwa[8,9,(by show(0:Int)<4;decide),6,8,?_]
    rw[show decide (V.int (dr%4)=V.int 3)=decide (dr%4=3) by simp]
    exact q
   ·rwa[8,ru,8, .inl (SqL.of eru),9,8,?_]
    rw[Mu]
    exact q
   ·rwa[8,7,8,na,8, .inl (SqL.of ena),9,(by show(0:Int)<_;rw[Mu];lia),?_]
    rw[Mu]
    obtain⟨j,hj,ej⟩:=kii (n:=dr) (k:=4) hm0
    show gName 12 (V.int (dr/4%((names.length:Nat):Int))) _ _ _
    rw[ej]
    obtain⟨n,hn6,en⟩:=kii (n:=dr) (k:=40) (l:=6) (by decide)
    obtain⟨z,ez⟩:=at_of hj
    have lz:=(hN.cln ez).l
    have ln:=(kfr ⟨n,hn6⟩).l
    rwa[8,7,9,(by show(0:Int)<6;decide),8,8,ha,_,9,eha,khr (by rw[Mu];lia),?_]
    have e0:(hand.map V.int).set j (V.int (dr/40%6))=(hand.set j (n:Int)).map V.int:=by
     rw[E5]
     show _=(hand.map V.int).set j (V.int (n:Int))
     rw[<-en]
     rfl
    generalize hg:upd H1 ha _=H2
    have eha2:H2 ha>>(.lst ((hand.set j (n:Int)).map V.int)):=by
     rw[<-hg,kad]
     exact congrArg (fun l=>some (HO.lst l)) e0
    have gH2:Same G H2:=by rw[<-hg];exact kar g2 gH (nx eha)
    have keep2:∀{b:Addr},b≠ha->H2 b=H1 b:=fun nb=>by rw[<-hg];exact kah nb
    clear hg e0
    have ero2:H2 ro>>(.lst (rows.map V.str)):=by rw[keep2 d1'];exact ero
    have ena2:H2 na>>(.lst (names.map V.str)):=gH2 _ _ gna
    have enj:(hand.set j (n:Int))[j]?>>(n:Int):=by rw[E7 (by lia)]
    have ln':(Str.ofString (toString (n:Int))).length<=13:=ln
    have hlog:((n:Int)).natAbs.log2<1920:=by
     have:((n:Int)).natAbs<=6:=by lia
     exact Ex (Nat.log2_le_self _) (by lia)
    rwa[8, .inl ⟨rfl,_,SqL.of ero2⟩,8,8,na,_,9,SqL.of ena2,ka4 (v:=.str z) (by rw[MN,ez];rfl),9,slenL (by lia),9,slenL (by rw[slen];lia),8,8,ha,_,9,SqL.of eha2,ka4 (v:=.int (n:Int)) (by rw[MN,enj];rfl),8,hlog,9,slenL (by rw[slen,slen];lia),ro,9,ero2,kan (by rw[Mu];lia),?_]
    refine J _ _ ⟨G,rows++[rowH z (nuS n)],os,rs,putK kvs (.inl (j:Int)) (.int n),hand.set j (n:Int),ra,da,va,sG,kar g1 gH2 (nx ero2),⟨g1,g2,g3,g4⟩,gna,gve,hva,hB,⟨by rw[kad,MC];rfl,by rw[kah (Ne.symm d1')];exact eha2,by rw[kah (Ne.symm d2'),keep2 (Ne.symm d4')];exact eru,by rw[kah (Ne.symm d3'),keep2 (Ne.symm d5')];exact edu⟩,hra,hda,khW hN hrun ez hn6 (by lia),fun x hx=>?_,by simp,by rw[ML];show _+1<=_;lia,klE hho n,by rw[DJ];exact hhl,Mz (kcC _ _ _) (by lia),hrs,gq⟩
    ·rcases MY.mp hx with hx|hx
     ·exact hrt x hx
     ·rw[ME.mp hx]
      exact klS (hN.cln ez) (kfr ⟨n,hn6⟩)
   ·have hc17:ra.length<=17:=by
     have:=(Bool.or_eq_false_iff.mp hc).2
     have:=of_decide_eq_false this
     lia
    rwa[8,9,(by show(0:Int)<4;decide),9,8,?_]
    by_cases h0:0<dr%4
    ·rw[decide_eq_true h0]
     refine iteT ⟨_,rfl, .inl ⟨rfl,_,SqL.of ero⟩,_,rfl,_,_,rfl,rfl,⟨by decide,by decide⟩,_,rfl,_,rfl,dr/4,na,ru,names,ra,rfl,by lia,ena,hm0,by lia,fun z hz=>?_,eru,by lia,fun i' j' x y cc H3 p hx hy hcc b3 fp hR er3=>?_⟩
     ·obtain⟨q,hq,e⟩:=EE hz
      exact(hN.name (show names[q]?>>z by rw[Ez hq,e])).l2
     have ero3:H3 ro>>(.lst (rows.map V.str)):=b3 _ _ d2' ero
     have eha3:H3 ha>>(.lst (hand.map V.int)):=b3 _ _ d4' eha
     have edu3:H3 du>>(.lst (da.map V.ref)):=b3 _ _ (Ne.symm d6') edu
     have gH3:Same G H3:=klM gH b3 g3
     rwa[ro,9,ero3,kan (by rw[Mu];lia),?_]
     have fN:∀b∈[p],H1 b=none:=fun b hb=>by rw[ME.mp hb];exact fp
     obtain⟨sN1,sN2⟩:=kdg (N:=[p]) gH3 (fun b hb=>gH.free (fN b hb)) fun b hb=>by
      rw[ME.mp hb]
      rwa[_,hR,6,fun _ z=>by cases z]
     have no:∀{b:Addr}{o:HO},H1 b>>o->G b=none->ext [p] G H3 b=none:=fun e g=>kbu fN (by rw[e];simp) g
     refine J _ _ ⟨ext [p] G H3,rows++[rowR x cc y],os,rs++[rulM cc i' j'],kvs,hand,ra++[p],da,va,sG.trans sN1,kar (no ero g1) sN2 (nx ero3),⟨no ero g1,no eha g2,no eru g3,no edu g4⟩,sN1 _ _ gna,sN1 _ _ gve,hva.mono fun _ _ h=>h.same sN1,hB.same sN1,⟨by rw[kad,MC];rfl,by rw[kah (Ne.symm d1')];exact eha3,by rw[kah (Ne.symm d2')];exact er3,by rw[kah (Ne.symm d3')];exact edu3⟩,P2.snoc (hra.mono fun _ _ h=>sN1 _ _ h) (by show ext [p] G H3 p=_;rw[kbv Mx];exact hR),hda.mono fun _ _ h=>h.same sN1,kk7 hN hrun hx hy hcc (by lia),fun x' hx'=>?_,by simp,by rw[ML];show _+1<=_;lia,hho,hhl,by lia,by rw[ML];show _+1<=_;lia,sN1 _ _ gq⟩
     rcases MY.mp hx' with hx'|hx'
     ·exact hrt x' hx'
     ·rw[ME.mp hx']
      exact knE (hN.cln hx) (rw_cln hcc) (hN.cln hy)
    ·rw[decide_eq_false h0]
     refine iteF ?_
     exact J _ _ ⟨G,rows,os,rs,kvs,hand,ra,da,va,sG,gH,⟨g1,g2,g3,g4⟩,gna,gve,hva,hB,⟨ero,eha,eru,edu⟩,hra,hda,hrun,hrt,hne,by lia,hho,hhl,by lia,hrs,gq⟩
  ·rintro σ H' ⟨⟨G,rows,os,rs,kvs,hand,ra,da,va,sG,gH,⟨g1,g2,g3,g4⟩,gna,gve,hva,hB,⟨ero,eha,eru,edu⟩,hra,hda,hrun,hrt,hne,hrl,hho,hhl,hkl,hrs,gq⟩,v9,v10,v11,v12,v13,rfl⟩
   rw[Mu] at hrl
   have hfl:=hrun.flat
   have hsp:=kgg hne hrt
   have hnl:NL.length=1:=by cutsat
   have hsum:=kg7 (B:=150) (xs:=rows) fun x hx=>(hrt x hx).l
   rwa[6,8,NL,ro,rows,6,6,SqL.of ero,by rw[hnl];lia,?_]
   rwa[Txt.join NL rows,os,6,htb.same (sG.trans gH),by have:=text_len hrt (by lia);lia,by rw[hsp];lia,fun l hl=>?_,hrun.text hne hrt,fun H1 l fa s1 fl el hfa=>?_]
   ·rw[hsp] at hl
    have h1:=(hrt l hl).l
    have h2:=split_len l
    rwa[by lia,by lia]
   ·rwa[8,_,8,knt el (s1 _ _ edu) hfa (hda.mono fun _ _ h=>(h.same gH).same s1) hfl.1 (by lia),fun H2 _=>k H2]
end
end Vs
namespace Vs
open PySem L2
theorem ln0{C:List Value->Prop}(k:C []):∀us:List Value,us.length=0->C us:=fun us h=>by
 cases us with
 |nil=>exact k
 |cons a us=>cases h
theorem lnS{C:List Value->Prop}{n:Nat}(k:∀(a:Value)(us:List Value),us.length=n->C (a::us)):∀us:List Value,us.length=n+1->C us:=fun us h=>by
 cases us with
 |nil=>cases h
 |cons a us=>exact k a us (Nat.succ.inj h)
def nL1{C:List Value->Prop}(k:∀a0:Value,C [a0]):∀us:List Value,us.length=1->C us:=lnS fun a0=>ln0 (k a0)
def nL2{C:List Value->Prop}(k:∀a0 a1:Value,C [a0,a1]):∀us:List Value,us.length=2->C us:=lnS fun a0=>lnS fun a1=>ln0 (k a0 a1)
def nL3{C:List Value->Prop}(k:∀a0 a1 a2:Value,C [a0,a1,a2]):∀us:List Value,us.length=3->C us:=lnS fun a0=>lnS fun a1=>lnS fun a2=>ln0 (k a0 a1 a2)
def nL4{C:List Value->Prop}(k:∀a0 a1 a2 a3:Value,C [a0,a1,a2,a3]):∀us:List Value,us.length=4->C us:=lnS fun a0=>lnS fun a1=>lnS fun a2=>lnS fun a3=>ln0 (k a0 a1 a2 a3)
def nL5{C:List Value->Prop}(k:∀a0 a1 a2 a3 a4:Value,C [a0,a1,a2,a3,a4]):∀us:List Value,us.length=5->C us:=lnS fun a0=>lnS fun a1=>lnS fun a2=>lnS fun a3=>lnS fun a4=>ln0 (k a0 a1 a2 a3 a4)
def nL6{C:List Value->Prop}(k:∀a0 a1 a2 a3 a4 a5:Value,C [a0,a1,a2,a3,a4,a5]):∀us:List Value,us.length=6->C us:=lnS fun a0=>lnS fun a1=>lnS fun a2=>lnS fun a3=>lnS fun a4=>lnS fun a5=>ln0 (k a0 a1 a2 a3 a4 a5)
def nL7{C:List Value->Prop}(k:∀a0 a1 a2 a3 a4 a5 a6:Value,C [a0,a1,a2,a3,a4,a5,a6]):∀us:List Value,us.length=7->C us:=lnS fun a0=>lnS fun a1=>lnS fun a2=>lnS fun a3=>lnS fun a4=>lnS fun a5=>lnS fun a6=>ln0 (k a0 a1 a2 a3 a4 a5 a6)
def bd_mk{K:Mt}{fd:FuncData}{ps:List Str}{ds:List Value}{n:Nat}(hn:n+ds.length=ps.length)(k:∀s:Shared,K.In s.heap->∀us:List Value,us.length=n->BindsTo s fd ⟨us,[]⟩ (ps.zip (us++ds))):Binds K fd ps ds:=fun s us KX hl=>k s KX us (by rw[ML] at hl;lia)
def dn_mk{K:Mt}{st:Stmt}{ps:List Str}{f:Addr}{oc:Value}{od an:Option Addr}{osl:Array (Option Value)}{kV doc pm cdv ct:Value}{h:Heap}{mg:Str->Option Value}{x:Str}(X:K.In h)(G:h.Ns mainGlobals mg)(a:MA K mainGlobals x>>(some (.ref f)))(l:K.lookup f>>⟨oc,od, .func (MP x x (kaE st) (kaC st) (kaf st) .none kV doc pm an cdv ct),osl⟩)(c:Ee K cdv x=true)(k:MJ K (.ref f)=true)(b:∀(kV doc pm:Value)(an:Option Addr)(cdv ct:Value),∀us:List Value,us.length=ps.length->bindArgs (MP x x (kaE st) (kaC st) (kaf st) .none kV doc pm an cdv ct) ⟨us,[]⟩=pure (ps.zip us)):Dn K mg x st ps f (MP x x (kaE st) (kaC st) (kaf st) .none kV doc pm an cdv ct):=⟨kb0 l c k,Binds.all (b _ _ _ _ _ _),MF X G a⟩
def mt_mk{K:Mt}{st:Stmt}{ps:List Str}{f:Addr}{oc:Value}{od an:Option Addr}{osl:Array (Option Value)}{kV doc pm cdv ct:Value}{m qual:Str}{C:Addr}(a:Mw K (.ref C) m>>(some (.ref f)))(i:Ej K (.ref f)=true)(l:K.lookup f>>⟨oc,od, .func (MP m qual (kaE st) (kaC st) (kaf st) .none kV doc pm an cdv ct),osl⟩)(c:Ee K cdv qual=true)(k:MJ K (.ref f)=true)(b:∀(kV doc pm:Value)(an:Option Addr)(cdv ct:Value),∀us:List Value,us.length=ps.length->bindArgs (MP m qual (kaE st) (kaC st) (kaf st) .none kV doc pm an cdv ct) ⟨us,[]⟩=pure (ps.zip us)):MthT K C m qual st ps f (MP m qual (kaE st) (kaC st) (kaf st) .none kV doc pm an cdv ct):=⟨a,i,kb0 l c k,Binds.all (b _ _ _ _ _ _)⟩
theorem all_mk{l:PySem.W.OpenLaw}{w:World}{K:Mt}{h:Heap}{mg:Str->Option Value}{fa zfy zg9 z30 zfo zhg z7x zhf zfl z33 z2e z5j z1c z3i z7v z3q zb7 zg0 zdj z3y z4v z4h z2u zde z24 z47 z40 z1u z8l z6n z42 z27 z43 z9i z45 zbj zb8 z8f z69 zb0 z5c z66 z73 z5v z7s z62 z8h z4b z8d zau zi z1j z3c zd zw z1v z1d z1s z4z zgq z9j zdf z1e zt z1n z3z zh z1f z2h zb z3h z36 zv z9l z4t z6e z3u zp z8o zs z1m z41 za z1o zx z19 zu z1a zk z9q z4p z4i z1z z3v z56 z2n z38 z3f z1t z34 ze z8p zr zg z1h zz zf z5l zbc zap zgb zdh z22 z5g z2f z1w zo z39 z7t z9k zba z9n z85 z6p z89 z55:Addr}{z6s z2j zch z6a zk7 zhk zbb z5i zaq z9c z3r z92 zeu z7h ze1 zd0 z5y zc6 zak z4u za7 zcg z6i zbt z5m zat:Option Addr}{z75 zcz zjo zbn zaz z9a z91 zf2 zdn zcj zd7 za9 za2 zcd zcf z5p zbq:Array (Option Value)}{z7d z26 z2b z2c z1b z2s zd6 z6k z6o z67 z1q z6l zjp zhh zhe zhi zea zhm zb6 z52 z5h z51 z2p z54 zax z90 z3m z3j z3t z1p z3g z94 zdk z8e z8b z7w z44 z8c zdp zbu z64 z6b z61 z3b z5s zby zai z4k z4m z4c z1x z48 zac zbw z5z z60 z6j z3a z6g zck z1y z5k:Value}{zbk z35 z95 ze8 zcm zad z2a zcn z3o z2k z28 z29 z5u z5w z5x z4q z2r z4n z2y z4e z3d z21 z53 z7i z8q z2w z31 z4j z5d:Nat}{zg7 zfz z32 zg5 zhl z81 zhj zfv z37 z2l z57 z3e z8g z3s zbp zgo zdi z3p z4f z4s z2q zdg z4r z7g z4o z8m z6c z8a z58 z83 z9p z87 zar zbf z7r z68 zb5 z5b z6d zb3 z6h z8n z65 z7p z46 z84 z3l z2v z9m z4d z6f z3n z82 z3k z1i z1k z1g z1l z9h z49 z4g z20 z3w z59 z2t z2x z3x z1r z2z z86 z4y:FuncData}{zc zq:Array Value}{z2d z5t:Str}{z2g z2m z6m z5r:Int}{z2i z63:Bool}{ts:List Addr}(X:K.In h)(G:h.Ns mainGlobals mg)(hfa:mg "law">>(.ref fa))
  (zjd:Dn K mg "dealt" khg ["cut","weights"] zfy zg7)
  (zif:Dn K mg "under" khe ["parents","one","other"] zg9 zfz)
  (z7m:Dn K mg "price_of_piece" kbE ["line","member"] z30 z32)
  (zj8:Dn K mg "about" keN ["voucher","parents","basket","standing"] zfo zg5)
  (zjz:Dn K mg "fits" kjC ["marks","parents","kind","marked"] zhg zhl)
  (zeg:Dn K mg "hindrance" kdq ["voucher","parents","basket","standing"] z7x z81)
  (zjx:Dn K mg "cuts" kjD ["voucher","parents","basket","standing"] zhf zhj)
  (zic:Dn K mg "after" khh ["voucher","parents","basket","standing"] zfl zfv)
  (z80:Dn K mg "cuts_of_pieces" kbF ["voucher","parents","basket","standing"] z33 z37)
  (z6r:Dn K mg "cut_of_carriage" kbx ["voucher","standing"] z2e z2l)
  (zbg:Dn K mg "wanted_cuts" kbe ["voucher","standing","pieces"] z5j z57)
  (z7u:MA K mainGlobals "falling_groups">>(some (.ref z1c)))(z7o:K.lookup z1c>>⟨z7d,z6s, .func (MP "falling_groups" "falling_groups" (kaE kaO) (kaC kaO) (kaf kaO) .none z26 z2b z2c z2j z1b z2s),z75⟩)(z7q:Ee K z1b "falling_groups"=true)(z7n:MJ K (.ref z1c)=true)
  (z8w:Dn K mg "marked_behind" kbQ ["voucher","standing","piece_cuts"] z3i z3e)
  (zeq:Dn K mg "prices_of" kcv ["standing","pieces"] z7v z8g)
  (z99:Dn K mg "sum_of_prices" kbP ["standing","pieces"] z3q z3s)
  (zh9:Dn K mg "at_most" keK ["most","number"] zb7 zbp)
  (zit:Dn K mg "fault" khf ["till","basket","hand","order"] zg0 zgo)
  (zhw:Dn K mg "way_by" kfN ["till","basket","hand","order"] zdj zdi)
  (z96:Dn K mg "word_of_order" kbO ["till","hand","used","number"] z3y z3p)
  (zaa:Dn K mg "breaks_never" kce ["rules","used","number"] z4v z4f)
  (z9z:Dn K mg "breaks_ahead" kcf ["rules","used","number"] z4h z4s)
  (z6q:Dn K mg "without_company" kbw ["rules","order"] z2u z2q)
  (zho:Dn K mg "priced" kfO ["till","basket","hand","order"] zde zdg)
  (zev:MA K mainGlobals "first_use">>(some (.ref z24)))(zdw:K.lookup z24>>⟨zd6,zch, .func (MP "first_use" "first_use" (kaE kbj) (kaC kbj) (kaf kbj) .none z6k z6o z67 z6a z1q z6l),zcz⟩)(zf9:Ee K z1q "first_use"=true)(zdo:MJ K (.ref z24)=true)
  (z9y:Dn K mg "read_telling" kcd ["word","row","told"] z47 z4r)
  (zej:Dn K mg "read_kind" kdn ["row","told"] z40 z7g)
  (z9s:Dn K mg "read_voucher" kcc ["row","told"] z1u z4o)
  (zf1:Dn K mg "read_sort" kdl ["row","told"] z8l z8m)
  (zbs:Dn K mg "read_marks" kcN ["row","told"] z6n z6c)
  (zdv:Dn K mg "read_rule" kdm ["row","told"] z42 z8a)
  (zbr:Dn K mg "read_basket" kcu ["row","told"] z27 z58)
  (zdq:Dn K mg "read_ware" kdk ["row","told"] z43 z83)
  (zfh:Dn K mg "add_line" kdW ["line","row","told"] z9i z9p)
  (zeo:Dn K mg "read_hold" kdo ["row","told"] z45 z87)
  (zgz:Dn K mg "rows_of" keI ["text"] zbj zar)
  (zh5:Dn K mg "is_name" keJ ["word"] zb8 zbf)
  (ze0:Dn K mg "is_number" kdp ["word"] z8f z7r)
  (zcv:Dn K mg "is_made_of" kb6 ["word","signs"] z69 z68)
  (zh0:Dn K mg "answers" keM ["text"] zb0 zb5)
  (zay:Dn K mg "first_words" kcw ["desk"] z5c z5b)
  (zcl:Dn K mg "read_order" kcM ["row","desk"] z66 z6d)
  (zhc:Dn K mg "ask_use" keL ["row","desk"] z73 zb3)
  (zc2:Dn K mg "_law_mixed" kcO ["_law_cell_here","_law_k"] z5v z6h)
  (zee:Dn K mg "_law_cell" kdu ["_law_script","_law_k"] z7s z8n)
  (zd5:Dn K mg "_law_alike" kcP ["_law_found","_law_due"] z62 z65)
  (zew:Dn K mg "_law_name" kdt ["_law_which","_law_k","_law_salt"] z8h z7p)
  (z9x:Dn K mg "_law_use_due" kcg ["_law_till","_law_basket","_law_hand","_law_order"] z4b z46)
  (zf0:Dn K mg "_law_rule" kdr ["_law_drawn","_law_names","_law_rules"] z8d z84)
  (zii:MA K mainGlobals "law">>(some (.ref zau)))(zkm:K.lookup zau>>⟨zjp,zk7, .func (MP "law" "law" (kaE s_law) (kaC s_law) (kaf s_law) .none zhh zhe zhi zhk zea zhm),zjo⟩)(zki:Ee K zea "law"=true)(zkk:MJ K (.ref zau)=true)
  (zij:MA K mainGlobals "Marks">>(some (.ref zi)))
  (zhv:MM K zi (.type "object")>>true)(zi0:MM K zi (.ref zi)>>true)(zhx:M5 K (.ref zi)>>(.type "type"))
  (inX:EN K (.builtin "object.__class__") "__get__">>(some (.builtin "getset_descriptor.__get__")))(itX:DH K (.builtin "object.__class__")>>true)
  (zhr:M8 K zi Str.empty=true)(zhz:Eb K zi=true)(zht:Eh K zi=true)(zhs:Mw K (.ref zi) "__setattr__">>(some (.builtin "object.__setattr__")))(zhn:Ec K zi=true)(zhq:MJ K (.ref zi)=true)(zhy:Mw K (.ref zi) "__class__">>(some (.builtin "object.__class__")))
  (zcy:Mw K (.ref zi) "kind">>none)
  (zbd:Mw K (.ref zi) "needs">>none)
  (zc9:Mw K (.ref zi) "most">>none)
  (zaj:Mw K (.ref zi) "member">>none)
  (zc7:Mw K (.ref zi) "once">>none)
  (zc0:Mw K (.ref zi) "lone">>none)
  (zc1:Mw K (.ref zi) "__init__">>(some (.ref z1j)))(zca:Ej K (.ref z1j)=true)(zbx:K.lookup z1j>>⟨zb6,zbb, .func (MP "__init__" "Marks.__init__" (kaE ka5) (kaC ka5) (kaf ka5) (.ref z3c) z52 z5h z51 z5i z2p z54),zbn⟩)(zc4:Ee K z2p "Marks.__init__"=true)(zco:MJ K (.ref z1j)=true)(zy:K.lookup z3c>>⟨zax,zaq, .seq #[.none, .int 0 z35, .none, .bool false, .bool false, .bool false] zbk,zaz⟩)
  (zh2:MA K mainGlobals "Voucher">>(some (.ref zd)))
  (zgg:MM K zd (.type "object")>>true)(zgd:MM K zd (.ref zd)>>true)(zg2:M5 K (.ref zd)>>(.type "type"))
  (zgl:M8 K zd Str.empty=true)(zff:Eb K zd=true)(zgm:Eh K zd=true)(zfs:Mw K (.ref zd) "__setattr__">>(some (.builtin "object.__setattr__")))(zfn:Ec K zd=true)(zfe:MJ K (.ref zd)=true)(zg3:Mw K (.ref zd) "__class__">>(some (.builtin "object.__class__")))
  (zam:Mw K (.ref zd) "__init__">>(some (.ref zw)))(zae:Ej K (.ref zw)=true)(z9v:K.lookup zw>>⟨z90,z9c, .func (MP "__init__" "Voucher.__init__" (kaE kaS) (kaC kaS) (kaf kaS) (.ref z1v) z3m z3j z3t z3r z1p z3g),z9a⟩)(za5:Ee K z1p "Voucher.__init__"=true)(za1:MJ K (.ref zw)=true)(z4a:K.lookup z1v>>⟨z94,z92, .seq #[.none] z95,z91⟩)
  (zjb:MA K mainGlobals "Off">>(some (.ref z1d)))
  (zjl:MM K z1d (.type "object")>>true)(zhd:MM K z1d (.ref z1d)>>true)(zk8:M5 K (.ref z1d)>>(.type "type"))
  (zk3:M8 K z1d Str.empty=true)(zjh:Eb K z1d=true)(zk2:Eh K z1d=true)(zkh:Mw K (.ref z1d) "__setattr__">>(some (.builtin "object.__setattr__")))(zk6:Ec K z1d=true)(zjn:MJ K (.ref z1d)=true)(zjt:Mw K (.ref z1d) "__class__">>(some (.builtin "object.__class__")))
  (zci:Mw K (.ref z1d) "amount">>none)
  (ze9:Mw K (.ref z1d) "marks">>none)
  (zfx:Mw K (.ref z1d) "__init__">>(some (.ref z1s)))(zfq:Ej K (.ref z1s)=true)(zfu:K.lookup z1s>>⟨zdk,zeu, .func (MP "__init__" "Off.__init__" (kaE kbn) (kaC kbn) (kaf kbn) (.ref z4z) z8e z8b z7w z7h z44 z8c),zf2⟩)(zfw:Ee K z44 "Off.__init__"=true)(zgi:MJ K (.ref z1s)=true)(z9o:K.lookup z4z>>⟨zdp,ze1, .seq #[.none] ze8,zdn⟩)
  (zi2:MA K mainGlobals "Share">>(some (.ref zgq)))
  (zgk:MA K mainGlobals "Cheapest">>(some (.ref z9j)))
  (zhu:MA K mainGlobals "Bundle">>(some (.ref zdf)))
  (zfm:MA K mainGlobals "Carriage">>(some (.ref z1e)))
  (zel:MM K z1e (.type "object")>>true)(zjg:MM K z1e (.ref z1e)>>true)(zdl:M5 K (.ref z1e)>>(.type "type"))
  (zjf:MA K mainGlobals "Line">>(some (.ref zt)))
  (zi9:MM K zt (.type "object")>>true)(zir:MM K zt (.ref zt)>>true)(zi7:M5 K (.ref zt)>>(.type "type"))
  (zj9:M8 K zt Str.empty=true)(zj5:Eb K zt=true)(zik:Eh K zt=true)(zj7:Mw K (.ref zt) "__setattr__">>(some (.builtin "object.__setattr__")))(zin:Ec K zt=true)(zj4:MJ K (.ref zt)=true)(zi6:Mw K (.ref zt) "__class__">>(some (.builtin "object.__class__")))
  (zef:Mw K (.ref zt) "kind">>none)
  (zce:Mw K (.ref zt) "price">>none)
  (ze2:Mw K (.ref zt) "many">>none)
  (z9r:Mw K (.ref zt) "special">>none)
  (zdy:Mw K (.ref zt) "__init__">>(some (.ref z1n)))(zet:Ej K (.ref z1n)=true)(zf4:K.lookup z1n>>⟨zbu,zd0, .func (MP "__init__" "Line.__init__" (kaE kbb) (kaC kbb) (kaf kbb) (.ref z3z) z64 z6b z61 z5y z3b z5s),zcj⟩)(zex:Ee K z3b "Line.__init__"=true)(zf3:MJ K (.ref z1n)=true)(z88:K.lookup z3z>>⟨zby,zc6, .seq #[.none] zcm,zd7⟩)
  (zhp:MA K mainGlobals "Basket">>(some (.ref zh)))
  (zh4:MM K zh (.type "object")>>true)(zh6:MM K zh (.ref zh)>>true)(zha:M5 K (.ref zh)>>(.type "type"))
  (zgx:M8 K zh Str.empty=true)(zgy:Eb K zh=true)(zhb:Eh K zh=true)(zh1:Mw K (.ref zh) "__setattr__">>(some (.builtin "object.__setattr__")))(zh7:Ec K zh=true)(zgw:MJ K (.ref zh)=true)(zh3:Mw K (.ref zh) "__class__">>(some (.builtin "object.__class__")))
  (zag:Mw K (.ref zh) "lines">>none)
  (z77:Mw K (.ref zh) "carriage">>none)
  (z9e:Mw K (.ref zh) "member">>none)
  (zao:Mw K (.ref zh) "__init__">>(some (.ref z1f)))(zaw:Ej K (.ref z1f)=true)(zbm:K.lookup z1f>>⟨zai,zak, .func (MP "__init__" "Basket.__init__" (kaE kaY) (kaC kaY) (kaf kaY) (.ref z2h) z4k z4m z4c z4u z1x z48),za9⟩)(zan:Ee K z1x "Basket.__init__"=true)(zbh:MJ K (.ref z1f)=true)(z2o:K.lookup z2h>>⟨zac,za7, .seq #[.int 0 z2a, .bool false] zad,za2⟩)
  (zgn:MA K mainGlobals "Standing">>(some (.ref zb)))
  (ze5:MM K zb (.type "object")>>true)(ze3:MM K zb (.ref zb)>>true)(zem:M5 K (.ref zb)>>(.type "type"))
  (zez:M8 K zb Str.empty=true)(zeh:Eb K zb=true)(zdx:Eh K zb=true)(zf6:Mw K (.ref zb) "__setattr__">>(some (.builtin "object.__setattr__")))(zdm:Ec K zb=true)(zf5:MJ K (.ref zb)=true)(zf7:Mw K (.ref zb) "__class__">>(some (.builtin "object.__class__")))
  (z6z:Mw K (.ref zb) "owners">>none)
  (z72:Mw K (.ref zb) "prices">>none)
  (z5f:Mw K (.ref zb) "carriage">>none)
  (z7c:Mw K (.ref zb) "marked">>none)
  (z93:MthT K zb "__init__" "Standing.__init__" kbT ["self","basket"] z3h z3l)
  (z7j:MthT K zb "whole" "Standing.whole" kbG ["self"] z36 z2v)
  (zkl:MA K mainGlobals "Way">>(some (.ref zv)))
  (zji:MM K zv (.type "object")>>true)(zk5:MM K zv (.ref zv)>>true)(zk1:M5 K (.ref zv)>>(.type "type"))
  (zjs:M8 K zv Str.empty=true)(zkc:Eb K zv=true)(zjm:Eh K zv=true)(zk0:Mw K (.ref zv) "__setattr__">>(some (.builtin "object.__setattr__")))(zju:Ec K zv=true)(zkf:MJ K (.ref zv)=true)(zjq:Mw K (.ref zv) "__class__">>(some (.builtin "object.__class__")))
  (zgc:Mw K (.ref zv) "till">>none)
  (zcw:Mw K (.ref zv) "basket">>none)
  (zga:Mw K (.ref zv) "hand">>none)
  (zg8:Mw K (.ref zv) "used">>none)
  (za3:Mw K (.ref zv) "standing">>none)
  (zgj:MthT K zv "__init__" "Way.__init__" kdX ["self","till","basket","hand"] z9l z9m)
  (za8:MthT K zv "word_for" "Way.word_for" kch ["self","number"] z4t z4d)
  (zbz:MthT K zv "behind" "Way.behind" kcQ ["self","number"] z6e z6f)
  (z8z:MthT K zv "is_let_by" "Way.is_let_by" kbR ["self"] z3u z3n)
  (zjw:MA K mainGlobals "Bill">>(some (.ref zp)))
  (ziq:MM K zp (.type "object")>>true)(zj6:MM K zp (.ref zp)>>true)(zi1:M5 K (.ref zp)>>(.type "type"))
  (zi8:M8 K zp Str.empty=true)(ziu:Eb K zp=true)(zjc:Eh K zp=true)(zje:Mw K (.ref zp) "__setattr__">>(some (.builtin "object.__setattr__")))(zi3:Ec K zp=true)(zio:MJ K (.ref zp)=true)(zim:Mw K (.ref zp) "__class__">>(some (.builtin "object.__class__")))
  (zda:Mw K (.ref zp) "order">>none)
  (zdc:Mw K (.ref zp) "steps">>none)
  (zbl:Mw K (.ref zp) "prices">>none)
  (z8t:Mw K (.ref zp) "carriage">>none)
  (zdd:Mw K (.ref zp) "total">>none)
  (zdr:MthT K zp "__init__" "Bill.__init__" kdw ["self","order","steps","standing"] z8o z82)
  (zk4:MA K mainGlobals "Till">>(some (.ref zs)))
  (zih:MM K zs (.type "object")>>true)(zj2:MM K zs (.ref zs)>>true)(ziw:M5 K (.ref zs)>>(.type "type"))
  (zj0:M8 K zs Str.empty=true)(zja:Eb K zs=true)(zid:Eh K zs=true)(zix:Mw K (.ref zs) "__setattr__">>(some (.builtin "object.__setattr__")))(zi4:Ec K zs=true)(zig:MJ K (.ref zs)=true)(zis:Mw K (.ref zs) "__class__">>(some (.builtin "object.__class__")))
  (za6:Mw K (.ref zs) "parents">>none)
  (z8y:Mw K (.ref zs) "vouchers">>none)
  (zcb:Mw K (.ref zs) "rules">>none)
  (zep:Mw K (.ref zs) "back">>none)
  (zer:Mw K (.ref zs) "__init__">>(some (.ref z1m)))(zfc:Ej K (.ref z1m)=true)(zfa:K.lookup z1m>>⟨zbw,zcg, .func (MP "__init__" "Till.__init__" (kaE kba) (kaC kba) (kaf kba) (.ref z41) z5z z60 z6j z6i z3a z6g),zcd⟩)(zdz:Ee K z3a "Till.__init__"=true)(zfb:MJ K (.ref z1m)=true)(z7l:K.lookup z41>>⟨zck,zbt, .seq #[.str "again" z3o] zcn,zcf⟩)
  (zgu:MA K mainGlobals "TillText">>(some (.ref za)))
  (zds:MM K za (.type "object")>>true)(zen:MM K za (.ref za)>>true)(zes:M5 K (.ref za)>>(.type "type"))
  (zf8:M8 K za Str.empty=true)(zdt:Eb K za=true)(zec:Eh K za=true)(zfd:Mw K (.ref za) "__setattr__">>(some (.builtin "object.__setattr__")))(zey:Ec K za=true)(ze6:MJ K (.ref za)=true)(zdu:Mw K (.ref za) "__class__">>(some (.builtin "object.__class__")))
  (z9d:MthT K za "__init__" "TillText.__init__" kbS ["self"] z1o z3k)
  (zl:MthT K za "names_so_far" "TillText.names_so_far" kaP ["self"] zx z1i)
  (zm:MthT K za "till_so_far" "TillText.till_so_far" kaW ["self"] z19 z1k)
  (zj:MthT K za "basket_so_far" "TillText.basket_so_far" kaM ["self"] zu z1g)
  (zn:MthT K za "hand_so_far" "TillText.hand_so_far" kaF ["self"] z1a z1l)
  (zkj:MA K mainGlobals "Row">>(some (.ref zk)))
  (zka:MM K zk (.type "object")>>true)(zjr:MM K zk (.ref zk)>>true)(zjj:M5 K (.ref zk)>>(.type "type"))
  (zke:M8 K zk Str.empty=true)(zjy:Eb K zk=true)(zkg:Eh K zk=true)(zkb:Mw K (.ref zk) "__setattr__">>(some (.builtin "object.__setattr__")))(zjv:Ec K zk=true)(zk9:MJ K (.ref zk)=true)(zkd:Mw K (.ref zk) "__class__">>(some (.builtin "object.__class__")))
  (zfr:Mw K (.ref zk) "line">>none)
  (zed:Mw K (.ref zk) "words">>none)
  (zct:Mw K (.ref zk) "passed">>none)
  (zgf:MthT K zk "__init__" "Row.__init__" kdY ["self","line","parts"] z9q z9h)
  (zal:MthT K zk "has_more" "Row.has_more" kck ["self"] z4p z49)
  (zah:MthT K zk "must_end" "Row.must_end" kci ["self"] z4i z4g)
  (z5q:MthT K zk "must_keep_to" "Row.must_keep_to" kbs ["self","most","many"] z1z z20)
  (z98:MthT K zk "next_word" "Row.next_word" kbU ["self"] z3v z3w)
  (zb4:MthT K zk "next_of" "Row.next_of" kcx ["self","choices"] z56 z59)
  (z6y:MthT K zk "next_number" "Row.next_number" kby ["self","least","most"] z2n z2t)
  (z8j:MthT K zk "next_coins" "Row.next_coins" kbI ["self"] z38 z2x)
  (z8u:MthT K zk "next_name" "Row.next_name" kbV ["self"] z3f z3x)
  (z5e:MthT K zk "next_new_name" "Row.next_new_name" kbk ["self","taken"] z1t z1r)
  (z7y:MthT K zk "next_named" "Row.next_named" kbH ["self","names"] z34 z2z)
  (zjk:MA K mainGlobals "Desk">>(some (.ref ze)))
  (zj3:MM K ze (.type "object")>>true)(ziv:MM K ze (.ref ze)>>true)(zie:M5 K (.ref ze)>>(.type "type"))
  (zi5:M8 K ze Str.empty=true)(zib:Eb K ze=true)(ziy:Eh K ze=true)(zj1:Mw K (.ref ze) "__setattr__">>(some (.builtin "object.__setattr__")))(zia:Ec K ze=true)(ziz:MJ K (.ref ze)=true)(zil:Mw K (.ref ze) "__class__">>(some (.builtin "object.__class__")))
  (z9t:Mw K (.ref ze) "account">>none)
  (z6u:Mw K (.ref ze) "kind_names">>none)
  (za0:Mw K (.ref ze) "parents">>none)
  (z4w:Mw K (.ref ze) "voucher_names">>none)
  (z8r:Mw K (.ref ze) "vouchers">>none)
  (zcc:Mw K (.ref ze) "rules">>none)
  (zek:Mw K (.ref ze) "back">>none)
  (za4:Mw K (.ref ze) "baskets">>none)
  (zei:Mw K (.ref ze) "held">>none)
  (zeb:MthT K ze "__init__" "Desk.__init__" kdv ["self"] z8p z86)
  (z50:Mw K (.ref ze) "names_so_far">>(some (.ref zx)))
  (z5o:Mw K (.ref ze) "till_so_far">>(some (.ref z19)))
  (z4x:Mw K (.ref ze) "basket_so_far">>(some (.ref zu)))
  (z5n:Mw K (.ref ze) "hand_so_far">>(some (.ref z1a)))
  (z8x:DO K zd (.type "type")=true)(z9g:EN K (.ref zd) "__getattribute__">>(some (.builtin "type.__getattribute__")))(z9b:DP K (.ref zd) (.type "type") "__init__">>(.val (.ref zw)))
  (z8i:DO K za (.type "type")=true)(z7z:EN K (.ref za) "__getattribute__">>(some (.builtin "type.__getattribute__")))(z7k:DP K (.ref za) (.type "type") "__init__">>(.val (.ref z1o)))
  (z4l:MM K z1d (.ref z1e)>>false)
  (z78:z1b=.ref zr)
  (z7f:K.lookup zr>>⟨z1y,z5m, .fields zc,z5p⟩)
  (z79:z1y=.type "code")
  (z6v:zc[11]?>>(.ref zg))
  (z6w:zc.getD 11 .none=.ref zg)
  (z76:zc.getD 18 .none=.str z2d z2k)
  (z71:zc.getD 7 .none=.int z2g z28)
  (z6t:zc.getD 9 .none=.bool z2i)
  (z74:zc.getD 10 .none=.int z2m z29)
  (z6x:zr≠zg)
  (z7b:K.lookup zg=none)
  (z7a:zg∈ts)
  (zcp:z1q=.ref z1h)
  (zd8:K.lookup z1h>>⟨z5k,zat, .fields zq,zbq⟩)
  (zcu:z5k=.type "code")
  (zd4:zq[11]?>>(.ref zz))
  (zd2:zq.getD 11 .none=.ref zz)
  (zd1:zq.getD 18 .none=.str z5t z5u)
  (zcq:zq.getD 7 .none=.int z6m z5w)
  (zc8:zq.getD 9 .none=.bool z63)
  (zcr:zq.getD 10 .none=.int z5r z5x)
  (zd9:z1h≠zz)
  (zbv:K.lookup zz=none)
  (zdb:zz∈ts)
  (zg6:MA K mainGlobals "NotLet">>(some (.ref zf)))
  (zd3:MA K mainGlobals "NoPieces">>(some (.ref z5l)))
  (ze7:MA K mainGlobals "BadText">>(some (.ref zbc)))
  (ze4:MA K mainGlobals "TooMany">>(some (.ref zap)))
  (zh8:MA K mainGlobals "Twice">>(some (.ref zgb)))
  (zge:MA K mainGlobals "NoName">>(some (.ref zdh)))
  (zbi:MA K mainGlobals "TillError">>(some (.ref z22)))
  (zfj:∃(nm q:Str)(N:Addr)(bs:List Value)(sn:List Str)(sub:List Value)(ab:Bool)(col:Option Bool)(dd:Option Addr)(k0 k1 k2 k3 k5:Option Value),K.lookup zf>>(excClassObj nm q zf N bs (.ref z22::veL) true sn sub ab col dd k0 k1 k2 k3 k5 "ValueError.__new__"))
  (zgv:DS K z22 veL "ValueError.__new__"=true)
  (zg1:Mw K (.ref zf) "__setattr__">>(some (.builtin "object.__setattr__")))
  (zgr:Mw K (.ref zf) "__getattribute__">>(some (.builtin "BaseException.__getattribute__")))
  (zgh:Mw K (.ref zf) "__getattr__">>none)
  (zfi:Mw K (.ref zf) "__class__">>(some (.builtin "object.__class__")))
  (zfg:DL K (.ref zf) (.type "BaseException")>>true)
  (zgs:MM K zf (.type "object")>>true)
  (zg4:(PySem.W.clsIn K zf).isSome=true)
  (zfk:MJ K (.ref zf)=true)
  (zb1:MthT K zf "__init__" "NotLet.__init__" kcy ["self","place","word"] z55 z4y)
  (z9f:Mw K (.ref zf) "place">>none)
  (zaf:Mw K (.ref zf) "word">>none)
  (z70:E2 K (.ref zf) (.ref zf)>>true)
  (z5a:E2 K (.ref zf) (.ref z5l)>>false)
  (zav:MA K mainGlobals "MOST_KINDS">>(some (.int 20 z4q)))
  (z8k:MA K mainGlobals "MOST_VOUCHERS">>(some (.int 8 z2r)))
  (zbe:MA K mainGlobals "MOST_RULES">>(some (.int 20 z4n)))
  (z97:MA K mainGlobals "MOST_BASKETS">>(some (.int 20 z2y)))
  (zbo:MA K mainGlobals "MOST_LINES">>(some (.int 12 z4e)))
  (z9u:MA K mainGlobals "MOST_PIECES">>(some (.int 60 z3d)))
  (z7e:MA K mainGlobals "MOST_OF_A_LINE">>(some (.int 20 z21)))
  (zc3:MA K mainGlobals "MOST_HELD">>(some (.int 5 z53)))
  (zgp:MA K mainGlobals "READERS">>(some (.ref z5g)))
  (zfp:TabK K z5g [("kind", .ref z40),("voucher", .ref z1u),("rule", .ref z42),("back", .ref z7t),("basket", .ref z27),("ware", .ref z43),("hold", .ref z45)])
  (zft:MA K mainGlobals "LETTERS">>(some (.str "abcdefghijklmnopqrstuvwxyz" z7i)))
  (zgt:MA K mainGlobals "FIGURES">>(some (.str "0123456789" z8q)))
  (z8s:MA K mainGlobals "MOST_LETTERS">>(some (.int 12 z2w)))
  (z8v:MA K mainGlobals "MOST_FIGURES">>(some (.int 13 z31)))
  (zb9:MA K mainGlobals "MOST_COINS">>(some (.int 1000000000000 z4j)))
  (zas:MA K mainGlobals "KEPT_WORDS">>(some (.ref z2f)))
  (zb2:TupK K z2f [.str "kind", .str "under", .str "voucher", .str "off", .str "share", .str "line", .str "basket", .str "cheapest", .str "bundle", .str "carriage", .str "of", .str "needs", .str "most", .str "member", .str "once", .str "lone", .str "rule", .str "only", .str "never", .str "ahead", .str "behind", .str "back", .str "again", .str "shares", .str "ware", .str "special", .str "hold", .str "use", .str "best", .str "buy", .str "take", .str "unlike", .str "spill"])
  (zab:MA K mainGlobals "FIRST_WORDS">>(some (.ref z1w)))
  (z9w:TupK K z1w [.str "kind", .str "voucher", .str "rule", .str "back", .str "basket", .str "never", .str "unlike", .str "spill"])
  (z23:MA K mainGlobals "FIRST_WORDS_OF_A_BASKET">>(some (.ref zo)))
  (z25:TupK K zo [.str "ware", .str "hold", .str "use", .str "best", .str "buy", .str "take"])
  (zcs:MA K mainGlobals "MOST_USED">>(some (.int 8 z5d)))
  (zc5:MA K mainGlobals "QUESTIONS">>(some (.ref z39)))
  (zcx:TabK K z39 [("use", .ref z73),("best", .ref z9k),("buy", .ref zba),("take", .ref z9n),("never", .ref z85),("unlike", .ref z6p),("spill", .ref z89)])
  (z1:MA K mainGlobals "range">>none)
  (z2:MA K mainGlobals "len">>none)
  (z3:MA K mainGlobals "min">>none)
  (z4:MA K mainGlobals "max">>none)
  (z5:MA K mainGlobals "isinstance">>none)
  (z6:MA K mainGlobals "bool">>none)
  (z7:MA K mainGlobals "int">>none)
  (z8:MA K mainGlobals "list">>none)
  (z9:MA K mainGlobals "sum">>none)
  (z10:MA K mainGlobals "enumerate">>none)
  (z11:MA K mainGlobals "any">>none)
  (z12:MA K mainGlobals "all">>none)
  (z13:MA K mainGlobals "reversed">>none)
  (z14:MA K mainGlobals "zip">>none)
  (z15:MA K mainGlobals "abs">>none)
  (z16:MA K mainGlobals "sorted">>none)
  (z17:MA K mainGlobals "tuple">>none)
  (z18:MA K mainGlobals "str">>none)
  :∃(fd:FuncData)(tP c0 tR c1:Addr),tP∈ts/\CodeK K c0 tP/\K.lookup tP=none/\tR∈ts/\CodeK K c1 tR/\K.lookup tR=none/\(∀(s:Shared)(v:Value),BindsTo s fd ⟨[v],[]⟩ [("_law_script",v)])/\∀base:Heap,K.In base->base.Ns mainGlobals mg->BltM mg base->FnOk l.prog w K mg base CX0 12 fa fd ["_law_script"] (keD K tP tR):=by
 have e:=hfa.symm.trans (MF X G zii)
 have hf:zau=fa:=by
  injection e with e
  injection e with e
  exact e.symm
 subst hf
 have B:TxtB mg:=⟨M4 X G z1,M4 X G z2,M4 X G z3,M4 X G z4,M4 X G z5,M4 X G z6,M4 X G z7,M4 X G z8,M4 X G z9,M4 X G z10,M4 X G z11,M4 X G z12,M4 X G z13,M4 X G z14,M4 X G z15,M4 X G z16,M4 X G z17,M4 X G z18⟩
 have W:Wld K mg ⟨(zfy),(zg7),(zg9),(zfz),(z30),(z32),(zfo),(zg5),(zhg),(zhl),(z7x),(z81),(zhf),(zhj),(zfl),(zfv),(z33),(z37),(z2e),(z2l),(z5j),(z57),(z1c),(MP "falling_groups" "falling_groups" (kaE kaO) (kaC kaO) (kaf kaO) .none z26 z2b z2c z2j z1b z2s),(z3i),(z3e),(z7v),(z8g),(z3q),(z3s),(zb7),(zbp),(zg0),(zgo),(zdj),(zdi),(z3y),(z3p),(z4v),(z4f),(z4h),(z4s),(z2u),(z2q),(zde),(zdg),(z24),(MP "first_use" "first_use" (kaE kbj) (kaC kbj) (kaf kbj) .none z6k z6o z67 z6a z1q z6l),(z47),(z4r),(z40),(z7g),(z1u),(z4o),(z8l),(z8m),(z6n),(z6c),(z42),(z8a),(z27),(z58),(z43),(z83),(z9i),(z9p),(z45),(z87),(zbj),(zar),(zb8),(zbf),(z8f),(z7r),(z69),(z68),(zb0),(zb5),(z5c),(z5b),(z66),(z6d),(z73),(zb3),(z5v),(z6h),(z7s),(z8n),(z62),(z65),(z8h),(z7p),(z4b),(z46),(z8d),(z84),(zau),(MP "law" "law" (kaE s_law) (kaC s_law) (kaf s_law) .none zhh zhe zhi zhk zea zhm),(zi),(z1j),(MP "__init__" "Marks.__init__" (kaE ka5) (kaC ka5) (kaf ka5) (.ref z3c) z52 z5h z51 z5i z2p z54),(z35),(zd),(zw),(MP "__init__" "Voucher.__init__" (kaE kaS) (kaC kaS) (kaf kaS) (.ref z1v) z3m z3j z3t z3r z1p z3g),(z1d),(z1s),(MP "__init__" "Off.__init__" (kaE kbn) (kaC kbn) (kaf kbn) (.ref z4z) z8e z8b z7w z7h z44 z8c),(zgq),(z9j),(zdf),(z1e),(zt),(z1n),(MP "__init__" "Line.__init__" (kaE kbb) (kaC kbb) (kaf kbb) (.ref z3z) z64 z6b z61 z5y z3b z5s),(zh),(z1f),(MP "__init__" "Basket.__init__" (kaE kaY) (kaC kaY) (kaf kaY) (.ref z2h) z4k z4m z4c z4u z1x z48),(z2a),(zb),(z3h),(z3l),(z36),(z2v),(zv),(z9l),(z9m),(z4t),(z4d),(z6e),(z6f),(z3u),(z3n),(zp),(z8o),(z82),(zs),(z1m),(MP "__init__" "Till.__init__" (kaE kba) (kaC kba) (kaf kba) (.ref z41) z5z z60 z6j z6i z3a z6g),(z3o),(za),(z1o),(z3k),(zx),(z1i),(z19),(z1k),(zu),(z1g),(z1a),(z1l),(zk),(z9q),(z9h),(z4p),(z49),(z4i),(z4g),(z1z),(z20),(z3v),(z3w),(z56),(z59),(z2n),(z2t),(z38),(z2x),(z3f),(z3x),(z1t),(z1r),(z34),(z2z),(ze),(z8p),(z86),(zr),(zg),(z1h),(zz),(zf),(z5l),(zbc),(zap),(zgb),(zdh),(z22),(z4q),(z2r),(z4n),(z2y),(z4e),(z3d),(z21),(z53),(z5g),(z7i),(z8q),(z2w),(z31),(z4j),(z2f),(z1w),(zo),(z5d),(z39),(z7t),(z9k),(zba),(z9n),(z85),(z6p),(z89),(z55),(z4y)⟩:=⟨B,zjd,zif,z7m,zj8,zjz,zeg,zjx,zic,z80,z6r,zbg,⟨(kb0 z7o z7q z7n),(Binds.all (nL3 fun _ _ _=>rfl)),MF X G z7u⟩,z8w,zeq,z99,zh9,zit,zhw,z96,zaa,z9z,z6q,zho,⟨(kb0 zdw zf9 zdo),(Binds.all (nL3 fun _ _ _=>rfl)),MF X G zev⟩,z9y,zej,z9s,zf1,zbs,zdv,zbr,zdq,zfh,zeo,zgz,zh5,ze0,zcv,zh0,zay,zcl,zhc,zc2,zee,zd5,zew,z9x,zf0,⟨(kb0 zkm zki zkk),(Binds.all (nL1 fun _=>rfl)),MF X G zii⟩,⟨⟨zhr,zhz,zht,zhs⟩,MF X G zij,⟨zhy,inX,itX,zhv⟩,zi0,zhx,zhn,zhq⟩,zcy,zbd,zc9,zaj,zc7,zc0,⟨zc1,zca,(kb0 zbx zc4 zco),(bd_mk (n:=7) rfl fun _ KX=>nL7 fun _ _ _ _ _ _ _=>BindsTo.of_defaults rfl (KX _ _ zy) rfl rfl rfl)⟩,(bd_mk (n:=6) rfl fun _ KX=>nL6 fun _ _ _ _ _ _=>BindsTo.of_defaults rfl (KX _ _ zy) rfl rfl rfl),(bd_mk (n:=5) rfl fun _ KX=>nL5 fun _ _ _ _ _=>BindsTo.of_defaults rfl (KX _ _ zy) rfl rfl rfl),(bd_mk (n:=4) rfl fun _ KX=>nL4 fun _ _ _ _=>BindsTo.of_defaults rfl (KX _ _ zy) rfl rfl rfl),(bd_mk (n:=3) rfl fun _ KX=>nL3 fun _ _ _=>BindsTo.of_defaults rfl (KX _ _ zy) rfl rfl rfl),(bd_mk (n:=2) rfl fun _ KX=>nL2 fun _ _=>BindsTo.of_defaults rfl (KX _ _ zy) rfl rfl rfl),(bd_mk (n:=1) rfl fun _ KX=>nL1 fun _=>BindsTo.of_defaults rfl (KX _ _ zy) rfl rfl rfl),⟨⟨zgl,zff,zgm,zfs⟩,MF X G zh2,⟨zg3,inX,itX,zgg⟩,zgd,zg2,zfn,zfe⟩,⟨zam,zae,(kb0 z9v za5 za1),(bd_mk (n:=2) rfl fun _ KX=>nL2 fun _ _=>BindsTo.of_defaults rfl (KX _ _ z4a) rfl rfl rfl)⟩,(bd_mk (n:=1) rfl fun _ KX=>nL1 fun _=>BindsTo.of_defaults rfl (KX _ _ z4a) rfl rfl rfl),MF X G zjb,⟨⟨zk3,zjh,zk2,zkh⟩,MF X G zjb,⟨zjt,inX,itX,zjl⟩,zhd,zk8,zk6,zjn⟩,zci,ze9,⟨zfx,zfq,(kb0 zfu zfw zgi),(bd_mk (n:=3) rfl fun _ KX=>nL3 fun _ _ _=>BindsTo.of_defaults rfl (KX _ _ z9o) rfl rfl rfl)⟩,(bd_mk (n:=2) rfl fun _ KX=>nL2 fun _ _=>BindsTo.of_defaults rfl (KX _ _ z9o) rfl rfl rfl),MF X G zi2,MF X G zgk,MF X G zhu,MF X G zfm,⟨⟨zj9,zj5,zik,zj7⟩,MF X G zjf,⟨zi6,inX,itX,zi9⟩,zir,zi7,zin,zj4⟩,zef,zce,ze2,z9r,⟨zdy,zet,(kb0 zf4 zex zf3),(bd_mk (n:=5) rfl fun _ KX=>nL5 fun _ _ _ _ _=>BindsTo.of_defaults rfl (KX _ _ z88) rfl rfl rfl)⟩,(bd_mk (n:=4) rfl fun _ KX=>nL4 fun _ _ _ _=>BindsTo.of_defaults rfl (KX _ _ z88) rfl rfl rfl),⟨⟨zgx,zgy,zhb,zh1⟩,MF X G zhp,⟨zh3,inX,itX,zh4⟩,zh6,zha,zh7,zgw⟩,zag,z77,z9e,⟨zao,zaw,(kb0 zbm zan zbh),(bd_mk (n:=4) rfl fun _ KX=>nL4 fun _ _ _ _=>BindsTo.of_defaults rfl (KX _ _ z2o) rfl rfl rfl)⟩,(bd_mk (n:=3) rfl fun _ KX=>nL3 fun _ _ _=>BindsTo.of_defaults rfl (KX _ _ z2o) rfl rfl rfl),(bd_mk (n:=2) rfl fun _ KX=>nL2 fun _ _=>BindsTo.of_defaults rfl (KX _ _ z2o) rfl rfl rfl),⟨⟨zez,zeh,zdx,zf6⟩,MF X G zgn,⟨zf7,inX,itX,ze5⟩,ze3,zem,zdm,zf5⟩,z6z,z72,z5f,z7c,z93,z7j,⟨⟨zjs,zkc,zjm,zk0⟩,MF X G zkl,⟨zjq,inX,itX,zji⟩,zk5,zk1,zju,zkf⟩,zgc,zcw,zga,zg8,za3,zgj,za8,zbz,z8z,⟨⟨zi8,ziu,zjc,zje⟩,MF X G zjw,⟨zim,inX,itX,ziq⟩,zj6,zi1,zi3,zio⟩,zda,zdc,zbl,z8t,zdd,zdr,⟨⟨zj0,zja,zid,zix⟩,MF X G zk4,⟨zis,inX,itX,zih⟩,zj2,ziw,zi4,zig⟩,za6,z8y,zcb,zep,⟨zer,zfc,(kb0 zfa zdz zfb),(bd_mk (n:=5) rfl fun _ KX=>nL5 fun _ _ _ _ _=>BindsTo.of_defaults rfl (KX _ _ z7l) rfl rfl rfl)⟩,(bd_mk (n:=4) rfl fun _ KX=>nL4 fun _ _ _ _=>BindsTo.of_defaults rfl (KX _ _ z7l) rfl rfl rfl),⟨⟨zf8,zdt,zec,zfd⟩,MF X G zgu,⟨zdu,inX,itX,zds⟩,zen,zes,zey,ze6⟩,z9d,zl,zm,zj,zn,⟨⟨zke,zjy,zkg,zkb⟩,MF X G zkj,⟨zkd,inX,itX,zka⟩,zjr,zjj,zjv,zk9⟩,zfr,zed,zct,zgf,zal,zah,z5q,z98,zb4,z6y,z8j,z8u,z5e,z7y,⟨⟨zi5,zib,ziy,zj1⟩,MF X G zjk,⟨zil,inX,itX,zj3⟩,ziv,zie,zia,ziz⟩,z9t,z6u,za0,z4w,z8r,zcc,zek,za4,zei,zeb,⟨z50,zl.fn,zl.F,zl.b⟩,⟨z5o,zm.fn,zm.F,zm.b⟩,⟨z4x,zj.fn,zj.F,zj.b⟩,⟨z5n,zn.fn,zn.F,zn.b⟩,⟨z8x,z9g,z9b⟩,⟨z8i,z7z,z7k⟩,klA z4l zel zdl (kok z4l zhd),z78,⟨_,zc,z2d,z2k,z2g,z28,z2i,z2m,z29,z7f,z79,rfl,z6v,z6w,z76,z71,z6t,z74,z6x⟩,zcp,⟨_,zq,z5t,z5u,z6m,z5w,z63,z5r,z5x,zd8,zcu,rfl,zd4,zd2,zd1,zcq,zc8,zcr,zd9⟩,MF X G zg6,MF X G zd3,MF X G ze7,MF X G ze4,MF X G zh8,MF X G zge,MF X G zbi,⟨zfj,zgv,zg1⟩,⟨zgr,zgh,zfi,zfg,zgs,zg4⟩,zfk,zb1,z9f,zaf,z70,z5a,MF X G zav,MF X G z8k,MF X G zbe,MF X G z97,MF X G zbo,MF X G z9u,MF X G z7e,MF X G zc3,MF X G zgp,zfp,MF X G zft,MF X G zgt,MF X G z8s,MF X G z8v,MF X G zb9,MF X G zas,zb2,MF X G zab,z9w,MF X G z23,z25,MF X G zcs,MF X G zc5,zcx⟩
 rwa[_,zg,zr,zz,z1h,z7a,W.ck_falling_groups,z7b,zdb,W.ck_first_use,zbv,fun s v=>.of_eq rfl,fun base hK _ hB=>kn3 ⟨W,hB,hK⟩]
end Vs
end Lake
open Lake
open PySem PySem.W PyProof.Rows
set_option maxRecDepth 100000 in
set_option maxHeartbeats 0 in
theorem PySem.Challenge.cw_voucherstack_k45_rules_read_holds : PySem.Challenge.rw_voucherstack_k45_rules_read.Holds := by
 refine Tp ?_
 k_fill
 refine L2.walkT2_of (l:=PySem.Challenge.rw_voucherstack_k45_rules_read) (k:=12) (x:="_law_script") rfl rfl ⟨rfl,by decide,by decide⟩ (fun w h Y=>PySem.W.km_in_of Y) (fun w h Y=>PySem.W.km_tabs_of Y) ?F
 case F=>
  intro w mg fa h KX G hmg
  refine' Vs.all_mk KX G hmg ?N8 ?N9 ?J0 ?Ma ?Mc ?NI ?Mb ?N7 ?JY ?JV ?Nt ?afalling_groups ?lfalling_groups ?cfalling_groups ?kfalling_groups ?Nc ?NF ?Na ?NZ ?N6 ?N4 ?J7 ?Nl ?Nj ?JU ?N5 ?afirst_use ?lfirst_use ?cfirst_use ?kfirst_use ?Nd ?NJ ?Nf ?ND ?NC ?NR ?Nu ?NG ?NV ?NN ?NW ?N1 ?NQ ?NB ?NY ?Nr ?Nw ?N3 ?Nz ?NH ?Nx ?NO ?Nm ?NM ?alaw ?llaw ?claw ?klaw ?aMarks ?imMarks ?isMarks ?iyMarks ?inX ?itX ?pgMarks ?hdMarks ?poMarks ?saMarks ?mkMarks ?kcMarks ?iaMarks ?nMarks_kind ?nMarks_needs ?nMarks_most ?nMarks_member ?nMarks_once ?nMarks_lone ?hMarks_init ?iMarks_init ?lMarks_init ?cMarks_init ?kMarks_init ?tMarks_init ?aVoucher ?imVoucher ?isVoucher ?iyVoucher ?pgVoucher ?hdVoucher ?poVoucher ?saVoucher ?mkVoucher ?kcVoucher ?iaVoucher ?hVoucher_init ?iVoucher_init ?lVoucher_init ?cVoucher_init ?kVoucher_init ?tVoucher_init ?aOff ?imOff ?isOff ?iyOff ?pgOff ?hdOff ?poOff ?saOff ?mkOff ?kcOff ?iaOff ?nOff_amount ?nOff_marks ?hOff_init ?iOff_init ?lOff_init ?cOff_init ?kOff_init ?tOff_init ?aShare ?aCheapest ?aBundle ?aCarriage ?imCarriage ?isCarriage ?iyCarriage ?aLine ?imLine ?isLine ?iyLine ?pgLine ?hdLine ?poLine ?saLine ?mkLine ?kcLine ?iaLine ?nLine_kind ?nLine_price ?nLine_many ?nLine_special ?hLine_init ?iLine_init ?lLine_init ?cLine_init ?kLine_init ?tLine_init ?aBasket ?imBasket ?isBasket ?iyBasket ?pgBasket ?hdBasket ?poBasket ?saBasket ?mkBasket ?kcBasket ?iaBasket ?nBasket_lines ?nBasket_carriage ?nBasket_member ?hBasket_init ?iBasket_init ?lBasket_init ?cBasket_init ?kBasket_init ?tBasket_init ?aStanding ?imStanding ?isStanding ?iyStanding ?pgStanding ?hdStanding ?poStanding ?saStanding ?mkStanding ?kcStanding ?iaStanding ?nStanding_owners ?nStanding_prices ?nStanding_carriage ?nStanding_marked ?J8 ?JZ ?aWay ?imWay ?isWay ?iyWay ?pgWay ?hdWay ?poWay ?saWay ?mkWay ?kcWay ?iaWay ?nWay_till ?nWay_basket ?nWay_hand ?nWay_used ?nWay_standing ?NS ?Nk ?Ny ?J4 ?aBill ?imBill ?isBill ?iyBill ?pgBill ?hdBill ?poBill ?saBill ?mkBill ?kcBill ?iaBill ?nBill_order ?nBill_steps ?nBill_prices ?nBill_carriage ?nBill_total ?NK ?aTill ?imTill ?isTill ?iyTill ?pgTill ?hdTill ?poTill ?saTill ?mkTill ?kcTill ?iaTill ?nTill_parents ?nTill_vouchers ?nTill_rules ?nTill_back ?hTill_init ?iTill_init ?lTill_init ?cTill_init ?kTill_init ?tTill_init ?aTillText ?imTillText ?isTillText ?iyTillText ?pgTillText ?hdTillText ?poTillText ?saTillText ?mkTillText ?kcTillText ?iaTillText ?Nb ?JP ?JR ?JO ?JQ ?aRow ?imRow ?isRow ?iyRow ?pgRow ?hdRow ?poRow ?saRow ?mkRow ?kcRow ?iaRow ?nRow_line ?nRow_words ?nRow_passed ?NT ?Nh ?Ni ?JT ?J6 ?Nq ?JW ?JX ?J9 ?JS ?J1 ?aDesk ?imDesk ?isDesk ?iyDesk ?pgDesk ?hdDesk ?poDesk ?saDesk ?mkDesk ?kcDesk ?iaDesk ?nDesk_account ?nDesk_kind_names ?nDesk_parents ?nDesk_voucher_names ?nDesk_vouchers ?nDesk_rules ?nDesk_back ?nDesk_baskets ?nDesk_held ?NP ?hDesk_names_so_far ?hDesk_till_so_far ?hDesk_basket_so_far ?hDesk_hand_so_far ?rdVoucher_init ?gaVoucher_init ?fcVoucher_init ?rdTillText_init ?gaTillText_init ?fcTillText_init ?qOff_Carriage ?qafalling_groups ?qbfalling_groups ?qcfalling_groups ?qdfalling_groups ?qefalling_groups ?qffalling_groups ?qgfalling_groups ?qhfalling_groups ?qifalling_groups ?qjfalling_groups ?qkfalling_groups ?qlfalling_groups ?qafirst_use ?qbfirst_use ?qcfirst_use ?qdfirst_use ?qefirst_use ?qffirst_use ?qgfirst_use ?qhfirst_use ?qifirst_use ?qjfirst_use ?qkfirst_use ?qlfirst_use ?qaeNotLet ?qaeNoPieces ?qaeBadText ?qaeTooMany ?qaeTwice ?qaeNoName ?qaeTillError ?qwoNotLet ?qwtNotLet ?qwsNotLet ?qxaNotLet ?qxbNotLet ?qxcNotLet ?qxdNotLet ?qxeNotLet ?qxfNotLet ?qkpNotLet ?Nv ?qnNotLet_place ?qnNotLet_word ?qxmNotLet_NotLet ?qxmNotLet_NoPieces ?kcMOST_KINDS ?kcMOST_VOUCHERS ?kcMOST_RULES ?kcMOST_BASKETS ?kcMOST_LINES ?kcMOST_PIECES ?kcMOST_OF_A_LINE ?kcMOST_HELD ?kcREADERS ?NU ?kcLETTERS ?kcFIGURES ?kcMOST_LETTERS ?kcMOST_FIGURES ?kcMOST_COINS ?kcKEPT_WORDS ?Np ?kcFIRST_WORDS ?Ng ?kcFIRST_WORDS_OF_A_BASKET ?JN ?kcMOST_USED ?kcQUESTIONS ?NA ?z1 ?z2 ?z3 ?z4 ?z5 ?z6 ?z7 ?z8 ?z9 ?z10 ?z11 ?z12 ?z13 ?z14 ?z15 ?z16 ?z17 ?z18
  any_goals k_is
  exists N8,Vs.nL2 fun _ _=>rfl,0,0,0
  exists N9,Vs.nL3 fun _ _ _=>rfl,0,0,0
  exists J0,Vs.nL2 fun _ _=>rfl,0,0,0
  exists Ma,Vs.nL4 fun _ _ _ _=>rfl,0,0,0
  exists Mc,Vs.nL4 fun _ _ _ _=>rfl,0,0,0
  exists NI,Vs.nL4 fun _ _ _ _=>rfl,0,0,0
  exists Mb,Vs.nL4 fun _ _ _ _=>rfl,0,0,0
  exists N7,Vs.nL4 fun _ _ _ _=>rfl,0,0,0
  exists JY,Vs.nL4 fun _ _ _ _=>rfl,0,0,0
  exists JV,Vs.nL2 fun _ _=>rfl,0,0,0
  exists Nt,Vs.nL3 fun _ _ _=>rfl,0,0,0
  exists Nc,Vs.nL3 fun _ _ _=>rfl,0,0,0
  exists NF,Vs.nL2 fun _ _=>rfl,0,0,0
  exists Na,Vs.nL2 fun _ _=>rfl,0,0,0
  exists NZ,Vs.nL2 fun _ _=>rfl,0,0,0
  exists N6,Vs.nL4 fun _ _ _ _=>rfl,0,0,0
  exists N4,Vs.nL4 fun _ _ _ _=>rfl,0,0,0
  exists J7,Vs.nL4 fun _ _ _ _=>rfl,0,0,0
  exists Nl,Vs.nL3 fun _ _ _=>rfl,0,0,0
  exists Nj,Vs.nL3 fun _ _ _=>rfl,0,0,0
  exists JU,Vs.nL2 fun _ _=>rfl,0,0,0
  exists N5,Vs.nL4 fun _ _ _ _=>rfl,0,0,0
  exists Nd,Vs.nL3 fun _ _ _=>rfl,0,0,0
  exists NJ,Vs.nL2 fun _ _=>rfl,0,0,0
  exists Nf,Vs.nL2 fun _ _=>rfl,0,0,0
  exists ND,Vs.nL2 fun _ _=>rfl,0,0,0
  exists NC,Vs.nL2 fun _ _=>rfl,0,0,0
  exists NR,Vs.nL2 fun _ _=>rfl,0,0,0
  exists Nu,Vs.nL2 fun _ _=>rfl,0,0,0
  exists NG,Vs.nL2 fun _ _=>rfl,0,0,0
  exists NV,Vs.nL3 fun _ _ _=>rfl,0,0,0
  exists NN,Vs.nL2 fun _ _=>rfl,0,0,0
  exists NW,Vs.nL1 fun _=>rfl,0,0,0
  exists N1,Vs.nL1 fun _=>rfl,0,0,0
  exists NQ,Vs.nL1 fun _=>rfl,0,0,0
  exists NB,Vs.nL2 fun _ _=>rfl,0,0,0
  exists NY,Vs.nL1 fun _=>rfl,0,0,0
  exists Nr,Vs.nL1 fun _=>rfl,0,0,0
  exists Nw,Vs.nL2 fun _ _=>rfl,0,0,0
  exists N3,Vs.nL2 fun _ _=>rfl,0,0,0
  exists Nz,Vs.nL2 fun _ _=>rfl,0,0,0
  exists NH,Vs.nL2 fun _ _=>rfl,0,0,0
  exists Nx,Vs.nL2 fun _ _=>rfl,0,0,0
  exists NO,Vs.nL3 fun _ _ _=>rfl,0,0,0
  exists Nm,Vs.nL4 fun _ _ _ _=>rfl,0,0,0
  exists NM,Vs.nL3 fun _ _ _=>rfl,0,0,0
  (case J8=>refine' Vs.mt_mk ?_ ?_ ?_ ?_ ?_ (fun _ _ _ _ _ _=>Vs.nL2 fun _ _=>rfl);any_goals k_is)
  (case JZ=>refine' Vs.mt_mk ?_ ?_ ?_ ?_ ?_ (fun _ _ _ _ _ _=>Vs.nL1 fun _=>rfl);any_goals k_is)
  (case NS=>refine' Vs.mt_mk ?_ ?_ ?_ ?_ ?_ (fun _ _ _ _ _ _=>Vs.nL4 fun _ _ _ _=>rfl);any_goals k_is)
  (case Nk=>refine' Vs.mt_mk ?_ ?_ ?_ ?_ ?_ (fun _ _ _ _ _ _=>Vs.nL2 fun _ _=>rfl);any_goals k_is)
  (case Ny=>refine' Vs.mt_mk ?_ ?_ ?_ ?_ ?_ (fun _ _ _ _ _ _=>Vs.nL2 fun _ _=>rfl);any_goals k_is)
  (case J4=>refine' Vs.mt_mk ?_ ?_ ?_ ?_ ?_ (fun _ _ _ _ _ _=>Vs.nL1 fun _=>rfl);any_goals k_is)
  (case NK=>refine' Vs.mt_mk ?_ ?_ ?_ ?_ ?_ (fun _ _ _ _ _ _=>Vs.nL4 fun _ _ _ _=>rfl);any_goals k_is)
  (case Nb=>refine' Vs.mt_mk ?_ ?_ ?_ ?_ ?_ (fun _ _ _ _ _ _=>Vs.nL1 fun _=>rfl);any_goals k_is)
  (case JP=>refine' Vs.mt_mk ?_ ?_ ?_ ?_ ?_ (fun _ _ _ _ _ _=>Vs.nL1 fun _=>rfl);any_goals k_is)
  (case JR=>refine' Vs.mt_mk ?_ ?_ ?_ ?_ ?_ (fun _ _ _ _ _ _=>Vs.nL1 fun _=>rfl);any_goals k_is)
  (case JO=>refine' Vs.mt_mk ?_ ?_ ?_ ?_ ?_ (fun _ _ _ _ _ _=>Vs.nL1 fun _=>rfl);any_goals k_is)
  (case JQ=>refine' Vs.mt_mk ?_ ?_ ?_ ?_ ?_ (fun _ _ _ _ _ _=>Vs.nL1 fun _=>rfl);any_goals k_is)
  (case NT=>refine' Vs.mt_mk ?_ ?_ ?_ ?_ ?_ (fun _ _ _ _ _ _=>Vs.nL3 fun _ _ _=>rfl);any_goals k_is)
  (case Nh=>refine' Vs.mt_mk ?_ ?_ ?_ ?_ ?_ (fun _ _ _ _ _ _=>Vs.nL1 fun _=>rfl);any_goals k_is)
  (case Ni=>refine' Vs.mt_mk ?_ ?_ ?_ ?_ ?_ (fun _ _ _ _ _ _=>Vs.nL1 fun _=>rfl);any_goals k_is)
  (case JT=>refine' Vs.mt_mk ?_ ?_ ?_ ?_ ?_ (fun _ _ _ _ _ _=>Vs.nL3 fun _ _ _=>rfl);any_goals k_is)
  (case J6=>refine' Vs.mt_mk ?_ ?_ ?_ ?_ ?_ (fun _ _ _ _ _ _=>Vs.nL1 fun _=>rfl);any_goals k_is)
  (case Nq=>refine' Vs.mt_mk ?_ ?_ ?_ ?_ ?_ (fun _ _ _ _ _ _=>Vs.nL2 fun _ _=>rfl);any_goals k_is)
  (case JW=>refine' Vs.mt_mk ?_ ?_ ?_ ?_ ?_ (fun _ _ _ _ _ _=>Vs.nL3 fun _ _ _=>rfl);any_goals k_is)
  (case JX=>refine' Vs.mt_mk ?_ ?_ ?_ ?_ ?_ (fun _ _ _ _ _ _=>Vs.nL1 fun _=>rfl);any_goals k_is)
  (case J9=>refine' Vs.mt_mk ?_ ?_ ?_ ?_ ?_ (fun _ _ _ _ _ _=>Vs.nL1 fun _=>rfl);any_goals k_is)
  (case JS=>refine' Vs.mt_mk ?_ ?_ ?_ ?_ ?_ (fun _ _ _ _ _ _=>Vs.nL2 fun _ _=>rfl);any_goals k_is)
  (case J1=>refine' Vs.mt_mk ?_ ?_ ?_ ?_ ?_ (fun _ _ _ _ _ _=>Vs.nL2 fun _ _=>rfl);any_goals k_is)
  (case NP=>refine' Vs.mt_mk ?_ ?_ ?_ ?_ ?_ (fun _ _ _ _ _ _=>Vs.nL1 fun _=>rfl);any_goals k_is)
  (try case qafalling_groups=>first|rfl|decide|k_is)
  (try case qbfalling_groups=>k_is)
  (try case qcfalling_groups=>first|rfl|decide|k_is)
  (try case qdfalling_groups=>first|rfl|decide|k_is)
  (try case qefalling_groups=>first|rfl|decide|k_is)
  (try case qffalling_groups=>first|rfl|decide|k_is)
  (try case qgfalling_groups=>first|rfl|decide|k_is)
  (try case qhfalling_groups=>first|rfl|decide|k_is)
  (try case qifalling_groups=>first|rfl|decide|k_is)
  (try case qjfalling_groups=>first|rfl|decide|k_is)
  (try case qkfalling_groups=>first|k_is|rfl|decide|cutsat)
  (try case qlfalling_groups=>decide)
  (try case qafirst_use=>first|rfl|decide|k_is)
  (try case qbfirst_use=>k_is)
  (try case qcfirst_use=>first|rfl|decide|k_is)
  (try case qdfirst_use=>first|rfl|decide|k_is)
  (try case qefirst_use=>first|rfl|decide|k_is)
  (try case qffirst_use=>first|rfl|decide|k_is)
  (try case qgfirst_use=>first|rfl|decide|k_is)
  (try case qhfirst_use=>first|rfl|decide|k_is)
  (try case qifirst_use=>first|rfl|decide|k_is)
  (try case qjfirst_use=>first|rfl|decide|k_is)
  (try case qkfirst_use=>first|k_is|rfl|decide|cutsat)
  (try case qlfirst_use=>decide)
  (try case qwoNotLet=>refine' L2.xw_mk ?_;any_goals k_is)
  (try case qwtNotLet=>first|(unfold L2.veL;k_exc;done)|first|k_is|(k_exc;done)|(kts_exm;done)|(kit_is;done)|rfl|cutsat)
  (try case qwsNotLet=>first|k_is|(k_exc;done)|(kts_exm;done)|(kit_is;done)|rfl|cutsat)
  (try case qxaNotLet=>first|k_is|(k_exc;done)|(kts_exm;done)|(kit_is;done)|rfl|cutsat)
  (try case qxbNotLet=>first|k_is|(k_exc;done)|(kts_exm;done)|(kit_is;done)|rfl|cutsat)
  (try case qxcNotLet=>first|k_is|(k_exc;done)|(kts_exm;done)|(kit_is;done)|rfl|cutsat)
  (try case qxdNotLet=>first|k_is|(k_exc;done)|(kts_exm;done)|(kit_is;done)|rfl|cutsat)
  (try case qxeNotLet=>first|k_is|(k_exc;done)|(kts_exm;done)|(kit_is;done)|rfl|cutsat)
  (try case qxfNotLet=>first|k_is|(k_exc;done)|(kts_exm;done)|(kit_is;done)|rfl|cutsat)
  (try case qkpNotLet=>first|k_is|(k_exc;done)|(kts_exm;done)|(kit_is;done)|rfl|cutsat)
  (case Nv=>refine' Vs.mt_mk ?_ ?_ ?_ ?_ ?_ (fun _ _ _ _ _ _=>Vs.nL3 fun _ _ _=>rfl);any_goals k_is)
  (try case qnNotLet_place=>first|k_is|(k_exc;done)|(kts_exm;done)|(kit_is;done)|rfl|cutsat)
  (try case qnNotLet_word=>first|k_is|(k_exc;done)|(kts_exm;done)|(kit_is;done)|rfl|cutsat)
  (try case qxmNotLet_NotLet=>first|k_is|(k_exc;done)|(kts_exm;done)|(kit_is;done)|rfl|cutsat)
  (try case qxmNotLet_NoPieces=>first|k_is|(k_exc;done)|(kts_exm;done)|(kit_is;done)|rfl|cutsat)
  (case NU=>refine' L2.tab_mk ?l ?z ?v;(case l=>k_is);(case z=>decide);(case v=>exact(.cons rfl rfl (.cons rfl rfl (.cons rfl rfl (.cons rfl rfl (.cons rfl rfl (.cons rfl rfl (.cons rfl rfl .nil)))))))))
  (case Np=>refine' L2.tup_mk ?l ?z ?v;(case l=>k_is);(case z=>decide);(case v=>exact(.cons ⟨_,rfl⟩ (.cons ⟨_,rfl⟩ (.cons ⟨_,rfl⟩ (.cons ⟨_,rfl⟩ (.cons ⟨_,rfl⟩ (.cons ⟨_,rfl⟩ (.cons ⟨_,rfl⟩ (.cons ⟨_,rfl⟩ (.cons ⟨_,rfl⟩ (.cons ⟨_,rfl⟩ (.cons ⟨_,rfl⟩ (.cons ⟨_,rfl⟩ (.cons ⟨_,rfl⟩ (.cons ⟨_,rfl⟩ (.cons ⟨_,rfl⟩ (.cons ⟨_,rfl⟩ (.cons ⟨_,rfl⟩ (.cons ⟨_,rfl⟩ (.cons ⟨_,rfl⟩ (.cons ⟨_,rfl⟩ (.cons ⟨_,rfl⟩ (.cons ⟨_,rfl⟩ (.cons ⟨_,rfl⟩ (.cons ⟨_,rfl⟩ (.cons ⟨_,rfl⟩ (.cons ⟨_,rfl⟩ (.cons ⟨_,rfl⟩ (.cons ⟨_,rfl⟩ (.cons ⟨_,rfl⟩ (.cons ⟨_,rfl⟩ (.cons ⟨_,rfl⟩ (.cons ⟨_,rfl⟩ (.cons ⟨_,rfl⟩ .nil)))))))))))))))))))))))))))))))))))
  (case Ng=>refine' L2.tup_mk ?l ?z ?v;(case l=>k_is);(case z=>decide);(case v=>exact(.cons ⟨_,rfl⟩ (.cons ⟨_,rfl⟩ (.cons ⟨_,rfl⟩ (.cons ⟨_,rfl⟩ (.cons ⟨_,rfl⟩ (.cons ⟨_,rfl⟩ (.cons ⟨_,rfl⟩ (.cons ⟨_,rfl⟩ .nil))))))))))
  (case JN=>refine' L2.tup_mk ?l ?z ?v;(case l=>k_is);(case z=>decide);(case v=>exact(.cons ⟨_,rfl⟩ (.cons ⟨_,rfl⟩ (.cons ⟨_,rfl⟩ (.cons ⟨_,rfl⟩ (.cons ⟨_,rfl⟩ (.cons ⟨_,rfl⟩ .nil))))))))
  (case NA=>refine' L2.tab_mk ?l ?z ?v;(case l=>k_is);(case z=>decide);(case v=>exact(.cons rfl rfl (.cons rfl rfl (.cons rfl rfl (.cons rfl rfl (.cons rfl rfl (.cons rfl rfl (.cons rfl rfl .nil)))))))))
