import PyProof.Rows.All
import Wide.All
import OpenK.AllK
import Wide.FinOn
import HandS.ForMost
import HandS.ExcInit
import HandS.ForExc
import HandS.CallSlots
import HandS.Flow
import HandS.StrMore
import HandS.IsInst
import HandS.Exc
import HandS.ExcOwn
import HandS.TryOnly
import HandS.ExcField
import HandS.ExcIs
import HandS.Small
import KE.KIsAll
import KE.KExcIs
import HandS.Replace
import HandS.Style
import KE.SortData
import KE.DataCmp
import PyProof.Rows.StrStep
import PyProof.Rows.StrRev
import PyProof.SetNew
import PyProof.Rows.SetFrom
import HandS.Strs
import PyProof.StrWalks
import PyProof.FactsAll.subtypes_3
import HandS.Defaults
import HandS.MakeKwOnly
import HandS.Property
import OpenK.KMeth
import OpenK.KOps
import HandS.Dict
import HandS.DictComp
import HandS.Iter
import HandS.Deep
import HandS.SetFor
import HandS.MakeKw
import KE.GoesEnum
import KE.GoesMore
import HandS.TupAny
import HandS.Rev
import HandS.Wide
import KE.DataMinMax
import HandS.List
import HandS.Text
import KE.GoesComp
import HandS.TryMany
import HandS.Star
import HandS.WordsDict
import HandS.IterVal
import HandS.OwnIter
import HandS.FStr
import KE.GoesEnumKw
import PyProof.Draws
import HandS.ExcValue
import PySem.Challenge.RW_wayfill_k02_written_words
def PySem.W.Fast.tw7480102565845765498 : Unit := ()
def PySem.W.Fast.tw729665183142229743 : Unit := ()
def PySem.W.Fast.tw15868782702996035446 : Unit := ()
def PySem.W.Fast.tw18127301536089762384 : Unit := ()
def PySem.W.Fast.tw8951348870260269917 : Unit := ()
def PySem.W.Fast.tw14499954239281462793 : Unit := ()
def PySem.W.Fast.tw6683109086680419841 : Unit := ()
def PySem.W.Fast.tw15620334910345339956 : Unit := ()
def PySem.W.Fast.tw3281046575285174239 : Unit := ()
def PySem.W.Fast.tw1044538631710339564 : Unit := ()
def PySem.W.Fast.tw3157447925111827248 : Unit := ()
def PySem.W.Fast.tw10417505798490338125 : Unit := ()
def PySem.W.Fast.tw2042038990348977382 : Unit := ()
def PySem.W.Fast.tw1624511627844500124 : Unit := ()
def PySem.W.Fast.tw2605821755003966599 : Unit := ()
def PySem.W.Fast.tw16999586593308765044 : Unit := ()
def PySem.W.Fast.tw1372690742024975238 : Unit := ()
def PySem.W.Fast.tw16025513223646978390 : Unit := ()
def PySem.W.Fast.tw6626497050296187892 : Unit := ()
def PySem.W.Fast.tw7895802936602199749 : Unit := ()
def PySem.W.Fast.tw18253497435397514870 : Unit := ()
def PySem.W.Fast.tw7716968511695319733 : Unit := ()
def PySem.W.Fast.tw5713022799411390911 : Unit := ()
def PySem.W.Fast.tw9025550829566471255 : Unit := ()
def PySem.W.Fast.tw238543551331366660 : Unit := ()
def PySem.W.Fast.tw2931361271545863190 : Unit := ()
def PySem.W.Fast.tw14883654996915390338 : Unit := ()
def PySem.W.Fast.tw15501749700110607032 : Unit := ()
def PySem.W.Fast.tw12589064560416021343 : Unit := ()
def PySem.W.Fast.tw7099975561224101164 : Unit := ()
def PySem.W.Fast.tw2474539348792157954 : Unit := ()
def PySem.W.Fast.tw16176069815970396152 : Unit := ()
def PySem.W.Fast.tw10612508092361664383 : Unit := ()
def PySem.W.Fast.tw9435900422405867551 : Unit := ()
def PySem.W.Fast.tw18092678061454441532 : Unit := ()
def PySem.W.Fast.tw3603493260651587603 : Unit := ()
def PySem.W.Fast.tw8579169563266318701 : Unit := ()
def PySem.W.Fast.tw3579446993978063923 : Unit := ()
def PySem.W.Fast.tw9918157854011512459 : Unit := ()
def PySem.W.Fast.tw4458314860770941240 : Unit := ()
def PySem.W.Fast.tw5110947965990828611 : Unit := ()
def PySem.W.Fast.tw7582153459437032704 : Unit := ()
def PySem.W.Fast.tw8942085522629203938 : Unit := ()
def PySem.W.Fast.tw10380838439799646169 : Unit := ()
def PySem.W.Fast.tw15910509540167568136 : Unit := ()
def PySem.W.Fast.tw16921071982568587998 : Unit := ()
def PySem.W.Fast.tw8777094152184597195 : Unit := ()
def PySem.W.Fast.tw3032963045047025254 : Unit := ()
def PySem.W.Fast.tw4646608364625578268 : Unit := ()
def PySem.W.Fast.tw9996115334228547445 : Unit := ()
def PySem.W.Fast.tw2629239990458092173 : Unit := ()
def PySem.W.Fast.tw4448698296056237549 : Unit := ()
def PySem.W.Fast.tw8238475388924762886 : Unit := ()
def PySem.W.Fast.tw17813374870325813666 : Unit := ()
def PySem.W.Fast.tw162836990243675491 : Unit := ()
def PySem.W.Fast.tw15108268626973506514 : Unit := ()
def PySem.W.Fast.tw13597206343922559187 : Unit := ()
def PySem.W.Fast.tw3957818221770508352 : Unit := ()
def PySem.W.Fast.tw16237135560047585797 : Unit := ()
def PySem.W.Fast.tw7642713069050373945 : Unit := ()
def PySem.W.Fast.tw6121267939673687142 : Unit := ()
def PySem.W.Fast.tw1458348828032563566 : Unit := ()
def PySem.W.Fast.tw4290715742356585566 : Unit := ()
def PySem.W.Fast.tw4798491895133889312 : Unit := ()
def PySem.W.Fast.tw9551245904018111147 : Unit := ()
def PySem.W.Fast.tw3307137599456725506 : Unit := ()
def PySem.W.Fast.tw9229543982915087421 : Unit := ()
def PySem.W.Fast.tw63845483462468809 : Unit := ()
def PySem.W.Fast.tw14077420270373920322 : Unit := ()
def PySem.W.Fast.tw9742456968900678454 : Unit := ()
def PySem.W.Fast.tw17136394474735625018 : Unit := ()
def PySem.W.Fast.tw15165400590292861896 : Unit := ()
def PySem.W.Fast.tw7314688874562974463 : Unit := ()
def PySem.W.Fast.tw4901985749043446845 : Unit := ()
def PySem.W.Fast.tw16317725875316462730 : Unit := ()
def PySem.W.Fast.tw7738438099715964965 : Unit := ()
def PySem.W.Fast.tw12757091929824336453 : Unit := ()
def PySem.W.Fast.tw14980766263385564150 : Unit := ()
def PySem.W.Fast.tw13564148485964391643 : Unit := ()
def PySem.W.Fast.tw16142927739950949412 : Unit := ()
def PySem.W.Fast.tw16514165907041377688 : Unit := ()
def PySem.W.Fast.tw1415146230182829110 : Unit := ()
def PySem.W.Fast.tw3631530248526243421 : Unit := ()
def PySem.W.Fast.tw1532087221083410440 : Unit := ()
def PySem.W.Fast.tw9105229562928750863 : Unit := ()
def PySem.W.Fast.tw14512317075808142984 : Unit := ()
def PySem.W.Fast.tw1521804031176531873 : Unit := ()
def PySem.W.Fast.tw8057793904963498363 : Unit := ()
def PySem.W.Fast.tw306609733579050607 : Unit := ()
def PySem.W.Fast.tw16599799495543748416 : Unit := ()
def PySem.W.Fast.tw16195082391021750274 : Unit := ()
def PySem.W.Fast.tw12306326781741219883 : Unit := ()
def PySem.W.Fast.tw6762101677941029810 : Unit := ()
def PySem.W.Fast.tw5388358332427532619 : Unit := ()
def PySem.W.Fast.tw6293205020805802814 : Unit := ()
def PySem.W.Fast.tw9821447314730784708 : Unit := ()
def PySem.W.Fast.tw16269005379697508088 : Unit := ()
def PySem.W.Fast.tw3823021483570332451 : Unit := ()
def PySem.W.Fast.tw1457305940387680481 : Unit := ()
def PySem.W.Fast.tw16126798513748646603 : Unit := ()
def PySem.W.Fast.tw9294325144372047709 : Unit := ()
def PySem.W.Fast.tw14231527938096528423 : Unit := ()
def PySem.W.Fast.tw14355604677816356752 : Unit := ()
def PySem.W.Fast.tw14439066672853770079 : Unit := ()
def PySem.W.Fast.tw3270601968058520456 : Unit := ()
def PySem.W.Fast.tw6794974293023418656 : Unit := ()
def PySem.W.Fast.tw11847064135621877173 : Unit := ()
def PySem.W.Fast.tw7099112132771188763 : Unit := ()
def PySem.W.Fast.tw1424973884222174277 : Unit := ()
def PySem.W.Fast.tw955723485752252960 : Unit := ()
def PySem.W.Fast.tw16183835517339051597 : Unit := ()
def PySem.W.Fast.tw3667064520944789147 : Unit := ()
def PySem.W.Fast.tw12335604163970277549 : Unit := ()
def PySem.W.Fast.tw16287483344548566267 : Unit := ()
def PySem.W.Fast.tw1277532916559084357 : Unit := ()
def PySem.W.Fast.tw1668011534628105296 : Unit := ()
def PySem.W.Fast.tw11074451798368742860 : Unit := ()
def PySem.W.Fast.tw10761779478276912936 : Unit := ()
def PySem.W.Fast.tw7891423669222501993 : Unit := ()
def PySem.W.Fast.tw11113318704224708311 : Unit := ()
def PySem.W.Fast.tw16661780964451620908 : Unit := ()
def PySem.W.Fast.tw5137959985208629636 : Unit := ()
def PySem.W.Fast.tw5982949386631183821 : Unit := ()
def PySem.W.Fast.tw10114036103154131213 : Unit := ()
def PySem.W.Fast.tw2636891624037960714 : Unit := ()
def PySem.W.Fast.tw17914430162240266361 : Unit := ()
def PySem.W.Fast.tw11705906911179292252 : Unit := ()
def PySem.W.Fast.tw14198413976670992957 : Unit := ()
def PySem.W.Fast.tw17594834509163934955 : Unit := ()
def PySem.W.Fast.tw18384171015365681256 : Unit := ()
def PySem.W.Fast.tw14958429804160381522 : Unit := ()
def PySem.W.Fast.tw10834912755600890100 : Unit := ()
def PySem.W.Fast.tw15244867146632362179 : Unit := ()
def PySem.W.Fast.tw600692258970615452 : Unit := ()
def PySem.W.Fast.tw2005702550727407143 : Unit := ()
def PySem.W.Fast.tw11172220392207372291 : Unit := ()
def PySem.W.Fast.tw9830782764119669806 : Unit := ()
def PySem.W.Fast.tw2068694587163419987 : Unit := ()
def PySem.W.Fast.tw4553825942662072446 : Unit := ()
def PySem.W.Fast.tw3453973123603471788 : Unit := ()
def PySem.W.Fast.tw14785410893996152050 : Unit := ()
def PySem.W.Fast.tw8010939717317138400 : Unit := ()
def PySem.W.Fast.tw16370239838629594899 : Unit := ()
def PySem.W.Fast.tw3476418172972340624 : Unit := ()
def PySem.W.Fast.tw1024023863850174404 : Unit := ()
def PySem.W.Fast.tw9627335684892798868 : Unit := ()
def PySem.W.Fast.tw7989842002794089366 : Unit := ()
def PySem.W.Fast.tw13980899053039077689 : Unit := ()
def PySem.W.Fast.tw5242108229174137035 : Unit := ()
def PySem.W.Fast.tw10060193521079322076 : Unit := ()
def PySem.W.Fast.tw6862299168539327524 : Unit := ()
def PySem.W.Fast.tw6728651369836272665 : Unit := ()
def PySem.W.Fast.tw353670397497191125 : Unit := ()
def PySem.W.Fast.tw740355291014490875 : Unit := ()
def PySem.W.Fast.tw8736994154108640538 : Unit := ()
def PySem.W.Fast.tw7314862874459047294 : Unit := ()
def PySem.W.Fast.tw13892861840090646356 : Unit := ()
def PySem.W.Fast.tw17609107617565963427 : Unit := ()
def PySem.W.Fast.tw12411017398965980537 : Unit := ()
def PySem.W.Fast.tw13634678525501518155 : Unit := ()
def PySem.W.Fast.tw17082776027795880164 : Unit := ()
def PySem.W.Fast.tw2595534062568653642 : Unit := ()
def PySem.W.Fast.tw3452119652747977717 : Unit := ()
def PySem.W.Fast.tw5016712093979827355 : Unit := ()
def PySem.W.Fast.tw10200131308276796852 : Unit := ()
def PySem.W.Fast.tw4508599969837741743 : Unit := ()
def PySem.W.Fast.tw12535661283750586885 : Unit := ()
def PySem.W.Fast.tw1901886785761136989 : Unit := ()
def PySem.W.Fast.tw8935519919540071478 : Unit := ()
def PySem.W.Fast.tw11368617582874124826 : Unit := ()
def PySem.W.Fast.tw367807768023482387 : Unit := ()
def PySem.W.Fast.tw691079600073049484 : Unit := ()
def PySem.W.Fast.tw9407417447015113121 : Unit := ()
def PySem.W.Fast.tw18178644756894532489 : Unit := ()
def PySem.W.Fast.tw2085751677943177636 : Unit := ()
def PySem.W.Fast.tw203330469082185707 : Unit := ()
def PySem.W.Fast.tw16025716788492890540 : Unit := ()
def PySem.W.Fast.tw13498555936625752369 : Unit := ()
def PySem.W.Fast.tw9419714435920510952 : Unit := ()
def PySem.W.Fast.tw3190932094313302532 : Unit := ()
def PySem.W.Fast.tw7763004146940036639 : Unit := ()
def PySem.W.Fast.tw14439202529645484471 : Unit := ()
def PySem.W.Fast.tw8297522356493768537 : Unit := ()
def PySem.W.Fast.tw381722311751760964 : Unit := ()
def PySem.W.Fast.tw7335064905182177743 : Unit := ()
def PySem.W.Fast.tw8388449143306203048 : Unit := ()
def PySem.W.Fast.tw460027743491551522 : Unit := ()
def PySem.W.Fast.tw3079438423517569103 : Unit := ()
def PySem.W.Fast.tw15044209410532147130 : Unit := ()
def PySem.W.Fast.tw8266073167516459352 : Unit := ()
def PySem.W.Fast.tw6629455748623333918 : Unit := ()
def PySem.W.Fast.tw334565232762476684 : Unit := ()
def PySem.W.Fast.tw18184593279881753780 : Unit := ()
def PySem.W.Fast.tw10928448251196526858 : Unit := ()
def PySem.W.Fast.tw2835682704692662683 : Unit := ()
def PySem.W.Fast.tw8945910766287136594 : Unit := ()
def PySem.W.Fast.tw13004404152391557489 : Unit := ()
def PySem.W.Fast.tw112701164160846052 : Unit := ()
def PySem.W.Fast.tw4837416115389308045 : Unit := ()
def PySem.W.Fast.tw2355396068901536066 : Unit := ()
def PySem.W.Fast.tw7082926863791300247 : Unit := ()
def PySem.W.Fast.tw11275004462514719524 : Unit := ()
def PySem.W.Fast.tw2249122971100777295 : Unit := ()
def PySem.W.Fast.tw15257739720661584327 : Unit := ()
def PySem.W.Fast.tw12337621982538181453 : Unit := ()
def PySem.W.Fast.tw13186124778202496441 : Unit := ()
def PySem.W.Fast.tw9147965803721761086 : Unit := ()
def PySem.W.Fast.tw15925471772031087361 : Unit := ()
def PySem.W.Fast.tw1329579875714654757 : Unit := ()
def PySem.W.Fast.tw11857594913387727980 : Unit := ()
def PySem.W.Fast.tw11070854897918748734 : Unit := ()
def PySem.W.Fast.tw9852571594896459279 : Unit := ()
def PySem.W.Fast.tw4846118172169290334 : Unit := ()
def PySem.W.Fast.tw13462570210969166045 : Unit := ()
def PySem.W.Fast.tw6664562265388082683 : Unit := ()
def PySem.W.Fast.tw4365497593804604442 : Unit := ()
def PySem.W.Fast.tw16754771979271782538 : Unit := ()
def PySem.W.Fast.tw3214518188568910887 : Unit := ()
def PySem.W.Fast.tw4368786005600475479 : Unit := ()
def PySem.W.Fast.tw18313149397884317204 : Unit := ()
def PySem.W.Fast.tw282282657619970856 : Unit := ()
def PySem.W.Fast.tw3682651838169683953 : Unit := ()
def PySem.W.Fast.tw69394416928450289 : Unit := ()
def PySem.W.Fast.tw16745498309223037336 : Unit := ()
def PySem.W.Fast.tw14283942969007017075 : Unit := ()
def PySem.W.Fast.tw1611713341157503183 : Unit := ()
def PySem.W.Fast.tw4403701749444965290 : Unit := ()
def PySem.W.Fast.tw289896765869974144 : Unit := ()
def PySem.W.Fast.tw18210798713641893392 : Unit := ()
def PySem.W.Fast.tw9818443074722166745 : Unit := ()
def PySem.W.Fast.tw10891946131656183324 : Unit := ()
def PySem.W.Fast.tw12948574776266136755 : Unit := ()
def PySem.W.Fast.tw11688818122447504173 : Unit := ()
def PySem.W.Fast.tw17186752590952047076 : Unit := ()
def PySem.W.Fast.tw4118672640564799305 : Unit := ()
def PySem.W.Fast.tw7503857652383183343 : Unit := ()
def PySem.W.Fast.tw13667261139807737363 : Unit := ()
def PySem.W.Fast.tw2645354080912456978 : Unit := ()
def PySem.W.Fast.tw8430089299550102654 : Unit := ()
def PySem.W.Fast.tw1908936918170089307 : Unit := ()
def PySem.W.Fast.tw10105299831204175727 : Unit := ()
def PySem.W.Fast.tw2968443314035152277 : Unit := ()
def PySem.W.Fast.tw251644758387592723 : Unit := ()
def PySem.W.Fast.tw898267170114029459 : Unit := ()
def PySem.W.Fast.tw18161559905227975632 : Unit := ()
def PySem.W.Fast.tw6632819360734369497 : Unit := ()
def PySem.W.Fast.tw14929627247089099851 : Unit := ()
def PySem.W.Fast.tw10366796579482043232 : Unit := ()
def PySem.W.Fast.tw12960373360331262447 : Unit := ()
def PySem.W.Fast.tw3180069042397071179 : Unit := ()
def PySem.W.Fast.tw10332120763441302804 : Unit := ()
def PySem.W.Fast.tw1940815381140189433 : Unit := ()
def PySem.W.Fast.tw1400880017230429007 : Unit := ()
def PySem.W.Fast.tw8024719754769042890 : Unit := ()
def PySem.W.Fast.tw9774226847915814325 : Unit := ()
def PySem.W.Fast.tw16308243871439310550 : Unit := ()
def PySem.W.Fast.tw15713597397473473120 : Unit := ()
def PySem.W.Fast.tw7526074283180877452 : Unit := ()
def PySem.W.Fast.tw879977254582066599 : Unit := ()
def PySem.W.Fast.tw5647166867902996117 : Unit := ()
def PySem.W.Fast.tw499218679068703660 : Unit := ()
def PySem.W.Fast.tw9162924495661980715 : Unit := ()
def PySem.W.Fast.tw12782221580666109649 : Unit := ()
def PySem.W.Fast.tw14644332868817003679 : Unit := ()
def PySem.W.Fast.tw5149283119937632213 : Unit := ()
def PySem.W.Fast.tw6011907685942932295 : Unit := ()
def PySem.W.Fast.tw3569374812094546016 : Unit := ()
def PySem.W.Fast.tw9957240244094259434 : Unit := ()
def PySem.W.Fast.tw17275629954885664089 : Unit := ()
def PySem.W.Fast.tw8224589626897134487 : Unit := ()
def PySem.W.Fast.tw7752812469727355001 : Unit := ()
def PySem.W.Fast.tw15964764989882399492 : Unit := ()
def PySem.W.Fast.tw648432546040771236 : Unit := ()
def PySem.W.Fast.tw13067749331812915875 : Unit := ()
def PySem.W.Fast.tw8886252621253384875 : Unit := ()
def PySem.W.Fast.tw16836870183797636242 : Unit := ()
def PySem.W.Fast.tw7990503075737735074 : Unit := ()
def PySem.W.Fast.tw10597613109797860869 : Unit := ()
def PySem.W.Fast.tw8295365682532896036 : Unit := ()
def PySem.W.Fast.tw7393729954108225426 : Unit := ()
def PySem.W.Fast.tw14142055854403425082 : Unit := ()
def PySem.W.Fast.tw12014565026305580958 : Unit := ()
def PySem.W.Fast.tw3794480747020083156 : Unit := ()
def PySem.W.Fast.tw13223784863324321598 : Unit := ()
def PySem.W.Fast.tw10150242137831719678 : Unit := ()
def PySem.W.Fast.tw6598774341614384646 : Unit := ()
def PySem.W.Fast.tw1016762937456147863 : Unit := ()
def PySem.W.Fast.tw15474811296842686072 : Unit := ()
def PySem.W.Fast.tw16991619935683845875 : Unit := ()
def PySem.W.Fast.tw7942481891866225038 : Unit := ()
def PySem.W.Fast.tw5837300557977766515 : Unit := ()
def PySem.W.Fast.tw17688798934664014276 : Unit := ()
def PySem.W.Fast.tw16104737985481454674 : Unit := ()
def PySem.W.Fast.tw2891943161141755792 : Unit := ()
def PySem.W.Fast.tw10593600175322188961 : Unit := ()
def PySem.W.Fast.tw14342474994432769930 : Unit := ()
def PySem.W.Fast.tw16449088043266157897 : Unit := ()
def PySem.W.Fast.tw10548170351029442432 : Unit := ()
def PySem.W.Fast.tw14667413887520349316 : Unit := ()
def PySem.W.Fast.tw16358362910241623316 : Unit := ()
def PySem.W.Fast.tw15115248674611309657 : Unit := ()
def PySem.W.Fast.tw2036002061055637659 : Unit := ()
def PySem.W.Fast.tw16725272226895148516 : Unit := ()
def PySem.W.Fast.tw11693740012650402350 : Unit := ()
def PySem.W.Fast.tw3654536983817928196 : Unit := ()
def PySem.W.Fast.tw10539541717084856515 : Unit := ()
def PySem.W.Fast.tw15454951115363444844 : Unit := ()
def PySem.W.Fast.tw3075023915171335935 : Unit := ()
def PySem.W.Fast.tw14491459317029389781 : Unit := ()
def PySem.W.Fast.tw11219705423759584167 : Unit := ()
def PySem.W.Fast.tw10720196697338987720 : Unit := ()
def PySem.W.Fast.tw8418542229714093834 : Unit := ()
def PySem.W.Fast.tw14597899699698553280 : Unit := ()
def PySem.W.Fast.tw6029537850711648176 : Unit := ()
def PySem.W.Fast.tw13511334088281816049 : Unit := ()
def PySem.W.Fast.tw12938373298814688321 : Unit := ()
def PySem.W.Fast.tw1968008527804781238 : Unit := ()
def PySem.W.Fast.tw1296848163693241466 : Unit := ()
def PySem.W.Fast.tw16036825405141978354 : Unit := ()
def PySem.W.Fast.tw15988897317814154538 : Unit := ()
def PySem.W.Fast.tw6798303544273710075 : Unit := ()
def PySem.W.Fast.tw7479433182682876311 : Unit := ()
def PySem.W.Fast.tw12301620688706585698 : Unit := ()
def PySem.W.Fast.tw1656620682541602260 : Unit := ()
def PySem.W.Fast.tw6655209619453191134 : Unit := ()
def PySem.W.Fast.tw17282736163744560075 : Unit := ()
def PySem.W.Fast.tw13837048449322307977 : Unit := ()
def PySem.W.Fast.tw8266559934256943932 : Unit := ()
def PySem.W.Fast.tw7040996893719034650 : Unit := ()
def PySem.W.Fast.tw17663654165185433588 : Unit := ()
def PySem.W.Fast.tw15374108463021019865 : Unit := ()
def PySem.W.Fast.tw17173535212199481138 : Unit := ()
def PySem.W.Fast.tw16651314688650706605 : Unit := ()
def PySem.W.Fast.tw17739536497903253378 : Unit := ()
def PySem.W.Fast.tw4828417818681724054 : Unit := ()
def PySem.W.Fast.tw1314071799855575044 : Unit := ()
def PySem.W.Fast.tw10916930064325827557 : Unit := ()
def PySem.W.Fast.tw15055705345865006071 : Unit := ()
def PySem.W.Fast.tw18417527231983725690 : Unit := ()
def PySem.W.Fast.tw319851371378621598 : Unit := ()
def PySem.W.Fast.tw5566505325675402224 : Unit := ()
def PySem.W.Fast.tw4926139213952716788 : Unit := ()
def PySem.W.Fast.tw11387825661705585409 : Unit := ()
def PySem.W.Fast.tw1338580828572728018 : Unit := ()
def PySem.W.Fast.tw3832087342830570346 : Unit := ()
def PySem.W.Fast.tw15451441537021708308 : Unit := ()
def PySem.W.Fast.tw2570759305075182199 : Unit := ()
def PySem.W.Fast.tw594121494045098173 : Unit := ()
def PySem.W.Fast.tw3188586270960590971 : Unit := ()
def PySem.W.Fast.tw6866063582707608533 : Unit := ()
def PySem.W.Fast.tw18326628838682141541 : Unit := ()
def PySem.W.Fast.tw2857815966713185210 : Unit := ()
def PySem.W.Fast.tw7568485666365658602 : Unit := ()
def PySem.W.Fast.tw10074951073808375558 : Unit := ()
def PySem.W.Fast.tw13756156828828788754 : Unit := ()
def PySem.W.Fast.tw18328749063421253197 : Unit := ()
def PySem.W.Fast.tw15980508571246470541 : Unit := ()
def PySem.W.Fast.tw13318000298572631454 : Unit := ()
def PySem.W.Fast.tw1623953077555541413 : Unit := ()
def PySem.W.Fast.tw7494660926112983684 : Unit := ()
def PySem.W.Fast.tw6854207340836296654 : Unit := ()
def PySem.W.Fast.tw6728883363001928283 : Unit := ()
def PySem.W.Fast.tw5638849324870257641 : Unit := ()
def PySem.W.Fast.tw12971687018924908295 : Unit := ()
def PySem.W.Fast.tw16440284436099171276 : Unit := ()
def PySem.W.Fast.tw18002896163295083580 : Unit := ()
def PySem.W.Fast.tw2639572929952994368 : Unit := ()
def PySem.W.Fast.tw11317715137306285112 : Unit := ()
def PySem.W.Fast.tw18044195801575331664 : Unit := ()
def PySem.W.Fast.tw14636814536349942173 : Unit := ()
def PySem.W.Fast.tw8890444890124729963 : Unit := ()
def PySem.W.Fast.tw2777401799574677084 : Unit := ()
def PySem.W.Fast.tw17751959184323296345 : Unit := ()
def PySem.W.Fast.tw8348997924439279299 : Unit := ()
def PySem.W.Fast.tw18159112534075264549 : Unit := ()
def PySem.W.Fast.tw8586035867844239023 : Unit := ()
def PySem.W.Fast.tw3664422136673640656 : Unit := ()
def PySem.W.Fast.tw8264242991048141004 : Unit := ()
def PySem.W.Fast.tw11106271542689310776 : Unit := ()
def PySem.W.Fast.tw3311721930841581539 : Unit := ()
def PySem.W.Fast.tw1168832539195901361 : Unit := ()
def PySem.W.Fast.tw1645282151540762937 : Unit := ()
def PySem.W.Fast.tw8911974829972607178 : Unit := ()
def PySem.W.Fast.tw10583888872546697577 : Unit := ()
def PySem.W.Fast.tw9750895033050948206 : Unit := ()
def PySem.W.Fast.tw5972989495192760435 : Unit := ()
def PySem.W.Fast.tw2933169693322721563 : Unit := ()
def PySem.W.Fast.tw4738786871735198684 : Unit := ()
def PySem.W.Fast.tw6978472561356070534 : Unit := ()
def PySem.W.Fast.tw15775410736149668480 : Unit := ()
def PySem.W.Fast.tw10064155772286168072 : Unit := ()
def PySem.W.Fast.tw13739148433492440972 : Unit := ()
def PySem.W.Fast.tw7188152871575240632 : Unit := ()
def PySem.W.Fast.tw9641834497769965248 : Unit := ()
def PySem.W.Fast.tw6176785453870928443 : Unit := ()
def PySem.W.Fast.tw382736754527263284 : Unit := ()
def PySem.W.Fast.tw13390000126412515582 : Unit := ()
def PySem.W.Fast.tw11150473332864333834 : Unit := ()
def PySem.W.Fast.tw1977287545950944807 : Unit := ()
def PySem.W.Fast.tw106201101356978589 : Unit := ()
def PySem.W.Fast.tw8000376013137837522 : Unit := ()
def PySem.W.Fast.tw4311329806189419950 : Unit := ()
def PySem.W.Fast.tw12029654948327434804 : Unit := ()
def PySem.W.Fast.tw5869391134835184 : Unit := ()
def PySem.W.Fast.tw3914438354715672545 : Unit := ()
def PySem.W.Fast.tw17895451811538402134 : Unit := ()
def PySem.W.Fast.tw9443165204076806311 : Unit := ()
def PySem.W.Fast.tw8865646180876238017 : Unit := ()
def PySem.W.Fast.tw3531345240643761518 : Unit := ()
def PySem.W.Fast.tw5166045156048426541 : Unit := ()
def PySem.W.Fast.tw18069980515410346365 : Unit := ()
def PySem.W.Fast.tw3338402055168321567 : Unit := ()
def PySem.W.Fast.tw864402926550340502 : Unit := ()
def PySem.W.Fast.tw11511535856711642803 : Unit := ()
def PySem.W.Fast.tw1058455249794779814 : Unit := ()
def PySem.W.Fast.tw12473609292694896633 : Unit := ()
def PySem.W.Fast.tw15659958332097668738 : Unit := ()
def PySem.W.Fast.tw721632318014528308 : Unit := ()
def PySem.W.Fast.tw17975688991024676187 : Unit := ()
def PySem.W.Fast.tw9286247437866408697 : Unit := ()
def PySem.W.Fast.tw9815746585451628475 : Unit := ()
def PySem.W.Fast.tw16709296032693219877 : Unit := ()
def PySem.W.Fast.tw1356015814702245055 : Unit := ()
def PySem.W.Fast.tw4264354696204680413 : Unit := ()
def PySem.W.Fast.tw14520784482343753906 : Unit := ()
def PySem.W.Fast.tw10128681117810045492 : Unit := ()
def PySem.W.Fast.tw6849774687492412502 : Unit := ()
def PySem.W.Fast.tw12276300963891367208 : Unit := ()
def PySem.W.Fast.tw9584122354390812191 : Unit := ()
def PySem.W.Fast.tw5016133058682622281 : Unit := ()
def PySem.W.Fast.tw8011492447076637873 : Unit := ()
def PySem.W.Fast.tw10629917931498923820 : Unit := ()
def PySem.W.Fast.tw2957499248359919774 : Unit := ()
def PySem.W.Fast.tw18220217618105146447 : Unit := ()
def PySem.W.Fast.tw7850712599880137155 : Unit := ()
def PySem.W.Fast.tw18154149605332034357 : Unit := ()
def PySem.W.Fast.tw12476419514997072064 : Unit := ()
def PySem.W.Fast.tw16670905720907977367 : Unit := ()
def PySem.W.Fast.tw10859600611486573738 : Unit := ()
def PySem.W.Fast.tw3327731422633003138 : Unit := ()
def PySem.W.Fast.tw14031985404312102077 : Unit := ()
def PySem.W.Fast.tw855488455796023 : Unit := ()
def PySem.W.Fast.tw3381593427697033983 : Unit := ()
def PySem.W.Fast.tw2084775914095950006 : Unit := ()
def PySem.W.Fast.tw13610751208978333919 : Unit := ()
def PySem.W.Fast.tw2973667063124221508 : Unit := ()
def PySem.W.Fast.tw9756314492678050065 : Unit := ()
def PySem.W.Fast.tw5438080595604969293 : Unit := ()
def PySem.W.Fast.tw15546552856074153445 : Unit := ()
def PySem.W.Fast.tw8600833632987391810 : Unit := ()
def PySem.W.Fast.tw15862817575962872732 : Unit := ()
def PySem.W.Fast.tw5178162533990730668 : Unit := ()
def PySem.W.Fast.tw14293096627943938160 : Unit := ()
def PySem.W.Fast.tw14916635641016107547 : Unit := ()
def PySem.W.Fast.tw11904755636286321213 : Unit := ()
def PySem.W.Fast.tw9980469512151298152 : Unit := ()
def PySem.W.Fast.tw16733822060788148186 : Unit := ()
def PySem.W.Fast.tw10793130062304758205 : Unit := ()
def PySem.W.Fast.tw6245570634498299274 : Unit := ()
def PySem.W.Fast.tw13242996006004312766 : Unit := ()
def PySem.W.Fast.tw16324864817548972743 : Unit := ()
def PySem.W.Fast.tw3247962851655649092 : Unit := ()
def PySem.W.Fast.tw12589090480761238022 : Unit := ()
def PySem.W.Fast.tw7132087161654413185 : Unit := ()
def PySem.W.Fast.tw10357629627679611067 : Unit := ()
def PySem.W.Fast.tw11847677443478607234 : Unit := ()
def PySem.W.Fast.tw2290064686286196487 : Unit := ()
def PySem.W.Fast.tw17089450187061259610 : Unit := ()
def PySem.W.Fast.tw13642580972212616905 : Unit := ()
def PySem.W.Fast.tw2595854443669629472 : Unit := ()
def PySem.W.Fast.tw11910800050727833458 : Unit := ()
def PySem.W.Fast.tw5255321079322908477 : Unit := ()
def PySem.W.Fast.tw6354496305558296339 : Unit := ()
def PySem.W.Fast.tw1126992669845421154 : Unit := ()
def PySem.W.Fast.tw14865836678695628735 : Unit := ()
def PySem.W.Fast.tw18052897909585076570 : Unit := ()
def PySem.W.Fast.tw6723576344065699905 : Unit := ()
def PySem.W.Fast.tw7298505110673418877 : Unit := ()
def PySem.W.Fast.tw12523079101611190018 : Unit := ()
def PySem.W.Fast.tw713888000906081297 : Unit := ()
def PySem.W.Fast.tw15698248877327520784 : Unit := ()
def PySem.W.Fast.tw12357236966420529302 : Unit := ()
def PySem.W.Fast.tw11898171168464241446 : Unit := ()
def PySem.W.Fast.tw3221441218216444469 : Unit := ()
def PySem.W.Fast.tw16120958006050117630 : Unit := ()
def PySem.W.Fast.tw3089372913175955001 : Unit := ()
def PySem.W.Fast.tw14596244591583179033 : Unit := ()
def PySem.W.Fast.tw9973857217684130989 : Unit := ()
def PySem.W.Fast.tw16497718140292053913 : Unit := ()
def PySem.W.Fast.tw11367550041263099849 : Unit := ()
def PySem.W.Fast.tw7324582944213301479 : Unit := ()
def PySem.W.Fast.tw12020271458513940863 : Unit := ()
def PySem.W.Fast.tw10880122362333439056 : Unit := ()
def PySem.W.Fast.tw9304882512442927349 : Unit := ()
def PySem.W.Fast.tw9144027939902879889 : Unit := ()
def PySem.W.Fast.tw3385501500410266069 : Unit := ()
def PySem.W.Fast.tw6619674460608679506 : Unit := ()
def PySem.W.Fast.tw10055131043430235695 : Unit := ()
def PySem.W.Fast.tw6048974901400972637 : Unit := ()
def PySem.W.Fast.tw5496549028051908384 : Unit := ()
def PySem.W.Fast.tw10433680850292714378 : Unit := ()
def PySem.W.Fast.tw17507582070526967404 : Unit := ()
def PySem.W.Fast.tw3567017037664349203 : Unit := ()
def PySem.W.Fast.tw8156908420826048984 : Unit := ()
def PySem.W.Fast.tw9605679011839037080 : Unit := ()
def PySem.W.Fast.tw446439447306791671 : Unit := ()
def PySem.W.Fast.tw16796543847168219956 : Unit := ()
def PySem.W.Fast.tw2356945864976201989 : Unit := ()
def PySem.W.Fast.tw9296571201858190940 : Unit := ()
def PySem.W.Fast.tw7777125748639079810 : Unit := ()
def PySem.W.Fast.tw4482862374190524117 : Unit := ()
def PySem.W.Fast.tw15779738551829647941 : Unit := ()
def PySem.W.Fast.tw2621325167747884000 : Unit := ()
def PySem.W.Fast.tw8623326019429176735 : Unit := ()
def PySem.W.Fast.tw12466894285894537304 : Unit := ()
def PySem.W.Fast.tw14333768412804129231 : Unit := ()
def PySem.W.Fast.tw9598907262816796427 : Unit := ()
def PySem.W.Fast.tw16842712932756471000 : Unit := ()
def PySem.W.Fast.tw5616865400466749749 : Unit := ()
def PySem.W.Fast.tw9998560369239693705 : Unit := ()
def PySem.W.Fast.tw10272291782762760419 : Unit := ()
def PySem.W.Fast.tw4843795033456985755 : Unit := ()
def PySem.W.Fast.tw2686743578356861261 : Unit := ()
def PySem.W.Fast.tw11421444833917406683 : Unit := ()
def PySem.W.Fast.tw12118210158130577330 : Unit := ()
def PySem.W.Fast.tw6646590939012299525 : Unit := ()
def PySem.W.Fast.tw7565637061510357465 : Unit := ()
def PySem.W.Fast.tw13566559769155383485 : Unit := ()
def PySem.W.Fast.tw10256686750214519795 : Unit := ()
def PySem.W.Fast.tw5065091709071409193 : Unit := ()
def PySem.W.Fast.tw4602805747106704554 : Unit := ()
def PySem.W.Fast.tw16693050487917986507 : Unit := ()
def PySem.W.Fast.tw2715132102321140351 : Unit := ()
def PySem.W.Fast.tw2391512690351588431 : Unit := ()
def PySem.W.Fast.tw9950595037263458490 : Unit := ()
def PySem.W.Fast.tw16776900907330847977 : Unit := ()
def PySem.W.Fast.tw14001356273550615199 : Unit := ()
def PySem.W.Fast.tw11096290366838664386 : Unit := ()
def PySem.W.Fast.tw783158010319593348 : Unit := ()
def PySem.W.Fast.tw4722586339661191080 : Unit := ()
def PySem.W.Fast.tw8477872826773985091 : Unit := ()
def PySem.W.Fast.tw847687371870230280 : Unit := ()
def PySem.W.Fast.tw3879054336054524566 : Unit := ()
def PySem.W.Fast.tw6672359638578082259 : Unit := ()
def PySem.W.Fast.tw1368949565083728439 : Unit := ()
def PySem.W.Fast.tw2453377947262052810 : Unit := ()
def PySem.W.Fast.tw8291354191380629953 : Unit := ()
def PySem.W.Fast.tw2862169564891323928 : Unit := ()
def PySem.W.Fast.tw14216072962118157084 : Unit := ()
def PySem.W.Fast.tw7035826068955207828 : Unit := ()
def PySem.W.Fast.tw297381726141814245 : Unit := ()
def PySem.W.Fast.tw14572176927721999660 : Unit := ()
def PySem.W.Fast.tw4766377625012635383 : Unit := ()
def PySem.W.Fast.tw16157010481396590055 : Unit := ()
def PySem.W.Fast.tw5317945415474409434 : Unit := ()
def PySem.W.Fast.tw10395967262007236409 : Unit := ()
def PySem.W.Fast.tw3186203731863166764 : Unit := ()
def PySem.W.Fast.tw81685556675091599 : Unit := ()
def PySem.W.Fast.tw7302407041815069687 : Unit := ()
def PySem.W.Fast.tw11394538559277109643 : Unit := ()
def PySem.W.Fast.tw2360449850823251971 : Unit := ()
def PySem.W.Fast.tw161625090192391053 : Unit := ()
def PySem.W.Fast.tw17602965557611674369 : Unit := ()
def PySem.W.Fast.tw11057959137879868039 : Unit := ()
def PySem.W.Fast.tw13062996453443490795 : Unit := ()
def PySem.W.Fast.tw11288620902240521449 : Unit := ()
def PySem.W.Fast.tw4072190468565793870 : Unit := ()
def PySem.W.Fast.tw933226837528145 : Unit := ()
def PySem.W.Fast.tw4872382522231082004 : Unit := ()
def PySem.W.Fast.tw6963378507303637763 : Unit := ()
def PySem.W.Fast.tw7927655052607555821 : Unit := ()
def PySem.W.Fast.tw12633042340646556786 : Unit := ()
def PySem.W.Fast.tw18088906874401297840 : Unit := ()
def PySem.W.Fast.tw17588703455010831551 : Unit := ()
def PySem.W.Fast.tw14693910578933346945 : Unit := ()
def PySem.W.Fast.tw10102742575640522514 : Unit := ()
def PySem.W.Fast.tw9290509876995092472 : Unit := ()
def PySem.W.Fast.tw5297121576626197136 : Unit := ()
def PySem.W.Fast.tw3445495612060749121 : Unit := ()
def PySem.W.Fast.tw15846903667444861452 : Unit := ()
def PySem.W.Fast.tw14749161257342604448 : Unit := ()
def PySem.W.Fast.tw863713919237641822 : Unit := ()
def PySem.W.Fast.tw2681698909991575070 : Unit := ()
def PySem.W.Fast.tw6251143111543110356 : Unit := ()
def PySem.W.Fast.tw17442843217609765154 : Unit := ()
def PySem.W.Fast.tw4518800916545017224 : Unit := ()
def PySem.W.Fast.tw4005485375294213844 : Unit := ()
def PySem.W.Fast.tw6518180972989771863 : Unit := ()
def PySem.W.Fast.tw12202852597663706607 : Unit := ()
def PySem.W.Fast.tw920080365412120712 : Unit := ()
def PySem.W.Fast.tw6514805579919933411 : Unit := ()
def PySem.W.Fast.tw4631029528870205495 : Unit := ()
def PySem.W.Fast.tw2331236357907346307 : Unit := ()
def PySem.W.Fast.tw5239791731433856169 : Unit := ()
def PySem.W.Fast.tw16877314393125020805 : Unit := ()
def PySem.W.Fast.tw11870364542370208084 : Unit := ()
def PySem.W.Fast.tw6173778260300829567 : Unit := ()
def PySem.W.Fast.tw15696667486500849055 : Unit := ()
def PySem.W.Fast.tw17599039673235506852 : Unit := ()
def PySem.W.Fast.tw5714212851784834626 : Unit := ()
def PySem.W.Fast.tw15245104913048841920 : Unit := ()
def PySem.W.Fast.tw17412919483212647591 : Unit := ()
def PySem.W.Fast.tw792414428669628961 : Unit := ()
def PySem.W.Fast.tw12096973689634934634 : Unit := ()
def PySem.W.Fast.tw7285545754868009639 : Unit := ()
def PySem.W.Fast.tw7213108138478545466 : Unit := ()
def PySem.W.Fast.tw8000860692600434029 : Unit := ()
def PySem.W.Fast.tw7211581573411591707 : Unit := ()
def PySem.W.Fast.tw15184890291732711582 : Unit := ()
def PySem.W.Fast.tw1424336442740312211 : Unit := ()
def PySem.W.Fast.tw5702451588583515839 : Unit := ()
def PySem.W.Fast.tw8303845622225724584 : Unit := ()
def PySem.W.Fast.tw5815596543908181078 : Unit := ()
def PySem.W.Fast.tw15763412392395280122 : Unit := ()
def PySem.W.Fast.tw15110357476838094079 : Unit := ()
def PySem.W.Fast.tw283507349919404242 : Unit := ()
def PySem.W.Fast.tw4246261740718653681 : Unit := ()
def PySem.W.Fast.tw9018794686267101226 : Unit := ()
def PySem.W.Fast.tw13408348343187833590 : Unit := ()
def PySem.W.Fast.tw17877977955467092225 : Unit := ()
def PySem.W.Fast.tw4818794763360252873 : Unit := ()
def PySem.W.Fast.tw303697367479544650 : Unit := ()
def PySem.W.Fast.tw15224096928686273819 : Unit := ()
def PySem.W.Fast.tw15732073171311105910 : Unit := ()
def PySem.W.Fast.tw18234277202594397102 : Unit := ()
def PySem.W.Fast.tw16246422939364191507 : Unit := ()
def PySem.W.Fast.tw4065525740694211586 : Unit := ()
def PySem.W.Fast.tw7813715618946025917 : Unit := ()
def PySem.W.Fast.tw16751926330964946953 : Unit := ()
def PySem.W.Fast.tw9135522227155785494 : Unit := ()
def PySem.W.Fast.tw4888512679155725612 : Unit := ()
def PySem.W.Fast.tw17025499117972667296 : Unit := ()
def PySem.W.Fast.tw7450932344410391591 : Unit := ()
def PySem.W.Fast.tw3917149118164498787 : Unit := ()
def PySem.W.Fast.tw3795710916287565358 : Unit := ()
def PySem.W.Fast.tw109022405582182926 : Unit := ()
def PySem.W.Fast.tw3845213778336433198 : Unit := ()
def PySem.W.Fast.tw17834673360822221470 : Unit := ()
def PySem.W.Fast.tw545391830005335191 : Unit := ()
def PySem.W.Fast.tw3539667712539006188 : Unit := ()
def PySem.W.Fast.tw7581458193479422044 : Unit := ()
def PySem.W.Fast.tw15957876135153628782 : Unit := ()
def PySem.W.Fast.tw1250549505042522950 : Unit := ()
def PySem.W.Fast.tw14206267546102137728 : Unit := ()
def PySem.W.Fast.tw12122627247323353226 : Unit := ()
def PySem.W.Fast.tw9003779206802554654 : Unit := ()
def PySem.W.Fast.tw15142464047892549033 : Unit := ()
def PySem.W.Fast.tw2787486804309383770 : Unit := ()
def PySem.W.Fast.tw12988020136691500536 : Unit := ()
def PySem.W.Fast.tw4346308597770376650 : Unit := ()
def PySem.W.Fast.tw11775280978170182879 : Unit := ()
def PySem.W.Fast.tw8546239855421189457 : Unit := ()
def PySem.W.Fast.tw13973430668826060135 : Unit := ()
def PySem.W.Fast.tw15986902113118775048 : Unit := ()
def PySem.W.Fast.tw3482224510839111053 : Unit := ()
def PySem.W.Fast.tw10294632871008701961 : Unit := ()
def PySem.W.Fast.tw3017203838538926335 : Unit := ()
def PySem.W.Fast.tw13359021971475162226 : Unit := ()
def PySem.W.Fast.tw1523363043357911337 : Unit := ()
def PySem.W.Fast.tw12019958229565407658 : Unit := ()
def PySem.W.Fast.tw17860997523350065541 : Unit := ()
def PySem.W.Fast.tw2835076612898262579 : Unit := ()
def PySem.W.Fast.tw9791212572385255255 : Unit := ()
def PySem.W.Fast.tw11680922150967201967 : Unit := ()
def PySem.W.Fast.tw10318728700527147329 : Unit := ()
def PySem.W.Fast.tw6272581391669595625 : Unit := ()
def PySem.W.Fast.tw5953054472133883313 : Unit := ()
def PySem.W.Fast.tw11308350490100599709 : Unit := ()
def PySem.W.Fast.tw7001260252961850136 : Unit := ()
def PySem.W.Fast.tw3091852931122863289 : Unit := ()
def PySem.W.Fast.tw4516141248697556601 : Unit := ()
def PySem.W.Fast.tw13493815865128041888 : Unit := ()
def PySem.W.Fast.tw4576448031598433063 : Unit := ()
def PySem.W.Fast.tw10289666845913160568 : Unit := ()
def PySem.W.Fast.tw2315179841905781344 : Unit := ()
def PySem.W.Fast.tw7144746366008422838 : Unit := ()
def PySem.W.Fast.tw14145987171325139665 : Unit := ()
def PySem.W.Fast.tw16827177816920433258 : Unit := ()
def PySem.W.Fast.tw3270917073885947256 : Unit := ()
def PySem.W.Fast.tw18426797402690604152 : Unit := ()
def PySem.W.Fast.tw20395282027658826 : Unit := ()
def PySem.W.Fast.tw17930042135528704748 : Unit := ()
def PySem.W.Fast.tw2123703865764516734 : Unit := ()
def PySem.W.Fast.tw16550677817674015046 : Unit := ()
def PySem.W.Fast.tw5736805143722467779 : Unit := ()
def PySem.W.Fast.tw17652886389851002783 : Unit := ()
def PySem.W.Fast.tw4454585406639750641 : Unit := ()
def PySem.W.Fast.tw2920083708232054791 : Unit := ()
def PySem.W.Fast.tw11350260656359159199 : Unit := ()
def PySem.W.Fast.tw5721585893983616766 : Unit := ()
def PySem.W.Fast.tw5500306501405694942 : Unit := ()
def PySem.W.Fast.tw696530633342143183 : Unit := ()
def PySem.W.Fast.tw12413352191927222168 : Unit := ()
def PySem.W.Fast.tw9806221025893195259 : Unit := ()
def PySem.W.Fast.tw3790286109748054378 : Unit := ()
def PySem.W.Fast.tw902530790412170734 : Unit := ()
def PySem.W.Fast.tw3650611141301251909 : Unit := ()
def PySem.W.Fast.tw5220524936436196058 : Unit := ()
def PySem.W.Fast.tw17023929055203185254 : Unit := ()
def PySem.W.Fast.tw11638050668261211309 : Unit := ()
def PySem.W.Fast.tw16736469658201465073 : Unit := ()
def PySem.W.Fast.tw12840663423539743 : Unit := ()
def PySem.W.Fast.tw16376023842785099247 : Unit := ()
def PySem.W.Fast.tw9767972026403646483 : Unit := ()
def PySem.W.Fast.tw15846905650223033261 : Unit := ()
def PySem.W.Fast.tw9936350131614455651 : Unit := ()
def PySem.W.Fast.tw10725481692496895219 : Unit := ()
def PySem.W.Fast.tw9076489605962016559 : Unit := ()
def PySem.W.Fast.tw14901125309555448918 : Unit := ()
def PySem.W.Fast.tw6376845597668211466 : Unit := ()
def PySem.W.Fast.tw7386641614048966148 : Unit := ()
def PySem.W.Fast.tw173905699642823500 : Unit := ()
def PySem.W.Fast.tw13229088370201382549 : Unit := ()
def PySem.W.Fast.tw15066099857250884427 : Unit := ()
def PySem.W.Fast.tw5074535216214243370 : Unit := ()
def PySem.W.Fast.tw15401102195811036247 : Unit := ()
def PySem.W.Fast.tw2980249672842811329 : Unit := ()
def PySem.W.Fast.tw16045104785296660490 : Unit := ()
def PySem.W.Fast.tw3619332724069431845 : Unit := ()
def PySem.W.Fast.tw16754067974088087612 : Unit := ()
def PySem.W.Fast.tw13372568023917134915 : Unit := ()
def PySem.W.Fast.tw4299482993263447997 : Unit := ()
def PySem.W.Fast.tw2937372615380268007 : Unit := ()
def PySem.W.Fast.tw12272227531864380875 : Unit := ()
def PySem.W.Fast.tw3213562458905096437 : Unit := ()
def PySem.W.Fast.tw510642780248105943 : Unit := ()
def PySem.W.Fast.tw15359693647319395773 : Unit := ()
def PySem.W.Fast.tw13353393881421831306 : Unit := ()
def PySem.W.Fast.tw9099691351487101487 : Unit := ()
def PySem.W.Fast.tw9137898714241611887 : Unit := ()
def PySem.W.Fast.tw8987922027144969832 : Unit := ()
def PySem.W.Fast.tw2613181942986594465 : Unit := ()
def PySem.W.Fast.tw14435135606970167349 : Unit := ()
def PySem.W.Fast.tw155629889759175452 : Unit := ()
def PySem.W.Fast.tw7616555863153502720 : Unit := ()
def PySem.W.Fast.tw12493491551573133488 : Unit := ()
def PySem.W.Fast.tw8767512573979737615 : Unit := ()
def PySem.W.Fast.tw14786473705364953972 : Unit := ()
def PySem.W.Fast.tw1028984415342272454 : Unit := ()
def PySem.W.Fast.tw15558724707447834205 : Unit := ()
def PySem.W.Fast.tw2853779434968380608 : Unit := ()
def PySem.W.Fast.tw17576871609255821380 : Unit := ()
def PySem.W.Fast.tw6861102930889764587 : Unit := ()
def PySem.W.Fast.tw3728297360634505933 : Unit := ()
def PySem.W.Fast.tw2083514877177181827 : Unit := ()
def PySem.W.Fast.tw3636223467683304444 : Unit := ()
def PySem.W.Fast.tw6111542977147152453 : Unit := ()
def PySem.W.Fast.tw4210945752936822250 : Unit := ()
def PySem.W.Fast.tw2347221003463607123 : Unit := ()
def PySem.W.Fast.tw18431673940744146710 : Unit := ()
def PySem.W.Fast.tw16242990142836699279 : Unit := ()
def PySem.W.Fast.tw13884582075212761687 : Unit := ()
def PySem.W.Fast.tw16914849463948472332 : Unit := ()
def PySem.W.Fast.tw8370505805712359190 : Unit := ()
def PySem.W.Fast.tw2477676207309633604 : Unit := ()
def PySem.W.Fast.tw6015203609048290886 : Unit := ()
def PySem.W.Fast.tw15298146990328137459 : Unit := ()
def PySem.W.Fast.tw12746428116787045674 : Unit := ()
def PySem.W.Fast.tw8330136492211666482 : Unit := ()
def PySem.W.Fast.tw1926890238709523440 : Unit := ()
def PySem.W.Fast.tw10455626288857546470 : Unit := ()
def PySem.W.Fast.tw9335906734147391388 : Unit := ()
def PySem.W.Fast.tw9016148010137701337 : Unit := ()
def PySem.W.Fast.tw6649676819928494113 : Unit := ()
def PySem.W.Fast.tw14060245681297361311 : Unit := ()
def PySem.W.Fast.tw2927894807408347766 : Unit := ()
def PySem.W.Fast.tw18019663105520349216 : Unit := ()
def PySem.W.Fast.tw689657756309247002 : Unit := ()
def PySem.W.Fast.tw9658953757661025802 : Unit := ()
def PySem.W.Fast.tw15728652005629392959 : Unit := ()
def PySem.W.Fast.tw6032239972694297663 : Unit := ()
def PySem.W.Fast.tw12445377800628671821 : Unit := ()
def PySem.W.Fast.tw8164195372574977963 : Unit := ()
def PySem.W.Fast.tw9316210688215853626 : Unit := ()
def PySem.W.Fast.tw518747240057502772 : Unit := ()
def PySem.W.Fast.tw4700473158154750578 : Unit := ()
def PySem.W.Fast.tw14598281160911938683 : Unit := ()
def PySem.W.Fast.tw12007371701380989679 : Unit := ()
def PySem.W.Fast.tw5353281152203001997 : Unit := ()
def PySem.W.Fast.tw17713062168519501490 : Unit := ()
def PySem.W.Fast.tw2511988939834509470 : Unit := ()
def PySem.W.Fast.tw15021282540306617935 : Unit := ()
def PySem.W.Fast.tw9840335852562382029 : Unit := ()
def PySem.W.Fast.tw11673843087761304633 : Unit := ()
def PySem.W.Fast.tw15152683398348816538 : Unit := ()
def PySem.W.Fast.tw17344871607976880989 : Unit := ()
def PySem.W.Fast.tw3979698595814289732 : Unit := ()
def PySem.W.Fast.tw15213659552129346730 : Unit := ()
def PySem.W.Fast.tw4581804970354187437 : Unit := ()
def PySem.W.Fast.tw7400991721323272568 : Unit := ()
def PySem.W.Fast.tw5421305093900066153 : Unit := ()
def PySem.W.Fast.tw12525883118475212753 : Unit := ()
def PySem.W.Fast.tw379700129435170413 : Unit := ()
def PySem.W.Fast.tw8741785433936918079 : Unit := ()
def PySem.W.Fast.tw11785206967526635500 : Unit := ()
def PySem.W.Fast.tw11174702503239321834 : Unit := ()
def PySem.W.Fast.tw14028104653553199878 : Unit := ()
def PySem.W.Fast.tw8979188886323144512 : Unit := ()
def PySem.W.Fast.tw11486349556406967936 : Unit := ()
def PySem.W.Fast.tw15907587126262493784 : Unit := ()
def PySem.W.Fast.tw3965069477284029620 : Unit := ()
def PySem.W.Fast.tw1555454388758259341 : Unit := ()
def PySem.W.Fast.tw9510931988990674778 : Unit := ()
def PySem.W.Fast.tw6230030424688890108 : Unit := ()
def PySem.W.Fast.tw5373982461454006367 : Unit := ()
def PySem.W.Fast.tw6754559162774018873 : Unit := ()
def PySem.W.Fast.tw17994552577681669127 : Unit := ()
def PySem.W.Fast.tw5622407750180442866 : Unit := ()
def PySem.W.Fast.tw18272635780619895738 : Unit := ()
def PySem.W.Fast.tw18151466380234443146 : Unit := ()
def PySem.W.Fast.tw2859356483358305652 : Unit := ()
def PySem.W.Fast.tw14509356186814199726 : Unit := ()
def PySem.W.Fast.tw5415600503207074131 : Unit := ()
def PySem.W.Fast.tw7845404529366772513 : Unit := ()
def PySem.W.Fast.tw1165157899296117059 : Unit := ()
def PySem.W.Fast.tw10626082719593319462 : Unit := ()
def PySem.W.Fast.tw5196093781377550757 : Unit := ()
def PySem.W.Fast.tw10771657807439616322 : Unit := ()
def PySem.W.Fast.tw10095981248382385320 : Unit := ()
def PySem.W.Fast.tw7493998379640766370 : Unit := ()
def PySem.W.Fast.tw15097103847878283107 : Unit := ()
def PySem.W.Fast.tw6237577912494247194 : Unit := ()
def PySem.W.Fast.tw6482650166439273102 : Unit := ()
def PySem.W.Fast.tw16041586089676545560 : Unit := ()
def PySem.W.Fast.tw188590408955514547 : Unit := ()
def PySem.W.Fast.tw12771634616016981466 : Unit := ()
def PySem.W.Fast.tw7139778572245728410 : Unit := ()
def PySem.W.Fast.tw823319841146122030 : Unit := ()
def PySem.W.Fast.tw11809418558970344658 : Unit := ()
def PySem.W.Fast.tw7497262095878521433 : Unit := ()
def PySem.W.Fast.tw11734965465680864676 : Unit := ()
def PySem.W.Fast.tw6281686192248184819 : Unit := ()
def PySem.W.Fast.tw11119358883201082940 : Unit := ()
def PySem.W.Fast.tw10680640450780838380 : Unit := ()
def PySem.W.Fast.tw262927875305075412 : Unit := ()
def PySem.W.Fast.tw5226885103911064573 : Unit := ()
def PySem.W.Fast.tw3951217774043328587 : Unit := ()
def PySem.W.Fast.tw13102888369433308554 : Unit := ()
def PySem.W.Fast.tw6190834695339755069 : Unit := ()
def PySem.W.Fast.tw8303216803769843619 : Unit := ()
def PySem.W.Fast.tw16434263588019625753 : Unit := ()
def PySem.W.Fast.tw4460914225084038917 : Unit := ()
def PySem.W.Fast.tw13772152164104180322 : Unit := ()
def PySem.W.Fast.tw9478825481576092453 : Unit := ()
def PySem.W.Fast.tw17912494530483531613 : Unit := ()
def PySem.W.Fast.tw910361031996314282 : Unit := ()
def PySem.W.Fast.tw12588609014890705978 : Unit := ()
def PySem.W.Fast.tw16548984629077375458 : Unit := ()
def PySem.W.Fast.tw18195573925447660193 : Unit := ()
def PySem.W.Fast.tw9878197347538395644 : Unit := ()
def PySem.W.Fast.tw14509811154463709939 : Unit := ()
def PySem.W.Fast.tw9540817666661197180 : Unit := ()
def PySem.W.Fast.tw6723259258921476931 : Unit := ()
def PySem.W.Fast.tw10050126710279281161 : Unit := ()
def PySem.W.Fast.tw9663242423362394525 : Unit := ()
def PySem.W.Fast.tw16440524177115343459 : Unit := ()
def PySem.W.Fast.tw15421053499894647818 : Unit := ()
def PySem.W.Fast.tw9848752281874007013 : Unit := ()
def PySem.W.Fast.tw2155781414245939421 : Unit := ()
def PySem.W.Fast.tw1380944642894400965 : Unit := ()
def PySem.W.Fast.tw6333163788691765071 : Unit := ()
def PySem.W.Fast.tw13910352332003737383 : Unit := ()
def PySem.W.Fast.tw14281487454351627398 : Unit := ()
def PySem.W.Fast.tw15188224876908820850 : Unit := ()
def PySem.W.Fast.tw12670311618206722502 : Unit := ()
def PySem.W.Fast.tw14130745708085425831 : Unit := ()
def PySem.W.Fast.tw3010246875531426594 : Unit := ()
def PySem.W.Fast.tw12840759253949144773 : Unit := ()
def PySem.W.Fast.tw14091057881741276129 : Unit := ()
def PySem.W.Fast.tw12443965731818883614 : Unit := ()
def PySem.W.Fast.tw2231565889162520127 : Unit := ()
def PySem.W.Fast.tw610761266551179617 : Unit := ()
def PySem.W.Fast.tw4936697230644806921 : Unit := ()
def PySem.W.Fast.tw18065796821678558227 : Unit := ()
def PySem.W.Fast.tw3902007651951799492 : Unit := ()
def PySem.W.Fast.tw14007979766148333646 : Unit := ()
def PySem.W.Fast.tw8348138085101364057 : Unit := ()
def PySem.W.Fast.tw5112644416181681559 : Unit := ()
def PySem.W.Fast.tw9529897830377001669 : Unit := ()
def PySem.W.Fast.tw7072001138762035346 : Unit := ()
def PySem.W.Fast.tw14890522607725499645 : Unit := ()
def PySem.W.Fast.tw8839715829715192776 : Unit := ()
def PySem.W.Fast.tw9604720428133704939 : Unit := ()
def PySem.W.Fast.tw11463513853596897784 : Unit := ()
def PySem.W.Fast.tw11992239555777513083 : Unit := ()
def PySem.W.Fast.tw13983656713313437986 : Unit := ()
def PySem.W.Fast.tw1263418811947114548 : Unit := ()
def PySem.W.Fast.tw12615988832838555970 : Unit := ()
def PySem.W.Fast.tw11227679478486073163 : Unit := ()
def PySem.W.Fast.tw17550377853283556653 : Unit := ()
def PySem.W.Fast.tw4078083988430361705 : Unit := ()
def PySem.W.Fast.tw7218940587273435800 : Unit := ()
def PySem.W.Fast.tw10398835337243832915 : Unit := ()
def PySem.W.Fast.tw18402124507514392655 : Unit := ()
def PySem.W.Fast.tw1711965024468111747 : Unit := ()
def PySem.W.Fast.tw11958686912747410175 : Unit := ()
def PySem.W.Fast.tw14509471065240305815 : Unit := ()
def PySem.W.Fast.tw11369723572046233691 : Unit := ()
def PySem.W.Fast.tw10535760163331197112 : Unit := ()
def PySem.W.Fast.tw6128036802844762204 : Unit := ()
def PySem.W.Fast.tw2269064233907617450 : Unit := ()
def PySem.W.Fast.tw8416000266329296528 : Unit := ()
def PySem.W.Fast.tw15676606110358128765 : Unit := ()
def PySem.W.Fast.tw4381078153777567808 : Unit := ()
def PySem.W.Fast.tw18143817523887591550 : Unit := ()
def PySem.W.Fast.tw15892291169939988716 : Unit := ()
def PySem.W.Fast.tw9878810788856798120 : Unit := ()
def PySem.W.Fast.tw2623157643353765846 : Unit := ()
def PySem.W.Fast.tw15252821018577891100 : Unit := ()
def PySem.W.Fast.tw6422792992755771610 : Unit := ()
def PySem.W.Fast.tw15878538283404318338 : Unit := ()
def PySem.W.Fast.tw909975339737717903 : Unit := ()
def PySem.W.Fast.tw7094954271247541052 : Unit := ()
def PySem.W.Fast.tw2579780166800083458 : Unit := ()
def PySem.W.Fast.tw3495586518170375919 : Unit := ()
def PySem.W.Fast.tw1371760162168572362 : Unit := ()
def PySem.W.Fast.tw10616845163268101684 : Unit := ()
def PySem.W.Fast.tw3309721258231032428 : Unit := ()
def PySem.W.Fast.tw5147569508537430808 : Unit := ()
def PySem.W.Fast.tw5885968218545783393 : Unit := ()
def PySem.W.Fast.tw14713097771561171605 : Unit := ()
def PySem.W.Fast.tw11154820876483556230 : Unit := ()
def PySem.W.Fast.tw1012533123495263958 : Unit := ()
def PySem.W.Fast.tw4575715970432735902 : Unit := ()
def PySem.W.Fast.tw16143226626700829413 : Unit := ()
def PySem.W.Fast.tw9365195490153937066 : Unit := ()
set_option Elab.async false
set_option linter.all false
set_option maxRecDepth 100000
/-! Data, worlds, what is left behind. -/
namespace Wf
open PySem PySem.Spec PyProof.Rows L2

/-- what a value is worth: data is deep; `ref i` is the live cell i -/
inductive D where
  | non | bl (b : Bool) | int (i : Int) | str (s : Str) | ty (n : String) | rf (a : Addr)
  | wl (l : List Int)
  | lst (l : List D) | tup (l : List D)
  | dct (ks : List Key) (vs : List D)
  | ins (C : Addr) (ns : List Str) (vs : List D)
  | exn (a : Addr) (od : Option Addr) (ns : List Str) (vs : List D)
  | ref (i : Nat)
  | xob (C : Addr) (ns : List Str) (vs : List D)

structure Wd where
  p : List Addr
  F : Addr → Prop
  G : Addr → Prop
  H : Hp

structure Le (w w' : Wd) : Prop where
  pre : ∀ (i : Nat) (a : Addr), w.p[i]? = some a → w'.p[i]? = some a
  fr : ∀ a, w.F a → w'.F a
  keep : ∀ a, w.F a → w'.H a = w.H a
  gd : ∀ a, w.G a → w'.G a ∧ w'.H a = w.H a
theorem Le.refl (w : Wd) : Le w w := ⟨fun _ _ h => h, fun _ h => h, fun _ _ => rfl, fun _ h => ⟨h, rfl⟩⟩
theorem Le.trans {a b c : Wd} (x : Le a b) (y : Le b c) : Le a c :=
  ⟨fun i u h => y.pre i u (x.pre i u h), fun u h => y.fr u (x.fr u h), fun u h => (y.keep u (x.fr u h)).trans (x.keep u h),
    fun u h => ⟨(y.gd u (x.gd u h).1).1, (y.gd u (x.gd u h).1).2.trans (x.gd u h).2⟩⟩

variable (K : PySem.W.Frag)
mutual
noncomputable def Rep (w : Wd) : D → V → Prop
  | .non, v => v = .non
  | .bl b, v => v = .bl b
  | .int i, v => v = .int i
  | .str s, v => v = .str s
  | .ty n, v => v = .ty n
  | .rf a, v => v = .ref a
  | .wl l, v => ∃ a, v = .ref a ∧ ((w.F a ∧ SqL K w.H a (l.map V.int)) ∨ ∀ H, SqL K H a (l.map V.int))
  | .lst l, v => ∃ a xs, v = .ref a ∧ w.F a ∧ w.H a = some (.lst xs) ∧ Reps w l xs
  | .tup l, v => ∃ a xs, v = .ref a ∧ w.F a ∧ w.H a = some (.tup xs) ∧ Reps w l xs
  | .dct ks l, v => ∃ a xs, v = .ref a ∧ w.F a ∧ w.H a = some (.dK (ks.zip xs)) ∧ ks.length = xs.length ∧ Reps w l xs
  | .ins C ns l, v => ∃ a dx xs, v = .ref a ∧ w.F a ∧ w.H a = some (.ins C dx (ns.zip xs)) ∧ ns.length = xs.length ∧ Reps w l xs
  | .exn a od ns l, v => v = .ref a ∧ ((ns = [] ∧ l = [] ∧ od = none) ∨ ∃ d xs, od = some d ∧ w.F d ∧ w.H d = some (.xd (ns.zip xs)) ∧ ns.length = xs.length ∧ Reps w l xs)
  | .ref i, v => ∃ a, v = .ref a ∧ w.p[i]? = some a
  | .xob C ns l, v => ∃ a, v = .ref a ∧ w.F a ∧ ((ns = [] ∧ l = [] ∧ w.H a = some (exo a C none)) ∨ ∃ dx xs, w.F dx ∧ w.H a = some (exo a C (some dx)) ∧ w.H dx = some (exd dx (ns.zip xs)) ∧ ns.length = xs.length ∧ Reps w l xs)
noncomputable def Reps (w : Wd) : List D → List V → Prop
  | [], xs => xs = []
  | d :: ds, xs => ∃ v vs, xs = v :: vs ∧ Rep w d v ∧ Reps w ds vs
end
/-- what stands at the live address a -/
noncomputable def ORep (w : Wd) (a : Addr) : D → Prop
  | .lst l => ∃ xs, w.H a = some (.lst xs) ∧ Reps K w l xs
  | .dct ks l => ∃ xs, w.H a = some (.dK (ks.zip xs)) ∧ ks.length = xs.length ∧ Reps K w l xs
  | .ins C ns l => ∃ dx xs, w.H a = some (.ins C dx (ns.zip xs)) ∧ ns.length = xs.length ∧ Reps K w l xs
  | _ => ∃ o, w.H a = some o
-- no cell is named in it
mutual
noncomputable def nr : D → Bool
  | .lst l => nrs l
  | .tup l => nrs l
  | .dct _ l => nrs l
  | .ins _ _ l => nrs l
  | .exn _ _ _ l => nrs l
  | .xob _ _ l => nrs l
  | .ref _ => false
  | _ => true
noncomputable def nrs : List D → Bool
  | [] => true
  | d :: ds => nr d && nrs ds
end

/-- a cell that is given up: what it held is data from then on -/
noncomputable def isTomb : D → Bool
  | .non => true
  | _ => false
structure Sim (w : Wd) (cs : List D) : Prop where
  len : w.p.length = cs.length
  nd : ∀ (i j : Nat) (a : Addr), w.p[i]? = some a → w.p[j]? = some a → i = j
  trk : ∀ a, w.F a → ∃ o, w.H a = some o
  gtr : ∀ a, w.G a → ¬ w.F a ∧ (∃ o, w.H a = some o) ∧ ∀ i : Nat, w.p[i]? ≠ some a
  cell : ∀ (i : Nat) (a : Addr) (d : D), w.p[i]? = some a → cs[i]? = some d → (isTomb d = false → ¬ w.F a) ∧ (∃ o, w.H a = some o) ∧ ORep K w a d ∧ nr d = true

theorem Le.sql {w w' : Wd} {a : Addr} {xs : List V} (e : Le w w') (f : w.F a) (h : SqL K w.H a xs) : SqL K w'.H a xs := by
  rcases h with h | h
  · refine .inl ?_
    unfold Rd
    rw [e.keep a f]
    exact h
  · exact .inr h
mutual
theorem Rep.mono {w w' : Wd} (e : Le w w') : ∀ (d : D) (v : V), Rep K w d v → Rep K w' d v
  | .non, v, h => h
  | .bl b, v, h => h
  | .int i, v, h => h
  | .str s, v, h => h
  | .ty n, v, h => h
  | .rf a, v, h => h
  | .wl l, v, h => by
    obtain ⟨a, e1, h | h⟩ := h
    · exact ⟨a, e1, .inl ⟨e.fr a h.1, e.sql K h.1 h.2⟩⟩
    · exact ⟨a, e1, .inr h⟩
  | .lst l, v, h => by
    obtain ⟨a, xs, e1, f, g, r⟩ := h
    exact ⟨a, xs, e1, e.fr a f, (e.keep a f).trans g, Reps.mono e l xs r⟩
  | .tup l, v, h => by
    obtain ⟨a, xs, e1, f, g, r⟩ := h
    exact ⟨a, xs, e1, e.fr a f, (e.keep a f).trans g, Reps.mono e l xs r⟩
  | .dct ks l, v, h => by
    obtain ⟨a, xs, e1, f, g, q, r⟩ := h
    exact ⟨a, xs, e1, e.fr a f, (e.keep a f).trans g, q, Reps.mono e l xs r⟩
  | .ins C ns l, v, h => by
    obtain ⟨a, dx, xs, e1, f, g, q, r⟩ := h
    exact ⟨a, dx, xs, e1, e.fr a f, (e.keep a f).trans g, q, Reps.mono e l xs r⟩
  | .exn a od ns l, v, h => by
    obtain ⟨e1, h | ⟨d, xs, q, f, g, z, r⟩⟩ := h
    · exact ⟨e1, .inl h⟩
    · exact ⟨e1, .inr ⟨d, xs, q, e.fr d f, (e.keep d f).trans g, z, Reps.mono e l xs r⟩⟩
  | .ref i, v, h => by
    obtain ⟨a, e1, g⟩ := h
    exact ⟨a, e1, e.pre i a g⟩
  | .xob C ns l, v, h => by
    obtain ⟨a, e1, f, ⟨q1, q2, g⟩ | ⟨d, xs, f2, g, g2, z, r⟩⟩ := h
    · exact ⟨a, e1, e.fr a f, .inl ⟨q1, q2, (e.keep a f).trans g⟩⟩
    · exact ⟨a, e1, e.fr a f, .inr ⟨d, xs, e.fr d f2, (e.keep a f).trans g, (e.keep d f2).trans g2, z, Reps.mono e l xs r⟩⟩
theorem Reps.mono {w w' : Wd} (e : Le w w') : ∀ (l : List D) (xs : List V), Reps K w l xs → Reps K w' l xs
  | [], xs, h => h
  | d :: ds, xs, h => by
    obtain ⟨v, vs, e1, r, q⟩ := h
    exact ⟨v, vs, e1, Rep.mono e d v r, Reps.mono e ds vs q⟩
end
-- a value that names no cell stands whatever the cells are
mutual
theorem Rep.nr {w w' : Wd} (hp : ∀ a, w.F a → w'.F a) (hk : ∀ a, w.F a → w'.H a = w.H a) : ∀ (d : D) (v : V), nr d = true → Rep K w d v → Rep K w' d v
  | .non, v, _, h => h
  | .bl b, v, _, h => h
  | .int i, v, _, h => h
  | .str s, v, _, h => h
  | .ty n, v, _, h => h
  | .rf a, v, _, h => h
  | .wl l, v, _, h => by
    obtain ⟨a, e1, h | h⟩ := h
    · refine ⟨a, e1, .inl ⟨hp a h.1, ?_⟩⟩
      rcases h.2 with z | z
      · refine .inl ?_
        unfold Rd
        rw [hk a h.1]
        exact z
      · exact .inr z
    · exact ⟨a, e1, .inr h⟩
  | .lst l, v, n, h => by
    obtain ⟨a, xs, e1, f, g, r⟩ := h
    exact ⟨a, xs, e1, hp a f, (hk a f).trans g, Reps.nr hp hk l xs n r⟩
  | .tup l, v, n, h => by
    obtain ⟨a, xs, e1, f, g, r⟩ := h
    exact ⟨a, xs, e1, hp a f, (hk a f).trans g, Reps.nr hp hk l xs n r⟩
  | .dct ks l, v, n, h => by
    obtain ⟨a, xs, e1, f, g, q, r⟩ := h
    exact ⟨a, xs, e1, hp a f, (hk a f).trans g, q, Reps.nr hp hk l xs n r⟩
  | .ins C ns l, v, n, h => by
    obtain ⟨a, dx, xs, e1, f, g, q, r⟩ := h
    exact ⟨a, dx, xs, e1, hp a f, (hk a f).trans g, q, Reps.nr hp hk l xs n r⟩
  | .exn a od ns l, v, n, h => by
    obtain ⟨e1, h | ⟨d, xs, q, f, g, z, r⟩⟩ := h
    · exact ⟨e1, .inl h⟩
    · exact ⟨e1, .inr ⟨d, xs, q, hp d f, (hk d f).trans g, z, Reps.nr hp hk l xs n r⟩⟩
  | .ref i, v, n, h => by cases n
  | .xob C ns l, v, n, h => by
    obtain ⟨a, e1, f, ⟨q1, q2, g⟩ | ⟨d, xs, f2, g, g2, z, r⟩⟩ := h
    · exact ⟨a, e1, hp a f, .inl ⟨q1, q2, (hk a f).trans g⟩⟩
    · exact ⟨a, e1, hp a f, .inr ⟨d, xs, hp d f2, (hk a f).trans g, (hk d f2).trans g2, z, Reps.nr hp hk l xs n r⟩⟩
theorem Reps.nr {w w' : Wd} (hp : ∀ a, w.F a → w'.F a) (hk : ∀ a, w.F a → w'.H a = w.H a) : ∀ (l : List D) (xs : List V), nrs l = true → Reps K w l xs → Reps K w' l xs
  | [], xs, _, h => h
  | d :: ds, xs, n, h => by
    obtain ⟨v, vs, e1, r, q⟩ := h
    have n' : (Wf.nr d && nrs ds) = true := n
    rw [Bool.and_eq_true] at n'
    exact ⟨v, vs, e1, Rep.nr hp hk d v n'.1 r, Reps.nr hp hk ds vs n'.2 q⟩
end
mutual
theorem Rep.g {w w' : Wd} (e1 : w.p = w'.p) (e2 : w.F = w'.F) (e3 : w.H = w'.H) : ∀ (d : D) (v : V), Rep K w d v → Rep K w' d v
  | .non, v, h => h
  | .bl b, v, h => h
  | .int i, v, h => h
  | .str s, v, h => h
  | .ty n, v, h => h
  | .rf a, v, h => h
  | .wl l, v, h => by
    obtain ⟨a, q, h⟩ := h
    exact ⟨a, q, by rw [← e2, ← e3]; exact h⟩
  | .lst l, v, h => by
    obtain ⟨a, xs, q, f, g, r⟩ := h
    exact ⟨a, xs, q, by rw [← e2]; exact f, by rw [← e3]; exact g, Reps.g e1 e2 e3 l xs r⟩
  | .tup l, v, h => by
    obtain ⟨a, xs, q, f, g, r⟩ := h
    exact ⟨a, xs, q, by rw [← e2]; exact f, by rw [← e3]; exact g, Reps.g e1 e2 e3 l xs r⟩
  | .dct ks l, v, h => by
    obtain ⟨a, xs, q, f, g, z, r⟩ := h
    exact ⟨a, xs, q, by rw [← e2]; exact f, by rw [← e3]; exact g, z, Reps.g e1 e2 e3 l xs r⟩
  | .ins C ns l, v, h => by
    obtain ⟨a, dx, xs, q, f, g, z, r⟩ := h
    exact ⟨a, dx, xs, q, by rw [← e2]; exact f, by rw [← e3]; exact g, z, Reps.g e1 e2 e3 l xs r⟩
  | .exn a od ns l, v, h => by
    obtain ⟨q0, h | ⟨d, xs, q, f, g, z, r⟩⟩ := h
    · exact ⟨q0, .inl h⟩
    · exact ⟨q0, .inr ⟨d, xs, q, by rw [← e2]; exact f, by rw [← e3]; exact g, z, Reps.g e1 e2 e3 l xs r⟩⟩
  | .ref i, v, h => by
    obtain ⟨a, q, g⟩ := h
    exact ⟨a, q, by rw [← e1]; exact g⟩
  | .xob C ns l, v, h => by
    obtain ⟨a, q, f, ⟨q1, q2, g⟩ | ⟨d, xs, f2, g, g2, z, r⟩⟩ := h
    · exact ⟨a, q, by rw [← e2]; exact f, .inl ⟨q1, q2, by rw [← e3]; exact g⟩⟩
    · exact ⟨a, q, by rw [← e2]; exact f, .inr ⟨d, xs, by rw [← e2]; exact f2, by rw [← e3]; exact g, by rw [← e3]; exact g2, z, Reps.g e1 e2 e3 l xs r⟩⟩
theorem Reps.g {w w' : Wd} (e1 : w.p = w'.p) (e2 : w.F = w'.F) (e3 : w.H = w'.H) : ∀ (l : List D) (xs : List V), Reps K w l xs → Reps K w' l xs
  | [], xs, h => h
  | d :: ds, xs, h => by
    obtain ⟨v, vs, q, r, z⟩ := h
    exact ⟨v, vs, q, Rep.g e1 e2 e3 d v r, Reps.g e1 e2 e3 ds vs z⟩
end
theorem Reps.length {w : Wd} : ∀ {l : List D} {xs : List V}, Reps K w l xs → l.length = xs.length
  | [], xs, h => by cases (show xs = [] from h); rfl
  | d :: ds, xs, h => by
    obtain ⟨v, vs, e1, r, q⟩ := h
    subst e1
    show ds.length + 1 = vs.length + 1
    rw [Reps.length q]
theorem Reps.get {w : Wd} : ∀ {l : List D} {xs : List V} {i : Nat} {d : D}, Reps K w l xs → l[i]? = some d → ∃ v, xs[i]? = some v ∧ Rep K w d v
  | [], xs, i, d, h, e => by simp at e
  | d' :: ds, xs, 0, d, h, e => by
    obtain ⟨v, vs, e1, r, q⟩ := h
    have e2 : d' = d := Option.some.inj e
    subst e1 e2
    exact ⟨v, rfl, r⟩
  | d' :: ds, xs, i + 1, d, h, e => by
    obtain ⟨v, vs, e1, r, q⟩ := h
    subst e1
    exact Reps.get (l := ds) (xs := vs) (i := i) q e
theorem Reps.app {w : Wd} : ∀ {l m : List D} {xs ys : List V}, Reps K w l xs → Reps K w m ys → Reps K w (l ++ m) (xs ++ ys)
  | [], m, xs, ys, h, g => by cases (show xs = [] from h); exact g
  | d :: ds, m, xs, ys, h, g => by
    obtain ⟨v, vs, e1, r, q⟩ := h
    subst e1
    exact ⟨v, vs ++ ys, rfl, r, Reps.app q g⟩
theorem Reps.take {w : Wd} : ∀ {l : List D} {xs : List V} (n : Nat), Reps K w l xs → Reps K w (l.take n) (xs.take n)
  | l, xs, 0, h => by rw [List.take_zero, List.take_zero]; rfl
  | [], xs, n + 1, h => by cases (show xs = [] from h); rfl
  | d :: ds, xs, n + 1, h => by
    obtain ⟨v, vs, e1, r, q⟩ := h
    subst e1
    exact ⟨v, vs.take n, rfl, r, Reps.take n q⟩
theorem Reps.drop {w : Wd} : ∀ {l : List D} {xs : List V} (n : Nat), Reps K w l xs → Reps K w (l.drop n) (xs.drop n)
  | l, xs, 0, h => h
  | [], xs, n + 1, h => by cases (show xs = [] from h); rfl
  | d :: ds, xs, n + 1, h => by
    obtain ⟨v, vs, e1, r, q⟩ := h
    subst e1
    exact Reps.drop (l := ds) n q
theorem Reps.set {w : Wd} {d' : D} {v' : V} (r' : Rep K w d' v') : ∀ {l : List D} {xs : List V} (n : Nat), Reps K w l xs → Reps K w (l.set n d') (xs.set n v')
  | [], xs, n, h => by cases (show xs = [] from h); rfl
  | d :: ds, xs, 0, h => by
    obtain ⟨v, vs, e1, r, q⟩ := h
    subst e1
    exact ⟨v', vs, rfl, r', q⟩
  | d :: ds, xs, n + 1, h => by
    obtain ⟨v, vs, e1, r, q⟩ := h
    subst e1
    exact ⟨v, vs.set n v', rfl, r, Reps.set r' n q⟩
theorem Reps.ints {w : Wd} : ∀ (ns : List Int), Reps K w (ns.map D.int) (ns.map V.int)
  | [] => rfl
  | n :: ns => ⟨_, _, rfl, rfl, Reps.ints ns⟩
theorem Reps.strs_eq {w : Wd} : ∀ {ns : List Str} {xs : List V}, Reps K w (ns.map D.str) xs → xs = ns.map V.str
  | [], xs, h => h
  | n :: ns, xs, h => by
    obtain ⟨v, vs, e1, r, q⟩ := h
    subst e1
    cases (show v = V.str n from r)
    rw [Reps.strs_eq (ns := ns) q]
    rfl
theorem nrs_app (l m : List D) : nrs (l ++ m) = (nrs l && nrs m) := by
  induction l with
  | nil => rfl
  | cons d l ih =>
    show (nr d && nrs (l ++ m)) = ((nr d && nrs l) && nrs m)
    rw [ih, Bool.and_assoc]
theorem nrs_all (l : List D) : nrs l = l.all nr := by
  induction l with
  | nil => rfl
  | cons d l ih =>
    show (nr d && nrs l) = (nr d && l.all nr)
    rw [ih]

/-! ### worlds that grow -/
noncomputable def Wd.new (w : Wd) (a : Addr) (o : HO) : Wd := ⟨w.p, fun b => w.F b ∨ b = a, w.G, upd w.H a o⟩
noncomputable def Wd.live (w : Wd) (a : Addr) (o : HO) : Wd := ⟨w.p ++ [a], w.F, w.G, upd w.H a o⟩
noncomputable def Wd.put (w : Wd) (a : Addr) (o : HO) : Wd := ⟨w.p, w.F, w.G, upd w.H a o⟩
/-- a is watched: nobody else may touch it -/
noncomputable def Wd.hold (w : Wd) (a : Addr) (o : HO) : Wd := ⟨w.p, w.F, fun b => w.G b ∨ b = a, upd w.H a o⟩
variable {K}
theorem Sim.fresh {w : Wd} {cs : List D} {a : Addr} (s : Sim K w cs) (h : w.H a = none) : ¬ w.F a ∧ (∀ i : Nat, w.p[i]? ≠ some a) ∧ ¬ w.G a := by
  refine ⟨fun f => ?_, fun i e => ?_, fun g => ?_⟩
  · obtain ⟨o, ho⟩ := s.trk a f
    rw [h] at ho
    cases ho
  · have hi : i < cs.length := by
      rw [← s.len]
      exact (List.getElem?_eq_some_iff.mp e).1
    obtain ⟨_, ⟨o, ho⟩, _⟩ := s.cell i a cs[i] e (List.getElem?_eq_getElem hi)
    rw [h] at ho
    cases ho
  · obtain ⟨_, ⟨o, ho⟩, _⟩ := s.gtr a g
    rw [h] at ho
    cases ho
theorem Sim.le_new {w : Wd} {cs : List D} {a : Addr} {o : HO} (s : Sim K w cs) (h : w.H a = none) : Le w (w.new a o) := by
  refine ⟨fun _ _ h => h, fun b f => .inl f, fun b f => ?_, fun b g => ⟨g, ?_⟩⟩
  · exact upd_ne fun e => (s.fresh h).1 (e ▸ f)
  · exact upd_ne fun e => (s.fresh h).2.2 (e ▸ g)
theorem Sim.le_live {w : Wd} {cs : List D} {a : Addr} {o : HO} (s : Sim K w cs) (h : w.H a = none) : Le w (w.live a o) := by
  refine ⟨fun i b h => ?_, fun b f => f, fun b f => ?_, fun b g => ⟨g, upd_ne fun e => (s.fresh h).2.2 (e ▸ g)⟩⟩
  · show (w.p ++ [a])[i]? = some b
    rw [List.getElem?_append_left (List.getElem?_eq_some_iff.mp h).1]
    exact h
  · exact upd_ne fun e => (s.fresh h).1 (e ▸ f)
theorem Sim.le_put {w : Wd} {cs : List D} {a : Addr} {o : HO} {i : Nat} {d : D} (s : Sim K w cs) (h : w.p[i]? = some a) (hd : cs[i]? = some d) (ht : isTomb d = false := by rfl) : Le w (w.put a o) := by
  refine ⟨fun _ _ h => h, fun b f => f, fun b f => ?_, fun b g => ⟨g, upd_ne fun e => (s.gtr b g).2.2 i (e ▸ h)⟩⟩
  exact upd_ne fun e => (s.cell i a d h hd).1 ht (e ▸ f)
theorem Sim.le_hold {w : Wd} {cs : List D} {a : Addr} {o : HO} (s : Sim K w cs) (h : w.H a = none) : Le w (w.hold a o) :=
  ⟨fun _ _ h => h, fun b f => f, fun b f => upd_ne fun e => (s.fresh h).1 (e ▸ f), fun b g => ⟨.inl g, upd_ne fun e => (s.fresh h).2.2 (e ▸ g)⟩⟩
theorem ORep.mono {w w' : Wd} {a : Addr} (e : Le w w') (hk : w'.H a = w.H a) : ∀ d : D, ORep K w a d → ORep K w' a d
  | .lst l, ⟨xs, h, r⟩ => ⟨xs, hk.trans h, Reps.mono K e _ _ r⟩
  | .dct ks l, ⟨xs, h, q, r⟩ => ⟨xs, hk.trans h, q, Reps.mono K e _ _ r⟩
  | .ins C ns l, ⟨dx, xs, h, q, r⟩ => ⟨dx, xs, hk.trans h, q, Reps.mono K e _ _ r⟩
  | .non, ⟨o, h⟩ => ⟨o, hk.trans h⟩
  | .bl _, ⟨o, h⟩ => ⟨o, hk.trans h⟩
  | .int _, ⟨o, h⟩ => ⟨o, hk.trans h⟩
  | .str _, ⟨o, h⟩ => ⟨o, hk.trans h⟩
  | .ty _, ⟨o, h⟩ => ⟨o, hk.trans h⟩
  | .rf _, ⟨o, h⟩ => ⟨o, hk.trans h⟩
  | .wl _, ⟨o, h⟩ => ⟨o, hk.trans h⟩
  | .tup _, ⟨o, h⟩ => ⟨o, hk.trans h⟩
  | .exn _ _ _ _, ⟨o, h⟩ => ⟨o, hk.trans h⟩
  | .ref _, ⟨o, h⟩ => ⟨o, hk.trans h⟩
  | .xob _ _ _, ⟨o, h⟩ => ⟨o, hk.trans h⟩
theorem Sim.new {w : Wd} {cs : List D} {a : Addr} {o : HO} (s : Sim K w cs) (h : w.H a = none) : Sim K (w.new a o) cs := by
  have le := s.le_new (o := o) h
  refine ⟨s.len, s.nd, fun b f => ?_, fun b g => ?_, fun i b d hi hd => ?_⟩
  · rcases f with f | f
    · obtain ⟨u, hu⟩ := s.trk b f
      exact ⟨u, (le.keep b f).trans hu⟩
    · exact ⟨o, by rw [f]; exact upd_same⟩
  · obtain ⟨g1, ⟨u, g2⟩, g3⟩ := s.gtr b g
    have ne : b ≠ a := fun e => (s.fresh h).2.2 (e ▸ g)
    exact ⟨fun f => f.elim g1 ne, ⟨u, (upd_ne ne).trans g2⟩, g3⟩
  · obtain ⟨c1, c2, c3, c4⟩ := s.cell i b d hi hd
    have ne : b ≠ a := fun e => (s.fresh h).2.1 i (e ▸ hi)
    have hk : (w.new a o).H b = w.H b := upd_ne ne
    refine ⟨fun t f => ?_, ?_, c3.mono le hk, c4⟩
    · rcases f with f | f
      · exact c1 t f
      · exact ne f
    · rw [hk]
      exact c2
theorem Sim.live {w : Wd} {cs : List D} {a : Addr} {o : HO} {d : D} (s : Sim K w cs) (h : w.H a = none) (hn : nr d = true) (hr : ORep K (w.live a o) a d) : Sim K (w.live a o) (cs ++ [d]) := by
  have le := s.le_live (o := o) h
  refine ⟨?_, fun i j b hi hj => ?_, fun b f => ?_, fun b g => ?_, fun i b d' hi hd => ?_⟩
  · show (w.p ++ [a]).length = (cs ++ [d]).length
    rw [List.length_append, List.length_append, s.len]
    rfl
  · have hi' : (w.p ++ [a])[i]? = some b := hi
    have hj' : (w.p ++ [a])[j]? = some b := hj
    have li := (List.getElem?_eq_some_iff.mp hi').1
    have lj := (List.getElem?_eq_some_iff.mp hj').1
    rw [List.length_append] at li lj
    by_cases i1 : i < w.p.length
    · rw [List.getElem?_append_left i1] at hi'
      by_cases j1 : j < w.p.length
      · rw [List.getElem?_append_left j1] at hj'
        exact s.nd i j b hi' hj'
      · rw [List.getElem?_append_right (by omega)] at hj'
        have e : j - w.p.length = 0 := by simp at lj; omega
        rw [e] at hj'
        have e2 : a = b := Option.some.inj hj'
        exact absurd (e2 ▸ hi') ((s.fresh h).2.1 i)
    · rw [List.getElem?_append_right (by omega)] at hi'
      have e : i - w.p.length = 0 := by simp at li; omega
      rw [e] at hi'
      have e2 : a = b := Option.some.inj hi'
      by_cases j1 : j < w.p.length
      · rw [List.getElem?_append_left j1] at hj'
        exact absurd (e2 ▸ hj') ((s.fresh h).2.1 j)
      · simp at li lj
        omega
  · obtain ⟨u, hu⟩ := s.trk b f
    exact ⟨u, (le.keep b f).trans hu⟩
  · obtain ⟨g1, ⟨u, g2⟩, g3⟩ := s.gtr b g
    have ne : b ≠ a := fun e => (s.fresh h).2.2 (e ▸ g)
    refine ⟨g1, ⟨u, (upd_ne ne).trans g2⟩, fun i hi => ?_⟩
    have hi' : (w.p ++ [a])[i]? = some b := hi
    by_cases i1 : i < w.p.length
    · rw [List.getElem?_append_left i1] at hi'
      exact g3 i hi'
    · have li := (List.getElem?_eq_some_iff.mp hi').1
      rw [List.length_append] at li
      simp at li
      have ei : i = w.p.length := by omega
      subst ei
      rw [List.getElem?_append_right (Nat.le_refl _), Nat.sub_self] at hi'
      exact ne (Option.some.inj hi').symm
  · have hi' : (w.p ++ [a])[i]? = some b := hi
    by_cases i1 : i < w.p.length
    · rw [List.getElem?_append_left i1] at hi'
      rw [List.getElem?_append_left (by rw [← s.len]; exact i1)] at hd
      obtain ⟨c1, c2, c3, c4⟩ := s.cell i b d' hi' hd
      have ne : b ≠ a := fun e => (s.fresh h).2.1 i (e ▸ hi')
      have hk : (w.live a o).H b = w.H b := upd_ne ne
      exact ⟨c1, by rw [hk]; exact c2, c3.mono le hk, c4⟩
    · have li := (List.getElem?_eq_some_iff.mp hi').1
      rw [List.length_append] at li
      simp at li
      have ei : i = w.p.length := by omega
      subst ei
      rw [List.getElem?_append_right (Nat.le_refl _), Nat.sub_self] at hi'
      rw [List.getElem?_append_right (by rw [s.len]; exact Nat.le_refl _), s.len, Nat.sub_self] at hd
      have e1 : a = b := Option.some.inj hi'
      have e2 : d = d' := Option.some.inj hd
      subst e1 e2
      exact ⟨fun _ => (s.fresh h).1, ⟨o, upd_same⟩, hr, hn⟩
theorem Sim.put {w : Wd} {cs : List D} {a : Addr} {o : HO} {i : Nat} {d0 d : D} (s : Sim K w cs) (hi : w.p[i]? = some a) (hd0 : cs[i]? = some d0) (hn : nr d = true) (hr : ORep K (w.put a o) a d) (ht : isTomb d0 = false := by rfl) : Sim K (w.put a o) (cs.set i d) := by
  have le := s.le_put (o := o) hi hd0 ht
  refine ⟨by rw [List.length_set]; exact s.len, s.nd, fun b f => ?_, fun b g => ?_, fun j b d' hj hd => ?_⟩
  · obtain ⟨u, hu⟩ := s.trk b f
    exact ⟨u, (le.keep b f).trans hu⟩
  · obtain ⟨g1, ⟨u, g2⟩, g3⟩ := s.gtr b g
    exact ⟨g1, ⟨u, (upd_ne (show b ≠ a from fun e => g3 i (by rw [e]; exact hi))).trans g2⟩, g3⟩
  · have hj' : w.p[j]? = some b := hj
    by_cases e : i = j
    · subst e
      have e1 : a = b := Option.some.inj (hi.symm.trans hj')
      subst e1
      rw [List.getElem?_set_self (List.getElem?_eq_some_iff.mp hd0).1] at hd
      have e2 : d = d' := Option.some.inj hd
      subst e2
      exact ⟨fun _ => (s.cell i a d0 hi hd0).1 ht, ⟨o, upd_same⟩, hr, hn⟩
    · rw [List.getElem?_set_ne e] at hd
      obtain ⟨c1, c2, c3, c4⟩ := s.cell j b d' hj' hd
      have ne : b ≠ a := fun z => e (s.nd i j a hi (z ▸ hj'))
      have hk : (w.put a o).H b = w.H b := upd_ne ne
      exact ⟨c1, by rw [hk]; exact c2, c3.mono le hk, c4⟩
theorem Sim.hold {w : Wd} {cs : List D} {a : Addr} {o : HO} (s : Sim K w cs) (h : w.H a = none) : Sim K (w.hold a o) cs := by
  have le := s.le_hold (o := o) h
  refine ⟨s.len, s.nd, fun b f => ?_, fun b g => ?_, fun i b d hi hd => ?_⟩
  · obtain ⟨u, hu⟩ := s.trk b f
    exact ⟨u, (le.keep b f).trans hu⟩
  · rcases g with g | g
    · obtain ⟨g1, ⟨u, g2⟩, g3⟩ := s.gtr b g
      have ne : b ≠ a := fun e => (s.fresh h).2.2 (e ▸ g)
      exact ⟨g1, ⟨u, (upd_ne ne).trans g2⟩, g3⟩
    · subst g
      exact ⟨(s.fresh h).1, ⟨o, upd_same⟩, (s.fresh h).2.1⟩
  · obtain ⟨c1, c2, c3, c4⟩ := s.cell i b d hi hd
    have ne : b ≠ a := fun e => (s.fresh h).2.1 i (e ▸ hi)
    have hk : (w.hold a o).H b = w.H b := upd_ne ne
    exact ⟨c1, by rw [hk]; exact c2, c3.mono le hk, c4⟩
/-- the watched thing changes -/
noncomputable def Wd.turn (w : Wd) (a : Addr) (o : HO) : Wd := ⟨w.p, w.F, w.G, upd w.H a o⟩
/-- what is watched in w but for a, in the world w' -/
structure LeB (a : Addr) (w w' : Wd) : Prop where
  pre : ∀ (i : Nat) (b : Addr), w.p[i]? = some b → w'.p[i]? = some b
  fr : ∀ b, w.F b → w'.F b
  keep : ∀ b, w.F b → w'.H b = w.H b
  gd : ∀ b, w.G b → b ≠ a → w'.G b ∧ w'.H b = w.H b
theorem Le.b {w w' : Wd} (e : Le w w') (a : Addr) : LeB a w w' := ⟨e.pre, e.fr, e.keep, fun b g _ => e.gd b g⟩
theorem LeB.trans {x : Addr} {a b c : Wd} (e : LeB x a b) (f : LeB x b c) : LeB x a c :=
  ⟨fun i u h => f.pre i u (e.pre i u h), fun u h => f.fr u (e.fr u h), fun u h => (f.keep u (e.fr u h)).trans (e.keep u h),
    fun u h n => ⟨(f.gd u (e.gd u h n).1 n).1, (f.gd u (e.gd u h n).1 n).2.trans (e.gd u h n).2⟩⟩
theorem Sim.turnB {w : Wd} {cs : List D} {a : Addr} {o : HO} (s : Sim K w cs) (g : w.G a) : LeB a w (w.turn a o) :=
  ⟨fun _ _ h => h, fun _ h => h, fun b f => upd_ne fun e => (s.gtr a g).1 (e ▸ f), fun b g' n => ⟨g', upd_ne n⟩⟩
theorem Sim.turn {w : Wd} {cs : List D} {a : Addr} {o : HO} (s : Sim K w cs) (g : w.G a) : Sim K (w.turn a o) cs := by
  have le := s.turnB (o := o) g
  have hp : ∀ b, w.F b → (w.turn a o).F b := fun _ h => h
  refine ⟨s.len, s.nd, fun b f => ?_, fun b g' => ?_, fun i b d hi hd => ?_⟩
  · obtain ⟨u, hu⟩ := s.trk b f
    exact ⟨u, (le.keep b f).trans hu⟩
  · obtain ⟨g1, ⟨u, g2⟩, g3⟩ := s.gtr b g'
    by_cases e : b = a
    · subst e
      exact ⟨g1, ⟨o, upd_same⟩, g3⟩
    · exact ⟨g1, ⟨u, (upd_ne e).trans g2⟩, g3⟩
  · obtain ⟨c1, c2, c3, c4⟩ := s.cell i b d hi hd
    have ne : b ≠ a := fun e => (s.gtr a g).2.2 i (e ▸ hi)
    have hk : (w.turn a o).H b = w.H b := upd_ne ne
    refine ⟨c1, by rw [hk]; exact c2, ?_, c4⟩
    cases d with
    | lst l => obtain ⟨xs, h, r⟩ := c3; exact ⟨xs, hk.trans h, Reps.nr K hp le.keep _ _ c4 r⟩
    | dct ks l => obtain ⟨xs, h, q, r⟩ := c3; exact ⟨xs, hk.trans h, q, Reps.nr K hp le.keep _ _ c4 r⟩
    | ins C ns l => obtain ⟨dx, xs, h, q, r⟩ := c3; exact ⟨dx, xs, hk.trans h, q, Reps.nr K hp le.keep _ _ c4 r⟩
    | _ => obtain ⟨u, h⟩ := c3; exact ⟨u, hk.trans h⟩
theorem Rep.b {w w' : Wd} {a : Addr} (e : LeB a w w') (d : D) (v : V) (h : Rep K w d v) : Rep K w' d v := by
  have e2 : Le ⟨w.p, w.F, fun _ => False, w.H⟩ ⟨w'.p, w'.F, fun _ => False, w'.H⟩ := ⟨e.pre, e.fr, e.keep, fun _ g => g.elim⟩
  exact Rep.g K (w := ⟨w'.p, w'.F, fun _ => False, w'.H⟩) (w' := w') rfl rfl rfl d v (Rep.mono K e2 d v (Rep.g K (w := w) (w' := ⟨w.p, w.F, fun _ => False, w.H⟩) rfl rfl rfl d v h))
theorem Reps.b {w w' : Wd} {a : Addr} (e : LeB a w w') (d : List D) (v : List V) (h : Reps K w d v) : Reps K w' d v := by
  have e2 : Le ⟨w.p, w.F, fun _ => False, w.H⟩ ⟨w'.p, w'.F, fun _ => False, w'.H⟩ := ⟨e.pre, e.fr, e.keep, fun _ g => g.elim⟩
  exact Reps.g K (w := ⟨w'.p, w'.F, fun _ => False, w'.H⟩) (w' := w') rfl rfl rfl d v (Reps.mono K e2 d v (Reps.g K (w := w) (w' := ⟨w.p, w.F, fun _ => False, w.H⟩) rfl rfl rfl d v h))
/-- the watched thing settles -/
noncomputable def Wd.settle (w : Wd) (a : Addr) : Wd := ⟨w.p, fun b => w.F b ∨ b = a, fun b => w.G b ∧ b ≠ a, w.H⟩
theorem Wd.settleB (w : Wd) (a : Addr) : LeB a w (w.settle a) := ⟨fun _ _ h => h, fun _ h => .inl h, fun _ _ => rfl, fun b g n => ⟨⟨g, n⟩, rfl⟩⟩
theorem Sim.settle {w : Wd} {cs : List D} {a : Addr} (s : Sim K w cs) (g : w.G a) : Sim K (w.settle a) cs := by
  refine ⟨s.len, s.nd, fun b f => ?_, fun b g' => ?_, fun i b d hi hd => ?_⟩
  · rcases f with f | f
    · exact s.trk b f
    · rw [f]
      exact (s.gtr a g).2.1
  · obtain ⟨g1, g2, g3⟩ := s.gtr b g'.1
    exact ⟨fun f => f.elim g1 g'.2, g2, g3⟩
  · obtain ⟨c1, c2, c3, c4⟩ := s.cell i b d hi hd
    refine ⟨fun t f => f.elim (c1 t) fun e => (s.gtr a g).2.2 i (e ▸ hi), c2, ?_, c4⟩
    have hp : ∀ b, w.F b → (w.settle a).F b := fun _ h => .inl h
    have hk : ∀ b, w.F b → (w.settle a).H b = w.H b := fun _ _ => rfl
    cases d with
    | lst l => obtain ⟨xs, h, r⟩ := c3; exact ⟨xs, h, Reps.nr K hp hk _ _ c4 r⟩
    | dct ks l => obtain ⟨xs, h, q, r⟩ := c3; exact ⟨xs, h, q, Reps.nr K hp hk _ _ c4 r⟩
    | ins C ns l => obtain ⟨dx, xs, h, q, r⟩ := c3; exact ⟨dx, xs, h, q, Reps.nr K hp hk _ _ c4 r⟩
    | _ => obtain ⟨u, h⟩ := c3; exact ⟨u, h⟩
/-- the watched thing becomes a cell -/
noncomputable def Wd.adopt (w : Wd) (a : Addr) : Wd := ⟨w.p ++ [a], w.F, fun b => w.G b ∧ b ≠ a, w.H⟩
theorem Sim.adopt {w : Wd} {cs : List D} {a : Addr} {d : D} (s : Sim K w cs) (g : w.G a) (hn : nr d = true) (hr : ORep K w a d) : Sim K (w.adopt a) (cs ++ [d]) := by
  have hp : ∀ b, w.F b → (w.adopt a).F b := fun _ h => h
  have hk : ∀ b, w.F b → (w.adopt a).H b = w.H b := fun _ _ => rfl
  have tr : ∀ (b : Addr) (d : D), nr d = true → ORep K w b d → ORep K (w.adopt a) b d := fun b d c4 c3 => by
    cases d with
    | lst l => obtain ⟨xs, h, r⟩ := c3; exact ⟨xs, h, Reps.nr K hp hk _ _ c4 r⟩
    | dct ks l => obtain ⟨xs, h, q, r⟩ := c3; exact ⟨xs, h, q, Reps.nr K hp hk _ _ c4 r⟩
    | ins C ns l => obtain ⟨dx, xs, h, q, r⟩ := c3; exact ⟨dx, xs, h, q, Reps.nr K hp hk _ _ c4 r⟩
    | _ => obtain ⟨u, h⟩ := c3; exact ⟨u, h⟩
  refine ⟨?_, fun i j b hi hj => ?_, fun b f => s.trk b f, fun b g' => ?_, fun i b d' hi hd => ?_⟩
  · show (w.p ++ [a]).length = (cs ++ [d]).length
    rw [List.length_append, List.length_append, s.len]
    rfl
  · have hi' : (w.p ++ [a])[i]? = some b := hi
    have hj' : (w.p ++ [a])[j]? = some b := hj
    have li := (List.getElem?_eq_some_iff.mp hi').1
    have lj := (List.getElem?_eq_some_iff.mp hj').1
    rw [List.length_append] at li lj
    simp at li lj
    by_cases i1 : i < w.p.length
    · rw [List.getElem?_append_left i1] at hi'
      by_cases j1 : j < w.p.length
      · rw [List.getElem?_append_left j1] at hj'
        exact s.nd i j b hi' hj'
      · have e : j = w.p.length := by omega
        subst e
        rw [List.getElem?_append_right (Nat.le_refl _), Nat.sub_self] at hj'
        have e2 : a = b := Option.some.inj hj'
        subst e2
        exact absurd hi' ((s.gtr a g).2.2 i)
    · have e : i = w.p.length := by omega
      subst e
      rw [List.getElem?_append_right (Nat.le_refl _), Nat.sub_self] at hi'
      have e2 : a = b := Option.some.inj hi'
      subst e2
      by_cases j1 : j < w.p.length
      · rw [List.getElem?_append_left j1] at hj'
        exact absurd hj' ((s.gtr a g).2.2 j)
      · omega
  · obtain ⟨g1, g2, g3⟩ := s.gtr b g'.1
    refine ⟨g1, g2, fun i hi => ?_⟩
    have hi' : (w.p ++ [a])[i]? = some b := hi
    have li := (List.getElem?_eq_some_iff.mp hi').1
    rw [List.length_append] at li
    simp at li
    by_cases i1 : i < w.p.length
    · rw [List.getElem?_append_left i1] at hi'
      exact g3 i hi'
    · have e : i = w.p.length := by omega
      subst e
      rw [List.getElem?_append_right (Nat.le_refl _), Nat.sub_self] at hi'
      exact g'.2 (Option.some.inj hi').symm
  · have hi' : (w.p ++ [a])[i]? = some b := hi
    have li := (List.getElem?_eq_some_iff.mp hi').1
    rw [List.length_append] at li
    simp at li
    by_cases i1 : i < w.p.length
    · rw [List.getElem?_append_left i1] at hi'
      rw [List.getElem?_append_left (by rw [← s.len]; exact i1)] at hd
      obtain ⟨c1, c2, c3, c4⟩ := s.cell i b d' hi' hd
      exact ⟨c1, c2, tr b d' c4 c3, c4⟩
    · have e : i = w.p.length := by omega
      subst e
      rw [List.getElem?_append_right (Nat.le_refl _), Nat.sub_self] at hi'
      rw [List.getElem?_append_right (by rw [s.len]; exact Nat.le_refl _), s.len, Nat.sub_self] at hd
      have e1 : a = b := Option.some.inj hi'
      have e2 : d = d' := Option.some.inj hd
      subst e1 e2
      exact ⟨fun _ => (s.gtr a g).1, (s.gtr a g).2.1, tr a d hn hr, hn⟩
/-- what data lean on alone -/
structure Lx (w w' : Wd) : Prop where
  pre : ∀ (i : Nat) (b : Addr), w.p[i]? = some b → w'.p[i]? = some b
  fr : ∀ b, w.F b → w'.F b
  keep : ∀ b, w.F b → w'.H b = w.H b
theorem Le.x {w w' : Wd} (e : Le w w') : Lx w w' := ⟨e.pre, e.fr, e.keep⟩
theorem LeB.x {w w' : Wd} {a : Addr} (e : LeB a w w') : Lx w w' := ⟨e.pre, e.fr, e.keep⟩
theorem Lx.trans {a b c : Wd} (e : Lx a b) (f : Lx b c) : Lx a c :=
  ⟨fun i u h => f.pre i u (e.pre i u h), fun u h => f.fr u (e.fr u h), fun u h => (f.keep u (e.fr u h)).trans (e.keep u h)⟩
theorem Rep.x {w w' : Wd} (e : Lx w w') (d : D) (v : V) (h : Rep K w d v) : Rep K w' d v := by
  have e2 : Le ⟨w.p, w.F, fun _ => False, w.H⟩ ⟨w'.p, w'.F, fun _ => False, w'.H⟩ := ⟨e.pre, e.fr, e.keep, fun _ g => g.elim⟩
  exact Rep.g K (w := ⟨w'.p, w'.F, fun _ => False, w'.H⟩) (w' := w') rfl rfl rfl d v (Rep.mono K e2 d v (Rep.g K (w := w) (w' := ⟨w.p, w.F, fun _ => False, w.H⟩) rfl rfl rfl d v h))
theorem Lx.sql {w w' : Wd} {a : Addr} {xs : List V} (e : Lx w w') (f : w.F a) (h : SqL K w.H a xs) : SqL K w'.H a xs := by
  rcases h with h | h
  · refine .inl ?_
    unfold Rd
    rw [e.keep a f]
    exact h
  · exact .inr h
end Wf
set_option Elab.async false
set_option linter.all false
set_option maxRecDepth 100000
/-! Readings by mirrors. -/
namespace Wf
open PySem PySem.Spec PyProof.Rows L2

inductive R (α : Type) where
  | ok (a : α) (cs : List D)
  | err (x : D) (r : List (Option D)) (cs : List D)
  | bad
noncomputable def R.bind {α β : Type} (r : R α) (k : α → List D → R β) : R β := match r with
  | .ok a cs => k a cs
  | .err x r cs => .err x r cs
  | .bad => .bad
@[simp] theorem R.bind_ok {α β : Type} (a : α) (cs : List D) (k : α → List D → R β) : (R.ok a cs).bind k = k a cs := (rfl)
@[simp] theorem R.bind_err {α β : Type} (x : D) (r : List (Option D)) (cs : List D) (k : α → List D → R β) : (R.err x r cs).bind k = .err x r cs := (rfl)
@[simp] theorem R.bind_bad {α β : Type} (k : α → List D → R β) : (R.bad : R α).bind k = .bad := (rfl)
abbrev Env := List (Option D)
abbrev M := Env → List D → R D
abbrev MT := Env → List D → R Bool
abbrev ML := Env → List D → R (List D)
inductive Fl where
  | nx (e : Env) | ret (d : D) | brk (e : Env) | ct (e : Env)
abbrev MS := Env → List D → R Fl
abbrev Fn := List D → List D → R D

section
variable (K : PySem.W.Frag)
noncomputable def XRep (w : Wd) (x : D) (c : Value) (od : Option Addr) : Prop := match x with
  | .ins C ns l => c = .ref C ∧ ((ns = [] ∧ l = [] ∧ od = none) ∨ ∃ d xs, od = some d ∧ w.F d ∧ w.H d = some (.xd (ns.zip xs)) ∧ ns.length = xs.length ∧ Reps K w l xs)
  | .ty n => c = .type n ∧ od = none
  | _ => False
abbrev EE := Env → Wd → Value → Option Addr → Prop
noncomputable def After (E : EE) (w : Wd) {α : Type} (r : R α) (P : α → List D → Wd → Prop) : Prop := match r with
  | .ok a cs => ∀ w', Le w w' → Sim K w' cs → P a cs w'
  | .err x r cs => ∀ w' c od, Le w w' → Sim K w' cs → XRep K w' x c od → E r w' c od
  | .bad => False
structure EnvR (w : Wd) (r : Env) (σ : L2.St) : Prop where
  len : σ.length = r.length
  at_ : ∀ (i : Nat) (d : D), r[i]? = some (some d) → ∃ v, σ[i]? = some (some v) ∧ Rep K w d v
end
section
variable {K : PySem.W.Frag} {E : EE} {w w' : Wd} {α β : Type}
theorem After.mono {r : R α} {P : α → List D → Wd → Prop} (e : Le w w') (h : After K E w r P) : After K E w' r P := by
  cases r with
  | ok a cs => exact fun w2 l s => h w2 (e.trans l) s
  | err x r cs => exact fun w2 c od l s x => h w2 c od (e.trans l) s x
  | bad => exact h
theorem After.imp {r : R α} {P P' : α → List D → Wd → Prop} (h : After K E w r P) (k : ∀ a cs w', Le w w' → Sim K w' cs → P a cs w' → P' a cs w') : After K E w r P' := by
  cases r with
  | ok a cs => exact fun w2 l s => k a cs w2 l s (h w2 l s)
  | err x r cs => exact h
  | bad => exact h
theorem After.bind {r : R α} {k : α → List D → R β} {P : β → List D → Wd → Prop} (h : After K E w (r.bind k) P) : After K E w r (fun a cs w' => After K E w' (k a cs) P) := by
  cases r with
  | ok a cs => exact fun w2 l s => After.mono l h
  | err x r cs => exact h
  | bad => exact h
theorem EnvR.mono {r : Env} {σ : L2.St} (e : Le w w') (h : EnvR K w r σ) : EnvR K w' r σ :=
  ⟨h.len, fun i d q => let ⟨v, a, b⟩ := h.at_ i d q; ⟨v, a, Rep.mono K e d v b⟩⟩
theorem EnvR.b {a : Addr} {r : Env} {σ : L2.St} (e : LeB a w w') (h : EnvR K w r σ) : EnvR K w' r σ :=
  ⟨h.len, fun i d q => let ⟨v, x, b⟩ := h.at_ i d q; ⟨v, x, Rep.b e d v b⟩⟩
theorem EnvR.set {r : Env} {σ : L2.St} {d : D} {v : V} (i : Nat) (h : EnvR K w r σ) (q : Rep K w d v) : EnvR K w (r.set i (some d)) (σ.set i (some v)) := by
  refine ⟨by rw [List.length_set, List.length_set]; exact h.len, fun j d' e => ?_⟩
  by_cases hj : i = j
  · subst hj
    have hl : i < r.length := by
      have z := (List.getElem?_eq_some_iff.mp e).1
      rw [List.length_set] at z
      exact z
    rw [List.getElem?_set_self hl] at e
    have e2 : d = d' := Option.some.inj (Option.some.inj e)
    subst e2
    exact ⟨v, List.getElem?_set_self (by rw [h.len]; exact hl), q⟩
  · rw [List.getElem?_set_ne hj] at e
    obtain ⟨u, a, b⟩ := h.at_ j d' e
    exact ⟨u, by rw [List.getElem?_set_ne hj]; exact a, b⟩
/-- a name's value is forgotten -/
theorem EnvR.unset {r : Env} {σ : L2.St} (i : Nat) (h : EnvR K w r σ) (o : Option V) : EnvR K w (r.set i none) (σ.set i o) := by
  refine ⟨by rw [List.length_set, List.length_set]; exact h.len, fun j d' e => ?_⟩
  by_cases hj : i = j
  · subst hj
    have hl : i < r.length := by
      have z := (List.getElem?_eq_some_iff.mp e).1
      rw [List.length_set] at z
      exact z
    rw [List.getElem?_set_self hl] at e
    cases e
  · rw [List.getElem?_set_ne hj] at e
    obtain ⟨u, a, b⟩ := h.at_ j d' e
    exact ⟨u, by rw [List.getElem?_set_ne hj]; exact a, b⟩
end

/-! ### readings -/
section
variable (K : PySem.W.Frag) (W : WX)
/-- what is wished of an exception, at an env -/
noncomputable def EW : EE := fun r w' c od => ∀ σ', EnvR K w' r σ' → W c od σ' w'.H
noncomputable def tE (m : M) : TE := fun σ H Q => ∃ w r cs, w.H = H ∧ Sim K w cs ∧ EnvR K w r σ ∧ After K (EW K W) w (m r cs) (fun d _ w' => ∀ v, Rep K w' d v → Q v w'.H)
noncomputable def tT (m : MT) : TT := fun σ H Q => ∃ w r cs, w.H = H ∧ Sim K w cs ∧ EnvR K w r σ ∧ After K (EW K W) w (m r cs) (fun b _ w' => Q b w'.H)
noncomputable def tA (m : ML) : TA := fun σ H Q => ∃ w r cs, w.H = H ∧ Sim K w cs ∧ EnvR K w r σ ∧ After K (EW K W) w (m r cs) (fun ds _ w' => ∀ vs, Reps K w' ds vs → Q vs w'.H)
noncomputable def FlP (D : Ends) (fl : Fl) (w' : Wd) : Prop := match fl with
  | .nx r => ∀ σ', EnvR K w' r σ' → D.nx σ' w'.H
  | .brk r => ∀ σ', EnvR K w' r σ' → D.bk σ' w'.H
  | .ct r => ∀ σ', EnvR K w' r σ' → D.ct σ' w'.H
  | .ret d => ∀ v, Rep K w' d v → D.rt v w'.H
noncomputable def tS (m : MS) : TS := fun D σ H => ∃ w r cs, w.H = H ∧ Sim K w cs ∧ EnvR K w r σ ∧ After K (EW K W) w (m r cs) (fun fl _ w' => FlP K D fl w')
end
abbrev JE (X : Cx) (W : WX) (e : Expr) (m : M) : Prop := PE X e (tE X.K W m)
abbrev JT (X : Cx) (W : WX) (e : Expr) (m : MT) : Prop := PT X e (tT X.K W m)
abbrev JA (X : Cx) (W : WX) (es : List Expr) (m : ML) : Prop := PA X es (tA X.K W m)
abbrev JS (X : Cx) (W : WX) (st : Stmt) (m : MS) : Prop := PS X st (tS X.K W m)
abbrev JB (X : Cx) (W : WX) (st : List Stmt) (m : MS) : Prop := PSs X st (tS X.K W m)
theorem peI {X : Cx} {e : Expr} {t t' : TE} (h : PE X e t) (k : ∀ σ H Q, t' σ H Q → t σ H Q) : PE X e t' := ⟨fun pins s σ H Q I q => h.run pins s σ H Q I (k σ H Q q)⟩
theorem ptI {X : Cx} {e : Expr} {t t' : TT} (h : PT X e t) (k : ∀ σ H Q, t' σ H Q → t σ H Q) : PT X e t' := ⟨fun pins s σ H Q I q => h.run pins s σ H Q I (k σ H Q q)⟩
theorem paI {X : Cx} {e : List Expr} {t t' : TA} (h : PA X e t) (k : ∀ σ H Q, t' σ H Q → t σ H Q) : PA X e t' := ⟨fun pos pins s σ H Q I q => h.run pos pins s σ H Q I (k σ H Q q)⟩
theorem psI {X : Cx} {e : Stmt} {t t' : TS} (h : PS X e t) (k : ∀ D σ H, t' D σ H → t D σ H) : PS X e t' := ⟨fun pins s σ H D I q => h.run pins s σ H D I (k D σ H q)⟩
theorem pssI {X : Cx} {e : List Stmt} {t t' : TS} (h : PSs X e t) (k : ∀ D σ H, t' D σ H → t D σ H) : PSs X e t' := ⟨fun pins s σ H D I q => h.run pins s σ H D I (k D σ H q)⟩

section
variable {X : Cx} {W : WX} {K : PySem.W.Frag}
/-! ### from a reading of m to what it leaves: the one step that all rules share -/
theorem tE.go {m : M} {k : D → List D → R D} {σ : L2.St} {H : Hp} {Q Q' : VK} (h : ∃ w r cs, w.H = H ∧ Sim K w cs ∧ EnvR K w r σ ∧ After K (EW K W) w ((m r cs).bind k) (fun d _ w' => ∀ v, Rep K w' d v → Q v w'.H))
    (q : ∀ w d cs v, Sim K w cs → Rep K w d v → After K (EW K W) w (k d cs) (fun d _ w' => ∀ v, Rep K w' d v → Q v w'.H) → Q' v w.H) : tE K W m σ H Q' := by
  obtain ⟨w, r, cs, e, s, ev, a⟩ := h
  exact ⟨w, r, cs, e, s, ev, (After.bind a).imp fun d cs' w' _ s' a' v rv => q w' d cs' v s' rv a'⟩
/-- a name -/
noncomputable def mV (i : Nat) : M := fun r cs => match r[i]? with
  | some (some d) => .ok d cs
  | _ => .bad
theorem je_v (i : Nat) {x : Str} {pos : Pos} (hN : X.N[i]? = some x := by rfl) (hv : Vis X.env.scope x := by first | exact Or.inl rfl | exact Or.inr (Or.inl rfl) | exact Or.inr (Or.inr rfl)) (hd : (x == ("__debug__" : Str)) = false := by decide)
    (hcd : (x == ("__classdict__" : Str)) = false := by decide) : JE X W (.Name x pos) (mV i) := by
  refine peI (pe_var hN hv hd hcd) fun σ H Q ⟨w, r, cs, e, s, ev, a⟩ => ?_
  unfold mV at a
  split at a
  · rename_i d hd
    obtain ⟨v, h1, h2⟩ := ev.at_ i d hd
    exact ⟨v, h1, e ▸ a w (Le.refl w) s v h2⟩
  · exact a.elim
noncomputable def mC (d : D) : M := fun _ cs => .ok d cs
theorem tC_of {d : D} {v : V} (hr : ∀ w, Rep K w d v) : ∀ σ H Q, tE K W (mC d) σ H Q → tC v σ H Q := fun σ H Q ⟨w, r, cs, e, s, ev, a⟩ => by
  have := a w (Le.refl w) s v (hr w)
  rw [e] at this
  exact this
theorem je_int {i j pos} : JE X W (.Constant (.int i) j pos) (mC (.int i)) := peI pe_int (tC_of fun _ => rfl)
theorem je_bl {b j pos} : JE X W (.Constant (.bool b) j pos) (mC (.bl b)) := peI pe_bl (tC_of fun _ => rfl)
theorem je_non {j pos} : JE X W (.Constant .none j pos) (mC .non) := peI pe_non (tC_of fun _ => rfl)
theorem je_str {x j pos} : JE X W (.Constant (.str x) j pos) (mC (.str x)) := peI pe_str (tC_of fun _ => rfl)
theorem je_glob {x : Str} {a : Addr} {pos : Pos} (hg : Gl X x) (hm : X.mg x = some (.ref a)) (hd : (x == ("__debug__" : Str)) = false := by decide) : JE X W (.Name x pos) (mC (.rf a)) :=
  peI (pe_glob (v := .ref a) hg hm rfl hd) (tC_of fun _ => rfl)
theorem je_ty {x : Str} {n : String} {pos : Pos} (hg : Gl X x) (hm : X.mg x = none) (hv : bootBuiltins x = some (.type n)) (hn : x ≠ "__name__" := by decide) (hd : (x == ("__debug__" : Str)) = false := by decide) : JE X W (.Name x pos) (mC (.ty n)) :=
  peI (pe_bltn (v := .ty n) hg hm hv rfl hn hd) (tC_of fun _ => rfl)

/-! ### operations on values -/
abbrev Op2 := D → D → List D → R D
noncomputable def OpS (K : PySem.W.Frag) (r : R2) (f : Op2) : Prop := ∀ (E : EE) (w : Wd) (cs : List D) (x y : D) (vx vy : V) (Q : VK), Sim K w cs → Rep K w x vx → Rep K w y vy →
  After K E w (f x y cs) (fun d _ w' => ∀ v, Rep K w' d v → Q v w'.H) → r vx vy w.H Q
noncomputable def mOp (f : Op2) (ma mb : M) : M := fun r cs => (ma r cs).bind fun x cs => (mb r cs).bind fun y cs => f x y cs
variable {a b c : Expr} {ma mb mc : M} {pos : Pos}
theorem t_op {r : R2} {f : Op2} (hs : OpS K r f) : ∀ σ H Q, tE K W (mOp f ma mb) σ H Q → tOp r (tE K W ma) (tE K W mb) σ H Q := fun σ H Q ⟨w, rr, cs, e, s, ev, a⟩ => by
  refine ⟨w, rr, cs, e, s, ev, (After.bind a).imp fun x cs1 w1 l1 s1 a1 v1 r1 => ?_⟩
  refine ⟨w1, rr, cs1, rfl, s1, ev.mono l1, (After.bind a1).imp fun y cs2 w2 l2 s2 a2 v2 r2 => ?_⟩
  exact hs _ w2 cs2 x y v1 v2 Q s2 (Rep.mono K l2 x v1 r1) r2 a2
theorem je_op {op : Operator} {r : R2} {f : Op2} (ho : OpR X (binaryOp op) r) (hs : OpS X.K r f) (ha : JE X W a ma) (hb : JE X W b mb) : JE X W (.BinOp a op b pos) (mOp f ma mb) := peI (pe_op ho ha hb) (t_op hs)
theorem je_cmp {op : CmpOp} {r : R2} {f : Op2} (ho : OpR X (compareOp op) r) (hs : OpS X.K r f) (ha : JE X W a ma) (hb : JE X W b mb) (hm : behindInMarks op b = false) : JE X W (.Compare a [op] [b] pos) (mOp f ma mb) := peI (pe_cmpR ho ha hb hm) (t_op hs)
theorem je_ix {r : R2} {f : Op2} (ho : IxR X r) (hs : OpS X.K r f) (ha : JE X W a ma) (hb : JE X W b mb) (hp : PlainIx b) : JE X W (.Subscript a b pos) (mOp f ma mb) := peI (pe_ix ho ha hb hp) (t_op hs)
/-- a value that is True or False, as a test -/
noncomputable def mB (m : M) : MT := fun r cs => (m r cs).bind fun d cs => match d with
  | .bl b => .ok b cs
  | _ => .bad
theorem t_test {t : TE} {m : M} (ht : ∀ σ H Q, tE K W m σ H Q → t σ H Q) : ∀ σ H Q, tT K W (mB m) σ H Q → tTest t σ H Q := fun σ H Q ⟨w, rr, cs, e, s, ev, a⟩ => by
  refine ht σ H _ ⟨w, rr, cs, e, s, ev, (After.bind a).imp fun x cs1 w1 l1 s1 a1 v1 r1 => ?_⟩
  cases x with
  | bl b => exact ⟨b, r1, a1 w1 (Le.refl w1) s1⟩
  | _ => exact a1.elim
theorem jt_cmp {op : CmpOp} {r : R2} {f : Op2} (ho : OpR X (compareOp op) r) (hs : OpS X.K r f) (ha : JE X W a ma) (hb : JE X W b mb) (hm : behindInMarks op b = false) : JT X W (.Compare a [op] [b] pos) (mB (mOp f ma mb)) := ptI (pt_cmpR ho ha hb hm) (t_test (t_op hs))
theorem jt_val (h : JE X W a ma) (he : ∀ whole, isTrue a X.env whole = (do let v ← whole; standAt a.pos; holding [v] (truthy v)) := by intro _; rfl) : JT X W a (mB ma) := ptI (pt_val h he) (t_test fun _ _ _ h => h)
/-- a < b < c -/
noncomputable def mChain (f g : Op2) (ma mb mc : M) : M := fun r cs => (ma r cs).bind fun x cs => (mb r cs).bind fun y cs => (f x y cs).bind fun z cs => match z with
  | .bl true => (mc r cs).bind fun u cs => g y u cs
  | .bl false => .ok (.bl false) cs
  | _ => .bad
theorem t_chain {r r' : R2} {f g : Op2} (hf : OpS K r f) (hg : OpS K r' g) : ∀ σ H Q, tE K W (mChain f g ma mb mc) σ H Q → tChain r r' (tE K W ma) (tE K W mb) (tE K W mc) σ H Q := fun σ H Q ⟨w, rr, cs, e, s, ev, a⟩ => by
  refine ⟨w, rr, cs, e, s, ev, (After.bind a).imp fun x cs1 w1 l1 s1 a1 v1 r1 => ?_⟩
  refine ⟨w1, rr, cs1, rfl, s1, ev.mono l1, (After.bind a1).imp fun y cs2 w2 l2 s2 a2 v2 r2 => ?_⟩
  refine hf _ w2 cs2 x y v1 v2 _ s2 (Rep.mono K l2 x v1 r1) r2 ((After.bind a2).imp fun z cs3 w3 l3 s3 a3 v3 r3 => ?_)
  cases z with
  | bl k =>
    cases k with
    | true =>
      refine ⟨true, r3, ?_⟩
      rw [if_pos rfl]
      refine ⟨w3, rr, cs3, rfl, s3, ev.mono (l1.trans (l2.trans l3)), (After.bind a3).imp fun u cs4 w4 l4 s4 a4 v4 r4 => ?_⟩
      exact hg _ w4 cs4 y u v2 v4 Q s4 (Rep.mono K (l3.trans l4) y v2 r2) r4 a4
    | false =>
      refine ⟨false, r3, ?_⟩
      rw [if_neg Bool.false_ne_true]
      exact a3 w3 (Le.refl w3) s3 (.bl false) rfl
  | _ => exact a3.elim
theorem je_chain {op op' : CmpOp} {r r' : R2} {f g : Op2} (ho : OpR X (compareOp op) r) (hf : OpS X.K r f) (ho' : OpR X (compareOp op') r') (hg : OpS X.K r' g) (ha : JE X W a ma) (hb : JE X W b mb) (hc : JE X W c mc)
    (hm : lastMarks [op, op'] [b, c] = false := by with_unfolding_all rfl) : JE X W (.Compare a [op, op'] [b, c] pos) (mChain f g ma mb mc) := peI (pe_chain ho ho' ha hb hc hm) (t_chain hf hg)
theorem jt_chain {op op' : CmpOp} {r r' : R2} {f g : Op2} (ho : OpR X (compareOp op) r) (hf : OpS X.K r f) (ho' : OpR X (compareOp op') r') (hg : OpS X.K r' g) (ha : JE X W a ma) (hb : JE X W b mb) (hc : JE X W c mc)
    (hm : lastMarks [op, op'] [b, c] = false := by with_unfolding_all rfl) : JT X W (.Compare a [op, op'] [b, c] pos) (mB (mChain f g ma mb mc)) := ptI (pt_chain ho ho' ha hb hc hm) (t_test (t_chain hf hg))
/-- one operand -/
abbrev Op1 := D → List D → R D
noncomputable def UnS (K : PySem.W.Frag) (r : V → Hp → VK → Prop) (f : Op1) : Prop := ∀ (E : EE) (w : Wd) (cs : List D) (x : D) (vx : V) (Q : VK), Sim K w cs → Rep K w x vx →
  After K E w (f x cs) (fun d _ w' => ∀ v, Rep K w' d v → Q v w'.H) → r vx w.H Q
noncomputable def mUn (f : Op1) (ma : M) : M := fun r cs => (ma r cs).bind fun x cs => f x cs
theorem je_un {op : UnaryOp} {r : V → Hp → VK → Prop} {f : Op1} (ho : UnR X (unaryOp op) r) (hs : UnS X.K r f) (ha : JE X W a ma) : JE X W (.UnaryOp op a pos) (mUn f ma) := by
  refine peI (pe_un ho ha) fun σ H Q ⟨w, rr, cs, e, s, ev, a⟩ => ?_
  exact ⟨w, rr, cs, e, s, ev, (After.bind a).imp fun x cs1 w1 l1 s1 a1 v1 r1 => hs _ w1 cs1 x v1 Q s1 r1 a1⟩

/-! ### tests -/
noncomputable def mNot (m : MT) : MT := fun r cs => (m r cs).bind fun b cs => .ok (!b) cs
theorem jt_not {m : MT} (h : JT X W a m) : JT X W (.UnaryOp .Not a pos) (mNot m) := by
  refine ptI (pt_not h) fun σ H Q ⟨w, rr, cs, e, s, ev, a⟩ => ?_
  exact ⟨w, rr, cs, e, s, ev, (After.bind a).imp fun x cs1 w1 l1 s1 a1 => a1 w1 (Le.refl w1) s1⟩
noncomputable def mAnd (m n : MT) : MT := fun r cs => (m r cs).bind fun b cs => if b then n r cs else .ok false cs
noncomputable def mOr (m n : MT) : MT := fun r cs => (m r cs).bind fun b cs => if b then .ok true cs else n r cs
abbrev JW (X : Cx) (W : WX) (e : Expr) (m : MT) : Prop := PW X e (tT X.K W m)
theorem pwI {X : Cx} {e : Expr} {t t' : TT} (h : PW X e t) (k : ∀ σ H Q, t' σ H Q → t σ H Q) : PW X e t' := ⟨fun u pins s σ H Q I q => h.run u pins s σ H Q I (k σ H Q q)⟩
theorem t_and {m n : MT} : ∀ σ H Q, tT K W (mAnd m n) σ H Q → tAnd (tT K W m) (tT K W n) σ H Q := fun σ H Q ⟨w, rr, cs, e, s, ev, a⟩ => by
  refine ⟨w, rr, cs, e, s, ev, (After.bind a).imp fun x cs1 w1 l1 s1 a1 => ?_⟩
  cases x with
  | true =>
    rw [if_pos rfl]
    exact ⟨w1, rr, cs1, rfl, s1, ev.mono l1, a1⟩
  | false =>
    rw [if_neg Bool.false_ne_true]
    exact a1 w1 (Le.refl w1) s1
theorem t_or {m n : MT} : ∀ σ H Q, tT K W (mOr m n) σ H Q → tOr (tT K W m) (tT K W n) σ H Q := fun σ H Q ⟨w, rr, cs, e, s, ev, a⟩ => by
  refine ⟨w, rr, cs, e, s, ev, (After.bind a).imp fun x cs1 w1 l1 s1 a1 => ?_⟩
  cases x with
  | true =>
    rw [if_pos rfl]
    exact a1 w1 (Le.refl w1) s1
  | false =>
    rw [if_neg Bool.false_ne_true]
    exact ⟨w1, rr, cs1, rfl, s1, ev.mono l1, a1⟩
end
end Wf
set_option Elab.async false
set_option linter.all false
set_option maxRecDepth 100000
/-! Readings by mirrors: lists of arguments, displays, slices, calls, statements. -/
namespace Wf
open PySem PySem.Spec PyProof.Rows L2
section
variable {X : Cx} {W : WX} {K : PySem.W.Frag} {a b c e : Expr} {es : List Expr} {ma mb mc m n : M} {ml : ML} {mt : MT} {pos : Pos}
theorem jw_and {rest : List Expr} {m n : MT} (h : JT X W a m) (k : JW X W (.BoolOp .And (b :: rest) pos) n) : JW X W (.BoolOp .And (a :: b :: rest) pos) (mAnd m n) := pwI (pw_and h k) t_and
theorem jw_and1 {m : MT} (h : JT X W a m) : JW X W (.BoolOp .And [a] pos) m := pw_and1 h
theorem jw_or {rest : List Expr} {m n : MT} (h : JT X W a m) (k : JW X W (.BoolOp .Or (b :: rest) pos) n) : JW X W (.BoolOp .Or (a :: b :: rest) pos) (mOr m n) := pwI (pw_or h k) t_or
theorem jw_or1 {m : MT} (h : JT X W a m) : JW X W (.BoolOp .Or [a] pos) m := pw_or1 h
theorem JW.jt {m : MT} (h : JW X W e m) : JT X W e m := PW.pt h
/-- a and b, a or b as values (the left one True or False) -/
noncomputable def mAndV (m n : M) : M := fun r cs => (m r cs).bind fun d cs => match d with
  | .bl true => n r cs
  | .bl false => .ok (.bl false) cs
  | _ => .bad
noncomputable def mOrV (m n : M) : M := fun r cs => (m r cs).bind fun d cs => match d with
  | .bl true => .ok (.bl true) cs
  | .bl false => n r cs
  | _ => .bad
theorem je_and {rest : List Expr} (h : JE X W a m) (k : JE X W (.BoolOp .And (b :: rest) pos) n) : JE X W (.BoolOp .And (a :: b :: rest) pos) (mAndV m n) := by
  refine peI (pe_and h k) fun σ H Q ⟨w, rr, cs, e, s, ev, a⟩ => ?_
  refine ⟨w, rr, cs, e, s, ev, (After.bind a).imp fun x cs1 w1 l1 s1 a1 v r1 => ?_⟩
  cases x with
  | bl k =>
    refine ⟨k, r1, ?_⟩
    cases k with
    | true =>
      rw [if_pos rfl]
      exact ⟨w1, rr, cs1, rfl, s1, ev.mono l1, a1⟩
    | false =>
      rw [if_neg Bool.false_ne_true]
      exact a1 w1 (Le.refl w1) s1 _ rfl
  | _ => exact a1.elim
theorem je_one {op : BoolOp} (h : JE X W a m) : JE X W (.BoolOp op [a] pos) m := pe_one h
noncomputable def mNotV (m : M) : M := fun r cs => (m r cs).bind fun d cs => match d with
  | .bl b => .ok (.bl (!b)) cs
  | _ => .bad
theorem je_not (h : JE X W a m) : JE X W (.UnaryOp .Not a pos) (mNotV m) := by
  refine peI (pe_not h) fun σ H Q ⟨w, rr, cs, e, s, ev, a⟩ => ?_
  refine ⟨w, rr, cs, e, s, ev, (After.bind a).imp fun x cs1 w1 l1 s1 a1 v r1 => ?_⟩
  cases x with
  | bl k => exact ⟨k, r1, a1 w1 (Le.refl w1) s1 _ rfl⟩
  | _ => exact a1.elim
noncomputable def mIfE (c : MT) (m n : M) : M := fun r cs => (c r cs).bind fun b cs => if b then m r cs else n r cs
/-! ### arguments, displays -/
noncomputable def mNil : ML := fun _ cs => .ok [] cs
noncomputable def mCons (m : M) (ml : ML) : ML := fun r cs => (m r cs).bind fun d cs => (ml r cs).bind fun ds cs => .ok (d :: ds) cs
theorem ja_nil : JA X W [] mNil := paI pa_nil fun σ H Q ⟨w, r, cs, e, s, ev, a⟩ => by
  have := a w (Le.refl w) s [] rfl
  rw [e] at this
  exact this
theorem t_cons : ∀ σ H Q, tA K W (mCons m ml) σ H Q → tCons (tE K W m) (tA K W ml) σ H Q := fun σ H Q ⟨w, rr, cs, e, s, ev, a⟩ => by
  refine ⟨w, rr, cs, e, s, ev, (After.bind a).imp fun x cs1 w1 l1 s1 a1 v1 r1 => ?_⟩
  refine ⟨w1, rr, cs1, rfl, s1, ev.mono l1, (After.bind a1).imp fun y cs2 w2 l2 s2 a2 v2 r2 => ?_⟩
  exact a2 w2 (Le.refl w2) s2 (v1 :: v2) ⟨v1, v2, rfl, Rep.mono K l2 x v1 r1, r2⟩
theorem ja_cons (h : JE X W e m) (k : JA X W es ml) (hs : starEach (e :: es) X.env = (false, eval e X.env) :: starEach es X.env := by rfl) : JA X W (e :: es) (mCons m ml) := paI (pa_cons h k hs) t_cons
theorem After.ok {α : Type} {E : EE} {w : Wd} {d : α} {cs : List D} {P : α → List D → Wd → Prop} (h : After K E w (.ok d cs) P) {w' : Wd} (l : Le w w') (s : Sim K w' cs) : P d cs w' := h w' l s
noncomputable def mTup (ml : ML) : M := fun r cs => (ml r cs).bind fun ds cs => if ds.length ≤ sizeLine then .ok (.tup ds) cs else .bad
noncomputable def mLst (ml : ML) : M := fun r cs => (ml r cs).bind fun ds cs => if ds.length ≤ sizeLine then .ok (.lst ds) cs else .bad
noncomputable def mLstL (ml : ML) : M := fun r cs => (ml r cs).bind fun ds cs => if ds.length ≤ sizeLine ∧ nrs ds = true then .ok (.ref cs.length) (cs ++ [.lst ds]) else .bad
theorem if_bad {α : Type} {E : EE} {w : Wd} {p : Prop} [Decidable p] {r : R α} {P : α → List D → Wd → Prop} (h : After K E w (if p then r else .bad) P) : p ∧ After K E w r P := by
  by_cases hp : p
  · rw [if_pos hp] at h
    exact ⟨hp, h⟩
  · rw [if_neg hp] at h
    exact h.elim
theorem Rep.newT {w : Wd} {cs : List D} {l : List D} {xs : List V} {p : Addr} (s : Sim K w cs) (h : w.H p = none) (r : Reps K w l xs) : Rep K (w.new p (.tup xs)) (.tup l) (.ref p) :=
  ⟨p, xs, rfl, .inr rfl, upd_same, Reps.mono K (s.le_new h) l xs r⟩
theorem Rep.newL {w : Wd} {cs : List D} {l : List D} {xs : List V} {p : Addr} (s : Sim K w cs) (h : w.H p = none) (r : Reps K w l xs) : Rep K (w.new p (.lst xs)) (.lst l) (.ref p) :=
  ⟨p, xs, rfl, .inr rfl, upd_same, Reps.mono K (s.le_new h) l xs r⟩
theorem Rep.newC {w : Wd} {cs : List D} {p : Addr} {o : HO} (s : Sim K w cs) : Rep K (w.live p o) (.ref cs.length) (.ref p) := by
  refine ⟨p, rfl, ?_⟩
  show (w.p ++ [p])[cs.length]? = some p
  rw [← s.len, List.getElem?_append_right (Nat.le_refl _), Nat.sub_self]
  rfl
theorem je_tup {x1} (h : JA X W es ml) : JE X W (.Tuple es x1 pos) (mTup ml) := by
  refine peI (pe_tup h) fun σ H Q ⟨w, rr, cs, e, s, ev, a⟩ => ?_
  refine ⟨w, rr, cs, e, s, ev, (After.bind a).imp fun ds cs1 w1 l1 s1 a1 vs r1 => ?_⟩
  obtain ⟨hz, a1⟩ := if_bad a1
  refine ⟨by rw [← Reps.length _ r1]; exact hz, fun p np => ?_⟩
  exact a1.ok (s1.le_new np) (s1.new np) _ (Rep.newT s1 np r1)
theorem je_lst (h : JA X W es ml) : JE X W (.List es pos) (mLst ml) := by
  refine peI (pe_lst h) fun σ H Q ⟨w, rr, cs, e, s, ev, a⟩ => ?_
  refine ⟨w, rr, cs, e, s, ev, (After.bind a).imp fun ds cs1 w1 l1 s1 a1 vs r1 => ?_⟩
  obtain ⟨hz, a1⟩ := if_bad a1
  refine ⟨by rw [← Reps.length _ r1]; exact hz, fun p np => ?_⟩
  exact a1.ok (s1.le_new np) (s1.new np) _ (Rep.newL s1 np r1)
theorem Sim.liveL {w : Wd} {cs : List D} {l : List D} {xs : List V} {p : Addr} (s : Sim K w cs) (h : w.H p = none) (hn : nrs l = true) (r : Reps K w l xs) : Sim K (w.live p (.lst xs)) (cs ++ [.lst l]) :=
  s.live h hn ⟨xs, upd_same, Reps.mono K (s.le_live h) l xs r⟩
theorem je_lstL (h : JA X W es ml) : JE X W (.List es pos) (mLstL ml) := by
  refine peI (pe_lst h) fun σ H Q ⟨w, rr, cs, e, s, ev, a⟩ => ?_
  refine ⟨w, rr, cs, e, s, ev, (After.bind a).imp fun ds cs1 w1 l1 s1 a1 vs r1 => ?_⟩
  obtain ⟨⟨hz, hn⟩, a1⟩ := if_bad a1
  refine ⟨by rw [← Reps.length _ r1]; exact hz, fun p np => ?_⟩
  exact a1.ok (s1.le_live np) (s1.liveL np hn r1) _ (Rep.newC s1)
/-! ### slices -/
abbrev MO := Env → List D → R (Option Int)
noncomputable def tOp_ (K : PySem.W.Frag) (W : WX) (m : MO) : TO := fun σ H Q => ∃ w r cs, w.H = H ∧ Sim K w cs ∧ EnvR K w r σ ∧ After K (EW K W) w (m r cs) (fun o _ w' => Q o w'.H)
abbrev JO (X : Cx) (W : WX) (e : Option Expr) (m : MO) : Prop := PO X e (tOp_ X.K W m)
noncomputable def mNoP : MO := fun _ cs => .ok none cs
noncomputable def mP (m : M) : MO := fun r cs => (m r cs).bind fun d cs => match d with
  | .int i => .ok (some i) cs
  | _ => .bad
theorem poI {X : Cx} {e : Option Expr} {t t' : TO} (h : PO X e t) (k : ∀ σ H Q, t' σ H Q → t σ H Q) : PO X e t' := ⟨fun pins s σ H Q I q => h.run pins s σ H Q I (k σ H Q q)⟩
theorem jo_none : JO X W none mNoP := poI po_none fun σ H Q ⟨w, r, cs, e, s, ev, a⟩ => by
  have h : Q none w.H := a w (Le.refl w) s
  rw [e] at h
  exact h
theorem jo_some (h : JE X W e m) : JO X W (some e) (mP m) := poI (po_some h) fun σ H Q ⟨w, rr, cs, e, s, ev, a⟩ => by
  refine ⟨w, rr, cs, e, s, ev, (After.bind a).imp fun x cs1 w1 l1 s1 a1 v1 r1 => ?_⟩
  cases x with
  | int i => exact ⟨i, r1, a1 w1 (Le.refl w1) s1⟩
  | _ => exact a1.elim
abbrev OpSl := D → Option Int → Option Int → List D → R D
noncomputable def SlS (K : PySem.W.Frag) (r : V → Option Int → Option Int → Hp → VK → Prop) (f : OpSl) : Prop := ∀ (E : EE) (w : Wd) (cs : List D) (x : D) (vx : V) (lo hi : Option Int) (Q : VK), Sim K w cs → Rep K w x vx →
  After K E w (f x lo hi cs) (fun d _ w' => ∀ v, Rep K w' d v → Q v w'.H) → r vx lo hi w.H Q
noncomputable def mSl (f : OpSl) (m : M) (lo hi : MO) : M := fun r cs => (m r cs).bind fun x cs => (lo r cs).bind fun l cs => (hi r cs).bind fun u cs => f x l u cs
theorem je_slice {lo hi : Option Expr} {ml mh : MO} {r : V → Option Int → Option Int → Hp → VK → Prop} {f : OpSl} {p2 : Pos} (ho : SlR X r) (hs : SlS X.K r f) (ha : JE X W a m) (hl : JO X W lo ml) (hh : JO X W hi mh) :
    JE X W (.Subscript a (.Slice lo hi none p2) pos) (mSl f m ml mh) := by
  refine peI (pe_slice ho ha hl hh) fun σ H Q ⟨w, rr, cs, e, s, ev, a⟩ => ?_
  refine ⟨w, rr, cs, e, s, ev, (After.bind a).imp fun x cs1 w1 l1 s1 a1 v1 r1 => ?_⟩
  refine ⟨w1, rr, cs1, rfl, s1, ev.mono l1, (After.bind a1).imp fun y cs2 w2 l2 s2 a2 => ?_⟩
  refine ⟨w2, rr, cs2, rfl, s2, ev.mono (l1.trans l2), (After.bind a2).imp fun z cs3 w3 l3 s3 a3 => ?_⟩
  exact hs _ w3 cs3 x v1 y z Q s3 (Rep.mono _ (l2.trans l3) x v1 r1) a3
/-! ### built-ins, methods of built-in types -/
abbrev OpC := List D → List D → R D
noncomputable def CallS (K : PySem.W.Frag) (r : List V → Hp → VK → Prop) (f : OpC) : Prop := ∀ (E : EE) (w : Wd) (cs : List D) (ds : List D) (vs : List V) (Q : VK), Sim K w cs → Reps K w ds vs →
  After K E w (f ds cs) (fun d _ w' => ∀ v, Rep K w' d v → Q v w'.H) → r vs w.H Q
noncomputable def mCB (f : OpC) (ml : ML) : M := fun r cs => (ml r cs).bind fun ds cs => f ds cs
theorem t_cb {r : List V → Hp → VK → Prop} {f : OpC} (hs : CallS K r f) : ∀ σ H Q, tE K W (mCB f ml) σ H Q → tCB r (tA K W ml) σ H Q := fun σ H Q ⟨w, rr, cs, e, s, ev, a⟩ =>
  ⟨w, rr, cs, e, s, ev, (After.bind a).imp fun x cs1 w1 l1 s1 a1 v1 r1 => hs _ w1 cs1 x v1 Q s1 r1 a1⟩
theorem je_callB {id : String} {x : Str} {p : Pos} {r : List V → Hp → VK → Prop} {f : OpC} (hc : CallR X (.builtin id) r) (hs : CallS X.K r f) (hg : Gl X x) (hm : X.mg x = none) (hv : bootBuiltins x = some (.builtin id)) (ha : JA X W (e :: es) ml) (hn : x ≠ "__name__" := by decide) (hdb : (x == ("__debug__" : Str)) = false := by decide)
    (he : starEach (e :: es) X.env = (false, eval e X.env) :: starEach es X.env := by rfl) (hpl : (backTo pos (starEach es X.env)).any (·.1) = false := by rfl) : JE X W (.Call (.Name x p) (e :: es) [] pos) (mCB f ml) := peI (pe_callB hc hg hm hv ha hn hdb he hpl) (t_cb hs)
theorem je_callT {id : String} {x : Str} {p : Pos} {r : List V → Hp → VK → Prop} {f : OpC} (hc : CallR X (.type id) r) (hs : CallS X.K r f) (hg : Gl X x) (hm : X.mg x = none) (hv : bootBuiltins x = some (.type id)) (ha : JA X W (e :: es) ml) (hn : x ≠ "__name__" := by decide) (hdb : (x == ("__debug__" : Str)) = false := by decide)
    (he : starEach (e :: es) X.env = (false, eval e X.env) :: starEach es X.env := by rfl) (hpl : (backTo pos (starEach es X.env)).any (·.1) = false := by rfl) : JE X W (.Call (.Name x p) (e :: es) [] pos) (mCB f ml) := peI (pe_callTy hc hg hm hv ha hn hdb he hpl) (t_cb hs)
abbrev OpM := D → List D → List D → R D
noncomputable def tyD (T : String) (x : D) (cs : List D) : Bool := match x with
  | .str _ => T == "str"
  | .int _ => T == "int"
  | .lst _ => T == "list"
  | .dct _ _ => T == "dict"
  | .ref i => match cs[i]? with
    | some (.lst _) => T == "list"
    | some (.dct _ _) => T == "dict"
    | _ => false
  | _ => false
theorem tyD_ok {T : String} {x : D} {cs : List D} {w : Wd} {v : V} (s : Sim K w cs) (r : Rep K w x v) (h : tyD T x cs = true) : tyV K T v w.H := by
  cases x with
  | str z =>
    cases (show v = .str z from r)
    exact eq_of_beq h
  | int z =>
    cases (show v = .int z from r)
    exact eq_of_beq h
  | lst l =>
    obtain ⟨a, xs, rfl, f, g, q⟩ := r
    exact .inl ⟨eq_of_beq h, xs, .inl (.inl g)⟩
  | dct ks l =>
    obtain ⟨a, xs, rfl, f, g, _, q⟩ := r
    exact .inr (.inr (.inl ⟨eq_of_beq h, .inl ⟨_, g⟩⟩))
  | ref i =>
    obtain ⟨a, rfl, hi⟩ := r
    unfold tyD at h
    cases hc : cs[i]? with
    | none =>
      simp only [hc] at h
      cases h
    | some d =>
      obtain ⟨_, _, o, _⟩ := s.cell i a d hi hc
      cases d with
      | lst l =>
        simp only [hc] at h
        obtain ⟨xs, g, _⟩ := o
        exact .inl ⟨eq_of_beq h, xs, .inl (.inl g)⟩
      | dct ks l =>
        simp only [hc] at h
        obtain ⟨xs, g, _⟩ := o
        exact .inr (.inr (.inl ⟨eq_of_beq h, .inl ⟨_, g⟩⟩))
      | _ =>
        simp only [hc] at h
        cases h
  | _ => cases h
noncomputable def MtS (K : PySem.W.Frag) (r : V → List V → Hp → VK → Prop) (f : OpM) : Prop := ∀ (E : EE) (w : Wd) (cs : List D) (x : D) (vx : V) (ds : List D) (vs : List V) (Q : VK), Sim K w cs → Rep K w x vx → Reps K w ds vs →
  After K E w (f x ds cs) (fun d _ w' => ∀ v, Rep K w' d v → Q v w'.H) → r vx vs w.H Q
noncomputable def mBM (T : String) (f : OpM) (mo : M) (ml : ML) : M := fun r cs => (mo r cs).bind fun x cs => if tyD T x cs = true then (ml r cs).bind fun ds cs => f x ds cs else .bad
theorem je_bm {o : Expr} {mo : M} {name : Str} {apos cpos : Pos} {T id : String} {r : V → List V → Hp → VK → Prop} {f : OpM} (pa : PlainAttrs T) (slot : Slot T name id) (hty : typeOf (.builtin id) = pure (.type "method_descriptor")) (hm : MtR X id r) (hs : MtS X.K r f) (ho : JE X W o mo) (ha : JA X W (e :: es) ml)
    (hbase : attributeBase o name X.env (eval o X.env) = eval o X.env := by rfl)
    (hfew : ((backTo cpos (starEach (e :: es) X.env)).all (fun x => !x.1) && (backToKw cpos (keywordEach [] X.env)).all (fun x => x.1.isSome)
      && decide ((e :: es).length + ([] : List Keyword).length + (if ([] : List Keyword).isEmpty then 0 else 1) < 30)) = true := by rfl)
    (hline : (apos.endLine == cpos.line) = true := by rfl) (hst : starEach (e :: es) X.env = (false, eval e X.env) :: starEach es X.env := by rfl) (hplain : (backTo cpos (starEach es X.env)).any (·.1) = false := by rfl) :
    JE X W (.Call (.Attribute o name apos) (e :: es) [] cpos) (mBM T f mo ml) := by
  refine peI (pe_bm pa slot hty hm ho ha hbase hfew hline hst hplain) fun σ H Q ⟨w, rr, cs, e, s, ev, a⟩ => ?_
  refine ⟨w, rr, cs, e, s, ev, (After.bind a).imp fun x cs1 w1 l1 s1 a1 v1 r1 => ?_⟩
  obtain ⟨hT, a1⟩ := if_bad a1
  refine ⟨tyD_ok s1 r1 hT, w1, rr, cs1, rfl, s1, ev.mono l1, (After.bind a1).imp fun ds cs2 w2 l2 s2 a2 vs r2 => ?_⟩
  exact hs _ w2 cs2 x v1 ds vs Q s2 (Rep.mono _ l2 x v1 r1) r2 a2
noncomputable def mBM0 (T : String) (f : OpM) (mo : M) : M := fun r cs => (mo r cs).bind fun x cs => if tyD T x cs = true then f x [] cs else .bad
theorem je_bm0 {o : Expr} {mo : M} {name : Str} {apos cpos : Pos} {T id : String} {r : V → List V → Hp → VK → Prop} {f : OpM} (pa : PlainAttrs T) (slot : Slot T name id) (hty : typeOf (.builtin id) = pure (.type "method_descriptor")) (hm : MtR X id r) (hs : MtS X.K r f) (ho : JE X W o mo)
    (hbase : attributeBase o name X.env (eval o X.env) = eval o X.env := by rfl) (hline : (apos.endLine == cpos.line) = true := by rfl) : JE X W (.Call (.Attribute o name apos) [] [] cpos) (mBM0 T f mo) := by
  refine peI (pe_bm0 pa slot hty hm ho hbase hline) fun σ H Q ⟨w, rr, cs, e, s, ev, a⟩ => ?_
  refine ⟨w, rr, cs, e, s, ev, (After.bind a).imp fun x cs1 w1 l1 s1 a1 v1 r1 => ?_⟩
  obtain ⟨hT, a1⟩ := if_bad a1
  exact ⟨tyD_ok s1 r1 hT, hs _ w1 cs1 x v1 [] [] Q s1 r1 rfl a1⟩
/-! ### the call of a def -/
noncomputable def spF (K : PySem.W.Frag) (f : Fn) : Sp := fun vs H Q E => ∃ w ds cs, w.H = H ∧ Sim K w cs ∧ Reps K w ds vs ∧ After K (fun _ w' c od => E c od w'.H) w (f ds cs) (fun d _ w' => ∀ v, Rep K w' d v → Q v w'.H)
noncomputable def noteE {α : Type} (r : Env) : R α → R α
  | .err x _ cs => .err x r cs
  | o => o
theorem After.note {w : Wd} {α : Type} {rr : Env} {x : R α} {P : α → List D → Wd → Prop} {σ : L2.St} (ev : EnvR K w rr σ) (h : After K (EW K W) w (noteE rr x) P) : After K (fun _ w' c od => W c od σ w'.H) w x P := by
  cases x with
  | ok a cs => exact h
  | err x r cs => exact fun w' c od l s q => h w' c od l s q σ (ev.mono l)
  | bad => exact h
noncomputable def mCall (f : Fn) (ml : ML) : M := fun r cs => (ml r cs).bind fun ds cs => noteE r (f ds cs)
variable {k : Nat} {f : Addr} {fd : FuncData} {ps : List Str} {fn : Fn} {x : Str} {p : Pos}
theorem je_call (F : FnOk X.prog X.w X.K X.mg X.base (L2.CX X.prog X.w) k f fd ps (spF X.K fn)) (hr : Room k X.A) (hg : Gl X x) (hm : X.mg x = some (.ref f)) (hk : PySem.W.keepIn X.K (.ref f) = true) (hb : Binds X.K fd ps []) (tk : Takes X W)
    (ha : JA X W (e :: es) ml) (hdb : (x == ("__debug__" : Str)) = false := by decide) (he : starEach (e :: es) X.env = (false, eval e X.env) :: starEach es X.env := by rfl) (hpl : (backTo pos (starEach es X.env)).any (·.1) = false := by rfl) :
    JE X W (.Call (.Name x p) (e :: es) [] pos) (mCall fn ml) := by
  refine peI (pe_callS F hr hg hm hk hb (passAt tk) ha hdb he hpl) fun σ H Q ⟨w, rr, cs, e, s, ev, a⟩ => ?_
  refine ⟨w, rr, cs, e, s, ev, (After.bind a).imp fun ds cs1 w1 l1 s1 a1 vs r1 => ?_⟩
  exact ⟨w1, ds, cs1, rfl, s1, r1, After.note (ev.mono l1) a1⟩
end
end Wf
set_option Elab.async false
set_option linter.all false
set_option maxRecDepth 100000
/-! Readings by mirrors: statements, targets, loops, comprehensions, defs. -/
namespace Wf
open PySem PySem.Spec PyProof.Rows L2
section
variable {X : Cx} {W : WX} {K : PySem.W.Frag} {a b c e : Expr} {es : List Expr} {ma mb mc m n : M} {ml : ML} {mt : MT} {pos : Pos} {st : Stmt} {sts : List Stmt} {ms ns : MS}
/-! ### statements -/
noncomputable def mSkip : MS := fun r cs => .ok (.nx r) cs
noncomputable def mSeq (m n : MS) : MS := fun r cs => (m r cs).bind fun fl cs => match fl with
  | .nx r' => n r' cs
  | o => .ok o cs
theorem jb_nil : JB X W [] mSkip := pssI pss_nil fun D σ H ⟨w, r, cs, e, s, ev, a⟩ => by
  have h : D.nx σ w.H := a w (Le.refl w) s σ ev
  rw [e] at h
  exact h
theorem t_seq : ∀ D σ H, tS K W (mSeq ms ns) D σ H → tSeq (tS K W ms) (tS K W ns) D σ H := fun D σ H ⟨w, rr, cs, e, s, ev, a⟩ => by
  refine ⟨w, rr, cs, e, s, ev, (After.bind a).imp fun fl cs1 w1 l1 s1 a1 => ?_⟩
  cases fl with
  | nx r' => exact fun σ' ev' => ⟨w1, r', cs1, rfl, s1, ev', a1⟩
  | ret d => exact a1 w1 (Le.refl w1) s1
  | brk r' => exact a1 w1 (Le.refl w1) s1
  | ct r' => exact a1 w1 (Le.refl w1) s1
theorem jb_cons (h : JS X W st ms) (k : JB X W sts ns) : JB X W (st :: sts) (mSeq ms ns) := pssI (pss_cons h k) t_seq
theorem jb_one (h : JS X W st ms) : JB X W [st] ms := pss_one h
noncomputable def mBrk : MS := fun r cs => .ok (.brk r) cs
noncomputable def mCt : MS := fun r cs => .ok (.ct r) cs
noncomputable def mExpr (m : M) : MS := fun r cs => (m r cs).bind fun _ cs => .ok (.nx r) cs
theorem js_expr (h : JE X W e m) (hs : swapsWith e none pos.line X.env = pure false := by rfl) : JS X W (.Expr e pos) (mExpr m) := psI (ps_expr h hs) fun D σ H ⟨w, rr, cs, e, s, ev, a⟩ =>
  ⟨w, rr, cs, e, s, ev, (After.bind a).imp fun x cs1 w1 l1 s1 a1 v1 r1 => a1 w1 (Le.refl w1) s1 σ (ev.mono l1)⟩
noncomputable def mRet (m : M) : MS := fun r cs => (m r cs).bind fun d cs => .ok (.ret d) cs
theorem js_ret (h : JE X W e m) : JS X W (.Return (some e) pos) (mRet m) := psI (ps_ret h) fun D σ H ⟨w, rr, cs, e, s, ev, a⟩ =>
  ⟨w, rr, cs, e, s, ev, (After.bind a).imp fun x cs1 w1 l1 s1 a1 v1 r1 => a1 w1 (Le.refl w1) s1 v1 r1⟩
noncomputable def mIf (c : MT) (m n : MS) : MS := fun r cs => (c r cs).bind fun b cs => if b then m r cs else n r cs
theorem js_if {A B : List Stmt} {mc : MT} (hc : JT X W c mc) (ha : JB X W A ms) (hb : JB X W B ns) : JS X W (.If c A B pos) (mIf mc ms ns) := psI (ps_if hc ha hb) fun D σ H ⟨w, rr, cs, e, s, ev, a⟩ => by
  refine ⟨w, rr, cs, e, s, ev, (After.bind a).imp fun x cs1 w1 l1 s1 a1 => ?_⟩
  cases x with
  | true =>
    rw [if_pos rfl]
    exact ⟨w1, rr, cs1, rfl, s1, ev.mono l1, a1⟩
  | false =>
    rw [if_neg Bool.false_ne_true]
    exact ⟨w1, rr, cs1, rfl, s1, ev.mono l1, a1⟩
/-! ### targets: names, and tuples of names -/
noncomputable def GT (K : PySem.W.Frag) (vs : List Nat) (g : TG) (f : D → Env → Option Env) : Prop := ∀ (w : Wd) (r r' : Env) (σ : L2.St) (d : D) (v : V) (Q : L2.St → Hp → Prop), EnvR K w r σ → Rep K w d v → f d r = some r' →
  (∀ σ', EnvR K w r' σ' → wipe σ' vs = wipe σ vs → Q σ' w.H) → g v σ w.H Q
noncomputable def gtN (i : Nat) : D → Env → Option Env := fun d r => some (r.set i (some d))
theorem wipe_set {σ : L2.St} {i : Nat} {o : Option V} : ∀ {vs : List Nat}, i ∈ vs → wipe (σ.set i o) vs = wipe σ vs
  | v :: vs, h => by
    unfold wipe
    by_cases hv : i ∈ vs
    · rw [wipe_set hv]
    · have e : v = i := by
        rcases List.mem_cons.mp h with h | h
        · exact h.symm
        · exact absurd h hv
      subst e
      have aux : ∀ (us : List Nat) (τ : L2.St), (wipe (τ.set v o) us).set v none = (wipe τ us).set v none := by
        intro us
        induction us with
        | nil => intro τ; show (τ.set v o).set v none = τ.set v none; exact List.set_set _
        | cons u us ih =>
          intro τ
          unfold wipe
          by_cases hu : u = v
          · subst hu
            rw [List.set_set, List.set_set]
            exact ih τ
          · rw [List.set_comm _ _ hu, List.set_comm _ _ hu, ih τ]
      exact aux vs σ
theorem gt_name {vs : List Nat} {i : Nat} (h : i ∈ vs) : GT K vs (gName i) (gtN i) := fun w r r' σ d v Q ev rv e q => by
  have e2 : r.set i (some d) = r' := Option.some.inj e
  subst e2
  exact q _ (ev.set i rv) (wipe_set h)
abbrev GTs (K : PySem.W.Frag) (vs : List Nat) (g : TGs) (f : List D → Env → Option Env) : Prop := ∀ (w : Wd) (r r' : Env) (σ : L2.St) (ds : List D) (xs : List V) (Q : L2.St → Hp → Prop), EnvR K w r σ → Reps K w ds xs → f ds r = some r' →
  (∀ σ', EnvR K w r' σ' → wipe σ' vs = wipe σ vs → Q σ' w.H) → g xs σ w.H Q
noncomputable def gtNil : List D → Env → Option Env := fun ds r => match ds with
  | [] => some r
  | _ => none
noncomputable def gtCons (f : D → Env → Option Env) (g : List D → Env → Option Env) : List D → Env → Option Env := fun ds r => match ds with
  | d :: ds => (f d r).bind (g ds)
  | [] => none
noncomputable def gtTup (n : Nat) (f : List D → Env → Option Env) : D → Env → Option Env := fun d r => match d with
  | .tup ds => if ds.length = n then f ds r else none
  | _ => none
/-- target = e -/
noncomputable def mAsg (f : D → Env → Option Env) (m : M) : MS := fun r cs => (m r cs).bind fun d cs => match f d r with
  | some r' => .ok (.nx r') cs
  | none => .bad
theorem t_asg {te : TE} {vs : List Nat} {g : TG} {f : D → Env → Option Env} (ht : ∀ σ H Q, tE K W m σ H Q → te σ H Q) (hg : GT K vs g f) : ∀ D σ H, tS K W (mAsg f m) D σ H → tAsg te g D σ H := fun D σ H ⟨w, rr, cs, e, s, ev, a⟩ => by
  refine ht σ H _ ⟨w, rr, cs, e, s, ev, (After.bind a).imp fun x cs1 w1 l1 s1 a1 v1 r1 => ?_⟩
  cases h1 : f x rr with
  | none =>
    simp only [h1] at a1
    exact a1.elim
  | some r' =>
    simp only [h1] at a1
    exact hg w1 rr r' σ x v1 _ (ev.mono l1) r1 h1 fun σ' ev' _ => a1 w1 (Le.refl w1) s1 σ' ev'
theorem js_set {i : Nat} {x : Str} {pos' : Pos} (hN : X.N.Nodup) (hi : X.N[i]? = some x) (hx : Loc X.env.scope x) (he : JE X W e m) (hs : swapsWith e (some (.Name x pos')) pos.line X.env = pure false := by rfl) (hf : X.fn x = true ∨ X.env.scope.names.lookup x = some .local := by first | exact .inl rfl | exact .inr rfl | assumption) :
    JS X W (.Assign [.Name x pos'] e pos) (mAsg (gtN i) m) := psI (ps_set hN hi hx he hs hf) (t_asg (fun _ _ _ h => h) (gt_name (vs := [i]) (by simp)))
/-- o[i] = e -/
abbrev Op3 := D → D → D → List D → Option (List D)
noncomputable def SetS (K : PySem.W.Frag) (r : V → V → V → Hp → (Hp → Prop) → Prop) (f : Op3) : Prop := ∀ (w : Wd) (cs cs' : List D) (o i d : D) (vo vi v : V) (Q : Hp → Prop), Sim K w cs → Rep K w o vo → Rep K w i vi → Rep K w d v → f o i d cs = some cs' →
  (∀ w', Le w w' → Sim K w' cs' → Q w'.H) → r vo vi v w.H Q
noncomputable def mSub (f : Op3) (me mo mi : M) : MS := fun r cs => (me r cs).bind fun d cs => (mo r cs).bind fun o cs => (mi r cs).bind fun i cs => match f o i d cs with
  | some cs' => .ok (.nx r) cs'
  | none => .bad
theorem js_sub {o i : Expr} {mo mi : M} {r : V → V → V → Hp → (Hp → Prop) → Prop} {f : Op3} (hr : PSet X r) (hs : SetS X.K r f) (he : JE X W e m) (ho : JE X W o mo) (hi : JE X W i mi) {p2 : Pos}
    (ha : ∀ v, assign (.Subscript o i p2) X.env v = (do
      let ov ← holding [v] (eval o X.env)
      let iv ← holding [v, ov] (eval i X.env)
      standAt p2
      holding [v, ov, iv] (setItem ov iv v)
      release [v, ov, iv] []) := by intro _; rfl)
    (hsw : swapsWithSole [.Subscript o i p2] e pos.line X.env = pure false := by rfl) (hw : swappedStores [.Subscript o i p2] e X.env = pure none := by rfl)
    (h1 : (assignEach [.Subscript o i p2] X.env).map (·.2) = [assign (.Subscript o i p2) X.env] := by rfl) : JS X W (.Assign [.Subscript o i p2] e pos) (mSub f m mo mi) := by
  refine psI (ps_asg he (pg_sub ho hi hr ha) hsw hw h1) fun D σ H ⟨w, rr, cs, e, s, ev, a⟩ => ?_
  refine ⟨w, rr, cs, e, s, ev, (After.bind a).imp fun x cs1 w1 l1 s1 a1 v1 r1 => ?_⟩
  refine ⟨w1, rr, cs1, rfl, s1, ev.mono l1, (After.bind a1).imp fun y cs2 w2 l2 s2 a2 v2 r2 => ?_⟩
  refine ⟨w2, rr, cs2, rfl, s2, ev.mono (l1.trans l2), (After.bind a2).imp fun z cs3 w3 l3 s3 a3 v3 r3 => ?_⟩
  cases h1 : f y z x cs3 with
  | none =>
    simp only [h1] at a3
    exact a3.elim
  | some cs4 =>
    simp only [h1] at a3
    exact hs w3 cs3 cs4 y z x v2 v3 v1 _ s3 (Rep.mono _ l3 y v2 r2) r3 (Rep.mono _ (l2.trans l3) x v1 r1) h1 fun w4 l4 s4 => a3 w4 l4 s4 σ (ev.mono (l1.trans (l2.trans (l3.trans l4))))
/-! ### what a loop walks -/
noncomputable def IterOk (K : PySem.W.Frag) (w : Wd) (J : It) (ds : List D) : Prop := ∀ w', Lx w w' → ∀ i : Nat, (ds.length ≤ i → J.stop i w'.H) ∧ ∀ d, ds[i]? = some d → J.go i w'.H ∧
  ∀ x H' cs, Sim K w' cs → J.yld i w'.H x H' → ∃ w2, w2.H = H' ∧ Le w' w2 ∧ Sim K w2 cs ∧ Rep K w2 d x
theorem IterOk.mono {w w' : Wd} {J : It} {ds : List D} (e : Lx w w') (h : IterOk K w J ds) : IterOk K w' J ds := fun w2 l => h w2 (e.trans l)
noncomputable def tIt (K : PySem.W.Frag) (W : WX) (m : ML) : TI := fun σ H Rr => ∃ w r cs, w.H = H ∧ Sim K w cs ∧ EnvR K w r σ ∧ After K (EW K W) w (m r cs) (fun ds _ w' => ∀ J, IterOk K w' J ds → Rr J w'.H)
abbrev JI (X : Cx) (W : WX) (tg e : Expr) (m : ML) : Prop := PI X tg e (tIt X.K W m)
theorem piI {X : Cx} {tg e : Expr} {t t' : TI} (h : PI X tg e t) (k : ∀ σ H Q, t' σ H Q → t σ H Q) : PI X tg e t' := ⟨fun pins s σ H Q I q => h.run pins s σ H Q I (k σ H Q q)⟩
noncomputable def itD (d : D) : Option (List D) := match d with
  | .lst l => some l
  | .tup l => some l
  | .wl l => some (l.map .int)
  | .str s => some (s.cps.toList.map fun c => .str ⟨#[c]⟩)
  | _ => none
noncomputable def mIt (f : D → Option (List D)) (m : M) : ML := fun r cs => (m r cs).bind fun d cs => match f d with
  | some l => .ok l cs
  | none => .bad
noncomputable def itL (d : D) : Option (List D) := match d with
  | .lst l => some l
  | .wl l => some (l.map .int)
  | _ => none
theorem IterOk.list {w : Wd} {a : Addr} {xs : List V} {ds : List D} (h : ∀ w', Lx w w' → SqL K w'.H a xs) (r : Reps K w ds xs) : IterOk K w (Itl K a) ds := fun w' l i => by
  refine ⟨fun hi => ⟨xs, h w' l, by rw [← Reps.length _ r]; exact hi⟩, fun d hd => ?_⟩
  obtain ⟨x, hx, rx⟩ := Reps.get _ r hd
  refine ⟨⟨xs, x, h w' l, hx⟩, fun y H' cs s ⟨e, hy⟩ => ⟨w', e.symm, Le.refl w', s, ?_⟩⟩
  have := hy xs (h w' l)
  rw [hx] at this
  cases this
  exact Rep.x l d x rx
theorem IterOk.tuple {w : Wd} {a : Addr} {xs : List V} {ds : List D} (h : ∀ w', Lx w w' → SqT K w'.H a xs) (r : Reps K w ds xs) : IterOk K w (Itt K a) ds := fun w' l i => by
  refine ⟨fun hi => ⟨xs, h w' l, by rw [← Reps.length _ r]; exact hi⟩, fun d hd => ?_⟩
  obtain ⟨x, hx, rx⟩ := Reps.get _ r hd
  refine ⟨⟨xs, x, h w' l, hx⟩, fun y H' cs s ⟨e, hy⟩ => ⟨w', e.symm, Le.refl w', s, ?_⟩⟩
  have := hy xs (h w' l)
  rw [hx] at this
  cases this
  exact Rep.x l d x rx
theorem ji_list {tg : Expr} (h : JE X W e m) : JI X W tg e (mIt itL m) := by
  refine piI (pi_list h) fun σ H Q ⟨w, rr, cs, e, s, ev, a⟩ => ?_
  refine ⟨w, rr, cs, e, s, ev, (After.bind a).imp fun x cs1 w1 l1 s1 a1 v1 r1 => ?_⟩
  cases x with
  | lst l =>
    obtain ⟨p, xs, rfl, f, g, q⟩ := r1
    refine ⟨p, rfl, ⟨xs, .inl (.inl g)⟩, a1 w1 (Le.refl w1) s1 _ (IterOk.list (fun w' l => .inl (.inl ((l.keep p f).trans g))) q)⟩
  | wl l =>
    obtain ⟨p, rfl, hq⟩ := r1
    have hs : ∀ w', Lx w1 w' → SqL X.K w'.H p (l.map V.int) := fun w' le => by
      rcases hq with ⟨f, q⟩ | q
      · exact le.sql f q
      · exact q w'.H
    exact ⟨p, rfl, ⟨_, hs w1 (Le.refl w1).x⟩, a1 w1 (Le.refl w1) s1 _ (IterOk.list hs (Reps.ints _ l))⟩
  | _ => exact a1.elim
noncomputable def itT (d : D) : Option (List D) := match d with
  | .tup l => some l
  | _ => none
theorem ji_tup {tg : Expr} (h : JE X W e m) : JI X W tg e (mIt itT m) := by
  refine piI (pi_tup h) fun σ H Q ⟨w, rr, cs, e, s, ev, a⟩ => ?_
  refine ⟨w, rr, cs, e, s, ev, (After.bind a).imp fun x cs1 w1 l1 s1 a1 v1 r1 => ?_⟩
  cases x with
  | tup l =>
    obtain ⟨p, xs, rfl, f, g, q⟩ := r1
    refine ⟨p, rfl, ⟨xs, .inl (.inl g)⟩, a1 w1 (Le.refl w1) s1 _ (IterOk.tuple (fun w' l => .inl (.inl ((l.keep p f).trans g))) q)⟩
  | _ => exact a1.elim
noncomputable def chrs (s : Str) : List D := s.cps.toList.map fun c => .str ⟨#[c]⟩
noncomputable def itS (d : D) : Option (List D) := match d with
  | .str s => some (chrs s)
  | _ => none
theorem ji_str {tg : Expr} (h : JE X W e m) : JI X W tg e (mIt itS m) := by
  refine piI (pi_str h) fun σ H Q ⟨w, rr, cs, e, s, ev, a⟩ => ?_
  refine ⟨w, rr, cs, e, s, ev, (After.bind a).imp fun x cs1 w1 l1 s1 a1 v1 r1 => ?_⟩
  cases x with
  | str z =>
    refine ⟨z, r1, a1 w1 (Le.refl w1) s1 _ fun w' l i => ⟨fun hi => ?_, fun d hd => ?_⟩⟩
    · show z.cps.size ≤ i
      have : (chrs z).length = z.cps.size := by
        unfold chrs
        rw [List.length_map]
        rfl
      rw [← this]
      exact hi
    · unfold chrs at hd
      rw [List.getElem?_map] at hd
      cases hc : z.cps.toList[i]? with
      | none =>
        rw [hc] at hd
        cases hd
      | some c =>
        rw [hc] at hd
        have hd2 : D.str ⟨#[c]⟩ = d := Option.some.inj hd
        have hi : i < z.cps.size := (List.getElem?_eq_some_iff.mp hc).1
        refine ⟨hi, fun y H' cs s ⟨e1, c', hc', ey⟩ => ⟨w', e1.symm, Le.refl w', s, ?_⟩⟩
        have : z.cps[i]? = some c := by
          rw [← Array.getElem?_toList]
          exact hc
        rw [this] at hc'
        cases hc'
        rw [← hd2, ey]
        rfl
  | _ => exact a1.elim
noncomputable def rng (lo : Int) (n : Nat) : List D := (List.range n).map fun k => .int (lo + (k : Nat))
theorem IterOk.rng {w : Wd} {lo : Int} {n : Nat} : IterOk K w (Itr lo n) (rng lo n) := fun w' l i => by
  refine ⟨fun hi => ?_, fun d hd => ?_⟩
  · show n ≤ i
    unfold Wf.rng at hi
    rw [List.length_map, List.length_range] at hi
    exact hi
  · unfold Wf.rng at hd
    rw [List.getElem?_map] at hd
    cases hc : (List.range n)[i]? with
    | none =>
      rw [hc] at hd
      cases hd
    | some c =>
      rw [hc] at hd
      have hi : i < n := by
        have := (List.getElem?_eq_some_iff.mp hc).1
        rw [List.length_range] at this
        exact this
      have ec : c = i := by
        rw [List.getElem?_range hi] at hc
        exact (Option.some.inj hc).symm
      subst ec
      refine ⟨hi, fun y H' cs s ⟨e1, ey⟩ => ⟨w', e1.symm, Le.refl w', s, ?_⟩⟩
      have hd2 : D.int (lo + (c : Nat)) = d := Option.some.inj hd
      rw [← hd2, ey]
      rfl
/-- range(n), range(a, b) -/
noncomputable def mRng1 (ml : ML) : ML := fun r cs => (ml r cs).bind fun ds cs => match ds with
  | [.int j] => if -(2 ^ 62) ≤ j ∧ j < 2 ^ 62 then .ok (rng 0 j.toNat) cs else .bad
  | _ => .bad
noncomputable def mRng2 (ml : ML) : ML := fun r cs => (ml r cs).bind fun ds cs => match ds with
  | [.int i, .int j] => if -(2 ^ 62) ≤ i ∧ i < 2 ^ 62 ∧ -(2 ^ 62) ≤ j ∧ j < 2 ^ 62 then .ok (rng i (j - i).toNat) cs else .bad
  | _ => .bad
theorem t_rng1 : ∀ σ H Q, tIt K W (mRng1 ml) σ H Q → iRng1 (tA K W ml) σ H Q := fun σ H Q ⟨w, rr, cs, e, s, ev, a⟩ => by
  refine ⟨w, rr, cs, e, s, ev, (After.bind a).imp fun x cs1 w1 l1 s1 a1 v1 r1 => ?_⟩
  split at a1
  · rename_i j
    obtain ⟨hj, a1⟩ := if_bad a1
    obtain ⟨v, vs, e1, r2, r3⟩ := r1
    cases (show v = .int j from r2)
    cases (show vs = [] from r3)
    exact ⟨j, e1, hj.1, hj.2, a1 w1 (Le.refl w1) s1 _ IterOk.rng⟩
  · exact a1.elim
/-! ### for, while -/
noncomputable def forR (f : Env → D → List D → R Fl) : List D → Env → List D → R Fl
  | [], r, cs => .ok (.nx r) cs
  | d :: ds, r, cs => (f r d cs).bind fun fl cs => match fl with
    | .nx r' => forR f ds r' cs
    | .ct r' => forR f ds r' cs
    | .brk r' => .ok (.nx r') cs
    | .ret v => .ok (.ret v) cs
noncomputable def mFor (mi : ML) (g : D → Env → Option Env) (b : MS) : MS := fun r cs => (mi r cs).bind fun ds cs => forR (fun r d cs => match g d r with
  | some r' => b r' cs
  | none => .bad) ds r cs
theorem js_for {tg iter : Expr} {body : List Stmt} {mi : ML} {vs : List Nat} {g : TG} {gf : D → Env → Option Env} (hp : PassesOwn (model X.prog X.w) X.A X.env X.xe) (hc : X.calm = true) (hi : JI X W tg iter mi) (hg : PG X tg g) (hG : GT X.K vs g gf) (hb : JB X W body ms)
    (hs : ∀ x, foldedSetIterable iter X.env x = pure x := by intro _; rfl) : JS X W (.For tg iter body [] pos) (mFor mi gf ms) := by
  refine psI (ps_for hp hc hi hg hb hs) fun D σ H ⟨w, rr, cs, e, s, ev, a⟩ => ?_
  refine ⟨w, rr, cs, e, s, ev, (After.bind a).imp fun ds cs1 w1 l1 s1 a1 J hJ => ?_⟩
  refine ⟨fun i n σ2 H2 => ∃ w2 r2 cs2, n + i = ds.length ∧ w2.H = H2 ∧ Sim X.K w2 cs2 ∧ EnvR X.K w2 r2 σ2 ∧ IterOk X.K w2 J ds ∧ After X.K (EW X.K W) w2 (forR (fun r d cs => match gf d r with
    | some r' => ms r' cs
    | none => .bad) (ds.drop i) r2 cs2) (fun fl _ w' => FlP X.K D fl w'), ⟨ds.length, w1, rr, cs1, rfl, rfl, s1, ev.mono l1, hJ, a1⟩, fun i n σ2 H2 ⟨w2, r2, cs2, en, e2, s2, ev2, J2, a2⟩ => ?_⟩
  subst e2
  obtain ⟨hstop, hgo⟩ := J2 w2 (Le.refl w2).x i
  by_cases hi : i < ds.length
  · right
    have hd : ds[i]? = some ds[i] := List.getElem?_eq_getElem hi
    obtain ⟨go, hy⟩ := hgo ds[i] hd
    rw [List.drop_eq_getElem_cons hi] at a2
    refine ⟨go, fun σ3 H3 => ∃ w3 r3 cs3, w3.H = H3 ∧ Sim X.K w3 cs3 ∧ EnvR X.K w3 r3 σ3 ∧ IterOk X.K w3 J ds ∧ After X.K (EW X.K W) w3 (forR (fun r d cs => match gf d r with
      | some r' => ms r' cs
      | none => .bad) (ds.drop (i + 1)) r3 cs3) (fun fl _ w' => FlP X.K D fl w'), fun σ3 H3 ⟨w3, r3, cs3, e3, s3, ev3, J3, a3⟩ => ⟨n - 1, by omega, w3, r3, cs3, by omega, e3, s3, ev3, J3, a3⟩, fun x H' yl => ?_⟩
    obtain ⟨w3, e3, l3, s3, rd⟩ := hy x H' cs2 s2 yl
    subst e3
    have a3 := After.bind (After.mono l3 a2)
    cases hgf : gf ds[i] r2 with
    | none =>
      simp only [hgf] at a3
      exact a3.elim
    | some r' =>
      simp only [hgf] at a3
      refine hG w3 r2 r' σ2 ds[i] x _ (ev2.mono l3) rd hgf fun σ4 ev4 _ => ?_
      refine ⟨w3, r', cs2, rfl, s3, ev4, a3.imp fun fl cs5 w5 l5 s5 a5 => ?_⟩
      cases fl with
      | nx r5 => exact fun σ5 ev5 => ⟨w5, r5, cs5, rfl, s5, ev5, J2.mono (l3.trans l5).x, a5⟩
      | ct r5 => exact fun σ5 ev5 => ⟨w5, r5, cs5, rfl, s5, ev5, J2.mono (l3.trans l5).x, a5⟩
      | brk r5 => exact a5 w5 (Le.refl w5) s5
      | ret v => exact a5 w5 (Le.refl w5) s5
  · left
    refine ⟨hstop (by omega), ?_⟩
    rw [List.drop_eq_nil_of_le (by omega)] at a2
    exact a2 w2 (Le.refl w2) s2 σ2 ev2
noncomputable def whileR (c : MT) (b : MS) : Nat → Env → List D → R Fl
  | 0, _, _ => .bad
  | n + 1, r, cs => (c r cs).bind fun t cs => if t then (b r cs).bind fun fl cs => match fl with
      | .nx r' => whileR c b n r' cs
      | .ct r' => whileR c b n r' cs
      | .brk r' => .ok (.nx r') cs
      | .ret v => .ok (.ret v) cs
    else .ok (.nx r) cs
noncomputable def mWhile (n : Nat) (c : MT) (b : MS) : MS := fun r cs => whileR c b n r cs
end
end Wf
set_option Elab.async false
set_option linter.all false
set_option maxRecDepth 100000
/-! Readings by mirrors: comprehensions, calls by keywords, defs. -/
namespace Wf
open PySem PySem.Spec PyProof.Rows L2
section
variable {X : Cx} {W : WX} {K : PySem.W.Frag} {a b c e : Expr} {es : List Expr} {ma mb mc m n : M} {ml : ML} {mt : MT} {pos : Pos} {st : Stmt} {sts : List Stmt} {ms ns : MS}
/-! ### comprehensions -/
noncomputable def addO (o : Option D) (ys : List D) : List D := match o with
  | some y => y :: ys
  | none => ys
noncomputable def mapR (f : D → List D → R (Option D)) : List D → List D → R (List D)
  | [], cs => .ok [] cs
  | d :: ds, cs => (f d cs).bind fun o cs => (mapR f ds cs).bind fun ys cs => .ok (addO o ys) cs
noncomputable def tW (W : WX) : WX := fun _ _ _ _ => False
abbrev W0 : WX := fun _ _ _ _ => False
noncomputable def wipeD (r : Env) : List Nat → Env
  | [] => r
  | v :: vs => (wipeD r vs).set v none
theorem EnvR.wipe {w : Wd} {r : Env} {σ : L2.St} (h : EnvR K w r σ) : ∀ vs : List Nat, EnvR K w (wipeD r vs) (wipe σ vs)
  | [] => h
  | v :: vs => (EnvR.wipe h vs).unset v none
theorem wipe_get {σ : L2.St} {v : Nat} : ∀ {vs : List Nat}, v ∈ vs → (wipe σ vs)[v]? = none ∨ (wipe σ vs)[v]? = some none
  | u :: vs, h => by
    unfold L2.wipe
    by_cases e : u = v
    · subst e
      by_cases hl : u < (L2.wipe σ vs).length
      · exact .inr (List.getElem?_set_self hl)
      · exact .inl (List.getElem?_eq_none (by rw [List.length_set]; omega))
    · rw [List.getElem?_set_ne e]
      rcases List.mem_cons.mp h with h | h
      · exact absurd h.symm e
      · exact wipe_get h
theorem set_none {σ : L2.St} {v : Nat} (h : σ[v]? = none ∨ σ[v]? = some none) : σ.set v none = σ := by
  apply List.ext_getElem?
  intro j
  by_cases e : v = j
  · subst e
    by_cases hl : v < σ.length
    · rw [List.getElem?_set_self hl]
      rcases h with h | h
      · rw [List.getElem?_eq_none_iff] at h
        omega
      · exact h.symm
    · rw [List.getElem?_eq_none (by rw [List.length_set]; omega), List.getElem?_eq_none (by omega)]
  · rw [List.getElem?_set_ne e]
theorem wipe_sub {σ : L2.St} {us : List Nat} : ∀ {vs : List Nat}, (∀ v ∈ vs, v ∈ us) → L2.wipe (L2.wipe σ us) vs = L2.wipe σ us
  | [], _ => rfl
  | v :: vs, h => by
    show (L2.wipe (L2.wipe σ us) vs).set v none = L2.wipe σ us
    rw [wipe_sub (fun u hu => h u (List.mem_cons_of_mem _ hu))]
    exact set_none (wipe_get (h v (List.mem_cons_self ..)))
noncomputable def lcF (g : D → Env → Option Env) (mt : MT) (me : M) (r : Env) : D → List D → R (Option D) := fun d cs => match g d r with
  | some r' => (mt r' cs).bind fun b cs => if b then (me r' cs).bind fun y cs => .ok (some y) cs else .ok none cs
  | none => .bad
/-- no exception leaves it -/
noncomputable def calmR {α : Type} : R α → R α
  | .err _ _ _ => .bad
  | o => o
noncomputable def mLcG (vs : List Nat) (mi : ML) (g : D → Env → Option Env) (mt : MT) (me : M) (k : List D → List D → R D) : M := fun r cs => (mi r cs).bind fun ds cs => (calmR (mapR (lcF g mt me (wipeD r vs)) ds cs)).bind fun ys cs => if ys.length < sizeLine then k ys cs else .bad
noncomputable def mLc (vs : List Nat) (mi : ML) (g : D → Env → Option Env) (mt : MT) (me : M) : M := mLcG vs mi g mt me fun ys cs => .ok (.lst ys) cs
noncomputable def mLcL (vs : List Nat) (mi : ML) (g : D → Env → Option Env) (mt : MT) (me : M) : M := mLcG vs mi g mt me fun ys cs => if nrs ys = true then .ok (.ref cs.length) (cs ++ [.lst ys]) else .bad
theorem bind_ok_iff {α β : Type} {r : R α} {k : α → List D → R β} {b : β} {cs' : List D} (h : r.bind k = .ok b cs') : ∃ a cs, r = .ok a cs ∧ k a cs = .ok b cs' := by
  cases r with
  | ok a cs => exact ⟨a, cs, rfl, h⟩
  | err x r cs => cases h
  | bad => cases h
theorem calm_ok {α : Type} {E : EE} {w : Wd} {r : R α} {β : Type} {k : α → List D → R β} {P : β → List D → Wd → Prop} (h : After K E w ((calmR r).bind k) P) : ∃ a cs, r = .ok a cs ∧ After K E w (k a cs) P := by
  cases r with
  | ok a cs => exact ⟨a, cs, rfl, h⟩
  | err x r cs => exact h.elim
  | bad => exact h.elim
theorem t_lc {vs : List Nat} {wi : ML} {g : TG} {gf : D → Env → Option Env} {k : List D → List D → R D} {me : M}
    (hG : GT K vs g gf)
    (fin : ∀ (E : EE) (w0 w : Wd) (cs : List D) (p : Addr) (ys : List D) (acc : List V) (Q : VK), ¬ w0.G p → LeB p w0 w → Sim K w cs → w.G p → w.H p = some (.lst acc) → Reps K w ys acc → After K E w0 (k ys cs) (fun d _ w' => ∀ v, Rep K w' d v → Q v w'.H) → Q (.ref p) w.H) :
    ∀ σ H Q, tE K W (mLcG vs wi gf mt me k) σ H Q → tLc (tIt K W wi) g (tT K W0 mt) (tE K W0 me) vs σ H Q := fun σ H Q ⟨w, rr, cs, e, s, ev, a⟩ => by
  refine ⟨w, rr, cs, e, s, ev, (After.bind a).imp fun ds cs1 w1 l1 s1 a1 J hJ p np => ?_⟩
  obtain ⟨ys, csE, eq, a2⟩ := calm_ok a1
  obtain ⟨hz, a2⟩ := if_bad a2
  have ev1 := ev.mono l1
  refine ⟨fun i n H2 => ∃ w2 cs2 acc ad zs, n + i = ds.length ∧ w2.H = H2 ∧ Sim K w2 cs2 ∧ w2.G p ∧ w2.H p = some (.lst acc) ∧ Reps K w2 ad acc ∧ LeB p w1 w2 ∧ IterOk K w2 J ds ∧ mapR (lcF gf mt me (wipeD rr vs)) (ds.drop i) cs2 = .ok zs csE ∧ ad ++ zs = ys,
    ⟨ds.length, w1.hold p (.lst []), cs1, [], [], ys, rfl, rfl, s1.hold np, .inr rfl, upd_same, rfl, (s1.le_hold np).b p, hJ.mono (s1.le_hold np).x, eq, rfl⟩, fun i n H2 ⟨w2, cs2, acc, ad, zs, en, e2, s2, g2, hp, ra, lb, J2, m2, ez⟩ => ?_⟩
  subst e2
  obtain ⟨hstop, hgo⟩ := J2 w2 (Le.refl w2).x i
  by_cases hi : i < ds.length
  · right
    have hd : ds[i]? = some ds[i] := List.getElem?_eq_getElem hi
    obtain ⟨go, hy⟩ := hgo ds[i] hd
    rw [List.drop_eq_getElem_cons hi] at m2
    unfold mapR at m2
    obtain ⟨o, cs3, f3, m3⟩ := bind_ok_iff m2
    obtain ⟨zs', cs4, m4, m5⟩ := bind_ok_iff m3
    have ezs : addO o zs' = zs := by
      cases m5
      rfl
    have ecs : cs4 = csE := by
      cases m5
      rfl
    subst ecs
    refine ⟨go, fun H3 => ∃ w2 cs2 acc ad zs, w2.H = H3 ∧ Sim K w2 cs2 ∧ w2.G p ∧ w2.H p = some (.lst acc) ∧ Reps K w2 ad acc ∧ LeB p w1 w2 ∧ IterOk K w2 J ds ∧ mapR (lcF gf mt me (wipeD rr vs)) (ds.drop (i + 1)) cs2 = .ok zs cs4 ∧ ad ++ zs = ys, fun H3 ⟨w2, cs2, acc, ad, zs, h⟩ => ⟨n - 1, by omega, w2, cs2, acc, ad, zs, by omega, h⟩, fun x H' yl => ?_⟩
    obtain ⟨w3, e3, l3, s3, rd⟩ := hy x H' cs2 s2 yl
    subst e3
    unfold lcF at f3
    cases hgf : gf ds[i] (wipeD rr vs) with
    | none =>
      simp only [hgf] at f3
      cases f3
    | some r' =>
      simp only [hgf] at f3
      obtain ⟨b, cs5, t5, f5⟩ := bind_ok_iff f3
      have evw : EnvR K w3 (wipeD rr vs) (wipe σ vs) := ((ev1.b lb).mono l3).wipe vs
      refine hG w3 (wipeD rr vs) r' (wipe σ vs) ds[i] x _ evw rd hgf fun σ2 ev2 ew => ⟨?_, w3, r', cs2, rfl, s3, ev2, ?_⟩
      · rw [ew]
        exact wipe_sub fun _ h => h
      rw [t5]
      intro w5 l5 s5
      cases b with
      | false =>
        rw [if_neg Bool.false_ne_true] at f5 ⊢
        cases f5
        refine ⟨w5, _, acc, ad, zs', rfl, s5, ((l3.trans l5).gd p g2).1, ((l3.trans l5).gd p g2).2.trans hp, Reps.mono K (l3.trans l5) _ _ ra, lb.trans ((l3.trans l5).b p), J2.mono (l3.trans l5).x, m4, ?_⟩
        rw [← ez, ← ezs]
        rfl
      | true =>
        rw [if_pos rfl] at f5 ⊢
        obtain ⟨y, cs6, t6, f6⟩ := bind_ok_iff f5
        cases f6
        refine ⟨w5, r', cs5, rfl, s5, ev2.mono l5, ?_⟩
        rw [t6]
        intro w6 l6 s6 v rv
        have l36 := (l3.trans l5).trans l6
        have hp6 : w6.H p = some (.lst acc) := (l36.gd p g2).2.trans hp
        have g6 := (l36.gd p g2).1
        refine ⟨acc, hp6, ?_, ?_⟩
        · rw [← Reps.length K ra]
          have : ad.length ≤ ys.length := by
            rw [← ez, List.length_append]
            omega
          omega
        · have lt := s6.turnB (o := .lst (acc ++ [v])) g6
          refine ⟨w6.turn p (.lst (acc ++ [v])), _, acc ++ [v], ad ++ [y], zs', rfl, s6.turn g6, g6, upd_same, Reps.app K (Reps.b lt _ _ (Reps.mono K l36 _ _ ra)) ⟨v, [], rfl, Rep.b lt _ _ rv, rfl⟩, (lb.trans (l36.b p)).trans lt, ?_, m4, ?_⟩
          · exact (J2.mono l36.x).mono lt.x
          · rw [← ez, ← ezs, List.append_assoc]
            rfl
  · left
    refine ⟨hstop (by omega), ?_⟩
    rw [List.drop_eq_nil_of_le (by omega)] at m2
    cases m2
    rw [List.append_nil] at ez
    subst ez
    exact fin _ w1 w2 csE p ad acc Q (s1.fresh np).2.2 lb s2 g2 hp ra a2
theorem fin_lc (E : EE) (w0 w : Wd) (cs : List D) (p : Addr) (ys : List D) (acc : List V) (Q : VK) (np : ¬ w0.G p) (lb : LeB p w0 w) (s : Sim K w cs) (g : w.G p) (hp : w.H p = some (.lst acc)) (ra : Reps K w ys acc)
    (h : After K E w0 (.ok (.lst ys) cs) (fun d _ w' => ∀ v, Rep K w' d v → Q v w'.H)) : Q (.ref p) w.H := by
  have l2 := lb.trans (Wd.settleB w p)
  have le : Le w0 (w.settle p) := ⟨l2.pre, l2.fr, l2.keep, fun b gb => l2.gd b gb fun e => np (e ▸ gb)⟩
  exact h (w.settle p) le (s.settle g) (.ref p) ⟨p, acc, rfl, .inr rfl, hp, Reps.b (Wd.settleB w p) _ _ ra⟩
section
variable {elt tg iter : Expr} {ifs : List Expr} {scope : Scope} {own : List (Str × Nat)} {wi : ML} {g : TG} {gf : D → Env → Option Env} {me : M}
theorem je_lc (hc : X.calm = true) (hN : X.N.Nodup) (hi : JI X W tg iter wi) (ok : BlkOk X.N X.env.scope scope own)
    (hg : ∀ (s : Shared) (H : Hp) (C : Addr) (cl : List (Str × Addr)) (fp : List Addr), PG (X.blk s H scope (compEnvC scope cl C X.env) fp) tg g) (hG : GT X.K (own.map (·.2)) g gf)
    (ht : ∀ (s : Shared) (H : Hp) (C : Addr) (cl : List (Str × Addr)) (fp : List Addr), PTs (X.blk s H scope (compEnvC scope cl C X.env) fp) ifs (tT X.K W0 mt))
    (he : ∀ (s : Shared) (H : Hp) (C : Addr) (cl : List (Str × Addr)) (fp : List Addr), JE (X.blk s H scope (compEnvC scope cl C X.env) fp) W0 elt me) (hs : ∀ x, foldedSetIterable iter X.env x = pure x := by intro _; rfl) :
    JE X W (.ListComp elt [⟨tg, iter, ifs, 0⟩] scope pos) (mLc (own.map (·.2)) wi gf mt me) := peI (pe_lc hc hN hi ok hg ht he hs) (t_lc hG fin_lc)
noncomputable def mYes : MT := fun _ cs => .ok true cs
theorem jts_nil : PTs X [] (tT X.K W mYes) := ⟨fun pins s σ H Q I ⟨w, r, cs, e, sm, ev, a⟩ => pts_nil.run pins s σ H Q I (by
  have h : Q true w.H := a w (Le.refl w) sm
  rw [e] at h
  exact h)⟩
theorem jts_one {c : Expr} (h : JT X W c mt) : PTs X [c] (tT X.K W mt) := pts_one h
end
/-! ### a call with keywords -/
noncomputable def pick {α : Type} (ix : List Nat) (xs : List α) : List α := ix.filterMap fun i => xs[i]?
theorem Reps.pick {w : Wd} {l : List D} {xs : List V} (h : Reps K w l xs) : ∀ ix : List Nat, Reps K w (Wf.pick ix l) (Wf.pick ix xs)
  | [] => rfl
  | i :: ix => by
    have ih := Reps.pick h ix
    unfold Wf.pick at ih ⊢
    rw [List.filterMap_cons, List.filterMap_cons]
    cases e : l[i]? with
    | none =>
      have : xs[i]? = none := by
        rw [List.getElem?_eq_none_iff] at e ⊢
        rw [← Reps.length K h]
        exact e
      rw [this]
      exact ih
    | some d =>
      obtain ⟨v, hv, rv⟩ := Reps.get K h e
      rw [hv]
      exact ⟨v, _, rfl, rv, ih⟩
theorem Vals.pick {vs : List V} {us : List Value} (h : Vals vs us) : ∀ ix : List Nat, Vals (Wf.pick ix vs) (Wf.pick ix us)
  | [] => .nil
  | i :: ix => by
    have ih := Vals.pick h ix
    unfold Wf.pick at ih ⊢
    rw [List.filterMap_cons, List.filterMap_cons]
    cases e : vs[i]? with
    | none =>
      rw [Vals.none_of h e]
      exact ih
    | some d =>
      obtain ⟨u, hu, ru⟩ := Vals.get h e
      rw [hu]
      exact .cons ru ih
/-- how the keywords bind: n positional values, then those of the names ks; ix: the parameters' order of them all -/
noncomputable def KBs (fd : FuncData) (ps : List Str) (n : Nat) (ks : List Str) (ix : List Nat) : Prop := ∀ (us ws : List Value), us.length = n → ws.length = ks.length → bindArgs fd ⟨us, ks.zip ws⟩ = pure (ps.zip (pick ix (us ++ ws)))
abbrev JK (X : Cx) (W : WX) (ks : List Keyword) (m : ML) : Prop := PK X ks (tA X.K W m)
theorem pkI {X : Cx} {e : List Keyword} {t t' : TA} (h : PK X e t) (k : ∀ σ H Q, t' σ H Q → t σ H Q) : PK X e t' := ⟨fun pos pins s σ H Q I q => h.run pos pins s σ H Q I (k σ H Q q)⟩
theorem jk_nil : JK X W [] mNil := pkI pk_nil fun σ H Q ⟨w, r, cs, e, s, ev, a⟩ => by
  have := a w (Le.refl w) s [] rfl
  rw [e] at this
  exact this
theorem jk_cons {nm : Option Str} {kpos : Pos} {kws : List Keyword} (h : JE X W e m) (k : JK X W kws ml) : JK X W (⟨nm, e, kpos⟩ :: kws) (mCons m ml) := pkI (pk_cons h k) t_cons
noncomputable def mApp (ma mb : ML) : ML := fun r cs => (ma r cs).bind fun ds cs => (mb r cs).bind fun es cs => .ok (ds ++ es) cs
noncomputable def mCallK0 (f : Fn) (k : Nat) (ix : List Nat) (mk : ML) : M := fun r cs => (mk r cs).bind fun es cs => if es.length = k then noteE r (f (pick ix es) cs) else .bad
noncomputable def mCallK (f : Fn) (n k : Nat) (ix : List Nat) (ml mk : ML) : M := fun r cs => (ml r cs).bind fun ds cs => (mk r cs).bind fun es cs => if ds.length = n ∧ es.length = k then noteE r (f (pick ix (ds ++ es)) cs) else .bad
section
variable {k : Nat} {f : Addr} {fd : FuncData} {ps ks : List Str} {fn : Fn} {x : Str} {p : Pos} {mk : ML} {kws : List Keyword} {nn : Nat} {ix : List Nat}
theorem run_fnKS {pins : List (Addr × Obj)} {σ : L2.St} {H : Hp} {s : Shared} {Q : VK} {us ws : List Value} {vs zs : List V} {E : XK} (F : FnOk X.prog X.w X.K X.mg X.base (L2.CX X.prog X.w) k f fd ps (spF X.K fn)) (hr : Room k X.A) (hb : KBs fd ps nn ks ix)
    (hx : PassesAt (L2.CX X.prog X.w) X σ E) (I : Inv X pins σ H s) (r : Vals vs us) (rz : Vals zs ws) (h1 : vs.length = nn) (h2 : zs.length = ks.length) (h : spF X.K fn (pick ix (vs ++ zs)) H Q E) : wpAny (model X.prog X.w) X.A (call (.ref f) us (ks.zip ws)) (EP X pins σ Q) X.xe s := by
  have r2 : Vals (pick ix (vs ++ zs)) (pick ix (us ++ ws)) := Vals.pick (Vals.append r rz) ix
  have hl : (pick ix (us ++ ws)).length = ps.length := by rw [← r2.length]; exact F.len _ _ _ _ h
  have hbt : BindsTo s fd ⟨us, ks.zip ws⟩ (ps.zip (pick ix (us ++ ws))) := .of_eq (hb us ws (r.length ▸ h1) (rz.length ▸ h2))
  refine wpAny_call (codeAny_mono (F.run X.A X.stack s H ⟨us, ks.zip ws⟩ (pick ix (us ++ ws)) (pick ix (vs ++ zs)) Q E hr I.env0 hbt r2 h) fun r s' hq => ?_)
  cases r with
  | error e => exact hx pins H s e s' I hq
  | ok fl =>
    cases fl with
    | ret u => exact I.after hq
    | next => exact False.elim hq
    | brk => exact False.elim hq
    | cont => exact False.elim hq
theorem je_callK0 (F : FnOk X.prog X.w X.K X.mg X.base (L2.CX X.prog X.w) k f fd ps (spF X.K fn)) (hr : Room k X.A) (hg : Gl X x) (hm : X.mg x = some (.ref f)) (hk : PySem.W.keepIn X.K (.ref f) = true) (hb : KBs fd ps 0 ks ix) (tk : Takes X W)
    (hkw : JK X W kws mk) (hall : (backToKw pos (keywordEach kws X.env)).all (·.1.isSome) = true := by rfl) (hks : (backToKw pos (keywordEach kws X.env)).filterMap (·.1) = ks := by rfl) (hdb : (x == ("__debug__" : Str)) = false := by decide)
    (hpl : ((backTo pos (starEach [] X.env)).any (·.1) || (backToKw pos (keywordEach kws X.env)).any (·.1.isNone)) = false := by rfl) :
    JE X W (.Call (.Name x p) [] kws pos) (mCallK0 fn ks.length ix mk) := by
  refine ⟨fun pins s σ H Q I ⟨w, rr, cs, e, sm, ev, a⟩ => ?_⟩
  refine wpAny_Call_Name_kw (ld_glob I hg hm ?_ hdb)
  refine PySem.W.callWith_KW0 (h₀ := X.base) I.ok.mod.kin hk hall ?_ hpl
  have t : tA X.K W mk σ H (fun zs H2 => zs.length = ks.length ∧ spF X.K fn (pick ix ([] ++ zs)) H2 Q (WE W σ)) := by
    refine ⟨w, rr, cs, e, sm, ev, (After.bind a).imp fun ds cs1 w1 l1 s1 a1 vs r1 => ?_⟩
    obtain ⟨hz, a1⟩ := if_bad a1
    exact ⟨by rw [← Reps.length _ r1]; exact hz, w1, pick ix ds, cs1, rfl, s1, Reps.pick r1 ix, After.note (ev.mono l1) a1⟩
  refine thn (hkw.run pos pins s σ H _ I t) fun ws s2 ⟨zs, H2, I2, rz, q1, q2⟩ => ⟨I2.kIn, ?_⟩
  rw [hks]
  exact run_fnKS (us := []) (vs := []) F hr hb (passAt tk σ) I2 .nil rz rfl q1 q2
end
end
/-! ### a def -/
/-- what a def hands back: cells of its own are left behind, but one list that it returns (also in a pair behind a word) -/
noncomputable def outR (n : Nat) (d : D) (cs : List D) : R D := if nr d = true then .ok d (cs.take n) else match d with
  | .ref i => if i < n then .ok (.ref i) (cs.take n) else match cs[i]? with
    | some c => .ok (.ref n) (cs.take n ++ [c])
    | none => .bad
  | .tup [x, .ref i] => if nr x = true then match cs[i]? with
      | some c => if n ≤ i then .ok (.tup [x, .ref n]) (cs.take n ++ [c]) else .bad
      | none => .bad
    else .bad
  | _ => .bad
noncomputable def finR (n : Nat) : R Fl → R D
  | .ok (.nx _) cs => .ok .non (cs.take n)
  | .ok (.ret d) cs => outR n d cs
  | .err x _ cs => if nr x = true then .err x [] (cs.take n) else .bad
  | _ => .bad
noncomputable def env0 (n : Nat) (ds : List D) : Env := ds.map some ++ List.replicate (n - ds.length) none
/-- the def's function: nps parameters, nn names -/
noncomputable def mDef (nps nn : Nat) (m : MS) : Fn := fun ds cs => if ds.length = nps then finR cs.length (m (env0 nn ds) cs) else .bad
section
variable {K : PySem.W.Frag}
noncomputable def Wd.cut (w : Wd) (n : Nat) : Wd := ⟨w.p.take n, w.F, w.G, w.H⟩
theorem take_get {α : Type} {xs : List α} {n i : Nat} {x : α} (h : (xs.take n)[i]? = some x) : i < n ∧ xs[i]? = some x := by
  rw [List.getElem?_take] at h
  split at h
  · exact ⟨by assumption, h⟩
  · cases h
theorem ORep.cell {w w' : Wd} {a : Addr} (hp : ∀ a, w.F a → w'.F a) (hk : ∀ a, w.F a → w'.H a = w.H a) (hh : w'.H a = w.H a) : ∀ (d : D), nr d = true → ORep K w a d → ORep K w' a d := fun d c4 c3 => by
  cases d with
  | lst l => obtain ⟨xs, h, r⟩ := c3; exact ⟨xs, hh.trans h, Reps.nr K hp hk _ _ c4 r⟩
  | dct ks l => obtain ⟨xs, h, q, r⟩ := c3; exact ⟨xs, hh.trans h, q, Reps.nr K hp hk _ _ c4 r⟩
  | ins C ns l => obtain ⟨dx, xs, h, q, r⟩ := c3; exact ⟨dx, xs, hh.trans h, q, Reps.nr K hp hk _ _ c4 r⟩
  | _ => obtain ⟨u, h⟩ := c3; exact ⟨u, hh.trans h⟩
theorem Sim.cut {w : Wd} {cs : List D} (s : Sim K w cs) (n : Nat) : Sim K (w.cut n) (cs.take n) := by
  refine ⟨?_, fun i j a hi hj => s.nd i j a (take_get hi).2 (take_get hj).2, s.trk, fun a g => ?_, fun i a d hi hd => ?_⟩
  · show (w.p.take n).length = _
    rw [List.length_take, List.length_take, s.len]
  · obtain ⟨g1, g2, g3⟩ := s.gtr a g
    exact ⟨g1, g2, fun i hi => g3 i (take_get hi).2⟩
  · obtain ⟨c1, c2, c3, c4⟩ := s.cell i a d (take_get hi).2 (take_get hd).2
    exact ⟨c1, c2, ORep.cell (w := w) (w' := w.cut n) (fun _ h => h) (fun _ _ => rfl) rfl d c4 c3, c4⟩
theorem Le.cut {w0 w : Wd} {n : Nat} (l : Le w0 w) (h : w0.p.length ≤ n) : Le w0 (w.cut n) := by
  refine ⟨fun i a hi => ?_, l.fr, l.keep, l.gd⟩
  have hl : i < w0.p.length := (List.getElem?_eq_some_iff.mp hi).1
  show (w.p.take n)[i]? = some a
  rw [List.getElem?_take, if_pos (by omega)]
  exact l.pre i a hi
/-- one cell is kept, as the last -/
noncomputable def Wd.keep1 (w : Wd) (n : Nat) (a : Addr) : Wd := ⟨w.p.take n ++ [a], w.F, w.G, w.H⟩
theorem Sim.keep1 {w : Wd} {cs : List D} {n i : Nat} {a : Addr} {c : D} (s : Sim K w cs) (hn : n ≤ i) (hi : w.p[i]? = some a) (hc : cs[i]? = some c) : Sim K (w.keep1 n a) (cs.take n ++ [c]) := by
  have hlen : i < w.p.length := (List.getElem?_eq_some_iff.mp hi).1
  have hl : (w.p.take n).length = n := by
    rw [List.length_take]
    omega
  have hl2 : (cs.take n).length = n := by
    rw [List.length_take, ← s.len]
    omega
  have get : ∀ (j : Nat) (b : Addr), (w.p.take n ++ [a])[j]? = some b → (j < n ∧ w.p[j]? = some b) ∨ (j = n ∧ b = a) := fun j b h => by
    by_cases hj : j < n
    · rw [List.getElem?_append_left (by omega)] at h
      exact .inl ⟨hj, (take_get h).2⟩
    · have hz := (List.getElem?_eq_some_iff.mp h).1
      rw [List.length_append, hl] at hz
      simp at hz
      have : j = n := by omega
      subst this
      rw [List.getElem?_append_right (by omega), hl, Nat.sub_self] at h
      exact .inr ⟨rfl, (Option.some.inj h).symm⟩
  refine ⟨?_, fun j k b hj hk => ?_, s.trk, fun b g => ?_, fun j b d hj hd => ?_⟩
  · show (w.p.take n ++ [a]).length = _
    rw [List.length_append, List.length_append, hl, hl2]
    rfl
  · rcases get j b hj with ⟨h1, h2⟩ | ⟨h1, h2⟩ <;> rcases get k b hk with ⟨h3, h4⟩ | ⟨h3, h4⟩
    · exact s.nd j k b h2 h4
    · subst h4
      have := s.nd j i b h2 hi
      omega
    · subst h2
      have := s.nd k i b h4 hi
      omega
    · omega
  · obtain ⟨g1, g2, g3⟩ := s.gtr b g
    refine ⟨g1, g2, fun j hj => ?_⟩
    rcases get j b hj with ⟨_, h2⟩ | ⟨_, h2⟩
    · exact g3 j h2
    · subst h2
      exact g3 i hi
  · have tr : ∀ (b : Addr) (d : D), nr d = true → ORep K w b d → ORep K (w.keep1 n a) b d := fun b d c4 c3 => ORep.cell (w := w) (w' := w.keep1 n a) (fun _ h => h) (fun _ _ => rfl) rfl d c4 c3
    rcases get j b hj with ⟨h1, h2⟩ | ⟨h1, h2⟩
    · rw [List.getElem?_append_left (by omega)] at hd
      obtain ⟨c1, c2, c3, c4⟩ := s.cell j b d h2 (take_get hd).2
      exact ⟨c1, c2, tr b d c4 c3, c4⟩
    · subst h1 h2
      rw [List.getElem?_append_right (by omega), hl2, Nat.sub_self] at hd
      have e : c = d := Option.some.inj hd
      subst e
      obtain ⟨c1, c2, c3, c4⟩ := s.cell i b c hi hc
      exact ⟨c1, c2, tr b c c4 c3, c4⟩
theorem Le.keep1 {w0 w : Wd} {n : Nat} {a : Addr} (l : Le w0 w) (h : w0.p.length = n) : Le w0 (w.keep1 n a) := by
  refine ⟨fun i b hi => ?_, l.fr, l.keep, l.gd⟩
  have hl : i < w0.p.length := (List.getElem?_eq_some_iff.mp hi).1
  have hi' := l.pre i b hi
  have hl' : i < w.p.length := (List.getElem?_eq_some_iff.mp hi').1
  show (w.p.take n ++ [a])[i]? = some b
  rw [List.getElem?_append_left (by rw [List.length_take]; omega), List.getElem?_take, if_pos (by omega)]
  exact hi'
theorem out_ok {E : EE} {w0 w : Wd} {n : Nat} {d : D} {cs : List D} {Q : VK} {v : V} (h0 : w0.p.length = n) (l : Le w0 w) (s : Sim K w cs) (rv : Rep K w d v) (h : After K E w0 (outR n d cs) (fun d _ w' => ∀ v, Rep K w' d v → Q v w'.H)) : Q v w.H := by
  unfold outR at h
  have hx : Lx w (w.cut n) → True := fun _ => trivial
  split at h
  · rename_i hn
    exact h (w.cut n) (l.cut (by omega)) (s.cut n) v (Rep.nr K (w := w) (w' := w.cut n) (fun _ h => h) (fun _ _ => rfl) d v hn rv)
  · split at h
    · rename_i i _
      obtain ⟨a, rfl, hi⟩ := rv
      split at h
      · rename_i hin
        refine h (w.cut n) (l.cut (by omega)) (s.cut n) (.ref a) ⟨a, rfl, ?_⟩
        show (w.p.take n)[i]? = some a
        rw [List.getElem?_take, if_pos hin]
        exact hi
      · rename_i hin
        split at h
        · rename_i c hc
          refine h (w.keep1 n a) (l.keep1 h0) (s.keep1 (by omega) hi hc) (.ref a) ⟨a, rfl, ?_⟩
          show (w.p.take n ++ [a])[n]? = some a
          have hlen : i < w.p.length := (List.getElem?_eq_some_iff.mp hi).1
          have hl : (w.p.take n).length = n := by
            rw [List.length_take]
            omega
          rw [List.getElem?_append_right (by omega), hl, Nat.sub_self]
          rfl
        · exact h.elim
    · rename_i x i _
      split at h
      · rename_i hnx
        split at h
        · rename_i c hc
          split at h
          · rename_i hin
            obtain ⟨p, xs, rfl, f, g, rs⟩ := rv
            obtain ⟨v1, vs1, rfl, r1, v2, vs2, e2, r2, r3⟩ := rs
            obtain ⟨a, rfl, hi⟩ := r2
            cases (show vs2 = [] from r3)
            subst e2
            refine h (w.keep1 n a) (l.keep1 h0) (s.keep1 hin hi hc) (.ref p) ⟨p, _, rfl, f, g, v1, _, rfl, Rep.nr K (w := w) (w' := w.keep1 n a) (fun _ h => h) (fun _ _ => rfl) x v1 hnx r1, .ref a, [], rfl, ⟨a, rfl, ?_⟩, rfl⟩
            show (w.p.take n ++ [a])[n]? = some a
            have hlen : i < w.p.length := (List.getElem?_eq_some_iff.mp hi).1
            have hl : (w.p.take n).length = n := by
              rw [List.length_take]
              omega
            rw [List.getElem?_append_right (by omega), hl, Nat.sub_self]
            rfl
          · exact h.elim
        · exact h.elim
      · exact h.elim
    · exact h.elim
theorem Reps.env {w : Wd} {n : Nat} {ds : List D} {vs : List V} {N : List Str} (h : Reps K w ds vs) (hn : N.length = n) : EnvR K w (env0 n ds) (L2.start N vs) := by
  have hl := Reps.length K h
  refine ⟨?_, fun i d e => ?_⟩
  · unfold env0 L2.start
    rw [List.length_append, List.length_append, List.length_map, List.length_map, List.length_replicate, List.length_replicate]
    omega
  · unfold env0 at e
    by_cases hi : i < ds.length
    · rw [List.getElem?_append_left (by rw [List.length_map]; exact hi), List.getElem?_map] at e
      cases hd : ds[i]? with
      | none =>
        rw [hd] at e
        cases e
      | some d' =>
        rw [hd] at e
        have e2 : d' = d := Option.some.inj (Option.some.inj e)
        subst e2
        obtain ⟨v, hv, rv⟩ := Reps.get K h hd
        refine ⟨v, ?_, rv⟩
        unfold L2.start
        rw [List.getElem?_append_left (by rw [List.length_map]; omega), List.getElem?_map, hv]
        rfl
    · rw [List.getElem?_append_right (by rw [List.length_map]; omega), List.getElem?_replicate] at e
      split at e <;> cases e
variable {P : Program} {w : World} {mg : Str → Option Value} {base : Heap} {x qual : Str} {st : Stmt} {f : Addr} {fd : FuncData} {N ps : List Str} {k : Nat}
/-- the wish of a def's own frame -/
abbrev WD (E : XK) : WX := fun c d _ H => E c d H
theorem fn_ok {m : MS} (F : Fun K x qual st f fd) (S : FnScope N ps (defScope st))
    (hb : ∀ (cdv : Value) (A : Around) (outer : List PySem.Env) (s : Shared) (H : Hp) (E : XK), Room k (A.deeper (envOfC qual (defScope st) s.heap.objs.size f cdv)) →
      JB (cxOf (L2.CX P w) P w K mg base N qual (defScope st) f cdv A outer s H E) (WD E) (defBody st) m) :
    FnOk P w K mg base (L2.CX P w) (k + 1) f fd ps (spF K (mDef ps.length N.length m)) := by
  refine F.okX S (fun vs H Q E h => ?_) (fun cdv A outer s H vs Q E hr h => ?_)
  · obtain ⟨w, ds, cs, e, sm, rs, a⟩ := h
    unfold mDef at a
    obtain ⟨hl, a⟩ := if_bad a
    rw [← Reps.length K rs]
    exact hl
  · obtain ⟨w0, ds, cs, e, sm, rs, a⟩ := h
    unfold mDef at a
    obtain ⟨hl, a⟩ := if_bad a
    refine ⟨_, hb cdv A outer s H E hr, w0, _, cs, e, sm, Reps.env rs rfl, ?_⟩
    have h0 : w0.p.length = cs.length := sm.len
    cases hm : m (env0 N.length ds) cs with
    | bad =>
      rw [hm] at a
      exact a
    | err x r cs' =>
      rw [hm] at a
      unfold finR at a
      obtain ⟨hn, a⟩ := if_bad a
      intro w1 c od l1 s1 xr σ' ev'
      refine a (w1.cut cs.length) c od (l1.cut (by omega)) (s1.cut _) ?_
      cases x with
      | ins C ns l =>
        obtain ⟨e1, h1⟩ := xr
        refine ⟨e1, ?_⟩
        rcases h1 with h1 | ⟨d, xs, h1, h2, h3, h4, h5⟩
        · exact .inl h1
        · exact .inr ⟨d, xs, h1, h2, h3, h4, Reps.nr K (w := w1) (w' := w1.cut cs.length) (fun _ h => h) (fun _ _ => rfl) l xs hn h5⟩
      | ty n => exact xr
      | _ => exact xr.elim
    | ok fl cs' =>
      rw [hm] at a
      intro w1 l1 s1
      cases fl with
      | nx r =>
        intro σ' ev'
        exact a (w1.cut cs.length) (l1.cut (by omega)) (s1.cut _) .non rfl
      | ret d =>
        intro v rv
        exact out_ok h0 l1 s1 rv a
      | brk r => exact a.elim
      | ct r => exact a.elim
end
end Wf
set_option Elab.async false
set_option linter.all false
set_option maxRecDepth 100000
/-! What the operations do on data. -/
namespace Wf
open PySem PySem.Spec PyProof.Rows L2
section
variable {K : PySem.W.Frag} {E : EE} {w : Wd} {cs : List D} {Q : VK}
theorem aft {d : D} {v : V} (s : Sim K w cs) (h : After K E w (.ok d cs) (fun d _ w' => ∀ v, Rep K w' d v → Q v w'.H)) (r : Rep K w d v) : Q v w.H := h w (Le.refl w) s v r
theorem aftL {l : List D} {xs : List V} {p : Addr} (s : Sim K w cs) (h : After K E w (.ok (.lst l) cs) (fun d _ w' => ∀ v, Rep K w' d v → Q v w'.H)) (np : w.H p = none) (r : Reps K w l xs) : Q (.ref p) (upd w.H p (.lst xs)) :=
  h (w.new p (.lst xs)) (s.le_new np) (s.new np) (.ref p) (Rep.newL s np r)
theorem aftT {l : List D} {xs : List V} {p : Addr} (s : Sim K w cs) (h : After K E w (.ok (.tup l) cs) (fun d _ w' => ∀ v, Rep K w' d v → Q v w'.H)) (np : w.H p = none) (r : Reps K w l xs) : Q (.ref p) (upd w.H p (.tup xs)) :=
  h (w.new p (.tup xs)) (s.le_new np) (s.new np) (.ref p) (Rep.newT s np r)
/-- a list, whichever -/
noncomputable def lstOf (cs : List D) (d : D) : Option (List D) := match d with
  | .lst l => some l
  | .wl l => some (l.map .int)
  | .ref i => match cs[i]? with
    | some (.lst l) => some l
    | _ => none
  | _ => none
/-- a list of the call's own -/
noncomputable def lstOwn (cs : List D) (d : D) : Option (List D) := match d with
  | .lst l => some l
  | .ref i => match cs[i]? with
    | some (.lst l) => some l
    | _ => none
  | _ => none
theorem lstOwn_ok {d : D} {v : V} {l : List D} (s : Sim K w cs) (r : Rep K w d v) (h : lstOwn cs d = some l) : ∃ a xs, v = .ref a ∧ w.H a = some (.lst xs) ∧ Reps K w l xs := by
  cases d with
  | lst m =>
    obtain ⟨a, xs, rfl, f, g, q⟩ := r
    cases h
    exact ⟨a, xs, rfl, g, q⟩
  | ref i =>
    obtain ⟨a, rfl, hi⟩ := r
    unfold lstOwn at h
    cases hc : cs[i]? with
    | none =>
      simp only [hc] at h
      cases h
    | some c =>
      obtain ⟨_, _, o, _⟩ := s.cell i a c hi hc
      cases c with
      | lst m =>
        simp only [hc] at h
        cases h
        obtain ⟨xs, g, q⟩ := o
        exact ⟨a, xs, rfl, g, q⟩
      | _ =>
        simp only [hc] at h
        cases h
  | _ => cases h
theorem lstOf_ok {d : D} {v : V} {l : List D} (s : Sim K w cs) (r : Rep K w d v) (h : lstOf cs d = some l) : ∃ a xs, v = .ref a ∧ SqL K w.H a xs ∧ Reps K w l xs := by
  cases d with
  | wl m =>
    obtain ⟨a, rfl, q⟩ := r
    cases h
    refine ⟨a, m.map V.int, rfl, ?_, Reps.ints K m⟩
    rcases q with ⟨_, q⟩ | q
    · exact q
    · exact q w.H
  | lst m =>
    obtain ⟨a, xs, e, g, q⟩ := lstOwn_ok s r (show lstOwn cs (.lst m) = some l from h)
    exact ⟨a, xs, e, .inl (.inl g), q⟩
  | ref i =>
    obtain ⟨a, xs, e, g, q⟩ := lstOwn_ok s r (show lstOwn cs (.ref i) = some l from h)
    exact ⟨a, xs, e, .inl (.inl g), q⟩
  | _ => cases h
/-! ### ints -/
noncomputable def liftI (f : Int → Int → D) : Op2 := fun x y cs => match x, y with
  | .int i, .int j => .ok (f i j) cs
  | _, _ => .bad
/-! ### + -/
noncomputable def addD : Op2 := fun x y cs => match x, y with
  | .int i, .int j => .ok (.int (i + j)) cs
  | .str i, .str j => if i.length + j.length ≤ sizeLine then .ok (.str (i ++ j)) cs else .bad
  | .tup l, .tup m => if l ≠ [] ∧ m ≠ [] ∧ l.length + m.length ≤ sizeLine then .ok (.tup (l ++ m)) cs else .bad
  | _, _ => match lstOwn cs x, lstOwn cs y with
    | some l, some m => if l.length + m.length ≤ sizeLine then .ok (.lst (l ++ m)) cs else .bad
    | _, _ => .bad
noncomputable def rAddAny (K : PySem.W.Frag) : R2 := fun x y H Q => (rI0 fun i j => .int (i + j)) x y H Q ∨ (∃ i j, x = .str i ∧ y = .str j ∧ i.length + j.length ≤ sizeLine ∧ Q (.str (i ++ j)) H) ∨ rCatT K x y H Q ∨ rCat x y H Q
theorem op_addD {X : Cx} : OpR X (binaryOp .Add) (rAddAny X.K) := op_add.or (op_add_str.or (op_catT.or op_cat))
theorem add_lst {x y : D} {vx vy : V} (s : Sim K w cs) (rx : Rep K w x vx) (ry : Rep K w y vy) (h : After K E w (match lstOwn cs x, lstOwn cs y with
    | some l, some m => if l.length + m.length ≤ sizeLine then .ok (.lst (l ++ m)) cs else .bad
    | _, _ => .bad) (fun d _ w' => ∀ v, Rep K w' d v → Q v w'.H)) : rCat vx vy w.H Q := by
  cases h1 : lstOwn cs x with
  | none =>
    simp only [h1] at h
    exact h.elim
  | some l =>
    cases h2 : lstOwn cs y with
    | none =>
      simp only [h1, h2] at h
      exact h.elim
    | some m =>
      simp only [h1, h2] at h
      obtain ⟨hz, h⟩ := if_bad h
      obtain ⟨a, xs, rfl, ga, qa⟩ := lstOwn_ok s rx h1
      obtain ⟨b, ys, rfl, gb, qb⟩ := lstOwn_ok s ry h2
      exact ⟨a, b, xs, ys, rfl, rfl, ga, gb, by rw [← Reps.length K qa, ← Reps.length K qb]; exact hz, fun p np => aftL s h np (Reps.app K qa qb)⟩
theorem sp_add : OpS K (rAddAny K) addD := fun E w cs x y vx vy Q s rx ry h => by
  unfold addD at h
  split at h
  · cases (show vx = .int _ from rx)
    cases (show vy = .int _ from ry)
    exact .inl ⟨_, _, rfl, rfl, aft s h rfl⟩
  · cases (show vx = .str _ from rx)
    cases (show vy = .str _ from ry)
    obtain ⟨hz, h⟩ := if_bad h
    exact .inr (.inl ⟨_, _, rfl, rfl, hz, aft s h rfl⟩)
  · obtain ⟨⟨hl, hm, hz⟩, h⟩ := if_bad h
    obtain ⟨a, xs, rfl, fa, ga, qa⟩ := rx
    obtain ⟨b, ys, rfl, fb, gb, qb⟩ := ry
    have ex := Reps.length K qa
    have ey := Reps.length K qb
    refine .inr (.inr (.inl ⟨a, b, xs, ys, rfl, rfl, .inl (.inl ga), .inl (.inl gb), fun e => ?_, by omega, fun e => ?_, fun _ p np => aftT s h np (Reps.app K qa qb)⟩))
    · subst e
      exact hl (List.eq_nil_of_length_eq_zero ex)
    · subst e
      exact absurd (List.eq_nil_of_length_eq_zero ey) hm
  · exact .inr (.inr (.inr (add_lst s rx ry h)))
/-! ### -, *, //, %, ** -/
noncomputable def subD : Op2 := liftI fun i j => .int (i - j)
theorem sp_I0 {f : Int → Int → V} {g : Int → Int → D} (hr : ∀ w i j, Rep K w (g i j) (f i j)) : OpS K (rI0 f) (liftI g) := fun E w cs x y vx vy Q s rx ry h => by
  unfold liftI at h
  split at h
  · cases (show vx = .int _ from rx)
    cases (show vy = .int _ from ry)
    exact ⟨_, _, rfl, rfl, aft s h (hr _ _ _)⟩
  · exact h.elim
theorem sp_sub : OpS K (rI0 fun i j => .int (i - j)) subD := sp_I0 fun _ _ _ => rfl
noncomputable def mulI (i j : Int) : Prop := (-(2 ^ 64) < i ∧ i < 2 ^ 64) ∨ (-(2 ^ 64) < j ∧ j < 2 ^ 64)
instance (i j : Int) : Decidable (mulI i j) := by unfold mulI; exact inferInstance
/-- a text n times: what the model makes of it -/
noncomputable def strMul (x : Str) (n : Int) : Str := Txt.mul x n
noncomputable def mulD : Op2 := fun x y cs => match x, y with
  | .int i, .int j => if mulI i j then .ok (.int (i * j)) cs else .bad
  | .str z, .int n => if 0 ≤ n ∧ n < 2 ^ 24 ∧ z.length * n.toNat ≤ sizeLine then .ok (.str (strMul z n)) cs else .bad
  | _, .int n => match lstOwn cs x with
    | some l => if -(2 ^ 63) ≤ n ∧ n < 2 ^ 63 ∧ l.length * n.toNat ≤ sizeLine then .ok (.lst (List.replicate n.toNat l).flatten) cs else .bad
    | none => .bad
  | _, _ => .bad
noncomputable def rMulS : R2 := fun x y H Q => ∃ z n, x = .str z ∧ y = .int n ∧ MulOk z n ∧ Q (.str (Txt.mul z n)) H
theorem op_mulS {X : Cx} : OpR X (binaryOp .Mult) rMulS := by
  intro pins s σ H x y v u Q I rx ry h
  obtain ⟨z, n, rfl, rfl, ok, q⟩ := h
  obtain ⟨t, rfl⟩ := rx
  obtain ⟨t2, rfl⟩ := ry
  refine SB.mul ok fun t' k => ?_
  exact ⟨.str (Txt.mul z n), H, I.tok k, ⟨_, rfl⟩, q⟩
theorem mulOk_of {z : Str} {n : Int} (h0 : 0 ≤ n) (h1 : n < 2 ^ 24) (h2 : z.length * n.toNat ≤ sizeLine) : MulOk z n := by
  refine ⟨?_, fun h3 _ h4 => ?_, fun _ _ => ?_⟩
  · rw [decide_eq_false (by omega), decide_eq_false (by omega)]
    rfl
  · have h5 : (z.length : Int) * n ≤ 2 ^ 24 := by
      have : (z.length * n.toNat : Nat) ≤ 2 ^ 24 := h2
      have e : ((z.length * n.toNat : Nat) : Int) = (z.length : Int) * n := by
        rw [Int.natCast_mul, Int.toNat_of_nonneg h0]
      omega
    have h6 : (z.length : Int) ≤ (2 ^ 63 - 1) / n := (Int.le_ediv_iff_mul_le (by omega)).mpr (by omega)
    omega
  · unfold PySem.Builtin.Str.tooLong
    rw [decide_eq_false (by omega)]
noncomputable def rMulAny : R2 := fun x y H Q => rI CMul (fun i j => .int (i * j)) x y H Q ∨ rMulS x y H Q ∨ rRep x y H Q
theorem op_mulD {X : Cx} : OpR X (binaryOp .Mult) rMulAny := op_mul.or (op_mulS.or op_rep)
theorem Reps.rep {l : List D} {xs : List V} (h : Reps K w l xs) : ∀ n : Nat, Reps K w (List.replicate n l).flatten (List.replicate n xs).flatten
  | 0 => rfl
  | n + 1 => by
    rw [List.replicate_succ, List.replicate_succ, List.flatten_cons, List.flatten_cons]
    exact Reps.app K h (Reps.rep h n)
theorem sp_mul : OpS K rMulAny mulD := fun E w cs x y vx vy Q s rx ry h => by
  unfold mulD at h
  split at h
  · cases (show vx = .int _ from rx)
    cases (show vy = .int _ from ry)
    obtain ⟨hc, h⟩ := if_bad h
    exact .inl ⟨_, _, rfl, rfl, hc, aft s h rfl⟩
  · cases (show vx = .str _ from rx)
    cases (show vy = .int _ from ry)
    obtain ⟨⟨h0, h1, h2⟩, h⟩ := if_bad h
    exact .inr (.inl ⟨_, _, rfl, rfl, mulOk_of h0 h1 h2, aft s h rfl⟩)
  · cases (show vy = .int _ from ry)
    rename_i n _ _
    cases h1 : lstOwn cs x with
    | none =>
      simp only [h1] at h
      exact h.elim
    | some l =>
      simp only [h1] at h
      obtain ⟨⟨h2, h3, h4⟩, h⟩ := if_bad h
      obtain ⟨a, xs, rfl, ga, qa⟩ := lstOwn_ok s rx h1
      exact .inr (.inr ⟨a, n, xs, rfl, rfl, ga, h2, h3, by rw [← Reps.length K qa]; exact h4, fun p np => aftL s h np (Reps.rep qa _)⟩)
  · exact h.elim
noncomputable def modD : Op2 := fun x y cs => match x, y with
  | .int i, .int j => if j ≠ 0 then .ok (.int (i.fmod j)) cs else .bad
  | _, _ => .bad
theorem sp_mod : OpS K (rI (fun _ j => j ≠ 0) fun i j => .int (i.fmod j)) modD := fun E w cs x y vx vy Q s rx ry h => by
  unfold modD at h
  split at h
  · cases (show vx = .int _ from rx)
    cases (show vy = .int _ from ry)
    obtain ⟨hc, h⟩ := if_bad h
    exact ⟨_, _, rfl, rfl, hc, aft s h rfl⟩
  · exact h.elim
noncomputable def fdivD : Op2 := fun x y cs => match x, y with
  | .int i, .int j => if j ≠ 0 ∧ j.natAbs < 1073741824 then .ok (.int (i.fdiv j)) cs else .bad
  | _, _ => .bad
theorem sp_fdiv : OpS K (rI CDivN fun i j => .int (i.fdiv j)) fdivD := fun E w cs x y vx vy Q s rx ry h => by
  unfold fdivD at h
  split at h
  · cases (show vx = .int _ from rx)
    cases (show vy = .int _ from ry)
    obtain ⟨hc, h⟩ := if_bad h
    exact ⟨_, _, rfl, rfl, hc, aft s h rfl⟩
  · exact h.elim
noncomputable def powD : Op2 := fun x y cs => match x, y with
  | .int i, .int j => if 0 ≤ j ∧ j ≤ 1000000 ∧ i.natAbs < 2 ^ 64 then .ok (.int (i ^ j.toNat)) cs else .bad
  | _, _ => .bad
theorem sp_pow : OpS K (rI CPow fun i j => .int (i ^ j.toNat)) powD := fun E w cs x y vx vy Q s rx ry h => by
  unfold powD at h
  split at h
  · cases (show vx = .int _ from rx)
    cases (show vy = .int _ from ry)
    obtain ⟨hc, h⟩ := if_bad h
    exact ⟨_, _, rfl, rfl, hc, aft s h rfl⟩
  · exact h.elim
noncomputable def negD : Op1 := fun x cs => match x with
  | .int i => .ok (.int (-i)) cs
  | _ => .bad
theorem sp_neg : UnS K (rU fun i => .int (-i)) negD := fun E w cs x vx Q s rx h => by
  unfold negD at h
  split at h
  · cases (show vx = .int _ from rx)
    exact ⟨_, rfl, aft s h rfl⟩
  · exact h.elim
/-! ### comparisons -/
noncomputable def ltD : Op2 := fun x y cs => match x, y with
  | .int i, .int j => .ok (.bl (decide (i < j))) cs
  | .str i, .str j => .ok (.bl (decide (i.cps.toList < j.cps.toList))) cs
  | _, _ => .bad
noncomputable def rLtAny : R2 := fun x y H Q => (rI0 fun i j => .bl (decide (i < j))) x y H Q ∨ ∃ i j, x = .str i ∧ y = .str j ∧ Q (.bl (decide (i.cps.toList < j.cps.toList))) H
theorem op_ltD {X : Cx} : OpR X (compareOp .Lt) rLtAny := op_lt.or op_lt_str
theorem sp_lt : OpS K rLtAny ltD := fun E w cs x y vx vy Q s rx ry h => by
  unfold ltD at h
  split at h
  · cases (show vx = .int _ from rx)
    cases (show vy = .int _ from ry)
    exact .inl ⟨_, _, rfl, rfl, aft s h rfl⟩
  · cases (show vx = .str _ from rx)
    cases (show vy = .str _ from ry)
    exact .inr ⟨_, _, rfl, rfl, aft s h rfl⟩
  · exact h.elim
noncomputable def leD : Op2 := fun x y cs => match x, y with
  | .int i, .int j => .ok (.bl (decide (i ≤ j))) cs
  | .str i, .str j => .ok (.bl (!decide (j.cps.toList < i.cps.toList))) cs
  | _, _ => .bad
noncomputable def rLeAny : R2 := fun x y H Q => (rI0 fun i j => .bl (decide (i ≤ j))) x y H Q ∨ ∃ i j, x = .str i ∧ y = .str j ∧ Q (.bl (!decide (j.cps.toList < i.cps.toList))) H
theorem op_leD {X : Cx} : OpR X (compareOp .LtE) rLeAny := op_le.or op_le_str
theorem sp_le : OpS K rLeAny leD := fun E w cs x y vx vy Q s rx ry h => by
  unfold leD at h
  split at h
  · cases (show vx = .int _ from rx)
    cases (show vy = .int _ from ry)
    exact .inl ⟨_, _, rfl, rfl, aft s h rfl⟩
  · cases (show vx = .str _ from rx)
    cases (show vy = .str _ from ry)
    exact .inr ⟨_, _, rfl, rfl, aft s h rfl⟩
  · exact h.elim
noncomputable def gtD : Op2 := liftI fun i j => .bl (decide (j < i))
theorem sp_gt : OpS K (rI0 fun i j => .bl (decide (j < i))) gtD := sp_I0 fun _ _ _ => rfl
noncomputable def geD : Op2 := liftI fun i j => .bl (decide (j ≤ i))
theorem sp_ge : OpS K (rI0 fun i j => .bl (decide (j ≤ i))) geD := sp_I0 fun _ _ _ => rfl
-- == of scalars; of nested data by the library's own
mutual
noncomputable def pyOf : D → Option PyData
  | .non => some .none
  | .bl b => some (.bool b)
  | .int i => some (.int i)
  | .str s => some (.str s)
  | .lst l => (pysOf l).map .list
  | .tup l => (pysOf l).map .tuple
  | _ => none
noncomputable def pysOf : List D → Option (List PyData)
  | [] => some []
  | d :: ds => match pyOf d, pysOf ds with
    | some a, some as => some (a :: as)
    | _, _ => none
end
noncomputable def pyTop (cs : List D) (d : D) : Option PyData := match d with
  | .ref i => match cs[i]? with
    | some (.lst l) => (pysOf l).map .list
    | _ => none
  | d => pyOf d
mutual
theorem pyOf_ok {w : Wd} : ∀ (d : D) (v : V) (p : PyData), Rep K w d v → pyOf d = some p → Dp K w.H v p
  | .non, v, p, r, h => by
    cases (show v = .non from r)
    cases h
    exact .non
  | .bl b, v, p, r, h => by
    cases (show v = .bl b from r)
    cases h
    exact .bl b
  | .int i, v, p, r, h => by
    cases (show v = .int i from r)
    cases h
    exact .int i
  | .str z, v, p, r, h => by
    cases (show v = .str z from r)
    cases h
    exact .str z
  | .lst l, v, p, r, h => by
    obtain ⟨a, xs, rfl, f, g, q⟩ := r
    have h' : (pysOf l).map PyData.list = some p := h
    cases h1 : pysOf l with
    | none =>
      rw [h1] at h'
      cases h'
    | some ps =>
      rw [h1] at h'
      cases h'
      exact .lst (.inl (.inl g)) (pysOf_ok l xs ps q h1)
  | .tup l, v, p, r, h => by
    obtain ⟨a, xs, rfl, f, g, q⟩ := r
    have h' : (pysOf l).map PyData.tuple = some p := h
    cases h1 : pysOf l with
    | none =>
      rw [h1] at h'
      cases h'
    | some ps =>
      rw [h1] at h'
      cases h'
      exact .tup (.inl (.inl g)) (pysOf_ok l xs ps q h1)
  | .ty _, v, p, r, h => by cases h
  | .rf _, v, p, r, h => by cases h
  | .wl _, v, p, r, h => by cases h
  | .dct _ _, v, p, r, h => by cases h
  | .ins _ _ _, v, p, r, h => by cases h
  | .exn _ _ _ _, v, p, r, h => by cases h
  | .xob _ _ _, v, p, r, h => by cases h
  | .ref _, v, p, r, h => by cases h
theorem pysOf_ok {w : Wd} : ∀ (l : List D) (xs : List V) (ps : List PyData), Reps K w l xs → pysOf l = some ps → DpAll K w.H xs ps
  | [], xs, ps, r, h => by
    cases (show xs = [] from r)
    cases h
    exact .nil
  | d :: ds, xs, ps, r, h => by
    obtain ⟨v, vs, rfl, rv, rs⟩ := r
    have h' : (match pyOf d, pysOf ds with
      | some a, some as => some (a :: as)
      | _, _ => none) = some ps := h
    cases h1 : pyOf d with
    | none =>
      simp only [h1] at h'
      cases h'
    | some a =>
      cases h2 : pysOf ds with
      | none =>
        simp only [h1, h2] at h'
        cases h'
      | some as =>
        simp only [h1, h2] at h'
        cases h'
        exact .cons (pyOf_ok d v a rv h1) (pysOf_ok ds vs as rs h2)
end
theorem pyTop_ok {d : D} {v : V} {p : PyData} (s : Sim K w cs) (r : Rep K w d v) (h : pyTop cs d = some p) : Dp K w.H v p := by
  cases d with
  | ref i =>
    obtain ⟨a, rfl, hi⟩ := r
    unfold pyTop at h
    cases hc : cs[i]? with
    | none =>
      simp only [hc] at h
      cases h
    | some c =>
      obtain ⟨_, _, o, _⟩ := s.cell i a c hi hc
      cases c with
      | lst l =>
        simp only [hc] at h
        obtain ⟨xs, g, q⟩ := o
        cases h1 : pysOf l with
        | none =>
          rw [h1] at h
          cases h
        | some ps =>
          rw [h1] at h
          cases h
          exact .lst (.inl (.inl g)) (pysOf_ok l xs ps q h1)
      | _ =>
        simp only [hc] at h
        cases h
  | _ => exact pyOf_ok _ v p r h
noncomputable def eqS (x y : D) : Option Bool := match x, y with
  | .int i, .int j => some (decide (i = j))
  | .str i, .str j => some (decide (i = j))
  | .bl i, .bl j => some (decide (i = j))
  | _, _ => none
noncomputable def eqB (cs : List D) (x y : D) : Option Bool := match eqS x y with
  | some b => some b
  | none => match pyTop cs x, pyTop cs y with
    | some a, some b => if SeqAt.shaped a = true ∧ SeqAt.shaped b = true then some (PyData.eqv a b) else none
    | _, _ => none
noncomputable def eqD : Op2 := fun x y cs => match eqB cs x y with
  | some b => .ok (.bl b) cs
  | none => .bad
noncomputable def neD : Op2 := fun x y cs => match eqB cs x y with
  | some b => .ok (.bl (!b)) cs
  | none => .bad
noncomputable def rEqAny (K : PySem.W.Frag) : R2 := fun x y H Q => rEq x y H Q ∨ rEqD K x y H Q
noncomputable def rNeAny (K : PySem.W.Frag) : R2 := fun x y H Q => rNe x y H Q ∨ rNeD K x y H Q
theorem op_eqA {X : Cx} (hu : X.A.units + 64 < cLine) : OpR X (compareOp .Eq) (rEqAny X.K) := op_eq.or (op_eqD hu)
theorem op_neA {X : Cx} (hu : X.A.units + 64 < cLine) : OpR X (compareOp .NotEq) (rNeAny X.K) := op_ne.or (op_neD hu)
theorem eqS_ok {x y : D} {vx vy : V} {b : Bool} (rx : Rep K w x vx) (ry : Rep K w y vy) (h : eqS x y = some b) : scal vx vy = true ∧ decide (vx = vy) = b := by
  unfold eqS at h
  split at h
  · cases (show vx = .int _ from rx)
    cases (show vy = .int _ from ry)
    cases h
    refine ⟨rfl, ?_⟩
    rw [Bool.eq_iff_iff]
    simp
  · cases (show vx = .str _ from rx)
    cases (show vy = .str _ from ry)
    cases h
    refine ⟨rfl, ?_⟩
    rw [Bool.eq_iff_iff]
    simp
  · cases (show vx = .bl _ from rx)
    cases (show vy = .bl _ from ry)
    cases h
    refine ⟨rfl, ?_⟩
    rw [Bool.eq_iff_iff]
    simp
  · cases h
theorem eqB_ok {x y : D} {vx vy : V} {b : Bool} (s : Sim K w cs) (rx : Rep K w x vx) (ry : Rep K w y vy) (h : eqB cs x y = some b) :
    (scal vx vy = true ∧ decide (vx = vy) = b) ∨ ∃ d e, Dp K w.H vx d ∧ Dp K w.H vy e ∧ SeqAt.shaped d = true ∧ SeqAt.shaped e = true ∧ PyData.eqv d e = b := by
  unfold eqB at h
  cases h1 : eqS x y with
  | some b' =>
    simp only [h1] at h
    cases h
    exact .inl (eqS_ok rx ry h1)
  | none =>
    simp only [h1] at h
    cases h2 : pyTop cs x with
    | none =>
      simp only [h2] at h
      cases h
    | some d =>
      cases h3 : pyTop cs y with
      | none =>
        simp only [h2, h3] at h
        cases h
      | some e =>
        simp only [h2, h3] at h
        split at h
        · rename_i hs
          cases h
          exact .inr ⟨d, e, pyTop_ok s rx h2, pyTop_ok s ry h3, hs.1, hs.2, rfl⟩
        · cases h
theorem sp_eq : OpS K (rEqAny K) eqD := fun E w cs x y vx vy Q s rx ry h => by
  unfold eqD at h
  cases h1 : eqB cs x y with
  | none =>
    simp only [h1] at h
    exact h.elim
  | some b =>
    simp only [h1] at h
    have q := aft s h (v := .bl b) rfl
    rcases eqB_ok s rx ry h1 with ⟨e1, e2⟩ | ⟨d, e, e1, e2, e3, e4, e5⟩
    · exact .inl ⟨e1, by rw [e2]; exact q⟩
    · exact .inr ⟨d, e, e1, e2, e3, e4, by rw [e5]; exact q⟩
theorem sp_ne : OpS K (rNeAny K) neD := fun E w cs x y vx vy Q s rx ry h => by
  unfold neD at h
  cases h1 : eqB cs x y with
  | none =>
    simp only [h1] at h
    exact h.elim
  | some b =>
    simp only [h1] at h
    have q := aft s h (v := .bl (!b)) rfl
    rcases eqB_ok s rx ry h1 with ⟨e1, e2⟩ | ⟨d, e, e1, e2, e3, e4, e5⟩
    · exact .inl ⟨e1, by rw [e2]; exact q⟩
    · exact .inr ⟨d, e, e1, e2, e3, e4, by rw [e5]; exact q⟩
/-- x is None -/
noncomputable def isNon : D → Bool
  | .non => true
  | _ => false
noncomputable def isND : Op2 := fun x y cs => match y with
  | .non => .ok (.bl (isNon x)) cs
  | _ => .bad
noncomputable def notND : Op2 := fun x y cs => match y with
  | .non => .ok (.bl (!isNon x)) cs
  | _ => .bad
theorem rep_non {x : D} {vx : V} (r : Rep K w x vx) : decide (vx = .non) = isNon x := by
  cases x with
  | non =>
    cases (show vx = .non from r)
    rfl
  | bl b => cases (show vx = .bl b from r); rfl
  | int b => cases (show vx = .int b from r); rfl
  | str b => cases (show vx = .str b from r); rfl
  | ty b => cases (show vx = .ty b from r); rfl
  | rf b => cases (show vx = .ref b from r); rfl
  | wl l => obtain ⟨a, rfl, _⟩ := r; rfl
  | lst l => obtain ⟨a, xs, rfl, _⟩ := r; rfl
  | tup l => obtain ⟨a, xs, rfl, _⟩ := r; rfl
  | dct k l => obtain ⟨a, xs, rfl, _⟩ := r; rfl
  | ins c k l => obtain ⟨a, dx, xs, rfl, _⟩ := r; rfl
  | exn a od ns l => obtain ⟨rfl, _⟩ := r; rfl
  | xob c k l => obtain ⟨a, rfl, _⟩ := r; rfl
  | ref i => obtain ⟨a, rfl, _⟩ := r; rfl
theorem sp_isN : OpS K (fun x y H Q => y = .non ∧ Q (.bl (decide (x = .non))) H) isND := fun E w cs x y vx vy Q s rx ry h => by
  unfold isND at h
  split at h
  · refine ⟨ry, ?_⟩
    rw [rep_non rx]
    exact aft s h rfl
  · exact h.elim
/-! ### in -/
noncomputable def inS (i j : Str) : Bool := !(Builtin.Str.occurrences j i 0 j.length 1).isEmpty
noncomputable def flatD : D → Bool
  | .non => true
  | .bl _ => true
  | .int _ => true
  | .str _ => true
  | _ => false
noncomputable def eqF : D → D → Bool
  | .non, .non => true
  | .bl a, .bl b => a == b
  | .bl a, .int b => (if a then 1 else 0) == b
  | .int a, .bl b => a == (if b then 1 else 0)
  | .int a, .int b => a == b
  | .str a, .str b => a == b
  | _, _ => false
noncomputable def inF (x : D) (l : List D) : Bool := l.any fun y => eqF y x
noncomputable def seqOf (cs : List D) (d : D) : Option (List D) := match d with
  | .tup l => some l
  | d => lstOf cs d
noncomputable def inB (cs : List D) (x y : D) : Option Bool := match x, y with
  | .str i, .str j => some (inS i j)
  | _, _ => match seqOf cs y with
    | some l => if flatD x = true ∧ l.all flatD = true then some (inF x l) else none
    | none => none
noncomputable def inD : Op2 := fun x y cs => match inB cs x y with
  | some b => .ok (.bl b) cs
  | none => .bad
noncomputable def notInD : Op2 := fun x y cs => match inB cs x y with
  | some b => .ok (.bl (!b)) cs
  | none => .bad
theorem flatD_ok {x : D} {v : V} (r : Rep K w x v) (h : flatD x = true) : flatV v = true := by
  cases x with
  | non => cases (show v = .non from r); rfl
  | bl b => cases (show v = .bl b from r); rfl
  | int b => cases (show v = .int b from r); rfl
  | str b => cases (show v = .str b from r); rfl
  | _ => cases h
theorem eqF_ok {x y : D} {v u : V} (rx : Rep K w x v) (ry : Rep K w y u) (hx : flatD x = true) (hy : flatD y = true) : eqV v u = eqF x y := by
  cases x <;> cases hx <;> cases y <;> cases hy <;> (cases rx; cases ry; rfl)
theorem flatDs_ok : ∀ {l : List D} {xs : List V}, Reps K w l xs → l.all flatD = true → xs.all flatV = true
  | [], xs, r, _ => by
    cases (show xs = [] from r)
    rfl
  | d :: ds, xs, r, h => by
    obtain ⟨v, vs, rfl, rv, rs⟩ := r
    rw [List.all_cons, Bool.and_eq_true] at h
    rw [List.all_cons, flatD_ok rv h.1, flatDs_ok rs h.2]
    rfl
theorem inF_ok {x : D} {v : V} (rx : Rep K w x v) (hx : flatD x = true) : ∀ {l : List D} {xs : List V}, Reps K w l xs → l.all flatD = true → inV v xs = inF x l
  | [], xs, r, _ => by
    cases (show xs = [] from r)
    rfl
  | d :: ds, xs, r, h => by
    obtain ⟨u, vs, rfl, rv, rs⟩ := r
    rw [List.all_cons, Bool.and_eq_true] at h
    have ih := inF_ok rx hx rs h.2
    unfold inV inF at ih ⊢
    rw [List.any_cons, List.any_cons, eqF_ok rv rx h.1 hx, ih]
theorem seqOf_ok {d : D} {v : V} {l : List D} (s : Sim K w cs) (r : Rep K w d v) (h : seqOf cs d = some l) : ∃ a xs, v = .ref a ∧ (SqL K w.H a xs ∨ SqT K w.H a xs) ∧ Reps K w l xs := by
  by_cases ht : ∃ m, d = .tup m
  · obtain ⟨m, rfl⟩ := ht
    obtain ⟨a, xs, rfl, f, g, q⟩ := r
    cases h
    exact ⟨a, xs, rfl, .inr (.inl (.inl g)), q⟩
  · have h' : lstOf cs d = some l := by
      cases d with
      | tup m => exact absurd ⟨m, rfl⟩ ht
      | _ => exact h
    obtain ⟨a, xs, e, g, q⟩ := lstOf_ok s r h'
    exact ⟨a, xs, e, .inl g, q⟩
noncomputable def rInAny (K : PySem.W.Frag) (neg : Bool) : R2 := fun x y H Q => (∃ i j, x = .str i ∧ y = .str j ∧ Q (.bl (if neg then !inS i j else inS i j)) H) ∨ rIn K neg x y H Q
theorem op_inA {X : Cx} : OpR X (compareOp .In) (rInAny X.K false) := op_in_str.or op_in_seq
theorem op_notInA {X : Cx} : OpR X (compareOp .NotIn) (rInAny X.K true) := op_notIn_str.or op_notIn_seq
theorem in_ok {neg : Bool} {x y : D} {vx vy : V} {b : Bool} (s : Sim K w cs) (rx : Rep K w x vx) (ry : Rep K w y vy) (h : inB cs x y = some b) (q : Q (.bl (if neg then !b else b)) w.H) : rInAny K neg vx vy w.H Q := by
  unfold inB at h
  split at h
  · cases (show vx = .str _ from rx)
    cases (show vy = .str _ from ry)
    cases h
    exact .inl ⟨_, _, rfl, rfl, q⟩
  · cases h1 : seqOf cs y with
    | none =>
      simp only [h1] at h
      cases h
    | some l =>
      simp only [h1] at h
      split at h
      · rename_i hf
        cases h
        obtain ⟨a, xs, rfl, g, qs⟩ := seqOf_ok s ry h1
        exact .inr ⟨a, xs, rfl, g, flatD_ok rx hf.1, flatDs_ok qs hf.2, by rw [inF_ok rx hf.1 qs hf.2]; exact q⟩
      · cases h
theorem sp_in : OpS K (rInAny K false) inD := fun E w cs x y vx vy Q s rx ry h => by
  unfold inD at h
  cases h1 : inB cs x y with
  | none =>
    simp only [h1] at h
    exact h.elim
  | some b =>
    simp only [h1] at h
    exact in_ok s rx ry h1 (aft s h rfl)
theorem sp_notIn : OpS K (rInAny K true) notInD := fun E w cs x y vx vy Q s rx ry h => by
  unfold notInD at h
  cases h1 : inB cs x y with
  | none =>
    simp only [h1] at h
    exact h.elim
  | some b =>
    simp only [h1] at h
    exact in_ok s rx ry h1 (aft s h rfl)
/-! ### items, slices -/
noncomputable def ixD : Op2 := fun x y cs => match y with
  | .int i => match x with
    | .str z => if z.length ≤ sizeLine then match atI z.cps.toList i with
        | some c => .ok (.str ⟨#[c]⟩) cs
        | none => .bad
      else .bad
    | x => match seqOf cs x with
      | some l => match atI l i with
        | some d => .ok d cs
        | none => .bad
      | none => .bad
  | _ => .bad
theorem atI_rep {l : List D} {xs : List V} {i : Int} {d : D} (r : Reps K w l xs) (h : atI l i = some d) : ∃ v, atI xs i = some v ∧ Rep K w d v := by
  unfold atI at h ⊢
  rw [← Reps.length K r]
  cases h1 : ixN l.length i with
  | none =>
    rw [h1] at h
    cases h
  | some j =>
    rw [h1] at h
    exact Reps.get K r h
theorem sp_ix : OpS K (rIx K) ixD := fun E w cs x y vx vy Q s rx ry h => by
  unfold ixD at h
  split at h
  · cases (show vy = .int _ from ry)
    rename_i i
    split at h
    · cases (show vx = .str _ from rx)
      rename_i z
      obtain ⟨hz, h⟩ := if_bad h
      cases h1 : atI z.cps.toList i with
      | none =>
        simp only [h1] at h
        exact h.elim
      | some c =>
        simp only [h1] at h
        exact .inr (.inr ⟨z, i, c, rfl, rfl, hz, h1, aft s h rfl⟩)
    · cases h1 : seqOf cs x with
      | none =>
        simp only [h1] at h
        exact h.elim
      | some l =>
        simp only [h1] at h
        cases h2 : atI l i with
        | none =>
          simp only [h2] at h
          exact h.elim
        | some d =>
          simp only [h2] at h
          obtain ⟨a, xs, rfl, g, q⟩ := seqOf_ok s rx h1
          obtain ⟨v, hv, rv⟩ := atI_rep q h2
          rcases g with g | g
          · exact .inl ⟨a, xs, i, v, rfl, rfl, g, hv, aft s h rv⟩
          · exact .inr (.inl ⟨a, xs, i, v, rfl, rfl, g, hv, aft s h rv⟩)
  · exact h.elim
noncomputable def cutD (l : List D) (lo hi : Option Int) : List D := (l.drop (HT.sIx l.length 0 lo)).take (HT.sIx l.length l.length hi - HT.sIx l.length 0 lo)
theorem cut_rep {l : List D} {xs : List V} (r : Reps K w l xs) (lo hi : Option Int) : Reps K w (cutD l lo hi) (cutV xs lo hi) := by
  unfold cutD cutV
  rw [← Reps.length K r]
  exact Reps.take K _ (Reps.drop K _ r)
noncomputable def slD : OpSl := fun x lo hi cs => match x with
  | .str z => if z.length ≤ sizeLine then .ok (.str (cutS z lo hi)) cs else .bad
  | .tup l => if ¬ (HT.sIx l.length 0 lo = 0 ∧ HT.sIx l.length l.length hi = l.length) then .ok (.tup (cutD l lo hi)) cs else .bad
  | x => match lstOf cs x with
    | some l => .ok (.lst (cutD l lo hi)) cs
    | none => .bad
/-- the same, a list of one's own -/
noncomputable def slDL : OpSl := fun x lo hi cs => match lstOf cs x with
    | some l => if nrs l = true then .ok (.ref cs.length) (cs ++ [.lst (cutD l lo hi)]) else .bad
    | none => .bad
noncomputable def rSlAny (K : PySem.W.Frag) : V → Option Int → Option Int → Hp → VK → Prop := fun x lo hi H Q => rSlS x lo hi H Q ∨ rSlT K x lo hi H Q ∨ rSlL K x lo hi H Q
theorem sl_any {X : Cx} : SlR X (rSlAny X.K) := sl_str.or (sl_tup.or sl_list)
theorem sp_sl : SlS K (rSlAny K) slD := fun E w cs x vx lo hi Q s rx h => by
  unfold slD at h
  split at h
  · cases (show vx = .str _ from rx)
    obtain ⟨hz, h⟩ := if_bad h
    exact .inl ⟨_, rfl, hz, aft s h rfl⟩
  · obtain ⟨hz, h⟩ := if_bad h
    obtain ⟨a, xs, rfl, f, g, q⟩ := rx
    exact .inr (.inl ⟨a, xs, rfl, .inl (.inl g), by rw [← Reps.length K q]; exact hz, fun p np => aftT s h np (cut_rep q lo hi)⟩)
  · cases h1 : lstOf cs x with
    | none =>
      simp only [h1] at h
      exact h.elim
    | some l =>
      simp only [h1] at h
      obtain ⟨a, xs, rfl, g, q⟩ := lstOf_ok s rx h1
      exact .inr (.inr ⟨a, xs, rfl, g, fun p np => aftL s h np (cut_rep q lo hi)⟩)
/-! ### o[i] = v over lists -/
noncomputable def setD : Op3 := fun o i d cs => match o, i with
  | .ref k, .int i => match cs[k]? with
    | some (.lst l) => match ixN l.length i with
      | some j => if nr d = true then some (cs.set k (.lst (l.set j d))) else none
      | none => none
    | _ => none
  | _, _ => none
theorem nrs_set {l : List D} {d : D} : ∀ {j : Nat}, nrs l = true → nr d = true → nrs (l.set j d) = true := by
  induction l with
  | nil => exact fun _ _ => rfl
  | cons a l ih =>
    intro j hl hd
    have hl' : (nr a && nrs l) = true := hl
    rw [Bool.and_eq_true] at hl'
    cases j with
    | zero =>
      show (nr d && nrs l) = true
      rw [hd, hl'.2]
      rfl
    | succ j =>
      show (nr a && nrs (l.set j d)) = true
      rw [hl'.1, ih hl'.2 hd]
      rfl
theorem sp_set : SetS K rSetL setD := fun w cs cs' o i d vo vi v Q s ro ri rd h q => by
  unfold setD at h
  split at h
  · rename_i k i
    cases (show vi = .int _ from ri)
    obtain ⟨a, rfl, hk⟩ := ro
    split at h
    · rename_i l hc
      split at h
      · rename_i j hj
        split at h
        · rename_i hn
          cases h
          obtain ⟨_, _, ⟨xs, g, qs⟩, hl⟩ := s.cell k a _ hk hc
          refine ⟨a, xs, i, j, rfl, rfl, g, by rw [← Reps.length K qs]; exact hj, ?_⟩
          have le := s.le_put (o := .lst (xs.set j v)) hk hc
          exact q (w.put a (.lst (xs.set j v))) le (s.put hk hc (nrs_set hl hn) ⟨_, upd_same, Reps.set K (Rep.mono K le d v rd) j (Reps.mono K le _ _ qs)⟩)
        · cases h
      · cases h
    · cases h
  · cases h
end
end Wf
set_option Elab.async false
set_option linter.all false
set_option maxRecDepth 100000
/-! What built-ins and methods do on data. -/
namespace Wf
open PySem PySem.Spec PyProof.Rows L2
section
variable {K : PySem.W.Frag} {E : EE} {w : Wd} {cs : List D} {Q : VK}
theorem r1 {d : D} {vs : List V} (r : Reps K w [d] vs) : ∃ v, vs = [v] ∧ Rep K w d v := by
  obtain ⟨v, vs', e, rv, q⟩ := r
  cases (show vs' = [] from q)
  exact ⟨v, e, rv⟩
theorem r2 {d e : D} {vs : List V} (r : Reps K w [d, e] vs) : ∃ v u, vs = [v, u] ∧ Rep K w d v ∧ Rep K w e u := by
  obtain ⟨v, vs', e1, rv, q⟩ := r
  obtain ⟨u, rfl, ru⟩ := r1 q
  exact ⟨v, u, e1, rv, ru⟩
noncomputable def lenD : OpC := fun ds cs => match ds with
  | [.str z] => if z.length ≤ sizeLine then .ok (.int z.length) cs else .bad
  | [.dct ks l] => .bad
  | [d] => match seqOf cs d with
    | some l => .ok (.int l.length) cs
    | none => .bad
  | _ => .bad
theorem cs_len : CallS K (fun xs H Q => ∃ x n, xs = [x] ∧ LenV K x H n ∧ Q (.int n) H) lenD := fun E w cs ds vs Q s rs h => by
  unfold lenD at h
  split at h
  · obtain ⟨v, rfl, rv⟩ := r1 rs
    cases (show v = .str _ from rv)
    obtain ⟨hz, h⟩ := if_bad h
    exact ⟨_, _, rfl, ⟨hz, rfl⟩, aft s h rfl⟩
  · exact h.elim
  · rename_i d _ _
    obtain ⟨v, rfl, rv⟩ := r1 rs
    cases h1 : seqOf cs d with
    | none =>
      simp only [h1] at h
      exact h.elim
    | some l =>
      simp only [h1] at h
      obtain ⟨a, xs, rfl, g, q⟩ := seqOf_ok s rv h1
      refine ⟨_, l.length, rfl, ?_, aft s h rfl⟩
      rcases g with g | g
      · exact .inl ⟨xs, g, Reps.length K q⟩
      · exact .inr ⟨xs, g, Reps.length K q⟩
  · exact h.elim
noncomputable def intD : OpC := fun ds cs => match ds with
  | [.int i] => .ok (.int i) cs
  | [.bl b] => .ok (.int (if b then 1 else 0)) cs
  | _ => .bad
theorem cs_int : CallS K (fun xs H Q => (∃ i, xs = [.int i] ∧ Q (.int i) H) ∨ ∃ k, xs = [.bl k] ∧ Q (.int (if k then 1 else 0)) H) intD := fun E w cs ds vs Q s rs h => by
  unfold intD at h
  split at h
  · obtain ⟨v, rfl, rv⟩ := r1 rs
    cases (show v = .int _ from rv)
    exact .inl ⟨_, rfl, aft s h rfl⟩
  · obtain ⟨v, rfl, rv⟩ := r1 rs
    cases (show v = .bl _ from rv)
    exact .inr ⟨_, rfl, aft s h rfl⟩
  · exact h.elim
noncomputable def absD : OpC := fun ds cs => match ds with
  | [.int i] => .ok (.int (if i < 0 then -i else i)) cs
  | _ => .bad
theorem cs_abs : CallS K (fun xs H Q => ∃ i, xs = [.int i] ∧ Q (.int (if i < 0 then -i else i)) H) absD := fun E w cs ds vs Q s rs h => by
  unfold absD at h
  split at h
  · obtain ⟨v, rfl, rv⟩ := r1 rs
    cases (show v = .int _ from rv)
    exact ⟨_, rfl, aft s h rfl⟩
  · exact h.elim
noncomputable def minD : OpC := fun ds cs => match ds with
  | [.int i, .int j] => .ok (.int (if j < i then j else i)) cs
  | _ => .bad
noncomputable def maxD : OpC := fun ds cs => match ds with
  | [.int i, .int j] => .ok (.int (if j > i then j else i)) cs
  | _ => .bad
/-- list(x), a list of one's own, or one that stays -/
noncomputable def listD : OpC := fun ds cs => match ds with
  | [d] => match seqOf cs d with
    | some l => .ok (.lst l) cs
    | none => .bad
  | _ => .bad
noncomputable def listDL : OpC := fun ds cs => match ds with
  | [d] => match seqOf cs d with
    | some l => if nrs l = true then .ok (.ref cs.length) (cs ++ [.lst l]) else .bad
    | none => .bad
  | _ => .bad
noncomputable def rListAny (K : PySem.W.Frag) : List V → Hp → VK → Prop := fun xs H Q => ∃ p ys, xs = [.ref p] ∧ (SqL K H p ys ∨ SqT K H p ys) ∧ ∀ l, H l = none → Q (.ref l) (upd H l (.lst ys))
/-! ### isinstance with built-in classes -/
noncomputable def tyN (cs : List D) (d : D) : Option String := match d with
  | .non => some "NoneType"
  | .bl _ => some "bool"
  | .int _ => some "int"
  | .str _ => some "str"
  | .lst _ => some "list"
  | .tup _ => some "tuple"
  | .dct _ _ => some "dict"
  | .ref i => match cs[i]? with
    | some (.lst _) => some "list"
    | some (.dct _ _) => some "dict"
    | _ => none
  | _ => none
noncomputable def tyNames : List String := ["NoneType", "bool", "int", "str", "list", "tuple", "dict"]
noncomputable def isT (a T : String) : Option Bool := if a ∈ tyNames ∧ T ∈ ["bool", "int", "str", "list", "tuple", "dict"] then some (a == T || (a == "bool" && T == "int")) else none
theorem isT_ok {a T : String} {b : Bool} (h : isT a T = some b) : PySem.W.kitOne K (.type a) (.type T) = some b := by
  unfold isT at h
  split at h
  · rename_i hm
    cases h
    have all : ∀ a ∈ tyNames, ∀ T ∈ ["bool", "int", "str", "list", "tuple", "dict"], kitB a T = some (a == T || (a == "bool" && T == "int")) := by decide +kernel
    exact kit_ty (all a hm.1 T hm.2)
  · cases h
theorem tyN_ok {d : D} {v : V} {t : String} (s : Sim K w cs) (r : Rep K w d v) (h : tyN cs d = some t) : TyX K w.H v (.type t) := by
  cases d with
  | non => cases (show v = .non from r); cases h; exact .base .non
  | bl b => cases (show v = .bl b from r); cases h; exact .base (.bl b)
  | int b => cases (show v = .int b from r); cases h; exact .base (.int b)
  | str b => cases (show v = .str b from r); cases h; exact .base (.str b)
  | lst l =>
    obtain ⟨a, xs, rfl, f, g, q⟩ := r
    cases h
    exact .base (.lst g)
  | tup l =>
    obtain ⟨a, xs, rfl, f, g, q⟩ := r
    cases h
    exact .base (.tup g)
  | dct k l =>
    obtain ⟨a, xs, rfl, f, g, q⟩ := r
    cases h
    exact .base (.dK g)
  | ref i =>
    obtain ⟨a, rfl, hi⟩ := r
    unfold tyN at h
    cases hc : cs[i]? with
    | none =>
      simp only [hc] at h
      cases h
    | some c =>
      obtain ⟨_, _, o, _⟩ := s.cell i a c hi hc
      cases c with
      | lst l =>
        simp only [hc] at h
        cases h
        obtain ⟨xs, g, q⟩ := o
        exact .base (.lst g)
      | dct k l =>
        simp only [hc] at h
        cases h
        obtain ⟨xs, g, _⟩ := o
        exact .base (.dK g)
      | _ =>
        simp only [hc] at h
        cases h
  | _ => cases h
noncomputable def isiD : OpC := fun ds cs => match ds with
  | [d, .ty T] => match tyN cs d with
    | some t => match isT t T with
      | some b => .ok (.bl b) cs
      | none => .bad
    | none => .bad
  | _ => .bad
theorem cs_isi : CallS K (rIsi K) isiD := fun E w cs ds vs Q s rs h => by
  unfold isiD at h
  split at h
  · rename_i d T
    obtain ⟨v, u, rfl, rv, ru⟩ := r2 rs
    cases (show u = .ty T from ru)
    cases h1 : tyN cs d with
    | none =>
      simp only [h1] at h
      exact h.elim
    | some t =>
      simp only [h1] at h
      cases h2 : isT t T with
      | none =>
        simp only [h2] at h
        exact h.elim
      | some b =>
        simp only [h2] at h
        exact ⟨v, .ty T, .type t, .type T, b, rfl, .ty T, tyN_ok s rv h1, isT_ok h2, aft s h rfl⟩
  · exact h.elim
/-! ### methods -/
noncomputable def find3D : OpM := fun x ds cs => match x, ds with
  | .str a, [.str b, .int i] => .ok (.int (Txt.find3 a b i)) cs
  | _, _ => .bad
noncomputable def findD : OpM := fun x ds cs => match x, ds with
  | .str a, [.str b] => .ok (.int (Txt.find a b)) cs
  | _, _ => .bad
noncomputable def strsOf : List D → Option (List Str)
  | [] => some []
  | .str s :: ds => (strsOf ds).map (s :: ·)
  | _ => none
theorem strsOf_ok : ∀ {l : List D} {ss : List Str}, strsOf l = some ss → l = ss.map D.str
  | [], ss, h => by
    cases h
    rfl
  | d :: ds, ss, h => by
    cases d with
    | str s =>
      have h' : (strsOf ds).map (s :: ·) = some ss := h
      cases h1 : strsOf ds with
      | none =>
        rw [h1] at h'
        cases h'
      | some ys =>
        rw [h1] at h'
        cases h'
        rw [strsOf_ok h1]
        rfl
    | _ => cases h
@[simp] theorem strsOf_map (ss : List Str) : strsOf (ss.map D.str) = some ss := by
  induction ss with
  | nil => rfl
  | cons s ss ih =>
    show (strsOf (ss.map D.str)).map (s :: ·) = some (s :: ss)
    rw [ih]
    rfl
noncomputable def joinD : OpM := fun x ds cs => match x, ds with
  | .str a, [d] => match seqOf cs d with
    | some l => match strsOf l with
      | some ys => if (ys.map (·.length)).sum + ys.length * a.length ≤ 16777216 then .ok (.str (Txt.join a ys)) cs else .bad
      | none => .bad
    | none => .bad
  | _, _ => .bad
theorem ms_join : MtS K (fun x xs H Q => ∃ a p, ∃ ys : List Str, x = .str a ∧ xs = [.ref p] ∧ (SqL K H p (ys.map V.str) ∨ SqT K H p (ys.map V.str)) ∧
    (ys.map (·.length)).sum + ys.length * a.length ≤ 16777216 ∧ Q (.str (Txt.join a ys)) H) joinD := fun E w cs x vx ds vs Q s rx rs h => by
  unfold joinD at h
  split at h
  · rename_i a d
    cases (show vx = .str _ from rx)
    obtain ⟨v, rfl, rv⟩ := r1 rs
    cases h1 : seqOf cs d with
    | none =>
      simp only [h1] at h
      exact h.elim
    | some l =>
      cases h2 : strsOf l with
      | none =>
        simp only [h1, h2] at h
        exact h.elim
      | some ys =>
        simp only [h1, h2] at h
        obtain ⟨hz, h⟩ := if_bad h
        obtain ⟨p, xs, rfl, g, q⟩ := seqOf_ok s rv h1
        rw [strsOf_ok h2] at q
        have e := Reps.strs_eq K q
        rw [e] at g
        exact ⟨a, p, ys, rfl, rfl, g, hz, aft s h rfl⟩
  · exact h.elim
theorem aftP {l l0 : List D} {xs : List V} {a : Addr} {i : Nat} (s : Sim K w cs) (h : After K E w (.ok .non (cs.set i (.lst l))) (fun d _ w' => ∀ v, Rep K w' d v → Q v w'.H)) (hi : w.p[i]? = some a) (hc : cs[i]? = some (.lst l0)) (hn : nrs l = true) (r : ∀ w', Le w w' → Reps K w' l xs) : Q .non (upd w.H a (.lst xs)) := by
  have le := s.le_put (o := .lst xs) hi hc
  exact h (w.put a (.lst xs)) le (s.put hi hc hn ⟨xs, upd_same, r _ le⟩) .non rfl
noncomputable def appendD : OpM := fun x ds cs => match x, ds with
  | .ref i, [d] => match cs[i]? with
    | some (.lst l) => if l.length < sizeLine ∧ nr d = true ∧ nrs l = true then .ok .non (cs.set i (.lst (l ++ [d]))) else .bad
    | _ => .bad
  | _, _ => .bad
theorem ms_append : MtS K rAppend appendD := fun E w cs x vx ds vs Q s rx rs h => by
  unfold appendD at h
  split at h
  · rename_i i d
    obtain ⟨a, rfl, hi⟩ := rx
    obtain ⟨v, rfl, rv⟩ := r1 rs
    split at h
    · rename_i l hc
      obtain ⟨⟨hz, hn, hl⟩, h⟩ := if_bad h
      obtain ⟨_, _, ⟨xs, g, q⟩, _⟩ := s.cell i a _ hi hc
      refine ⟨a, xs, v, rfl, rfl, g, by rw [← Reps.length K q]; exact hz, ?_⟩
      refine aftP s h hi hc ?_ fun w' le => Reps.app K (Reps.mono K le _ _ q) ⟨v, [], rfl, Rep.mono K le d v rv, rfl⟩
      rw [nrs_app, hl]
      show (true && (nr d && true)) = true
      rw [hn]
      rfl
    · exact h.elim
  · exact h.elim
/-- a list that nobody else holds any more settles into data -/
noncomputable def mFrz (m : M) : M := fun r cs => (m r cs).bind fun d cs' => match d with
  | .ref i => if cs.length ≤ i ∧ i + 1 = cs'.length then match cs'[i]? with
      | some (.lst l) => .ok (.lst l) (cs'.take i)
      | _ => .bad
    else .bad
  | d => .ok d cs'
noncomputable def Wd.frz (w : Wd) (i : Nat) (a : Addr) : Wd := ⟨w.p.take i, fun b => w.F b ∨ b = a, w.G, w.H⟩
theorem Sim.frz {w : Wd} {cs : List D} {i : Nat} {a : Addr} {c : D} (s : Sim K w cs) (hi : w.p[i]? = some a) (hc : cs[i]? = some c) : Sim K (w.frz i a) (cs.take i) := by
  obtain ⟨f1, f2, f3, f4⟩ := s.cell i a c hi hc
  refine ⟨?_, fun j k b hj hk => s.nd j k b (take_get hj).2 (take_get hk).2, fun b f => ?_, fun b g => ?_, fun j b d hj hd => ?_⟩
  · show (w.p.take i).length = _
    rw [List.length_take, List.length_take, s.len]
  · rcases f with f | f
    · exact s.trk b f
    · rw [f]
      exact f2
  · obtain ⟨g1, g2, g3⟩ := s.gtr b g
    refine ⟨fun f => f.elim g1 fun e => ?_, g2, fun j hj => g3 j (take_get hj).2⟩
    subst e
    exact g3 i hi
  · obtain ⟨c1, c2, c3, c4⟩ := s.cell j b d (take_get hj).2 (take_get hd).2
    refine ⟨fun t f => f.elim (c1 t) fun e => ?_, c2, ORep.cell (w := w) (w' := w.frz i a) (fun _ h => .inl h) (fun _ _ => rfl) rfl d c4 c3, c4⟩
    subst e
    have := s.nd j i b (take_get hj).2 hi
    have := (take_get hj).1
    omega
theorem je_frz {X : Cx} {W : WX} {e : Expr} {m : M} (h : JE X W e m) : JE X W e (mFrz m) := peI h fun σ H Q ⟨w, rr, cs, e, s, ev, a⟩ => by
  refine ⟨w, rr, cs, e, s, ev, ?_⟩
  unfold mFrz at a
  cases hm : m rr cs with
  | bad =>
    rw [hm] at a
    exact a
  | err x r cs' =>
    rw [hm] at a
    exact a
  | ok d cs' =>
    rw [hm] at a
    simp only [R.bind_ok] at a
    split at a
    · rename_i i
      obtain ⟨⟨h1, h2⟩, a⟩ := if_bad a
      split at a
      · rename_i l hc
        intro w1 l1 s1 v ⟨p, e2, hp⟩
        subst e2
        obtain ⟨f1, f2, ⟨xs, g, q⟩, f4⟩ := s1.cell i p _ hp hc
        have hlen : w.p.length = cs.length := s.len
        have le : Le w (w1.frz i p) := by
          refine ⟨fun j b hj => ?_, fun b f => .inl (l1.fr b f), l1.keep, l1.gd⟩
          have hl : j < w.p.length := (List.getElem?_eq_some_iff.mp hj).1
          show (w1.p.take i)[j]? = some b
          rw [List.getElem?_take, if_pos (by omega)]
          exact l1.pre j b hj
        exact a (w1.frz i p) le (s1.frz hp hc) (.ref p) ⟨p, xs, rfl, .inr rfl, g, Reps.nr _ (w := w1) (w' := w1.frz i p) (fun _ h => .inl h) (fun _ _ => rfl) l xs f4 q⟩
      · exact a.elim
    · exact a
/-- a walk over a list, a tuple, a text -/
noncomputable def itA (d : D) : Option (List D) := match d with
  | .lst l => some l
  | .wl l => some (l.map .int)
  | .tup l => some l
  | .str s => some (chrs s)
  | _ => none
theorem PI.or {X : Cx} {tg e : Expr} {t u : TI} (h : PI X tg e t) (k : PI X tg e u) : PI X tg e (fun σ H R => t σ H R ∨ u σ H R) := ⟨fun pins s σ H R I q => q.elim (h.run pins s σ H R I) (k.run pins s σ H R I)⟩
theorem ji_any {X : Cx} {W : WX} {tg e : Expr} {m : M} (h : JE X W e m) : JI X W tg e (mIt itA m) := piI (PI.or (ji_list h) (PI.or (ji_tup h) (ji_str h))) fun σ H Q ⟨w, rr, cs, e, s, ev, a⟩ => by
  unfold mIt at a
  cases hm : m rr cs with
  | bad =>
    rw [hm] at a
    exact a.elim
  | err x r cs' =>
    refine .inl ⟨w, rr, cs, e, s, ev, ?_⟩
    unfold mIt
    rw [hm] at a ⊢
    exact a
  | ok d cs' =>
    rw [hm] at a
    simp only [R.bind_ok] at a
    cases d with
    | lst l =>
      refine .inl ⟨w, rr, cs, e, s, ev, ?_⟩
      unfold mIt
      rw [hm]
      exact a
    | wl l =>
      refine .inl ⟨w, rr, cs, e, s, ev, ?_⟩
      unfold mIt
      rw [hm]
      exact a
    | tup l =>
      refine .inr (.inl ⟨w, rr, cs, e, s, ev, ?_⟩)
      unfold mIt
      rw [hm]
      exact a
    | str l =>
      refine .inr (.inr ⟨w, rr, cs, e, s, ev, ?_⟩)
      unfold mIt
      rw [hm]
      exact a
    | _ => exact a.elim
end
/-- turns enough for any while here -/
noncomputable def whl : Nat := 1000000
theorem law_sp {f : Fn} {ns : List Int} (h : ∃ cs, f [.wl ns] [] = .ok (.bl true) cs) {K : PySem.W.Frag} {H : Hp} {a : Addr} (hS : SqL K H a (ns.map V.int)) : spF K f [.ref a] H (fun v _ => v = .bl true) (fun _ _ _ => False) := by
  obtain ⟨cs, h⟩ := h
  refine ⟨⟨[], fun b => ∃ o, H b = some o, fun _ => False, H⟩, [.wl ns], [], rfl, Sim.mk rfl (fun i j a h => by cases i <;> cases h) (fun _ h => h) (fun _ h => False.elim h) (fun i a d h => by cases i <;> cases h), ⟨.ref a, [], rfl, ⟨a, rfl, ?_⟩, rfl⟩, ?_⟩
  · rcases hS with z | z
    · refine .inl ⟨?_, .inl z⟩
      rcases z with z | ⟨o, z⟩
      · exact ⟨_, z⟩
      · exact ⟨_, z⟩
    · exact .inr fun H' => .inr z
  · rw [h]
    intro w' _ _ v rv
    exact rv
theorem cx_none {P : Program} {w : World} {H : Hp} {s : Shared} {e : Value} {s' : Shared} (h : L2.CX P w [] H s (fun _ _ _ => False) e s') : False := by
  obtain ⟨_, _, _, _, _, _, _, _, _, _, _, _, z⟩ := h
  exact z
end Wf
set_option Elab.async false
set_option linter.all false
set_option maxRecDepth 100000
/-! What a mirror hands back: Ok r P; and texts. -/
namespace Wf
open PySem PySem.Spec PyProof.Rows L2
noncomputable def OkM {α : Type} (r : R α) (P : α → List D → Prop) : Prop := match r with
  | .ok a cs => P a cs
  | _ => False
structure Ok {α : Type} (r : R α) (P : α → List D → Prop) : Prop where
  h : OkM r P
theorem Ok_M {α : Type} {r : R α} {P : α → List D → Prop} : Ok r P = OkM r P := propext ⟨fun h => h.h, fun h => ⟨h⟩⟩
@[simp] theorem Ok_ok {α : Type} (a : α) (cs : List D) (P : α → List D → Prop) : Ok (.ok a cs) P = P a cs := Ok_M
@[simp] theorem Ok_bad {α : Type} (P : α → List D → Prop) : Ok (.bad : R α) P = False := Ok_M
theorem Ok_err {α : Type} (x : D) (e : Env) (cs : List D) (P : α → List D → Prop) : Ok (.err x e cs : R α) P = False := Ok_M
@[simp] theorem Ok_bind {α β : Type} (r : R α) (k : α → List D → R β) (P : β → List D → Prop) : Ok (r.bind k) P = Ok r (fun a cs => Ok (k a cs) P) := by
  cases r with
  | ok a cs => rw [R.bind_ok, Ok_ok]
  | err x e cs => rw [R.bind_err, Ok_err, Ok_err]
  | bad => rw [R.bind_bad, Ok_bad, Ok_bad]
@[simp] theorem Ok_note {α : Type} (e : Env) (r : R α) (P : α → List D → Prop) : Ok (noteE e r) P = Ok r P := by
  cases r with
  | ok a cs => exact (rfl)
  | err x e cs =>
    show Ok (.err x _ cs) P = _
    rw [Ok_err, Ok_err]
  | bad => exact (rfl)
@[simp] theorem Ok_calm {α : Type} (r : R α) (P : α → List D → Prop) : Ok (calmR r) P = Ok r P := by
  cases r with
  | ok a cs => exact (rfl)
  | err x e cs =>
    show Ok .bad P = _
    rw [Ok_err, Ok_bad]
  | bad => exact (rfl)
theorem Ok_mono {α : Type} {r : R α} {P Q : α → List D → Prop} (h : Ok r P) (k : ∀ a cs, P a cs → Q a cs) : Ok r Q := by
  cases r with
  | ok a cs => exact ⟨k a cs h.h⟩
  | err x e cs => exact h.h.elim
  | bad => exact h.h.elim
theorem Ok_iff {α : Type} {r : R α} {P : α → List D → Prop} : Ok r P ↔ ∃ a cs, r = .ok a cs ∧ P a cs := by
  cases r with
  | ok a cs =>
    refine ⟨fun h => ⟨a, cs, rfl, h.h⟩, fun ⟨a', cs', e, h⟩ => ?_⟩
    cases e
    exact ⟨h⟩
  | err x e cs => exact ⟨fun h => h.h.elim, fun ⟨_, _, e, _⟩ => by cases e⟩
  | bad => exact ⟨fun h => h.h.elim, fun ⟨_, _, e, _⟩ => by cases e⟩
theorem Ok_get {α : Type} {r : R α} {P : α → List D → Prop} (h : Ok r P) : ∃ a cs, r = .ok a cs ∧ P a cs := Ok_iff.mp h
theorem Ok_finB {α : Type} {n : Nat} {r : R α} {k : α → List D → R Fl} {P : D → List D → Prop} : Ok (finR n (r.bind k)) P = Ok r (fun a cs => Ok (finR n (k a cs)) P) := by
  cases r with
  | ok a cs => rw [R.bind_ok, Ok_ok]
  | err x e cs =>
    rw [R.bind_err, Ok_err]
    unfold finR
    simp only
    split
    · rw [Ok_err]
    · rw [Ok_bad]
  | bad =>
    rw [R.bind_bad, Ok_bad]
    show Ok .bad P = False
    rw [Ok_bad]
theorem Ok_finO {n : Nat} {r : R Fl} {P : D → List D → Prop} : Ok (finR n r) P = Ok r (fun a cs => Ok (finR n (.ok a cs)) P) := by
  cases r with
  | ok a cs => rw [Ok_ok]
  | err x e cs =>
    rw [Ok_err]
    unfold finR
    simp only
    split
    · rw [Ok_err]
    · rw [Ok_bad]
  | bad =>
    rw [Ok_bad]
    show Ok .bad P = False
    rw [Ok_bad]
theorem out_nr {n : Nat} {d : D} {cs : List D} (h : nr d = true) : outR n d cs = .ok d (cs.take n) := by
  unfold outR
  rw [if_pos h]
theorem out_ref {n : Nat} {cs : List D} {c : D} {i : Nat} (hi : n ≤ i) (h : cs[i]? = some c) : outR n (.ref i) cs = .ok (.ref n) (cs.take n ++ [c]) := by
  unfold outR
  rw [if_neg (by simp [nr])]
  simp only [if_neg (show ¬ i < n by omega), h]
/-- loops: an invariant over the items that are left -/
theorem Ok_for {f : Env → D → List D → R Fl} {P : Fl → List D → Prop} (I : List D → Env → List D → Prop) (h0 : ∀ r cs, I [] r cs → P (.nx r) cs)
    (hs : ∀ d ds r cs, I (d :: ds) r cs → Ok (f r d cs) (fun fl cs' => match fl with
      | .nx r' => I ds r' cs'
      | .ct r' => I ds r' cs'
      | .brk r' => P (.nx r') cs'
      | .ret v => P (.ret v) cs')) : ∀ ds r cs, I ds r cs → Ok (forR f ds r cs) P
  | [], r, cs, h => ⟨h0 r cs h⟩
  | d :: ds, r, cs, h => by
    unfold forR
    rw [Ok_bind]
    refine Ok_mono (hs d ds r cs h) fun fl cs' q => ?_
    cases fl with
    | nx r' => exact Ok_for I h0 hs ds r' cs' q
    | ct r' => exact Ok_for I h0 hs ds r' cs' q
    | brk r' => exact ⟨q⟩
    | ret v => exact ⟨q⟩
theorem Ok_finF {n : Nat} {f : Env → D → List D → R Fl} {ds : List D} {e : Env} {cs : List D} {P : D → List D → Prop} : Ok (finR n (forR f ds e cs)) P = Ok (forR f ds e cs) (fun a cs => Ok (finR n (.ok a cs)) P) := Ok_finO
theorem Ok_finW {n k : Nat} {c : MT} {b : MS} {e : Env} {cs : List D} {P : D → List D → Prop} : Ok (finR n (whileR c b k e cs)) P = Ok (whileR c b k e cs) (fun a cs => Ok (finR n (.ok a cs)) P) := Ok_finO
/-- where every turn makes one item and leaves the cells alone -/
theorem map_pure {f : D → List D → R (Option D)} {cs : List D} {g : D → D} : ∀ {ds : List D}, (∀ d ∈ ds, f d cs = .ok (some (g d)) cs) → mapR f ds cs = .ok (ds.map g) cs
  | [], _ => rfl
  | d :: ds, h => by
    unfold mapR
    rw [h d (List.mem_cons_self ..), R.bind_ok, map_pure (ds := ds) fun e he => h e (List.mem_cons_of_mem _ he), R.bind_ok]
    rfl
/-! ### texts -/
noncomputable def At (x y : Str) (i : Nat) : Bool := decide (i + y.length ≤ x.length) && Builtin.Str.subAt x y i
theorem occ_stay (s sub : Str) (hi : Nat) : ∀ (l : List Nat) (st : Array Nat × Nat), 1 ≤ st.fst.size → (forIn l st (StrLaws.occBody s sub hi 1)).run.fst = st.fst
  | [], st, h => rfl
  | a :: l, st, h => by
    rw [List.forIn_cons]
    unfold StrLaws.occBody
    rw [if_neg (fun z => by have := z.1.1.1; omega)]
    exact occ_stay s sub hi l (st.fst, st.snd) h
theorem occ_find (s sub : Str) : ∀ (l : List Nat) (free : Nat), (∀ i ∈ l, free ≤ i) →
    (forIn l ((#[] : Array Nat), free) (StrLaws.occBody s sub s.length 1)).run.fst.toList = (l.find? (At s sub)).toList
  | [], free, _ => rfl
  | a :: l, free, hf => by
    rw [List.forIn_cons]
    unfold StrLaws.occBody
    have ha : free ≤ a := hf a (List.mem_cons_self ..)
    by_cases hc : a + sub.length ≤ s.length ∧ Builtin.Str.subAt s sub a = true
    · rw [if_pos ⟨⟨⟨by simp, ha⟩, hc.1⟩, hc.2⟩]
      have hA : At s sub a = true := by
        unfold At
        rw [decide_eq_true hc.1, hc.2]
        rfl
      rw [List.find?_cons_of_pos hA]
      have := occ_stay s sub s.length l ((#[] : Array Nat).push a, a + sub.length) (by simp)
      show (forIn l ((#[] : Array Nat).push a, a + sub.length) (StrLaws.occBody s sub s.length 1)).run.fst.toList = _
      rw [this]
      rfl
    · rw [if_neg fun h => hc ⟨h.1.2, h.2⟩]
      have hA : ¬ At s sub a = true := by
        unfold At
        rw [Bool.and_eq_true, decide_eq_true_eq]
        exact hc
      rw [List.find?_cons_of_neg hA]
      exact occ_find s sub l free fun i hi => hf i (List.mem_cons_of_mem _ hi)
theorem occ1 (x y : Str) (lo : Nat) : Builtin.Str.occurrences x y lo x.length 1 = ((List.range' lo (x.length + 1 - lo)).find? (At x y)).toList := by
  rw [StrLaws.occ_eq]
  exact occ_find x y _ lo fun i hi => (List.mem_range'_1.mp hi).1
end Wf
set_option Elab.async false
set_option linter.all false
set_option maxRecDepth 100000
/-! Mirrors step by step: what comes next stands under a name, and is looked at when its value is there. -/
namespace Wf
open PySem PySem.Spec PyProof.Rows L2
variable {m n ma mb mc me mo mi : M} {ml mk : ML} {mt nt : MT} {ms ns b : MS} {r : Env} {cs : List D} {f g : Op2} {d x y : D} {ds es : List D}
theorem sz : sizeLine = 16777216 := (rfl)
noncomputable def kSeq (n : MS) : Fl → List D → R Fl := fun fl cs => match fl with
  | .nx r' => n r' cs
  | o => .ok o cs
theorem e_seq : mSeq ms ns r cs = (ms r cs).bind (kSeq ns) := (rfl)
theorem k_seqN {e : Env} : kSeq ns (.nx e) cs = ns e cs := (rfl)
theorem k_seqR : kSeq ns (.ret d) cs = .ok (.ret d) cs := (rfl)
theorem k_seqB {e : Env} : kSeq ns (.brk e) cs = .ok (.brk e) cs := (rfl)
theorem k_seqC {e : Env} : kSeq ns (.ct e) cs = .ok (.ct e) cs := (rfl)
theorem n_ok {α : Type} {e : Env} {a : α} : noteE e (.ok a cs) = .ok a cs := (rfl)
theorem c_ok {α : Type} {a : α} : calmR (.ok a cs) = .ok a cs := (rfl)
theorem e_skip : mSkip r cs = .ok (.nx r) cs := (rfl)
theorem e_brk : mBrk r cs = .ok (.brk r) cs := (rfl)
theorem e_ct : mCt r cs = .ok (.ct r) cs := (rfl)
noncomputable def kIf (m n : MS) (r : Env) : Bool → List D → R Fl := fun b cs => if b then m r cs else n r cs
theorem e_if : mIf mt ms ns r cs = (mt r cs).bind (kIf ms ns r) := (rfl)
theorem k_ifT : kIf ms ns r true cs = ms r cs := (rfl)
theorem k_ifF : kIf ms ns r false cs = ns r cs := (rfl)
noncomputable def kIfE (m n : M) (r : Env) : Bool → List D → R D := fun b cs => if b then m r cs else n r cs
theorem e_ifE : mIfE mt m n r cs = (mt r cs).bind (kIfE m n r) := (rfl)
theorem k_ifET : kIfE m n r true cs = m r cs := (rfl)
theorem k_ifEF : kIfE m n r false cs = n r cs := (rfl)
noncomputable def kOp (f : Op2) (mb : M) (r : Env) : D → List D → R D := fun x cs => (mb r cs).bind fun y cs => f x y cs
theorem e_op : mOp f ma mb r cs = (ma r cs).bind (kOp f mb r) := (rfl)
theorem k_op : kOp f mb r x cs = (mb r cs).bind (f x) := (rfl)
theorem e_un {f : Op1} : mUn f ma r cs = (ma r cs).bind f := (rfl)
noncomputable def kB : D → List D → R Bool := fun d cs => match d with
  | .bl b => .ok b cs
  | _ => .bad
theorem e_B : mB m r cs = (m r cs).bind kB := (rfl)
theorem k_B {b : Bool} : kB (.bl b) cs = .ok b cs := (rfl)
noncomputable def kCh3 (g : Op2) (mc : M) (r : Env) (y : D) : D → List D → R D := fun z cs => match z with
  | .bl true => (mc r cs).bind fun u cs => g y u cs
  | .bl false => .ok (.bl false) cs
  | _ => .bad
noncomputable def kCh2 (f g : Op2) (mc : M) (r : Env) (x : D) : D → List D → R D := fun y cs => (f x y cs).bind (kCh3 g mc r y)
noncomputable def kCh1 (f g : Op2) (mb mc : M) (r : Env) : D → List D → R D := fun x cs => (mb r cs).bind (kCh2 f g mc r x)
theorem e_chain : mChain f g ma mb mc r cs = (ma r cs).bind (kCh1 f g mb mc r) := (rfl)
theorem k_ch1 : kCh1 f g mb mc r x cs = (mb r cs).bind (kCh2 f g mc r x) := (rfl)
theorem k_ch2 : kCh2 f g mc r x y cs = (f x y cs).bind (kCh3 g mc r y) := (rfl)
theorem k_ch3T : kCh3 g mc r y (.bl true) cs = (mc r cs).bind (g y) := (rfl)
theorem k_ch3F : kCh3 g mc r y (.bl false) cs = .ok (.bl false) cs := (rfl)
noncomputable def kNot : Bool → List D → R Bool := fun b cs => .ok (!b) cs
theorem e_not : mNot mt r cs = (mt r cs).bind kNot := (rfl)
theorem k_not {b : Bool} : kNot b cs = .ok (!b) cs := (rfl)
noncomputable def kAnd (n : MT) (r : Env) : Bool → List D → R Bool := fun b cs => if b then n r cs else .ok false cs
theorem e_and : mAnd mt nt r cs = (mt r cs).bind (kAnd nt r) := (rfl)
theorem k_andT : kAnd nt r true cs = nt r cs := (rfl)
theorem k_andF : kAnd nt r false cs = .ok false cs := (rfl)
noncomputable def kOr (n : MT) (r : Env) : Bool → List D → R Bool := fun b cs => if b then .ok true cs else n r cs
theorem e_or : mOr mt nt r cs = (mt r cs).bind (kOr nt r) := (rfl)
theorem k_orT : kOr nt r true cs = .ok true cs := (rfl)
theorem k_orF : kOr nt r false cs = nt r cs := (rfl)
noncomputable def kAndV (n : M) (r : Env) : D → List D → R D := fun d cs => match d with
  | .bl true => n r cs
  | .bl false => .ok (.bl false) cs
  | _ => .bad
theorem e_andV : mAndV m n r cs = (m r cs).bind (kAndV n r) := (rfl)
theorem k_andVT : kAndV n r (.bl true) cs = n r cs := (rfl)
theorem k_andVF : kAndV n r (.bl false) cs = .ok (.bl false) cs := (rfl)
noncomputable def kOrV (n : M) (r : Env) : D → List D → R D := fun d cs => match d with
  | .bl true => .ok (.bl true) cs
  | .bl false => n r cs
  | _ => .bad
theorem e_orV : mOrV m n r cs = (m r cs).bind (kOrV n r) := (rfl)
theorem k_orVT : kOrV n r (.bl true) cs = .ok (.bl true) cs := (rfl)
theorem k_orVF : kOrV n r (.bl false) cs = n r cs := (rfl)
noncomputable def kNotV : D → List D → R D := fun d cs => match d with
  | .bl b => .ok (.bl (!b)) cs
  | _ => .bad
theorem e_notV : mNotV m r cs = (m r cs).bind kNotV := (rfl)
theorem k_notV {b : Bool} : kNotV (.bl b) cs = .ok (.bl (!b)) cs := (rfl)
theorem e_nil : mNil r cs = .ok [] cs := (rfl)
noncomputable def kCons2 (d : D) : List D → List D → R (List D) := fun ds cs => .ok (d :: ds) cs
noncomputable def kCons (ml : ML) (r : Env) : D → List D → R (List D) := fun d cs => (ml r cs).bind (kCons2 d)
theorem e_cons : mCons m ml r cs = (m r cs).bind (kCons ml r) := (rfl)
theorem k_cons : kCons ml r d cs = (ml r cs).bind (kCons2 d) := (rfl)
theorem k_cons2 : kCons2 d ds cs = .ok (d :: ds) cs := (rfl)
noncomputable def kTup : List D → List D → R D := fun ds cs => if ds.length ≤ sizeLine then .ok (.tup ds) cs else .bad
noncomputable def kLst : List D → List D → R D := fun ds cs => if ds.length ≤ sizeLine then .ok (.lst ds) cs else .bad
noncomputable def kLstL : List D → List D → R D := fun ds cs => if ds.length ≤ sizeLine ∧ nrs ds = true then .ok (.ref cs.length) (cs ++ [.lst ds]) else .bad
theorem e_tup : mTup ml r cs = (ml r cs).bind kTup := (rfl)
theorem e_lst : mLst ml r cs = (ml r cs).bind kLst := (rfl)
theorem e_lstL : mLstL ml r cs = (ml r cs).bind kLstL := (rfl)
theorem k_tup (h : ds.length ≤ 16777216) : kTup ds cs = .ok (.tup ds) cs := if_pos h
theorem k_lst (h : ds.length ≤ 16777216) : kLst ds cs = .ok (.lst ds) cs := if_pos h
theorem k_lstL (h : ds.length ≤ 16777216 ∧ nrs ds = true) : kLstL ds cs = .ok (.ref cs.length) (cs ++ [.lst ds]) := if_pos h
noncomputable def kSl3 (f : OpSl) (x : D) (l : Option Int) : Option Int → List D → R D := fun u cs => f x l u cs
noncomputable def kSl2 (f : OpSl) (hi : MO) (r : Env) (x : D) : Option Int → List D → R D := fun l cs => (hi r cs).bind (kSl3 f x l)
noncomputable def kSl1 (f : OpSl) (lo hi : MO) (r : Env) : D → List D → R D := fun x cs => (lo r cs).bind (kSl2 f hi r x)
theorem e_sl {f : OpSl} {lo hi : MO} : mSl f m lo hi r cs = (m r cs).bind (kSl1 f lo hi r) := (rfl)
theorem k_sl1 {f : OpSl} {lo hi : MO} : kSl1 f lo hi r x cs = (lo r cs).bind (kSl2 f hi r x) := (rfl)
theorem k_sl2 {f : OpSl} {hi : MO} {l : Option Int} : kSl2 f hi r x l cs = (hi r cs).bind (kSl3 f x l) := (rfl)
theorem k_sl3 {f : OpSl} {l u : Option Int} : kSl3 f x l u cs = f x l u cs := (rfl)
theorem e_noP : mNoP r cs = .ok none cs := (rfl)
noncomputable def kP : D → List D → R (Option Int) := fun d cs => match d with
  | .int i => .ok (some i) cs
  | _ => .bad
theorem e_P : mP m r cs = (m r cs).bind kP := (rfl)
theorem k_P {i : Int} : kP (.int i) cs = .ok (some i) cs := (rfl)
theorem e_CB {f : OpC} : mCB f ml r cs = (ml r cs).bind f := (rfl)
noncomputable def kBM (T : String) (f : OpM) (ml : ML) (r : Env) : D → List D → R D := fun x cs => if tyD T x cs = true then (ml r cs).bind (f x) else .bad
theorem e_BM {T : String} {f : OpM} : mBM T f mo ml r cs = (mo r cs).bind (kBM T f ml r) := (rfl)
theorem k_BM {T : String} {f : OpM} (h : tyD T x cs = true) : kBM T f ml r x cs = (ml r cs).bind (f x) := if_pos h
noncomputable def kCall (f : Fn) (r : Env) : List D → List D → R D := fun ds cs => noteE r (f ds cs)
theorem e_call {f : Fn} : mCall f ml r cs = (ml r cs).bind (kCall f r) := (rfl)
theorem k_call {f : Fn} : kCall f r ds cs = noteE r (f ds cs) := (rfl)
noncomputable def kCallK (f : Fn) (k : Nat) (ix : List Nat) (r : Env) : List D → List D → R D := fun es cs => if es.length = k then noteE r (f (pick ix es) cs) else .bad
theorem e_callK {f : Fn} {k : Nat} {ix : List Nat} : mCallK0 f k ix mk r cs = (mk r cs).bind (kCallK f k ix r) := (rfl)
theorem k_callK {f : Fn} {k : Nat} {ix : List Nat} (h : es.length = k) : kCallK f k ix r es cs = noteE r (f (pick ix es) cs) := if_pos h
noncomputable def kAsg (g : D → Env → Option Env) (r : Env) : D → List D → R Fl := fun d cs => match g d r with
  | some r' => .ok (.nx r') cs
  | none => .bad
theorem e_asg {g : D → Env → Option Env} : mAsg g m r cs = (m r cs).bind (kAsg g r) := (rfl)
theorem k_asgN {i : Nat} : kAsg (gtN i) r d cs = .ok (.nx (r.set i (some d))) cs := (rfl)
noncomputable def kSub3 (f : Op3) (r : Env) (d o : D) : D → List D → R Fl := fun i cs => match f o i d cs with
  | some cs' => .ok (.nx r) cs'
  | none => .bad
noncomputable def kSub2 (f : Op3) (mi : M) (r : Env) (d : D) : D → List D → R Fl := fun o cs => (mi r cs).bind (kSub3 f r d o)
noncomputable def kSub1 (f : Op3) (mo mi : M) (r : Env) : D → List D → R Fl := fun d cs => (mo r cs).bind (kSub2 f mi r d)
theorem e_sub {f : Op3} : mSub f me mo mi r cs = (me r cs).bind (kSub1 f mo mi r) := (rfl)
theorem k_sub1 {f : Op3} : kSub1 f mo mi r d cs = (mo r cs).bind (kSub2 f mi r d) := (rfl)
theorem k_sub2 {f : Op3} : kSub2 f mi r d x cs = (mi r cs).bind (kSub3 f r d x) := (rfl)
theorem k_sub3 {f : Op3} {cs' : List D} (h : f x y d cs = some cs') : kSub3 f r d x y cs = .ok (.nx r) cs' := by
  unfold kSub3
  rw [h]
noncomputable def kExpr (r : Env) : D → List D → R Fl := fun _ cs => .ok (.nx r) cs
theorem e_expr : mExpr m r cs = (m r cs).bind (kExpr r) := (rfl)
theorem k_expr : kExpr r d cs = .ok (.nx r) cs := (rfl)
noncomputable def kRet : D → List D → R Fl := fun d cs => .ok (.ret d) cs
theorem e_ret : mRet m r cs = (m r cs).bind kRet := (rfl)
theorem k_ret : kRet d cs = .ok (.ret d) cs := (rfl)
noncomputable def bFor (g : D → Env → Option Env) (b : MS) : Env → D → List D → R Fl := fun r d cs => match g d r with
  | some r' => b r' cs
  | none => .bad
theorem b_for {i : Nat} : bFor (gtN i) b r d cs = b (r.set i (some d)) cs := (rfl)
noncomputable def kFor (g : D → Env → Option Env) (b : MS) (r : Env) : List D → List D → R Fl := fun ds cs => forR (bFor g b) ds r cs
theorem e_for {g : D → Env → Option Env} {mi : ML} : mFor mi g b r cs = (mi r cs).bind (kFor g b r) := (rfl)
theorem k_for {g : D → Env → Option Env} : kFor g b r ds cs = forR (bFor g b) ds r cs := (rfl)
theorem e_while {k : Nat} : mWhile k mt b r cs = whileR mt b k r cs := (rfl)
noncomputable def kIt (f : D → Option (List D)) : D → List D → R (List D) := fun d cs => match f d with
  | some l => .ok l cs
  | none => .bad
theorem e_it {f : D → Option (List D)} : mIt f m r cs = (m r cs).bind (kIt f) := (rfl)
theorem k_itL : kIt itA (.lst ds) cs = .ok ds cs := (rfl)
theorem k_itT : kIt itA (.tup ds) cs = .ok ds cs := (rfl)
theorem k_itW {l : List Int} : kIt itA (.wl l) cs = .ok (l.map .int) cs := (rfl)
theorem k_itS {z : Str} : kIt itA (.str z) cs = .ok (chrs z) cs := (rfl)
noncomputable def kRng1 : List D → List D → R (List D) := fun ds cs => match ds with
  | [.int j] => if -(2 ^ 62) ≤ j ∧ j < 2 ^ 62 then .ok (rng 0 j.toNat) cs else .bad
  | _ => .bad
noncomputable def kRng2 : List D → List D → R (List D) := fun ds cs => match ds with
  | [.int i, .int j] => if -(2 ^ 62) ≤ i ∧ i < 2 ^ 62 ∧ -(2 ^ 62) ≤ j ∧ j < 2 ^ 62 then .ok (rng i (j - i).toNat) cs else .bad
  | _ => .bad
theorem e_rng1 : mRng1 ml r cs = (ml r cs).bind kRng1 := (rfl)
theorem e_rng2 : mRng2 ml r cs = (ml r cs).bind kRng2 := (rfl)
theorem p62 : (2 : Int) ^ 62 = 4611686018427387904 := by decide +kernel
theorem k_rng1 {j : Int} (h : -1000000000 ≤ j ∧ j < 1000000000) : kRng1 [.int j] cs = .ok (rng 0 j.toNat) cs := if_pos (by rw [p62]; omega)
theorem k_rng2 {i j : Int} (h : (-1000000000 ≤ i ∧ i < 1000000000) ∧ -1000000000 ≤ j ∧ j < 1000000000) : kRng2 [.int i, .int j] cs = .ok (rng i (j - i).toNat) cs := if_pos (by rw [p62]; omega)
/-! comprehensions -/
noncomputable def kLcE : D → List D → R (Option D) := fun y cs => .ok (some y) cs
noncomputable def kLcT (me : M) (r : Env) : Bool → List D → R (Option D) := fun b cs => if b then (me r cs).bind kLcE else .ok none cs
theorem k_lcTT : kLcT me r true cs = (me r cs).bind kLcE := (rfl)
theorem k_lcTF : kLcT me r false cs = .ok none cs := (rfl)
theorem k_lcE : kLcE d cs = .ok (some d) cs := (rfl)
theorem e_lcF {i : Nat} {r : Env} : lcF (gtN i) mt me r d cs = (mt (r.set i (some d)) cs).bind (kLcT me (r.set i (some d))) := (rfl)
theorem e_yes : mYes r cs = .ok true cs := (rfl)
noncomputable def kLc2 (k : List D → List D → R D) : List D → List D → R D := fun ys cs => if ys.length < sizeLine then k ys cs else .bad
noncomputable def kLc1 (vs : List Nat) (g : D → Env → Option Env) (mt : MT) (me : M) (r : Env) (k : List D → List D → R D) : List D → List D → R D := fun ds cs => (calmR (mapR (lcF g mt me (wipeD r vs)) ds cs)).bind (kLc2 k)
noncomputable def kDone : List D → List D → R D := fun ys cs => .ok (.lst ys) cs
noncomputable def kDoneL : List D → List D → R D := fun ys cs => if nrs ys = true then .ok (.ref cs.length) (cs ++ [.lst ys]) else .bad
theorem e_lc {vs : List Nat} {mi : ML} {g : D → Env → Option Env} : mLc vs mi g mt me r cs = (mi r cs).bind (kLc1 vs g mt me r kDone) := (rfl)
theorem e_lcL {vs : List Nat} {mi : ML} {g : D → Env → Option Env} : mLcL vs mi g mt me r cs = (mi r cs).bind (kLc1 vs g mt me r kDoneL) := (rfl)
theorem k_lc1 {vs : List Nat} {g : D → Env → Option Env} {k : List D → List D → R D} : kLc1 vs g mt me r k ds cs = (calmR (mapR (lcF g mt me (wipeD r vs)) ds cs)).bind (kLc2 k) := (rfl)
theorem k_lc2 {k : List D → List D → R D} (h : ds.length < 16777216) : kLc2 k ds cs = k ds cs := if_pos h
theorem k_done : kDone ds cs = .ok (.lst ds) cs := (rfl)
theorem k_doneL (h : nrs ds = true) : kDoneL ds cs = .ok (.ref cs.length) (cs ++ [.lst ds]) := if_pos h
noncomputable def kFrz (n : Nat) : D → List D → R D := fun d cs' => match d with
  | .ref i => if n ≤ i ∧ i + 1 = cs'.length then match cs'[i]? with
      | some (.lst l) => .ok (.lst l) (cs'.take i)
      | _ => .bad
    else .bad
  | d => .ok d cs'
theorem e_frz : mFrz m r cs = (m r cs).bind (kFrz cs.length) := (rfl)
theorem k_frz {l : List D} : kFrz cs.length (.ref cs.length) (cs ++ [.lst l]) = .ok (.lst l) cs := by
  unfold kFrz
  simp
theorem k_frzL {k : Nat} {l : List D} : kFrz k (.lst l) cs = .ok (.lst l) cs := (rfl)
/-! values -/
theorem e_C : mC d r cs = .ok d cs := (rfl)
theorem e_V {i : Nat} (h : r[i]? = some (some d)) : mV i r cs = .ok d cs := by
  unfold mV
  rw [h]
theorem e_V0 {a : List (Option D)} : mV 0 (some d :: a) cs = .ok d cs := (rfl)
theorem e_V1 {o : Option D} {a : List (Option D)} : mV 1 (o :: some d :: a) cs = .ok d cs := (rfl)
theorem e_V2 {o p : Option D} {a : List (Option D)} : mV 2 (o :: p :: some d :: a) cs = .ok d cs := (rfl)
theorem e_V3 {o p q : Option D} {a : List (Option D)} : mV 3 (o :: p :: q :: some d :: a) cs = .ok d cs := (rfl)
theorem e_V4 {o p q s : Option D} {a : List (Option D)} : mV 4 (o :: p :: q :: s :: some d :: a) cs = .ok d cs := (rfl)
theorem e_V5 {o p q s t : Option D} {a : List (Option D)} : mV 5 (o :: p :: q :: s :: t :: some d :: a) cs = .ok d cs := (rfl)
theorem e_V6 {o p q s t u : Option D} {a : List (Option D)} : mV 6 (o :: p :: q :: s :: t :: u :: some d :: a) cs = .ok d cs := (rfl)
theorem e_V7 {o p q s t u v : Option D} {a : List (Option D)} : mV 7 (o :: p :: q :: s :: t :: u :: v :: some d :: a) cs = .ok d cs := (rfl)
theorem e_V8 {o p q s t u v w : Option D} {a : List (Option D)} : mV 8 (o :: p :: q :: s :: t :: u :: v :: w :: some d :: a) cs = .ok d cs := (rfl)
theorem e_V9 {o p q s t u v w x : Option D} {a : List (Option D)} : mV 9 (o :: p :: q :: s :: t :: u :: v :: w :: x :: some d :: a) cs = .ok d cs := (rfl)
/-! operations on known kinds -/
section
variable {i j : Int} {z y : Str} {l k : List D}
theorem o_addI : addD (.int i) (.int j) cs = .ok (.int (i + j)) cs := (rfl)
theorem o_addS (h : z.length + y.length ≤ 16777216) : addD (.str z) (.str y) cs = .ok (.str (z ++ y)) cs := if_pos h
theorem o_addL (h : l.length + k.length ≤ 16777216) : addD (.lst l) (.lst k) cs = .ok (.lst (l ++ k)) cs := if_pos h
theorem o_sub : subD (.int i) (.int j) cs = .ok (.int (i - j)) cs := (rfl)
theorem o_mulI (h : mulI i j) : mulD (.int i) (.int j) cs = .ok (.int (i * j)) cs := if_pos h
theorem o_mulS (h : 0 ≤ i ∧ i < 2 ^ 24 ∧ z.length * i.toNat ≤ 16777216) : mulD (.str z) (.int i) cs = .ok (.str (strMul z i)) cs := if_pos h
theorem o_mulL (h : -(2 ^ 63) ≤ i ∧ i < 2 ^ 63 ∧ l.length * i.toNat ≤ 16777216) : mulD (.lst l) (.int i) cs = .ok (.lst (List.replicate i.toNat l).flatten) cs := if_pos h
theorem o_mod (h : j ≠ 0) : modD (.int i) (.int j) cs = .ok (.int (i.fmod j)) cs := if_pos h
theorem o_fdiv (h : j ≠ 0 ∧ j.natAbs < 1073741824) : fdivD (.int i) (.int j) cs = .ok (.int (i.fdiv j)) cs := if_pos h
theorem o_pow (h : 0 ≤ j ∧ j ≤ 1000000 ∧ i.natAbs < 2 ^ 64) : powD (.int i) (.int j) cs = .ok (.int (i ^ j.toNat)) cs := if_pos h
theorem o_neg : negD (.int i) cs = .ok (.int (-i)) cs := (rfl)
theorem o_ltI : ltD (.int i) (.int j) cs = .ok (.bl (decide (i < j))) cs := (rfl)
theorem o_ltS : ltD (.str z) (.str y) cs = .ok (.bl (decide (z.cps.toList < y.cps.toList))) cs := (rfl)
theorem o_leI : leD (.int i) (.int j) cs = .ok (.bl (decide (i ≤ j))) cs := (rfl)
theorem o_leS : leD (.str z) (.str y) cs = .ok (.bl (!decide (y.cps.toList < z.cps.toList))) cs := (rfl)
theorem o_gt : gtD (.int i) (.int j) cs = .ok (.bl (decide (j < i))) cs := (rfl)
theorem o_ge : geD (.int i) (.int j) cs = .ok (.bl (decide (j ≤ i))) cs := (rfl)
theorem o_eqI : eqD (.int i) (.int j) cs = .ok (.bl (decide (i = j))) cs := (rfl)
theorem o_eqS : eqD (.str z) (.str y) cs = .ok (.bl (decide (z = y))) cs := (rfl)
theorem o_eqB {a b : Bool} : eqD (.bl a) (.bl b) cs = .ok (.bl (decide (a = b))) cs := (rfl)
theorem o_neI : neD (.int i) (.int j) cs = .ok (.bl (!decide (i = j))) cs := (rfl)
theorem o_neS : neD (.str z) (.str y) cs = .ok (.bl (!decide (z = y))) cs := (rfl)
theorem o_isN : isND x .non cs = .ok (.bl (isNon x)) cs := (rfl)
theorem o_notN : notND x .non cs = .ok (.bl (!isNon x)) cs := (rfl)
theorem o_ixS {c : Nat} (h : z.length ≤ 16777216) (e : atI z.cps.toList i = some c) : ixD (.str z) (.int i) cs = .ok (.str ⟨#[c]⟩) cs := by
  unfold ixD
  simp only [sz, if_pos h, e]
theorem o_ixL (e : atI l i = some d) : ixD (.lst l) (.int i) cs = .ok d cs := by
  unfold ixD
  simp only [seqOf, lstOf, e]
theorem o_ixT (e : atI l i = some d) : ixD (.tup l) (.int i) cs = .ok d cs := by
  unfold ixD
  simp only [seqOf, e]
theorem o_slS {lo hi : Option Int} (h : z.length ≤ 16777216) : slD (.str z) lo hi cs = .ok (.str (cutS z lo hi)) cs := if_pos h
theorem o_slL {lo hi : Option Int} : slD (.lst l) lo hi cs = .ok (.lst (cutD l lo hi)) cs := (rfl)
theorem o_lenS (h : z.length ≤ 16777216) : lenD [.str z] cs = .ok (.int z.length) cs := if_pos h
theorem o_lenL : lenD [.lst l] cs = .ok (.int l.length) cs := (rfl)
theorem o_lenT : lenD [.tup l] cs = .ok (.int l.length) cs := (rfl)
theorem o_lenR {n : Nat} (h : cs[n]? = some (.lst l)) : lenD [.ref n] cs = .ok (.int l.length) cs := by
  unfold lenD
  simp only [seqOf, lstOf, h]
theorem o_int : intD [.int i] cs = .ok (.int i) cs := (rfl)
theorem o_abs : absD [.int i] cs = .ok (.int (if i < 0 then -i else i)) cs := (rfl)
theorem o_min : minD [.int i, .int j] cs = .ok (.int (if j < i then j else i)) cs := (rfl)
theorem o_max : maxD [.int i, .int j] cs = .ok (.int (if j > i then j else i)) cs := (rfl)
theorem o_list : listD [.lst l] cs = .ok (.lst l) cs := (rfl)
theorem o_find3 : find3D (.str z) [.str y, .int i] cs = .ok (.int (Txt.find3 z y i)) cs := (rfl)
theorem o_join {ss : List Str} (h : (ss.map (·.length)).sum + ss.length * z.length ≤ 16777216) : joinD (.str z) [.lst (ss.map D.str)] cs = .ok (.str (Txt.join z ss)) cs := by
  unfold joinD
  simp only [seqOf, lstOf, strsOf_map, if_pos h]
theorem o_append {n : Nat} (hc : cs[n]? = some (.lst l)) (h : l.length < 16777216 ∧ nr d = true ∧ nrs l = true) : appendD (.ref n) [d] cs = .ok .non (cs.set n (.lst (l ++ [d]))) := by
  unfold appendD
  simp only [hc]
  exact if_pos h
theorem o_set {n j' : Nat} (hc : cs[n]? = some (.lst l)) (hj : ixN l.length i = some j') (hd : nr d = true) : setD (.ref n) (.int i) d cs = some (cs.set n (.lst (l.set j' d))) := by
  unfold setD
  simp only [hc, hj, if_pos hd]
theorem t_str : tyD "str" (.str z) cs = true := (rfl)
theorem t_ref {n : Nat} (h : cs[n]? = some (.lst l)) : tyD "list" (.ref n) cs = true := by
  unfold tyD
  simp only [h]
  rfl
theorem atI_nat {α : Type} {l : List α} {n : Nat} {a : α} (h : l[n]? = some a) : atI l (n : Int) = some a := by
  unfold atI ixN
  have hl := (List.getElem?_eq_some_iff.mp h).1
  rw [if_pos (by omega), if_pos (by omega)]
  show l[(n : Int).toNat]? = some a
  rw [Int.toNat_natCast]
  exact h
theorem ixN_nat {m n : Nat} (h : n < m) : ixN m (n : Int) = some n := by
  unfold ixN
  rw [if_pos (by omega), if_pos (by omega), Int.toNat_natCast]
end
/-! a def's end, by kinds -/
section
variable {n : Nat} {i : Int} {b : Bool} {z : Str} {l : List D} {e : Env}
theorem f_int : finR n (.ok (.ret (.int i)) cs) = .ok (.int i) (cs.take n) := (rfl)
theorem f_bl : finR n (.ok (.ret (.bl b)) cs) = .ok (.bl b) (cs.take n) := (rfl)
theorem f_str : finR n (.ok (.ret (.str z)) cs) = .ok (.str z) (cs.take n) := (rfl)
theorem f_non : finR n (.ok (.ret .non) cs) = .ok .non (cs.take n) := (rfl)
theorem f_nx : finR n (.ok (.nx e) cs) = .ok .non (cs.take n) := (rfl)
theorem f_nr (h : nr d = true) : finR n (.ok (.ret d) cs) = .ok d (cs.take n) := out_nr h
theorem f_new {c : D} : finR cs.length (.ok (.ret (.ref cs.length)) (cs ++ [c])) = .ok (.ref cs.length) (cs ++ [c]) := by
  show outR cs.length (.ref cs.length) (cs ++ [c]) = _
  rw [out_ref (c := c) (Nat.le_refl _) (by simp)]
  simp
theorem take_self : cs.take cs.length = cs := List.take_length
end
/-! ### cuts of texts -/
theorem cutS_list (z : Str) (lo hi : Option Int) : (cutS z lo hi).cps.toList = (z.cps.toList.drop (HT.sIx z.length 0 lo)).take (HT.sIx z.length z.length hi - HT.sIx z.length 0 lo) := by
  unfold cutS
  rw [List.toList_toArray]
theorem str_ext {x y : Str} (h : x.cps.toList = y.cps.toList) : x = y := by
  cases x with
  | mk a =>
    cases y with
    | mk b =>
      have : a = b := Array.toList_inj.mp h
      rw [this]
theorem str_len (z : Str) : z.length = z.cps.toList.length := (rfl)
theorem cut_at {w p : Str} {i : Nat} (h : i + p.length ≤ w.length) : decide (cutS w (some (i : Int)) (some ((i : Int) + (p.length : Int))) = p) = At w p i := by
  have e : cutS w (some (i : Int)) (some ((i : Int) + (p.length : Int))) = p ↔ Builtin.Str.subAt w p i = true := by
    rw [StrLaws.subAt_eq, beq_iff_eq]
    have e2 : (i : Int) + (p.length : Int) = ((i + p.length : Nat) : Int) := by omega
    have e1 : (cutS w (some (i : Int)) (some ((i : Int) + (p.length : Int)))).cps.toList = (w.cps.toList.drop i).take p.length := by
      rw [cutS_list, e2, HT.sIx_nat, HT.sIx_nat, Nat.min_eq_left (by omega), Nat.min_eq_left (by omega)]
      congr 1
      omega
    constructor
    · intro z
      rw [← e1, z]
    · intro z
      exact str_ext (e1.trans z)
  unfold At
  rw [decide_eq_true h, Bool.true_and]
  by_cases z : Builtin.Str.subAt w p i = true
  · rw [z, decide_eq_true (e.mpr z)]
  · rw [decide_eq_false fun q => z (e.mp q)]
    exact (Bool.eq_false_iff.mpr z).symm
theorem At_no {w p : Str} {i : Nat} (h : ¬ i + p.length ≤ w.length) : At w p i = false := by
  unfold At
  rw [decide_eq_false h]
  rfl
/-! the last cell -/
theorem t_last {l : List D} : tyD "list" (.ref cs.length) (cs ++ [.lst l]) = true := t_ref (l := l) (by simp)
theorem o_appendA {l : List D} (h : l.length < 16777216 ∧ nr d = true ∧ nrs l = true) : appendD (.ref cs.length) [d] (cs ++ [.lst l]) = .ok .non (cs ++ [.lst (l ++ [d])]) := by
  rw [o_append (l := l) (by simp) h]
  simp
theorem o_lenA {l : List D} : lenD [.ref cs.length] (cs ++ [.lst l]) = .ok (.int l.length) (cs ++ [.lst l]) := o_lenR (l := l) (by simp)
theorem nrs_map {α : Type} {l : List α} {f : α → D} (h : ∀ a, nr (f a) = true) : nrs (l.map f) = true := by
  rw [nrs_all, List.all_eq_true]
  intro d hd
  obtain ⟨a, _, rfl⟩ := List.mem_map.mp hd
  exact h a
/-! isinstance -/
section
variable {i : Int} {bb : Bool} {z : Str} {l : List D} {k : Nat}
theorem i_non_bool : isiD [D.non, .ty "bool"] cs = .ok (.bl false) cs := by
  have e : isT "NoneType" "bool" = some false := by decide +kernel
  unfold isiD
  simp only [tyN, e]
theorem i_non_int : isiD [D.non, .ty "int"] cs = .ok (.bl false) cs := by
  have e : isT "NoneType" "int" = some false := by decide +kernel
  unfold isiD
  simp only [tyN, e]
theorem i_non_str : isiD [D.non, .ty "str"] cs = .ok (.bl false) cs := by
  have e : isT "NoneType" "str" = some false := by decide +kernel
  unfold isiD
  simp only [tyN, e]
theorem i_non_tuple : isiD [D.non, .ty "tuple"] cs = .ok (.bl false) cs := by
  have e : isT "NoneType" "tuple" = some false := by decide +kernel
  unfold isiD
  simp only [tyN, e]
theorem i_non_list : isiD [D.non, .ty "list"] cs = .ok (.bl false) cs := by
  have e : isT "NoneType" "list" = some false := by decide +kernel
  unfold isiD
  simp only [tyN, e]
theorem i_bl_bool : isiD [(.bl bb), .ty "bool"] cs = .ok (.bl true) cs := by
  have e : isT "bool" "bool" = some true := by decide +kernel
  unfold isiD
  simp only [tyN, e]
theorem i_bl_int : isiD [(.bl bb), .ty "int"] cs = .ok (.bl true) cs := by
  have e : isT "bool" "int" = some true := by decide +kernel
  unfold isiD
  simp only [tyN, e]
theorem i_bl_str : isiD [(.bl bb), .ty "str"] cs = .ok (.bl false) cs := by
  have e : isT "bool" "str" = some false := by decide +kernel
  unfold isiD
  simp only [tyN, e]
theorem i_bl_tuple : isiD [(.bl bb), .ty "tuple"] cs = .ok (.bl false) cs := by
  have e : isT "bool" "tuple" = some false := by decide +kernel
  unfold isiD
  simp only [tyN, e]
theorem i_bl_list : isiD [(.bl bb), .ty "list"] cs = .ok (.bl false) cs := by
  have e : isT "bool" "list" = some false := by decide +kernel
  unfold isiD
  simp only [tyN, e]
theorem i_int_bool : isiD [(.int i), .ty "bool"] cs = .ok (.bl false) cs := by
  have e : isT "int" "bool" = some false := by decide +kernel
  unfold isiD
  simp only [tyN, e]
theorem i_int_int : isiD [(.int i), .ty "int"] cs = .ok (.bl true) cs := by
  have e : isT "int" "int" = some true := by decide +kernel
  unfold isiD
  simp only [tyN, e]
theorem i_int_str : isiD [(.int i), .ty "str"] cs = .ok (.bl false) cs := by
  have e : isT "int" "str" = some false := by decide +kernel
  unfold isiD
  simp only [tyN, e]
theorem i_int_tuple : isiD [(.int i), .ty "tuple"] cs = .ok (.bl false) cs := by
  have e : isT "int" "tuple" = some false := by decide +kernel
  unfold isiD
  simp only [tyN, e]
theorem i_int_list : isiD [(.int i), .ty "list"] cs = .ok (.bl false) cs := by
  have e : isT "int" "list" = some false := by decide +kernel
  unfold isiD
  simp only [tyN, e]
theorem i_str_bool : isiD [(.str z), .ty "bool"] cs = .ok (.bl false) cs := by
  have e : isT "str" "bool" = some false := by decide +kernel
  unfold isiD
  simp only [tyN, e]
theorem i_str_int : isiD [(.str z), .ty "int"] cs = .ok (.bl false) cs := by
  have e : isT "str" "int" = some false := by decide +kernel
  unfold isiD
  simp only [tyN, e]
theorem i_str_str : isiD [(.str z), .ty "str"] cs = .ok (.bl true) cs := by
  have e : isT "str" "str" = some true := by decide +kernel
  unfold isiD
  simp only [tyN, e]
theorem i_str_tuple : isiD [(.str z), .ty "tuple"] cs = .ok (.bl false) cs := by
  have e : isT "str" "tuple" = some false := by decide +kernel
  unfold isiD
  simp only [tyN, e]
theorem i_str_list : isiD [(.str z), .ty "list"] cs = .ok (.bl false) cs := by
  have e : isT "str" "list" = some false := by decide +kernel
  unfold isiD
  simp only [tyN, e]
theorem i_lst_bool : isiD [(.lst l), .ty "bool"] cs = .ok (.bl false) cs := by
  have e : isT "list" "bool" = some false := by decide +kernel
  unfold isiD
  simp only [tyN, e]
theorem i_lst_int : isiD [(.lst l), .ty "int"] cs = .ok (.bl false) cs := by
  have e : isT "list" "int" = some false := by decide +kernel
  unfold isiD
  simp only [tyN, e]
theorem i_lst_str : isiD [(.lst l), .ty "str"] cs = .ok (.bl false) cs := by
  have e : isT "list" "str" = some false := by decide +kernel
  unfold isiD
  simp only [tyN, e]
theorem i_lst_tuple : isiD [(.lst l), .ty "tuple"] cs = .ok (.bl false) cs := by
  have e : isT "list" "tuple" = some false := by decide +kernel
  unfold isiD
  simp only [tyN, e]
theorem i_lst_list : isiD [(.lst l), .ty "list"] cs = .ok (.bl true) cs := by
  have e : isT "list" "list" = some true := by decide +kernel
  unfold isiD
  simp only [tyN, e]
theorem i_tup_bool : isiD [(.tup l), .ty "bool"] cs = .ok (.bl false) cs := by
  have e : isT "tuple" "bool" = some false := by decide +kernel
  unfold isiD
  simp only [tyN, e]
theorem i_tup_int : isiD [(.tup l), .ty "int"] cs = .ok (.bl false) cs := by
  have e : isT "tuple" "int" = some false := by decide +kernel
  unfold isiD
  simp only [tyN, e]
theorem i_tup_str : isiD [(.tup l), .ty "str"] cs = .ok (.bl false) cs := by
  have e : isT "tuple" "str" = some false := by decide +kernel
  unfold isiD
  simp only [tyN, e]
theorem i_tup_tuple : isiD [(.tup l), .ty "tuple"] cs = .ok (.bl true) cs := by
  have e : isT "tuple" "tuple" = some true := by decide +kernel
  unfold isiD
  simp only [tyN, e]
theorem i_tup_list : isiD [(.tup l), .ty "list"] cs = .ok (.bl false) cs := by
  have e : isT "tuple" "list" = some false := by decide +kernel
  unfold isiD
  simp only [tyN, e]
end
/-- plain data, at most n deep -/
noncomputable def deep : Nat → D → Prop
  | 0, _ => False
  | n + 1, d => match d with
    | .non => True
    | .bl _ => True
    | .int _ => True
    | .str _ => True
    | .lst l => l.length < 16777216 ∧ ∀ x ∈ l, deep n x
    | .tup l => l.length < 16777216 ∧ ∀ x ∈ l, deep n x
    | _ => False
/-! the store of draws: the first cell, six items -/
section
variable {a0 a1 a2 a3 a4 a5 : D} {rest : List D} {v : Int}
theorem st_get0 : ixD (.ref 0) (.int 0) (.lst [a0, a1, a2, a3, a4, a5] :: rest) = .ok a0 (.lst [a0, a1, a2, a3, a4, a5] :: rest) := (rfl)
theorem st_get1 : ixD (.ref 0) (.int 1) (.lst [a0, a1, a2, a3, a4, a5] :: rest) = .ok a1 (.lst [a0, a1, a2, a3, a4, a5] :: rest) := (rfl)
theorem st_sub1 {r : Env} : kSub3 setD r (.int v) (.ref 0) (.int 1) (.lst [a0, a1, a2, a3, a4, a5] :: rest) = .ok (.nx r) (.lst [a0, .int v, a2, a3, a4, a5] :: rest) := (rfl)
theorem st_get2 : ixD (.ref 0) (.int 2) (.lst [a0, a1, a2, a3, a4, a5] :: rest) = .ok a2 (.lst [a0, a1, a2, a3, a4, a5] :: rest) := (rfl)
theorem st_sub2 {r : Env} : kSub3 setD r (.int v) (.ref 0) (.int 2) (.lst [a0, a1, a2, a3, a4, a5] :: rest) = .ok (.nx r) (.lst [a0, a1, .int v, a3, a4, a5] :: rest) := (rfl)
theorem st_get3 : ixD (.ref 0) (.int 3) (.lst [a0, a1, a2, a3, a4, a5] :: rest) = .ok a3 (.lst [a0, a1, a2, a3, a4, a5] :: rest) := (rfl)
theorem st_sub3 {r : Env} : kSub3 setD r (.int v) (.ref 0) (.int 3) (.lst [a0, a1, a2, a3, a4, a5] :: rest) = .ok (.nx r) (.lst [a0, a1, a2, .int v, a4, a5] :: rest) := (rfl)
theorem st_get4 : ixD (.ref 0) (.int 4) (.lst [a0, a1, a2, a3, a4, a5] :: rest) = .ok a4 (.lst [a0, a1, a2, a3, a4, a5] :: rest) := (rfl)
theorem st_sub4 {r : Env} : kSub3 setD r (.int v) (.ref 0) (.int 4) (.lst [a0, a1, a2, a3, a4, a5] :: rest) = .ok (.nx r) (.lst [a0, a1, a2, a3, .int v, a5] :: rest) := (rfl)
theorem st_get5 : ixD (.ref 0) (.int 5) (.lst [a0, a1, a2, a3, a4, a5] :: rest) = .ok a5 (.lst [a0, a1, a2, a3, a4, a5] :: rest) := (rfl)
theorem st_sub5 {r : Env} : kSub3 setD r (.int v) (.ref 0) (.int 5) (.lst [a0, a1, a2, a3, a4, a5] :: rest) = .ok (.nx r) (.lst [a0, a1, a2, a3, a4, .int v] :: rest) := (rfl)
end
/-- the store is in order -/
noncomputable def StOk (c : D) : Prop := ∃ (ns : List Int) (p : Nat) (a b sd t : Int), c = .lst [.lst (ns.map .int), .int p, .int a, .int b, .int sd, .int t] ∧ p ≤ ns.length ∧ ns.length ≤ 1000 ∧ 0 ≤ a
theorem mulI_r {i j : Int} (h : -(18446744073709551616) < j ∧ j < 18446744073709551616) : mulI i j := .inr (by
  have e : (2 : Int) ^ 64 = 18446744073709551616 := by decide +kernel
  rw [e]
  exact h)
theorem fmod_in {i j : Int} (h : 0 < j) : 0 ≤ i.fmod j ∧ i.fmod j < j := ⟨Int.fmod_nonneg_of_pos i h, Int.fmod_lt_of_pos i h⟩
theorem fdiv_nn {i j : Int} (h : 0 ≤ i) (hj : 0 ≤ j) : 0 ≤ i.fdiv j := Int.fdiv_nonneg h hj
/-! the last cell behind the store -/
section
variable {c0 : D} {rest l : List D}
theorem t_last1 : tyD "list" (.ref (rest.length + 1)) (c0 :: (rest ++ [.lst l])) = true := t_ref (l := l) (by simp)
theorem o_appendA1 (h : l.length < 16777216 ∧ nr d = true ∧ nrs l = true) : appendD (.ref (rest.length + 1)) [d] (c0 :: (rest ++ [.lst l])) = .ok .non (c0 :: (rest ++ [.lst (l ++ [d])])) := by
  rw [o_append (l := l) (by simp) h]
  simp
theorem o_lenA1 : lenD [.ref (rest.length + 1)] (c0 :: (rest ++ [.lst l])) = .ok (.int l.length) (c0 :: (rest ++ [.lst l])) := o_lenR (l := l) (by simp)
theorem f_new1 : finR (rest.length + 1) (.ok (.ret (.ref (rest.length + 1))) (c0 :: (rest ++ [.lst l]))) = .ok (.ref (rest.length + 1)) (c0 :: (rest ++ [.lst l])) := by
  show outR (rest.length + 1) (.ref (rest.length + 1)) (c0 :: (rest ++ [.lst l])) = _
  rw [out_ref (c := .lst l) (Nat.le_refl _) (by simp)]
  simp
theorem k_frz1 : kFrz (rest.length + 1) (.ref (rest.length + 1)) (c0 :: (rest ++ [.lst l])) = .ok (.lst l) (c0 :: rest) := by
  unfold kFrz
  simp
theorem t_last2 : tyD "list" (.ref 1) [c0, .lst l] = true := t_ref (l := l) (by simp)
theorem o_appendA2 (h : l.length < 16777216 ∧ nr d = true ∧ nrs l = true) : appendD (.ref 1) [d] [c0, .lst l] = .ok .non [c0, .lst (l ++ [d])] := by
  rw [o_append (l := l) (by simp) h]
  simp
theorem o_lenA2 : lenD [.ref 1] [c0, .lst l] = .ok (.int l.length) [c0, .lst l] := o_lenR (l := l) (by simp)
theorem f_new2 : finR 1 (.ok (.ret (.ref 1)) [c0, .lst l]) = .ok (.ref 1) [c0, .lst l] := by
  show outR 1 (.ref 1) [c0, .lst l] = _
  rw [out_ref (c := .lst l) (Nat.le_refl _) (by simp)]
  simp
theorem k_frz2 : kFrz 1 (.ref 1) [c0, .lst l] = .ok (.lst l) [c0] := by
  unfold kFrz
  simp
theorem k_frzS {k : Nat} {z : Str} : kFrz k (.str z) cs = .ok (.str z) cs := (rfl)
theorem k_frzI {k : Nat} {z : Int} : kFrz k (.int z) cs = .ok (.int z) cs := (rfl)
theorem k_frzT {k : Nat} : kFrz k (.tup l) cs = .ok (.tup l) cs := (rfl)
end
/-! lengths of texts, cuts of lists -/
theorem len_app (x y : Str) : (x ++ y).length = x.length + y.length := by
  show (x.cps ++ y.cps).size = _
  rw [Array.size_append]
  rfl
theorem cutS_le (z : Str) (lo hi : Option Int) : (cutS z lo hi).length ≤ z.length := by
  rw [str_len, cutS_list, List.length_take, List.length_drop]
  have := str_len z
  omega
theorem cutS_to (z : Str) (n : Nat) : (cutS z none (some (n : Int))).length ≤ n := by
  rw [str_len, cutS_list, List.length_take, HT.sIx_nat, HT.sIx_none]
  omega
theorem cutS_from (z : Str) (n : Nat) : (cutS z (some (n : Int)) none).length ≤ z.length - n := by
  rw [str_len, cutS_list, List.length_take, HT.sIx_nat, HT.sIx_none, List.length_drop]
  have := str_len z
  omega
theorem sjoin_len : ∀ ss : List Str, (Str.join Str.empty ss).length = (ss.map (·.length)).sum
  | [] => rfl
  | [x] => by
    show x.length = x.length + 0
    omega
  | x :: y :: ss => by
    have ih := sjoin_len (y :: ss)
    show (x ++ Str.empty ++ Str.join Str.empty (y :: ss)).length = _
    rw [len_app, len_app, ih]
    rfl
theorem join_len (ss : List Str) : (Txt.join Str.empty ss).length = (ss.map (·.length)).sum := by
  rw [TL.join_eq]
  exact sjoin_len ss
theorem mul_len (z : Str) (n : Nat) : (strMul z (n : Int)).length = z.length * n := by
  unfold strMul Txt.mul
  by_cases h : (n : Int) < 1
  · rw [if_pos h]
    have : n = 0 := by omega
    subst this
    rfl
  · rw [if_neg h]
    by_cases h2 : ((n : Int) == 1 || z.length == 0) = true
    · rw [if_pos h2]
      rw [Bool.or_eq_true, beq_iff_eq, beq_iff_eq] at h2
      rcases h2 with h2 | h2
      · have : n = 1 := by omega
        subst this
        omega
      · rw [h2, Nat.zero_mul]
    · rw [if_neg h2, Int.toNat_natCast]
      show ((List.replicate n z.cps).foldl (· ++ ·) #[]).size = z.cps.size * n
      have aux : ∀ (k : Nat) (a : Array Nat), ((List.replicate k z.cps).foldl (· ++ ·) a).size = a.size + z.cps.size * k := by
        intro k
        induction k with
        | zero => intro a; rfl
        | succ k ih =>
          intro a
          rw [List.replicate_succ, List.foldl_cons, ih, Array.size_append, Nat.mul_succ]
          omega
      rw [aux n #[]]
      simp
/-- turns that draw -/
theorem map_draws {f : D → List D → R (Option D)} {rest : List D} (G : D → Prop) {ds : List D} (h : ∀ d ∈ ds, ∀ c, StOk c → ∃ y c', f d (c :: rest) = .ok (some y) (c' :: rest) ∧ StOk c' ∧ G y) :
    ∀ c, StOk c → ∃ ys c', mapR f ds (c :: rest) = .ok ys (c' :: rest) ∧ StOk c' ∧ ys.length = ds.length ∧ ∀ y ∈ ys, G y := by
  induction ds with
  | nil => exact fun c hc => ⟨[], c, (rfl), hc, rfl, fun y hy => by cases hy⟩
  | cons d ds ih =>
    intro c hc
    obtain ⟨y, c1, e1, h1, g1⟩ := h d (List.mem_cons_self ..) c hc
    obtain ⟨ys, c2, e2, h2, l2, g2⟩ := ih (fun e he => h e (List.mem_cons_of_mem _ he)) c1 h1
    refine ⟨y :: ys, c2, ?_, h2, by rw [List.length_cons, List.length_cons, l2], fun z hz => ?_⟩
    · unfold mapR
      rw [e1, R.bind_ok, e2, R.bind_ok]
      rfl
    · rcases List.mem_cons.mp hz with hz | hz
      · rw [hz]
        exact g1
      · exact g2 z hz
theorem strs_of {l : List D} (P : Str → Prop) : (∀ d ∈ l, ∃ z, d = .str z ∧ P z) → ∃ ss : List Str, l = ss.map D.str ∧ ∀ z ∈ ss, P z := by
  induction l with
  | nil => exact fun _ => ⟨[], rfl, fun z hz => by cases hz⟩
  | cons d l ih =>
    intro h
    obtain ⟨z, rfl, hz⟩ := h d (List.mem_cons_self ..)
    obtain ⟨ss, rfl, hs⟩ := ih fun e he => h e (List.mem_cons_of_mem _ he)
    refine ⟨z :: ss, rfl, fun y hy => ?_⟩
    rcases List.mem_cons.mp hy with hy | hy
    · rw [hy]
      exact hz
    · exact hs y hy
theorem sum_ones : ∀ {ss : List Str}, (∀ z ∈ ss, z.length = 1) → (ss.map (·.length)).sum = ss.length
  | [], _ => rfl
  | z :: ss, h => by
    rw [List.map_cons, List.sum_cons, sum_ones fun y hy => h y (List.mem_cons_of_mem _ hy), h z (List.mem_cons_self ..), List.length_cons]
    omega
/-! small things -/
theorem n_cons : nrs (d :: ds) = (nr d && nrs ds) := (rfl)
theorem n_nil : nrs [] = true := (rfl)
theorem n_str {z : Str} : nr (.str z) = true := (rfl)
theorem n_int {i : Int} : nr (.int i) = true := (rfl)
theorem n_bl {b : Bool} : nr (.bl b) = true := (rfl)
theorem n_lst {l : List D} : nr (.lst l) = nrs l := (rfl)
theorem n_tup {l : List D} : nr (.tup l) = nrs l := (rfl)
theorem of_empty : Str.ofString "" = Str.empty := by decide +kernel
theorem pick01 {α : Type} {a b : α} : pick [0, 1] [a, b] = [a, b] := (rfl)
theorem pick10 {α : Type} {a b : α} : pick [1, 0] [a, b] = [b, a] := (rfl)
theorem len_empty : Str.length Str.empty = 0 := (rfl)
theorem s_setA1 {r : Env} {c0 : D} {rest l : List D} {v : Int} (h : 0 < l.length) : kSub3 setD r (.int v) (.ref (rest.length + 1)) (.int 0) (c0 :: (rest ++ [.lst l])) = .ok (.nx r) (c0 :: (rest ++ [.lst (l.set 0 (.int v))])) := by
  rw [k_sub3 (o_set (l := l) (j' := 0) (by simp) (show ixN l.length 0 = some 0 from ixN_nat (n := 0) h) (rfl))]
  simp
theorem len_one {c : Nat} : Str.length (Str.mk #[c]) = 1 := (rfl)
theorem take_lft {l k : List D} : (l ++ k).take l.length = l := by simp
theorem f_new0 {l : List D} : finR 0 (.ok (.ret (.ref 0)) [.lst l]) = .ok (.ref 0) [.lst l] := by
  show outR 0 (.ref 0) [.lst l] = _
  rw [out_ref (c := .lst l) (Nat.le_refl _) (by simp)]
  simp
end Wf
set_option Elab.async false
set_option linter.all false
set_option maxRecDepth 100000
set_option maxHeartbeats 1000000
/-! Readings by mirrors: exceptions. -/
namespace Wf
open PySem PySem.Spec PyProof.Rows L2
section
variable {X : Cx} {W : WX} {K : PySem.W.Frag} {e : Expr} {es : List Expr} {ml : ML} {pos : Pos} {ms : MS} {x : Str} {p : Pos}
/-! ### raise C(..) -/
noncomputable def mRaise0 (C : Addr) : MS := fun r cs => .err (.ins C [] []) r cs
noncomputable def mRaiseA (C : Addr) (ml : ML) : MS := fun r cs => (ml r cs).bind fun ds cs => if ds.length ≤ 1000 then .err (.ins C [] []) r cs else .bad
/-- what the class C of an exception must say -/
structure Xc (K : PySem.W.Frag) (C : Addr) : Prop where
  ke : PySem.W.keepIn K (.ref C) = true
  sb : PySem.W.subIn K (.ref C) (.type "BaseException") = some true
  tp : PySem.W.typeIn K (.ref C) = some (.type "type")
/-! ### own __init__: self.f = f, .. -/
inductive Ini (X : Cx) (C : Addr) : List Stmt → List (Str × Nat) → Prop where
  | nil : Ini X C [] []
  | cons {st : Stmt} {sts : List Stmt} {f : Str} {i : Nat} {L : List (Str × Nat)} : PS X st (tOst X.K f (tVar 0) (tVar i)) → PySem.W.findIn X.K (.ref C) f = some none → Ini X C sts L → Ini X C (st :: sts) ((f, i) :: L)
inductive Vls (σ : L2.St) : List (Str × Nat) → List (Str × V) → Prop where
  | nil : Vls σ [] []
  | cons {f : Str} {i : Nat} {v : V} {L : List (Str × Nat)} {l : List (Str × V)} : σ[i]? = some (some v) → Vls σ L l → Vls σ ((f, i) :: L) ((f, v) :: l)
noncomputable def tIni (K : PySem.W.Frag) (C : Addr) (L : List (Str × Nat)) : TS := fun D σ H => ∃ (a dx : Addr) (fs l : List (Str × V)), σ[0]? = some (some (.ref a)) ∧ OexC K C ∧ Vls σ L l ∧ H a = some (exo a C (some dx)) ∧ H dx = some (exd dx fs) ∧ a ≠ dx ∧ fs.length + L.length ≤ 900 ∧
  ∀ H', H' a = some (exo a C (some dx)) → H' dx = some (exd dx (l.reverse ++ fs)) → (∀ b, b ≠ a → b ≠ dx → H' b = H b) → D.nx σ H'
theorem ini_rest {C : Addr} : ∀ {sts : List Stmt} {L : List (Str × Nat)}, Ini X C sts L → PSs X sts (tIni X.K C L)
  | _, _, .nil => pssI pss_nil fun D σ H ⟨a, dx, fs, l, h1, T, h2, h3, h4, h5, h6, h⟩ => by
    cases h2
    exact h H h3 h4 fun _ _ _ => rfl
  | _, _, .cons (f := f) (i := i) (L := L) hs hf hr => pssI (pss_cons hs (ini_rest hr)) fun D σ H ⟨a, dx, fs, l, h1, T, h2, h3, h4, h5, h6, h⟩ => by
    cases h2 with
    | @cons _ _ v _ l hv hl =>
      rw [List.length_cons] at h6
      refine ⟨v, hv, .ref a, h1, a, C, rfl, T, hf, .inr ⟨dx, fs, h3, h4, by omega, ?_⟩⟩
      refine ⟨a, dx, (f, v) :: fs, l, h1, T, hl, ?_, upd_same, h5, ?_, fun H' e1 e2 e3 => h H' e1 ?_ fun b b1 b2 => ?_⟩
      · exact (upd_ne h5).trans h3
      · rw [List.length_cons]
        omega
      · rw [e2, List.reverse_cons, List.append_assoc]
        rfl
      · exact (e3 b b1 b2).trans (upd_ne b2)
noncomputable def tIni0 (K : PySem.W.Frag) (C : Addr) (L : List (Str × Nat)) : TS := fun D σ H => ∃ (a : Addr) (l : List (Str × V)), σ[0]? = some (some (.ref a)) ∧ OexC K C ∧ Vls σ L l ∧ H a = some (exo a C none) ∧ L.length ≤ 800 ∧
  ∀ dx H', H dx = none → dx ≠ a → H' a = some (exo a C (some dx)) → H' dx = some (exd dx l.reverse) → (∀ b, b ≠ a → b ≠ dx → H' b = H b) → D.nx σ H'
theorem ini_all {C : Addr} {st : Stmt} {sts : List Stmt} {L : List (Str × Nat)} (h : Ini X C (st :: sts) L) : PSs X (st :: sts) (tIni0 X.K C L) := by
  cases h with
  | @cons _ _ f i L hs hf hr =>
    refine pssI (pss_cons hs (ini_rest hr)) fun D σ H ⟨a, l, h1, T, h2, h3, h6, h⟩ => ?_
    cases h2 with
    | @cons _ _ v _ l hv hl =>
      rw [List.length_cons] at h6
      refine ⟨v, hv, .ref a, h1, a, C, rfl, T, hf, .inl ⟨h3, fun dx n ne => ?_⟩⟩
      refine ⟨a, dx, [(f, v)], l, h1, T, hl, upd_same, ?_, Ne.symm ne, ?_, fun H' e1 e2 e3 => h dx H' n ne e1 ?_ fun b b1 b2 => ?_⟩
      · exact (upd_ne ne).trans upd_same
      · simp
        omega
      · rw [e2, List.reverse_cons]
      · exact (e3 b b1 b2).trans ((upd_ne b1).trans (upd_ne b2))
/-- what such an __init__ does -/
noncomputable def iniSp (K : PySem.W.Frag) (C : Addr) (ns : List Str) : Sp := fun vs H Q E => ∃ (a : Addr) (ws : List V), vs = .ref a :: ws ∧ ws.length = ns.length ∧ OexC K C ∧ H a = some (exo a C none) ∧
  ∀ dx H', H dx = none → dx ≠ a → H' a = some (exo a C (some dx)) → H' dx = some (exd dx (ns.zip ws).reverse) → (∀ b, b ≠ a → b ≠ dx → H' b = H b) → Q .non H'
noncomputable def ixs : Nat → List Str → List (Str × Nat)
  | _, [] => []
  | i, f :: fs => (f, i) :: ixs (i + 1) fs
theorem ixs_len : ∀ (fs : List Str) (i : Nat), (ixs i fs).length = fs.length
  | [], i => rfl
  | f :: fs, i => by
    show (ixs (i + 1) fs).length + 1 = fs.length + 1
    rw [ixs_len fs]
theorem vls_of {σ : L2.St} : ∀ (fs : List Str) (ws : List V) (i : Nat), fs.length = ws.length → (∀ j v, ws[j]? = some v → σ[i + j]? = some (some v)) → Vls σ (ixs i fs) (fs.zip ws)
  | [], [], i, _, _ => .nil
  | f :: fs, w :: ws, i, h, k => .cons (k 0 w rfl) (vls_of fs ws (i + 1) (by simpa using h) fun j v e => by
      have := k (j + 1) v e
      rw [show i + 1 + j = i + (j + 1) by omega]
      exact this)
  | [], _ :: _, _, h, _ => by cases h
  | _ :: _, [], _, h, _ => by cases h
variable {P : Program} {w : World} {mg : Str → Option Value} {base : Heap} {qual : Str} {st : Stmt} {f : Addr} {fd : FuncData} {N ps : List Str} {k : Nat}
theorem ini_ok {C : Addr} {ns : List Str} (F : Fun K x qual st f fd) (S : FnScope N ps (defScope st)) (hl : ps.length = ns.length + 1) (hn : ns.length ≤ 800) (h0 : ns ≠ [])
    (hb : ∀ (cdv : Value) (A : Around) (outer : List PySem.Env) (s : Shared) (H : Hp) (E : XK), Room k (A.deeper (envOfC qual (defScope st) s.heap.objs.size f cdv)) →
      Ini (cxOf (L2.CX P w) P w K mg base N qual (defScope st) f cdv A outer s H E) C (defBody st) (ixs 1 ns)) :
    FnOk P w K mg base (L2.CX P w) (k + 1) f fd ps (iniSp K C ns) := by
  refine F.okX S (fun vs H Q E ⟨a, ws, e, l, _⟩ => ?_) (fun cdv A outer s H vs Q E hr ⟨a, ws, e, l, T, ha, h⟩ => ?_)
  · rw [e, hl, List.length_cons, l]
  · have hi := hb cdv A outer s H E hr
    generalize hbd : defBody st = bd at hi
    cases bd with
    | nil =>
      exfalso
      generalize hL : ixs 1 ns = L at hi
      cases hi
      cases ns with
      | nil => exact h0 rfl
      | cons _ _ => cases hL
    | cons s0 sts =>
      refine ⟨_, ini_all hi, a, ns.zip ws, ?_, T, vls_of ns ws 1 l.symm fun j v q => ?_, ha, by rw [ixs_len]; exact hn, h⟩
      · subst e
        rfl
      · subst e
        have hj : j < ws.length := (List.getElem?_eq_some_iff.mp q).1
        unfold L2.start
        rw [List.getElem?_append_left (by rw [List.length_map, List.length_cons]; omega), List.getElem?_map, show 1 + j = j + 1 by omega, List.getElem?_cons_succ, q]
        rfl

theorem Reps.rev {w : Wd} : ∀ {l : List D} {xs : List V}, Reps K w l xs → Reps K w l.reverse xs.reverse
  | [], xs, h => by cases (show xs = [] from h); rfl
  | d :: ds, xs, h => by
    obtain ⟨v, vs, e1, r, q⟩ := h
    subst e1
    rw [List.reverse_cons, List.reverse_cons]
    exact Reps.app K (Reps.rev q) ⟨v, [], rfl, r, rfl⟩
theorem zip_rev {α β : Type} : ∀ (l : List α) (m : List β), l.length = m.length → (l.zip m).reverse = l.reverse.zip m.reverse
  | [], [], _ => rfl
  | a :: l, b :: m, h => by
    have hl : l.length = m.length := by simpa using h
    rw [List.zip_cons_cons, List.reverse_cons, List.reverse_cons, List.reverse_cons, zip_rev l m hl, List.zip_append (by simp [hl])]
    rfl
noncomputable def mRaiseO (C : Addr) (ns : List Str) (ml : ML) : MS := fun r cs => (ml r cs).bind fun ds cs => if ds.length = ns.length then .err (.ins C ns.reverse ds.reverse) r cs else .bad
theorem js_raiseO {C fI : Addr} {ns : List Str} (hc : X.calm = true) (tk : Takes X W) (T : OexC X.K C) (iC : PySem.W.findIn X.K (.ref C) "__init__" = some (some (.ref fI))) (tI : PySem.W.typeIn X.K (.ref fI) = some (.type "function"))
    (F1 : FnOk X.prog X.w X.K X.mg X.base (L2.CX X.prog X.w) k fI fd ps (iniSp X.K C ns)) (hr : Room (k + 1) X.A) (hb : Binds X.K fd ps []) (hg : Gl X x) (hm : X.mg x = some (.ref C)) (hn : ns.length ≤ 800) (ha : JA X W (e :: es) ml)
    (hdb : (x == ("__debug__" : Str)) = false := by decide) (he : starEach (e :: es) X.env = (false, eval e X.env) :: starEach es X.env := by rfl) (hpl : (backTo pos (starEach es X.env)).any (·.1) = false := by rfl) {pos' : Pos} :
    JS X W (.Raise (some (.Call (.Name x p) (e :: es) [] pos)) none pos') (mRaiseO C ns ml) := by
  refine psI (ps_raise hc tk (pmk_oex T iC tI F1 hr hb (ds := []) (dvs := []) .nil passL hg hm ha hdb he hpl)) fun D σ H ⟨w, rr, cs, e, s, ev, a⟩ => ?_
  refine ⟨w, rr, cs, e, s, ev, (After.bind a).imp fun ds cs1 w1 l1 s1 a1 vs r1 => ?_⟩
  obtain ⟨hl, a1⟩ := if_bad a1
  have hv := Reps.length _ r1
  refine ⟨by omega, fun a0 n0 => ⟨a0, vs, by rw [List.append_nil], by omega, T, upd_same, fun dx H' n ne e1 e2 e3 => ?_⟩⟩
  have n1 : w1.H dx = none := by
    rw [← n]
    exact (upd_ne ne).symm
  refine ⟨rfl, dx, (ns.zip vs).reverse, e1, e2, n1, ?_⟩
  have eH : upd (del H' a0) dx (.xd (ns.zip vs).reverse) = (w1.new dx (.xd (ns.zip vs).reverse)).H := by
    funext b
    show upd (del H' a0) dx (.xd (ns.zip vs).reverse) b = upd w1.H dx (.xd (ns.zip vs).reverse) b
    by_cases hb : b = dx
    · rw [hb, upd_same, upd_same]
    · rw [upd_ne hb, upd_ne hb]
      by_cases hb2 : b = a0
      · rw [hb2, del_same, n0]
      · rw [del_ne hb2, e3 b hb2 hb, upd_ne hb2]
  rw [eH]
  have le := s1.le_new (o := .xd (ns.zip vs).reverse) n1
  refine a1 _ (.ref C) (some dx) le (s1.new n1) ⟨rfl, .inr ⟨dx, vs.reverse, rfl, .inr rfl, ?_, ?_, ?_⟩⟩ σ ((ev.mono l1).mono le)
  · rw [← zip_rev ns vs (by omega)]
    exact upd_same
  · rw [List.length_reverse, List.length_reverse]
    omega
  · exact Reps.mono _ le _ _ (Reps.rev r1)

/-! ### try .. except C as e -/
open Classical in
noncomputable def pickAll (f : Addr → Option Addr → R Fl) : R Fl := if ∀ a d, f a d = f 0 none then f 0 none else .bad
theorem pickAll_eq {f : Addr → Option Addr → R Fl} {v : R Fl} (h : ∀ a d, f a d = v) : pickAll f = v := by
  unfold pickAll
  rw [if_pos fun a d => (h a d).trans (h 0 none).symm, h]
theorem pickAll_at {E : EE} {w : Wd} {f : Addr → Option Addr → R Fl} {Q : Fl → List D → Wd → Prop} (h : After K E w (pickAll f) Q) (a : Addr) (d : Option Addr) : After K E w (f a d) Q := by
  unfold pickAll at h
  split at h
  · rename_i hh
    rw [hh a d]
    exact h
  · exact h.elim
noncomputable def wipeF (i : Nat) : Fl → Fl
  | .nx r => .nx (r.set i none)
  | .brk r => .brk (r.set i none)
  | .ct r => .ct (r.set i none)
  | .ret d => .ret d
noncomputable def mSuite (i : Nat) (ms : Addr → Option Addr → D → MS) (x : D) (ns : List Str) (l : List D) (r : Env) (cs : List D) (a : Addr) (d : Option Addr) : R Fl :=
  (calmR (ms a d x (r.set i (some (.exn a d ns l))) cs)).bind fun fl cs => .ok (wipeF i fl) cs
noncomputable def fldN : D → List Str
  | .ins _ ns _ => ns
  | _ => []
noncomputable def fldV : D → List D
  | .ins _ _ l => l
  | _ => []
noncomputable def mTryAs (i : Nat) (tab : D → Option Bool) (mb : MS) (ms : Addr → Option Addr → D → MS) : MS := fun r cs => match mb r cs with
  | .err x r' cs' => match tab x with
    | some true => pickAll (mSuite i ms x (fldN x) (fldV x) r' cs')
    | some false => .err x r' cs'
    | none => .bad
  | o => o
noncomputable def clsOf : D → Value → Prop
  | .ins C _ _, c => c = .ref C
  | .ty n, c => c = .type n
  | _, _ => False
noncomputable def TabOk (K : PySem.W.Frag) (c : Value) (tab : D → Option Bool) : Prop := ∀ x b cls, tab x = some b → clsOf x cls → PySem.W.exmOne K cls c = some b
theorem XRep.cls {w : Wd} {x : D} {c : Value} {od : Option Addr} (h : XRep K w x c od) : clsOf x c := by
  cases x with
  | ins C ns l => exact h.1
  | ty n => exact h.1
  | _ => exact h.elim
theorem XRep.exn {w : Wd} {x : D} {c : Value} {od : Option Addr} (h : XRep K w x c od) (a : Addr) : Rep K w (.exn a od (fldN x) (fldV x)) (.ref a) := by
  cases x with
  | ins C ns l => exact ⟨rfl, h.2⟩
  | ty n => exact ⟨rfl, .inl ⟨rfl, rfl, h.2⟩⟩
  | _ => exact h.elim

theorem js_tryAs {n : Str} {c : Value} {i : Nat} {body suite : List Stmt} {b₀ : Stmt} {np pos pos' : Pos} {tab : D → Option Bool} {mb : MS} {mh : Addr → Option Addr → D → MS}
    (hs : X.stack = X.env :: X.outer) (hf : X.env.frame = some X.env.locals) (hN : X.N.Nodup) (hi : X.N[i]? = some n) (hln : X.env.kindOf n = some .local) (hc : Names X x c) (tk : Takes X W) (ht : TabOk X.K c tab)
    (hb : ∀ (W : WX) (pn : List (Addr × Obj)) (xe : Value → Shared → Prop), Takes (X.tr pn xe) W → PassesOwn (model X.prog X.w) X.A X.env xe → JB (X.tr pn xe) W body mb)
    (hsu : ∀ (a : Addr) (oe : Obj) (cls : Value) (d : Option Addr) (pn : List (Addr × Obj)) (y : D), Zc cls d oe → (∃ vs, oe.data = .fields vs) → tab y = some true → clsOf y cls → JB (X.suite a ((a, oe) :: pn)) W0 (b₀ :: suite) (mh a d y)) :
    JS X W (.Try body [.ExceptHandler (some (.Name x np)) (some n) (b₀ :: suite) pos'] [] [] pos) (mTryAs i tab mb mh) := by
  refine psI (ps_try_as (tb := fun W => tS X.K W mb) (ts := fun a cls d D σ H => ∃ y, tab y = some true ∧ clsOf y cls ∧ tS X.K W0 (mh a d y) D σ H) hs hf hN hi hln hc tk (fun W pn xe t p => hb W pn xe t p)
    (fun a oe cls d pn z f => ⟨fun pins s σ H D I ⟨y, h1, h2, h3⟩ => (hsu a oe cls d pn y z f h1 h2).run pins s σ H D I h3⟩)) fun D σ H ⟨w, r, cs, e, s, ev, a⟩ => ?_
  refine ⟨w, r, cs, e, s, ev, ?_⟩
  unfold mTryAs at a
  cases hm : mb r cs with
  | ok fl cs' =>
    rw [hm] at a
    exact a
  | bad =>
    rw [hm] at a
    exact a
  | err y r' cs' =>
    rw [hm] at a
    dsimp only at a
    intro w' c0 od l' s' xr σ' ev'
    cases hy : tab y with
    | none =>
      rw [hy] at a
      exact a.elim
    | some b =>
      rw [hy] at a
      cases b with
      | false => exact ⟨false, ht y false c0 hy xr.cls, fun z => Bool.noConfusion z, fun _ => a w' c0 od l' s' xr σ' ev'⟩
      | true =>
        refine ⟨true, ht y true c0 hy xr.cls, fun _ a0 n0 => ?_, fun z => Bool.noConfusion z⟩
        refine ⟨y, hy, xr.cls, w', r'.set i (some (.exn a0 od (fldN y) (fldV y))), cs', rfl, s', ev'.set i (xr.exn a0), ?_⟩
        obtain ⟨fl, cs5, e5, a5⟩ := calm_ok (After.mono l' (pickAll_at a a0 od))
        rw [e5]
        intro w5 l5 s5
        have q := a5 w5 l5 s5
        cases fl with
        | nx r5 => exact fun σ5 ev5 => q _ (ev5.unset i none)
        | brk r5 => exact fun σ5 ev5 => q _ (ev5.unset i none)
        | ct r5 => exact fun σ5 ev5 => q _ (ev5.unset i none)
        | ret d => exact q

/-! ### isinstance(e, C) and e.f in an except suite -/
noncomputable def tyV : D → Option Value
  | .rf a => some (.ref a)
  | .ty n => some (.type n)
  | _ => none
theorem tyV_of {w : Wd} {t : D} {v : V} {cv : Value} (r : Rep K w t v) (h : tyV t = some cv) : ∀ u, RelV v u → u = cv := by
  cases t with
  | rf a =>
    cases (show v = .ref a from r)
    cases h
    exact fun u z => z
  | ty n =>
    cases (show v = .ty n from r)
    cases h
    exact fun u z => z
  | _ => cases h
noncomputable def isxD (a : Addr) (d : Option Addr) (tab : D → Option Bool) : OpC := fun ds cs => match ds with
  | [.exn a' d' _ _, t] => if a' = a ∧ d' = d then (match tab t with
    | some b => .ok (.bl b) cs
    | none => .bad) else .bad
  | _ => .bad
noncomputable def TabI (K : PySem.W.Frag) (cls : Value) (tab : D → Option Bool) : Prop := ∀ t b, tab t = some b → ∃ cv, tyV t = some cv ∧ PySem.W.kitOne K cls cv = some b
noncomputable def rIsX (K : PySem.W.Frag) (C a : Addr) (d : Option Addr) : List V → Hp → VK → Prop := fun xs H Q => ∃ (c : V) (cv : Value) (b : Bool), xs = [.ref a, c] ∧ (∀ u, RelV c u → u = cv) ∧ PySem.W.kitOne K (.ref C) cv = some b ∧ (d = none ∨ ∃ dd fs, d = some dd ∧ H dd = some (.xd fs)) ∧ Q (.bl b) H
theorem cs_isx {C a : Addr} {d : Option Addr} {tab : D → Option Bool} (hT : TabI K (.ref C) tab) : CallS K (rIsX K C a d) (isxD a d tab) := fun E w cs ds vs Q s rs h => by
  unfold isxD at h
  split at h
  · rename_i a' d' ns l t
    obtain ⟨v1, vs1, rfl, r1, v2, vs2, e2, r2, r3⟩ := rs
    cases (show vs2 = [] from r3)
    subst e2
    split at h
    · rename_i hh
      obtain ⟨rfl, rfl⟩ := hh
      obtain ⟨rfl, hx⟩ := r1
      cases ht : tab t with
      | none =>
        rw [ht] at h
        exact h.elim
      | some b =>
        rw [ht] at h
        obtain ⟨cv, e1, e2⟩ := hT t b ht
        refine ⟨v2, cv, b, rfl, tyV_of r2 e1, e2, ?_, h w (Le.refl w) s _ rfl⟩
        rcases hx with ⟨_, _, z⟩ | ⟨dd, xs, z, _, z2, _⟩
        · exact .inl z
        · exact .inr ⟨dd, _, z, z2⟩
    · exact h.elim
  · exact h.elim
theorem call_isX {a C : Addr} {oe : Obj} {cls : Value} {d : Option Addr} {pn : List (Addr × Obj)} (T : ExcC X.K C) (hz : Zc (.ref C) d oe) (hf : ∃ vs, oe.data = .fields vs) : CallR (X.suite a ((a, oe) :: pn)) (.builtin "isinstance") (rIsX X.K C a d) := by
  intro pins s σ H xs us Q I r h
  obtain ⟨c, cv, b, rfl, hcv, e, hd, q⟩ := h
  cases r with
  | cons rx rr =>
    cases rr with
    | @cons _ u2 _ _ rt rr =>
      cases rr
      cases rx
      have ec := hcv _ rt
      subst ec
      obtain ⟨hget, _⟩ := I.pin (a, oe) (List.mem_append.mpr (.inl List.mem_cons_self))
      obtain ⟨vs, hv⟩ := hf
      have hcl : (PySem.W.clsIn X.K C).isSome = true := by
        obtain ⟨cd, hc, _⟩ := PySem.W.any_some T.hd
        rw [hc]
        rfl
      have fin : ∀ od, PySem.W.InstAt s.heap a oe C od → wpAny (model X.prog X.w) (X.suite a ((a, oe) :: pn)).A (call (.builtin "isinstance") [.ref a, u2]) (EP (X.suite a ((a, oe) :: pn)) pins σ Q) (X.suite a ((a, oe) :: pn)).xe s := fun od J =>
        PySem.W.kia_one (PySem.W.kitx_exc hcl T.hg T.hk T.hs T.ha T.hn T.ht T.hm) I.kIn J e (fun z => nomatch z) fun tk => ⟨.bl b, H, I.kept (t' := tk) fun _ _ z => z, rfl, q⟩
      rcases hd with hd | ⟨dd, fs, hd, hH⟩
      · refine fin none ⟨hget, hz.1, ?_, ?_⟩
        · unfold PySem.W.notCls
          rw [hv] <;> rfl
        · rw [hz.2, hd]
          trivial
      · obtain ⟨mA, hns, hr⟩ := (I.hok dd _ hH : ObjOk X.prog X.w H s.heap dd (.xd fs))
        obtain ⟨od, ho, hl⟩ := lookIn_ns hns
        refine fin (some od) ⟨hget, hz.1, ?_, ?_⟩
        · unfold PySem.W.notCls
          rw [hv] <;> rfl
        · rw [hz.2, hd]
          exact ho

noncomputable def fldD (a : Addr) (d : Option Addr) (f : Str) (x : D) (cs : List D) : R D := match x with
  | .exn a' d' ns l => if a' = a ∧ d' = d then (match (ns.zip l).lookup f with
    | some y => .ok y cs
    | none => .bad) else .bad
  | _ => .bad
noncomputable def mXf (a : Addr) (d : Option Addr) (f : Str) (m : M) : M := fun r cs => (m r cs).bind (fldD a d f)
theorem Reps.look {w : Wd} {f : Str} {y : D} : ∀ {ns : List Str} {l : List D} {xs : List V}, Reps K w l xs → (ns.zip l).lookup f = some y → ∃ v, (ns.zip xs).lookup f = some v ∧ Rep K w y v
  | [], l, xs, _, h => by cases h
  | n :: ns, [], xs, _, h => by cases h
  | n :: ns, d :: l, xs, r, h => by
    obtain ⟨v, vs, e, r1, r2⟩ := r
    subst e
    rw [List.zip_cons_cons, List.lookup_cons] at h ⊢
    cases hf : f == n with
    | true =>
      rw [hf] at h
      cases h
      exact ⟨v, rfl, r1⟩
    | false =>
      rw [hf] at h
      exact Reps.look r2 h
theorem je_xf {a C : Addr} {oe : Obj} {d : Option Addr} {pn : List (Addr × Obj)} {n : Str} {m : M} (T : XfC X.K C) (hno : PySem.W.findIn X.K (.ref C) n = some none) (hz : Zc (.ref C) d oe) (hf : ∃ vs, oe.data = .fields vs)
    (he : JE (X.suite a ((a, oe) :: pn)) W e m) (hb : attributeBase e n X.env (eval e X.env) = eval e X.env := by rfl) :
    JE (X.suite a ((a, oe) :: pn)) W (.Attribute e n pos) (mXf a d n m) := by
  refine peI (pe_xf T hno hz hf he hb) fun σ H Q ⟨w, rr, cs, e, s, ev, a1⟩ => ?_
  refine ⟨w, rr, cs, e, s, ev, (After.bind a1).imp fun x cs1 w1 l1 s1 a2 v rv => ?_⟩
  unfold fldD at a2
  split at a2
  · rename_i a' d' ns l
    split at a2
    · rename_i hh
      obtain ⟨rfl, rfl⟩ := hh
      obtain ⟨rfl, hx⟩ := rv
      split at a2
      · rename_i y hy
        rcases hx with ⟨_, z, _⟩ | ⟨dd, xs, z, z1, z2, z3, z4⟩
        · subst z
          rw [List.zip_nil_right] at hy
          cases hy
        · obtain ⟨v, hv, rv⟩ := Reps.look z4 hy
          exact ⟨rfl, rfl, dd, _, v, z, z2, hv, a2 w1 (Le.refl w1) s1 v rv⟩
      · exact a2.elim
    · exact a2.elim
  · exact a2.elim
/-! ### try .. except C: -/
noncomputable def mTryOnly (tab : D → Option Bool) (mb ms : MS) : MS := fun r cs => match mb r cs with
  | .err x r' cs' => match tab x with
    | some true => calmR (ms r' cs')
    | some false => .err x r' cs'
    | none => .bad
  | o => o
end
end Wf
set_option Elab.async false
set_option linter.all false
set_option maxRecDepth 100000
set_option maxHeartbeats 1000000
/-! Readings by mirrors: all, any, sum, index, order of data, sorted, turned slices. -/
namespace Wf
open PySem PySem.Spec PyProof.Rows L2
section
variable {K : PySem.W.Frag} {E : EE} {w : Wd} {cs : List D} {Q : VK}
/-! ### all, any, sum -/
noncomputable def blsOf : List D → Option (List Bool)
  | [] => some []
  | .bl b :: l => (blsOf l).map (b :: ·)
  | _ => none
theorem blsOf_ok : ∀ {l : List D} {bs : List Bool}, blsOf l = some bs → l = bs.map D.bl
  | [], bs, h => by cases h; rfl
  | d :: l, bs, h => by
    cases d with
    | bl b =>
      unfold blsOf at h
      cases hl : blsOf l with
      | none =>
        rw [hl] at h
        cases h
      | some bs' =>
        rw [hl] at h
        cases h
        rw [blsOf_ok hl]
        rfl
    | _ => cases h
theorem Reps.bls_eq : ∀ {bs : List Bool} {xs : List V}, Reps K w (bs.map D.bl) xs → xs = bs.map V.bl
  | [], xs, h => h
  | b :: bs, xs, h => by
    obtain ⟨v, vs, e, r, q⟩ := h
    rw [e, show v = .bl b from r, Reps.bls_eq q]
    rfl
noncomputable def intsOf : List D → Option (List Int)
  | [] => some []
  | .int b :: l => (intsOf l).map (b :: ·)
  | _ => none
noncomputable def foldB (f : List Bool → Bool) : OpC := fun ds cs => match ds with
  | [d] => match lstOf cs d with
    | some l => match blsOf l with
      | some bs => .ok (.bl (f bs)) cs
      | none => .bad
    | none => .bad
  | _ => .bad
noncomputable def allD : OpC := foldB fun bs => bs.all id
noncomputable def anyD : OpC := foldB fun bs => bs.any id
theorem cs_foldB {f : List Bool → Bool} : CallS K (fun vs H Q => ∃ (a : Addr) (bs : List Bool), vs = [V.ref a] ∧ SqL K H a (bs.map V.bl) ∧ Q (.bl (f bs)) H) (foldB f) := fun E w cs ds vs Q s rs h => by
  unfold foldB at h
  split at h
  · rename_i d
    obtain ⟨v, rfl, rv⟩ := r1 rs
    cases h1 : lstOf cs d with
    | none =>
      simp only [h1] at h
      exact h.elim
    | some l =>
      simp only [h1] at h
      cases h2 : blsOf l with
      | none =>
        simp only [h2] at h
        exact h.elim
      | some bs =>
        simp only [h2] at h
        obtain ⟨a, xs, rfl, g, q⟩ := lstOf_ok s rv h1
        rw [blsOf_ok h2] at q
        exact ⟨a, bs, rfl, by rw [← Reps.bls_eq q]; exact g, aft s h rfl⟩
  · exact h.elim
theorem cs_all : CallS K (rAll K) allD := cs_foldB
noncomputable def sumD : OpC := fun ds cs => match ds with
  | [d] => match lstOf cs d with
    | some l => match intsOf l with
      | some bs => .ok (.int bs.sum) cs
      | none => .bad
    | none => .bad
  | _ => .bad
/-! ### text.index(text) -/
noncomputable def sindexD : OpM := fun x ds cs => match x, ds with
  | .str a, [.str b] => match Builtin.Str.occurrences a b 0 a.length 1 with
    | i :: _ => .ok (.int (i : Nat)) cs
    | [] => .bad
  | _, _ => .bad
/-! ### x < y of data -/
noncomputable def rLtD (K : PySem.W.Frag) : R2 := fun x y H Q => ∃ d e, Dp K H x d ∧ Dp K H y e ∧ PySem.W.alike d e = true ∧ d ≠ .none ∧ d.depth ≤ 60 ∧ Q (.bl (PySem.W.dataLt d e)) H
noncomputable def isNo : PyData → Bool
  | .none => true
  | _ => false
noncomputable def ltDD : Op2 := fun x y cs => match x, y with
  | .int i, .int j => .ok (.bl (decide (i < j))) cs
  | .str i, .str j => .ok (.bl (decide (i.cps.toList < j.cps.toList))) cs
  | x, y => match pyTop cs x, pyTop cs y with
    | some p, some q => if PySem.W.alike p q = true ∧ isNo p = false ∧ p.depth ≤ 60 then .ok (.bl (PySem.W.dataLt p q)) cs else .bad
    | _, _ => .bad
noncomputable def rLtAll (K : PySem.W.Frag) : R2 := fun x y H Q => rLtAny x y H Q ∨ rLtD K x y H Q
/-! ### sorted of data -/
noncomputable def rSortedAll (K : PySem.W.Frag) : List V → Hp → VK → Prop := fun vs H Q => ∃ (a : Addr) (L : List (V × PyData)), vs = [V.ref a] ∧ SqL K H a (L.map (·.1)) ∧ (∀ p ∈ L, Dp K H p.1 p.2) ∧ PySem.W.AllAlike (L.map (·.2)) ∧ PySem.W.Sortable (L.map (·.2)) ∧
  (∀ p ∈ L, p.2.depth ≤ 60) ∧ ∀ p : Addr, H p = none → Q (.ref p) (upd H p (.lst ((L.mergeSort (PySem.W.dataLe false (·.2))).map (·.1))))
noncomputable def encD (d : D) : PyData := (pyOf d).getD .none
noncomputable def sortOk (l : List D) : Bool := l.all (fun d => (pyOf d).isSome && decide ((encD d).depth ≤ 60) && l.all fun e => PySem.W.alike (encD d) (encD e)) &&
  (l.all (fun d => match encD d with
    | .tuple (_ :: _) => true
    | _ => false) || l.all (fun d => match encD d with
    | .tuple _ => false
    | .none => false
    | _ => true))
noncomputable def sortD (l : List D) : List D := l.mergeSort (PySem.W.dataLe false encD)
noncomputable def sortedD : OpC := fun ds cs => match ds with
  | [d] => match lstOf cs d with
    | some l => if sortOk l = true then .ok (.lst (sortD l)) cs else .bad
    | none => .bad
  | _ => .bad
theorem Reps.map {α : Type} {f : α → D} {g : α → V} : ∀ {l : List α}, (∀ a ∈ l, Rep K w (f a) (g a)) → Reps K w (l.map f) (l.map g)
  | [], _ => rfl
  | a :: l, h => ⟨_, _, rfl, h a List.mem_cons_self, Reps.map fun b hb => h b (List.mem_cons_of_mem _ hb)⟩
end
end Wf
set_option Elab.async false
set_option linter.all false
set_option maxRecDepth 100000
set_option maxHeartbeats 1000000
/-! Readings by mirrors: turned slices, a pair that settles, how many signs a text has. -/
namespace Wf
open PySem PySem.Spec PyProof.Rows L2
/-! ### x[::-1] -/
noncomputable def revS (z : Str) : Str := ⟨z.cps.toList.reverse.toArray⟩
theorem revS_eq (z : Str) (u : Tok) : Txt.sliceBy z none none (-1, u) = revS z := by
  have h : (Txt.sliceBy z none none (-1, u)).cps.toList = z.cps.toList.reverse := by
    rw [PyProof.Rows.step_rev_list]
    refine List.ext_getElem? fun i => ?_
    rw [List.getElem?_map]
    have hz : z.length = z.cps.size := rfl
    by_cases hi : i < z.length
    · rw [List.getElem?_range hi, List.getElem?_reverse (by rw [Array.length_toList]; omega)]
      rw [Array.length_toList, Option.map_some, Array.getElem?_toList, ← hz]
      have hj : z.length - 1 - i < z.cps.size := by omega
      rw [Array.getElem?_eq_getElem hj]
      simp [Array.getD, hj]
    · rw [List.getElem?_eq_none (by rw [List.length_range]; omega), List.getElem?_eq_none (by rw [List.length_reverse, Array.length_toList]; omega)]
      rfl
  cases hs : Txt.sliceBy z none none (-1, u) with
  | mk c =>
    rw [hs] at h
    unfold revS
    congr 1
    rw [← h]
noncomputable def tRevA (K : PySem.W.Frag) (te : TE) : TE := fun σ H Q => te σ H fun x H1 =>
  (∃ a xs, x = .ref a ∧ SqL K H1 a xs ∧ ∀ p, H1 p = none → Q (.ref p) (upd H1 p (.lst xs.reverse))) ∨ (∃ z, x = .str z ∧ z.length ≤ sizeLine ∧ Q (.str (revS z)) H1)
section
variable {X : Cx} {W : WX}
theorem pe_revA {o : Expr} {te : TE} {n : Nat} {q1 q2 q3 ps : Pos} (ho : PE X o te) :
    PE X (.Subscript o (.Slice none none (some (.UnaryOp .USub (.Constant (.int 1) n q1) q2)) q3) ps) (tRevA X.K te) := by
  have mi : PO X (some (.UnaryOp .USub (.Constant (.int 1) n q1) q2))
      (tPart (tUn (rU fun i => .int (-i)) (tC (.int 1)))) := po_some (pe_un un_neg pe_int)
  refine ⟨fun pins s0 σ H0 Q I0 h0 => Subscript_
    (thn (ho.run pins s0 σ H0 _ I0 h0) fun v s1 ⟨x, H1, I1, rx, hx⟩ => ?_)⟩
  refine wpAny_Slice (thn
    (po_none.run pins s1 σ H1 (fun o H => o = none ∧ H = H1) I1 ⟨rfl, rfl⟩) fun va s2 ⟨l1, H2, I2, pa, ea, ga⟩ => ?_)
  subst ea ga
  refine thn
    (po_none.run pins s2 σ H2 (fun o H => o = none ∧ H = H2) I2 ⟨rfl, rfl⟩) fun vb s3 ⟨l2, H3, I3, pb, eb, gb⟩ => ?_
  subst eb gb
  refine thn
    (mi.run pins s3 σ H3 (fun o H => o = some (-1) ∧ H = H3) I3 ⟨1, rfl, -1, rfl, rfl, rfl⟩) fun vc s4 ⟨l3, H4, I4, pc, ec, gc⟩ => ?_
  subst ec gc
  have I5 : Inv X pins σ H4
      { s4 with heap := s4.heap.push { cls := .type "slice", data := .fields #[va, vb, vc] } } :=
    I4.kept (t' := s4.toks) fun _ _ z => Heap.get?_push_of_some _ z
  show wpAny (model X.prog X.w) X.A
    (subscriptTail o (.Slice none none (some (.UnaryOp .USub (.Constant (.int 1) n q1) q2)) q3) v (.ref s4.heap.objs.size))
    (EP X pins σ Q) X.xe { s4 with heap := s4.heap.push { cls := .type "slice", data := .fields #[va, vb, vc] } }
  rcases hx with ⟨a, xs, ex, hs, q⟩ | ⟨z, ex, hz, q⟩
  · subst ex
    cases rx
    obtain ⟨its, rv, ht, hl⟩ := I5.list hs
    have hlen := rv.length
    refine tail_any (ops := [.ref a, .ref s4.heap.objs.size]) ht.isList.typeIs
      (PySem.slot_list_getitem.lookup) ?_ (by with_unfolding_all rfl)
    refine wpAny_getItem_list_slice ht.isList
      (Heap.IsSliceOf.new _ va vb vc) pa pb pc (by decide) ?_ (by rw [List.size_toArray]; omega)
    rw [PySem.W.krv_pick]
    exact ⟨.ref _, _, I5.laid (t' := s4.toks) (o := .lst xs.reverse) (fun _ _ z => Heap.get?_push_of_some _ z) (Nat.le_refl _)
      ⟨by rw [List.length_reverse]; exact hl, _, 0, rv.reverse, Heap.get?_push_size _ rfl⟩, rfl,
      q _ (I5.hok.fresh (Nat.le_refl _))⟩
  · subst ex
    obtain ⟨t, rfl⟩ := rx
    obtain ⟨la, rfl, e1⟩ := IsPart.raw pa
    obtain ⟨lb, rfl, e2⟩ := IsPart.raw pb
    obtain ⟨lc, rfl, e3⟩ := IsPart.raw pc
    cases la with
    | some _ => cases e1
    | none =>
    cases lb with
    | some _ => cases e2
    | none =>
    cases lc with
    | none => cases e3
    | some cc =>
    obtain ⟨k, u⟩ := cc
    cases e3
    refine tail_any (ops := [.ref s4.heap.objs.size, .str z t]) (typeIs_str _ _ _) F.slot_str_getitem.lookup ?_ (by with_unfolding_all rfl)
    refine wpAny_getItem_str_slice (l := none) (u := none) (st := some (-1, u)) ⟨_, Heap.get?_push_size _ rfl, rfl, rfl⟩ rfl ?_
    refine post_val_or_str ⟨?_, fun t' c => ?_⟩
    · exact Nat.le_trans (Txt.sliceBy_le z none none (-1, u) (fun e => by cases e)) hz
    · have e : (if ((((some ((-1 : Int), u)).map (·.1)).getD 1 == 1 && (slicePicked z none none (some (-1, u))).length == z.length) = true) then z
          else ⟨((slicePicked z none none (some (-1, u))).filterMap (z.cps[·]?)).toArray⟩) = revS z := revS_eq z u
      rw [e]
      exact ⟨.str (revS z), H4, I5.tok _, ⟨_, rfl⟩, q⟩
noncomputable def mRev (m : M) : M := fun r cs => (m r cs).bind fun d cs => match d with
  | .str z => if z.length ≤ sizeLine then .ok (.str (revS z)) cs else .bad
  | d => match lstOf cs d with
    | some l => .ok (.lst l.reverse) cs
    | none => .bad
theorem je_rev {e : Expr} {m : M} {n : Nat} {q1 q2 q3 ps : Pos} (h : JE X W e m) : JE X W (.Subscript e (.Slice none none (some (.UnaryOp .USub (.Constant (.int 1) n q1) q2)) q3) ps) (mRev m) := peI (pe_revA h) fun σ H Q ⟨w, rr, cs, e, s, ev, a⟩ => by
  refine ⟨w, rr, cs, e, s, ev, (After.bind a).imp fun d cs1 w1 l1 s1 a1 v rv => ?_⟩
  split at a1
  · rename_i z
    obtain ⟨hz, a1⟩ := if_bad a1
    exact .inr ⟨z, rv, hz, aft s1 a1 rfl⟩
  · split at a1
    · rename_i l hl
      obtain ⟨p, xs, rfl, g, q⟩ := lstOf_ok s1 rv hl
      exact .inl ⟨p, xs, rfl, g, fun p' np => aftL s1 a1 np (Reps.rev q)⟩
    · exact a1.elim
end
/-! ### a pair behind a word settles -/
noncomputable def mFrzT (m : M) : M := fun r cs => (m r cs).bind fun d cs' => match d with
  | .tup [x, .ref i] => if cs.length ≤ i ∧ i + 1 = cs'.length ∧ nr x = true then match cs'[i]? with
      | some (.lst l) => .ok (.tup [x, .lst l]) (cs'.take i)
      | _ => .bad
    else .bad
  | d => .ok d cs'
end Wf
set_option Elab.async false
set_option linter.all false
set_option maxRecDepth 100000
set_option maxHeartbeats 3200000
/-! len(set(text)). -/
namespace Wf
open PySem PySem.Spec PyProof.Rows
noncomputable def sgn (c : Nat) : Str := ⟨#[c]⟩
noncomputable def addC (l : List Nat) (c : Nat) : List Nat := if c ∈ l then l else l ++ [c]
/-- the signs of a text, each once -/
noncomputable def metC (l : List Nat) : List Nat := l.foldl addC []
noncomputable def inC (l : List Nat) (k : Str) : Bool := l.any fun c => decide (k = sgn c)
theorem metC_snoc (l : List Nat) (c : Nat) : metC (l ++ [c]) = addC (metC l) c := by
  unfold metC
  rw [List.foldl_append]
  rfl
theorem sgn_inj {c d : Nat} (h : sgn c = sgn d) : c = d := by
  have h2 : [c] = [d] := congrArg (fun y : Str => y.cps.toList) h
  exact (List.cons.inj h2).1
theorem addC_len (l : List Nat) (c : Nat) : (addC l c).length ≤ l.length + 1 := by
  unfold addC
  split
  · omega
  · simp
theorem metC_len (l : List Nat) : (metC l).length ≤ l.length := by
  suffices h : ∀ (m a : List Nat), (m.foldl addC a).length ≤ a.length + m.length by
    have := h l []
    simpa [metC] using this
  intro m
  induction m with
  | nil => intro a; simp
  | cons c m ih =>
    intro a
    have h1 := ih (addC a c)
    have h2 := addC_len a c
    simp only [List.foldl_cons, List.length_cons]
    omega
theorem inC_sgn (l : List Nat) (c : Nat) : inC l (sgn c) = decide (c ∈ l) := by
  rw [Bool.eq_iff_iff, decide_eq_true_eq]
  unfold inC
  rw [List.any_eq_true]
  constructor
  · rintro ⟨d, hd, e⟩
    rw [sgn_inj (of_decide_eq_true e)]
    exact hd
  · intro h
    exact ⟨c, h, decide_eq_true rfl⟩
theorem inC_add (l : List Nat) (c : Nat) (k : Str) : (inC l k || decide (k = sgn c)) = inC (addC l c) k := by
  unfold addC
  split
  · rename_i h
    by_cases e : k = sgn c
    · rw [e, inC_sgn, decide_eq_true h]
      rfl
    · rw [decide_eq_false e, Bool.or_false]
  · unfold inC
    rw [List.any_append]
    simp
theorem len_add (l : List Nat) (c : Nat) : (if inC l (sgn c) = true then l.length else l.length + 1) = (addC l c).length := by
  rw [inC_sgn]
  unfold addC
  by_cases h : c ∈ l
  · rw [if_pos h, if_pos (decide_eq_true h)]
  · rw [if_neg h, if_neg (by simpa using h)]
    simp
section
variable {P : Program} {w : World} {A : Around} {R : Result → Shared → Prop} {I S : Addr} {fp wr : List Addr} {n : Nat} {x : Str} {St : Nat → Heap → Prop}
theorem set_loop (W : Walks P w A.in1 I fp wr n (SignAt x) St) (hn : n = x.cps.toList.length) (hS : S ∉ fp) (hb : n + 1 < scanBound) : ∀ (m i : Nat) (s : Shared), n - i = m → i ≤ n → St i s.heap →
    s.heap.SetOf (strKind P w) S (inC (metC (x.cps.toList.take i))) (metC (x.cps.toList.take i)).length →
    (∀ h' tk, (∀ b o, b ∉ S :: wr → s.heap.get? b = some o → h'.get? b = some o) →
      h'.SetOf (strKind P w) S (inC (metC x.cps.toList)) (metC x.cps.toList).length → R (.ok (.ret .none)) { s with heap := h', toks := tk }) →
    codeAny (model P w) A (.builtin "set.update.loop" ⟨[.ref S, .ref I], []⟩) R s
  | 0, i, s, hm, hi, hst, hs, hR => by
    have e : i = n := by omega
    subst e
    rw [List.take_of_length_le (by omega)] at hs
    refine codeAny_builtin
      F.entry_set_update_loop ?_
    rw [Around.under_plainId
      F.plain_set_update_loop _]
    show wpAny _ A.in1
      (pyNext (.ref I) >>= _) _ _ s
    refine wpAny_bind (W.done s _ _ hst fun h' tk k => ?_)
    show wpAny _ A.in1 (ret Value.none)
      _ _ _
    refine wpAny_pure (hR h' tk (fun b o hb' => k b o fun z => hb' (List.mem_cons_of_mem _ z)) ?_)
    obtain ⟨o, es, ep, t, ho, rest⟩ := hs
    exact ⟨o, es, ep, t, k S o (fun z => hS (W.sub S z)) ho, rest⟩
  | m + 1, i, s, hm, hi, hst, hs, hR => by
    have hlt : i < n := by omega
    refine codeAny_builtin
      F.entry_set_update_loop ?_
    rw [Around.under_plainId
      F.plain_set_update_loop _]
    show wpAny _ A.in1
      (pyNext (.ref I) >>= _) _ _ s
    refine wpAny_bind (W.item i s _ _ hlt hst fun v h' tk hP hst' k => ?_)
    obtain ⟨c, u, hc, rfl⟩ := hP
    have hc' : x.cps.toList[i]? = some c := by
      rw [Array.getElem?_toList]
      exact hc
    have hs' : h'.SetOf (strKind P w) S (inC (metC (x.cps.toList.take i))) (metC (x.cps.toList.take i)).length := by
      obtain ⟨o, es, ep, t, ho, rest⟩ := hs
      exact ⟨o, es, ep, t, k S o (fun z => hS (W.sub S z)) ho, rest⟩
    show wpAny _ A.in1 (holding [Value.str (sgn c) u]
      (setAdd S (.str (sgn c) u)) >>= _) _ _ _
    refine wpAny_bind (wpAny_holding ?_)
    unfold setAdd
    refine wpAny_holding ?_
    have hk : (strKind P w).is (sgn c) (.str (sgn c) u) = true := by
      show Value.isStrOf (sgn c) (.str (sgn c) u) = true
      simp [Value.isStrOf]
    refine wpAny_bind ((strKind P w).pyHash hk ?_)
    have hl := metC_len (x.cps.toList.take i)
    rw [List.length_take] at hl
    refine wpAny_setAddHashed_of (knd := strKind P w) (k := sgn c) (s := { s with heap := h', toks := tk + 1 }) hk rfl hs' (by omega) fun h2 sb hs2 => ?_
    have e1 : x.cps.toList.take (i + 1) = x.cps.toList.take i ++ [c] := by
      rw [List.take_add_one, hc']
      rfl
    have hs3 : h2.SetOf (strKind P w) S (inC (metC (x.cps.toList.take (i + 1)))) (metC (x.cps.toList.take (i + 1))).length := by
      rw [e1, metC_snoc]
      exact PyProof.Rows.SetOf_congr hs2 (fun k' => inC_add _ c k') (len_add _ c)
    refine wpAny_pure ⟨plainId_quiet
      F.plain_set_update_loop _, set_loop W hn hS hb m (i + 1) _ (by omega) hlt (W.frame _ _ _ hst' fun b hb' o e => ?_) hs3 fun h3 tk3 k3 hs4 => ?_⟩
    · rw [sb.2 b (fun z : b = S => hS (z ▸ hb'))]
      exact e
    · refine hR h3 tk3 (fun b o hb' e => k3 b o hb' ?_) hs4
      have hbS : b ≠ S := fun z => hb' (z ▸ List.mem_cons_self)
      show h2.get? b = some o
      rw [sb.2 b hbS]
      exact k b o (fun z => hb' (List.mem_cons_of_mem _ z)) e
end
section
variable {P : Program} {w : World} {A : Around} {E : Value → Shared → Prop} {s : Shared}
theorem call_set_text {x : Str} {t : Tok} {Q : Value → Shared → Prop} (hh : A.handled = none) (hb : x.cps.toList.length + 1 < scanBound)
    (h : ∀ (h' : Heap) (tk : Nat), h'.SetOf (strKind P w) s.heap.objs.size (inC (metC x.cps.toList)) (metC x.cps.toList).length →
      (∀ b o, b < s.heap.objs.size → s.heap.get? b = some o → h'.get? b = some o) → Q (.ref s.heap.objs.size) { s with heap := h', toks := tk }) :
    wpAny (model P w) A (call (.type "set") [.str x t]) Q E s := by
  have ⟨c0, tl0, hmro⟩ := F.called_set.mro
  have hmade := F.called_set.made
  have hsub := F.called_set.sub
  refine wpAny_call (codeAny_of_tree ?_)
  show wpAny _ _ (callAny (.type "set") _)
    _ _ _
  refine wpAny_pure ⟨Code.quiet_builtin _ (by decide +kernel),
    codeAny_builtin F.entry_type_call ?_⟩
  rw [Around.under_plain
    (weight_type_call_type "set" [.str x t] []) rfl]
  have g1 := F.called_set.notType
  have g2 := F.called_set.canCreate
  have g3 := F.typeCall_set_1 (.str x t)
  repeat (any_goals (first
    | assumption
    | wp_step))
  refine codeAny_mono (code_set_new_1 (.str x t) (E := E)
    (Q₁ := fun ob z => ∃ led : Bool, ob = .ref s.heap.objs.size ∧
      z = { s with heap := s.heap.push { cls := .type "set", dict := none, data := .set #[] 0 (.fresh 0 0 led) } })
    fun led => ⟨led, rfl, rfl⟩) fun r z hr => ?_
  cases r with
  | error e => exact hr
  | ok fl =>
    cases fl with
    | ret ob =>
      obtain ⟨led, rfl, rfl⟩ := hr
      have hS : (s.heap.push ({ cls := .type "set", dict := none, data := .set #[] 0 (.fresh 0 0 led) } : Obj)).get? s.heap.objs.size
          = some ({ cls := .type "set", dict := none, data := .set #[] 0 (.fresh 0 0 led) } : Obj) :=
        Heap.get?_push_size _ rfl
      have hT : Shared.TypeIs { s with heap := s.heap.push ({ cls := .type "set", dict := none, data := .set #[] 0 (.fresh 0 0 led) } : Obj) } (.ref s.heap.objs.size) "set" := ⟨_, hS, rfl⟩
      have g4 := F.called_set.init.lookup
      have g5 := F.called_set.init.bind (.ref s.heap.objs.size)
      repeat (any_goals (first
        | assumption
        | wp_step))
      refine codeAny_mono (codeAny_call_builtin (R := wants (fun r z => r = .none ∧ ∃ h' tk, z = { s with heap := h', toks := tk } ∧
          h'.SetOf (strKind P w) s.heap.objs.size (inC (metC x.cps.toList)) (metC x.cps.toList).length ∧
          (∀ b o, b < s.heap.objs.size → s.heap.get? b = some o → h'.get? b = some o)) E)
        F.called_set.init.plain F.entry_set_init
        (check_set_init_1 hT ?_)) fun r z hr => ?_
      · have g6 := F.sub_str_set
        have g7 := F.sub_str_frozenset
        unfold Builtin.«set.__init__»
          noKeywords
          Builtin.Frozenset.updateFrom
        generalize hPI : pyIter = PI
        wp_walk
        subst hPI
        refine wpAny_pyIter_str fun o St hW hst => ?_
        refine wpAny_bind (wpAny_runValue ?_)
        have hz : (s.heap.push ({ cls := .type "set", dict := none, data := .set #[] 0 (.fresh 0 0 led) } : Obj)).objs.size = s.heap.objs.size + 1 := Heap.size_push ..
        have hne : s.heap.objs.size ∉ [(s.heap.push ({ cls := .type "set", dict := none, data := .set #[] 0 (.fresh 0 0 led) } : Obj)).objs.size] := by
          rw [hz]
          simp
        refine set_loop (hW _ (by simp [hh])) (Array.length_toList ..).symm hne (by rw [← Array.length_toList]; exact hb) x.cps.size 0 _ (Nat.sub_zero _) (Nat.zero_le _) hst ?_ fun h' tk k hs => ?_
        · have hget : ((s.heap.push ({ cls := .type "set", dict := none, data := .set #[] 0 (.fresh 0 0 led) } : Obj)).push o).get? s.heap.objs.size
              = some ({ cls := .type "set", dict := none, data := .set #[] 0 (.fresh 0 0 led) } : Obj) := Heap.get?_push_of_some _ hS
          exact PyProof.Rows.SetOf_congr ((PyProof.Rows.setObjOf_fresh (knd := strKind P w) led).setOf hget (by unfold scanBound; omega)) (fun _ => rfl) rfl
        · show wpAny _ _ _ _ _ _
          refine wpAny_pure ?_
          show wpAny _ _ (ret Value.none) _ _ _
          refine wpAny_pure ⟨rfl, h', tk, rfl, hs, fun b o' hb' e => k b o' ?_ (Heap.get?_push_of_some _ (Heap.get?_push_of_some _ e))⟩
          rw [hz]
          have hb2 : b < s.heap.objs.size := hb'
          intro z
          rcases List.mem_cons.mp z with z | z
          · exact Nat.ne_of_lt hb2 z
          · exact Nat.ne_of_lt (Nat.lt_succ_of_lt hb2) (List.mem_singleton.mp z)
      · cases r with
        | error e => exact hr
        | ok fl2 =>
          cases fl2 with
          | ret r =>
            obtain ⟨rfl, h', tk, rfl, hs, hk⟩ := hr
            repeat (any_goals (first
              | assumption
              | wp_step))
            exact h _ _ hs hk
          | _ => exact hr.elim
    | _ => exact hr.elim
end
open L2
noncomputable def tLenSetS (ta : TE) : TE := fun σ H Q => ta σ H fun x H1 => ∃ z : Str, x = .str z ∧ z.cps.toList.length ≤ 1000 ∧ Q (.int ((metC z.cps.toList).length : Nat)) H1
section
variable {X : Cx} {W : WX}
theorem pe_lenSetS {a : Expr} {ta : TE} {p p2 q pos : Pos} (hc : X.calm = true) (gl : Gl X "len") (ml : X.mg "len" = none) (gs : Gl X "set") (ms : X.mg "set" = none) (ha : PE X a ta)
    (na : starEach [a] X.env = (false, eval a X.env) :: starEach [] X.env := by rfl) : PE X (.Call (.Name "len" p) [.Call (.Name "set" p2) [a] [] q] [] pos) (tLenSetS ta) := by
  refine ⟨fun pins s σ H Q I h => Call_ (ld_blt I gl ml boot_len ?_)⟩
  refine PyProof.Rows.callWith_builtin1
    (PyProof.Rows.args_cons ?_ rfl) rfl rfl
  refine Call_ (ld_blt I gs ms boot_set ?_)
  refine PyProof.Rows.callWith_type1 (PyProof.Rows.args_cons
    (thn (ha.run pins s σ H _ I h) fun v s1 ⟨x, H1, I1, rx, hx⟩ => PyProof.Rows.args_nil ?_) na) na rfl
  obtain ⟨z, rfl, hz, hq⟩ := hx
  obtain ⟨t, rfl⟩ := rx
  refine call_set_text (I1.ok.hd hc) (by unfold scanBound; omega) fun h' tk hs hk => PyProof.Rows.args_nil ?_
  obtain ⟨o, es, ep, tb, ho, hex, hd, _, _, _, hf, hn⟩ := hs
  have hl := metC_len z.cps.toList
  have I2 : Inv X pins σ H1 { s1 with heap := h', toks := tk } := I1.kept fun b o e => hk b o (Heap.lt_size e) e
  exact call_len_set ho hex hd hf (by rw [hn]; omega) ⟨.int (metC z.cps.toList).length, H1, I2.tok _, ⟨_, by rw [hn]⟩, hq⟩
noncomputable def mLenSet (m : M) : M := fun r cs => (m r cs).bind fun d cs => match d with
  | .str z => if z.length ≤ 1000 then .ok (.int ((metC z.cps.toList).length : Nat)) cs else .bad
  | _ => .bad
theorem je_lenSet {a : Expr} {m : M} {p p2 q pos : Pos} (hc : X.calm = true) (gl : Gl X "len") (ml : X.mg "len" = none) (gs : Gl X "set") (ms : X.mg "set" = none) (ha : JE X W a m)
    (na : starEach [a] X.env = (false, eval a X.env) :: starEach [] X.env := by rfl) : JE X W (.Call (.Name "len" p) [.Call (.Name "set" p2) [a] [] q] [] pos) (mLenSet m) := peI (pe_lenSetS hc gl ml gs ms ha na) fun σ H Q ⟨w, rr, cs, e, s, ev, a⟩ => by
  refine ⟨w, rr, cs, e, s, ev, (After.bind a).imp fun d cs1 w1 l1 s1 a1 v rv => ?_⟩
  split at a1
  · rename_i z
    obtain ⟨hz, a1⟩ := if_bad a1
    exact ⟨z, rv, by rw [Array.length_toList]; exact hz, aft s1 a1 rfl⟩
  · exact a1.elim
end
end Wf
set_option Elab.async false
set_option linter.all false
set_option maxRecDepth 100000
set_option maxHeartbeats 1000000
/-! Classes of exceptions: what the written part says of them, in one. -/
namespace Wf
open PySem PySem.Spec PyProof.Rows L2
abbrev mroV (C : Addr) (l : List Addr) : List Value := .ref C :: (l.map Value.ref ++ [.type "ValueError", .type "Exception", .type "BaseException", .type "object"])
/-- C is a class of exceptions whose own bases are l -/
structure Xk (K : PySem.W.Frag) (C : Addr) (l : List Addr) : Prop where
  lk : ∃ nm q N bs bm sn sub ab col dd k0 k1 k2 k3 k5, K.lookup C = some (excClassObj nm q C N bs bm true sn sub ab col dd k0 k1 k2 k3 k5 "ValueError.__new__") ∧ Value.ref C :: bm = mroV C l
  ke : PySem.W.keepIn K (.ref C) = true
  ga : PySem.W.findIn K (.ref C) "__getattribute__" = some (some (.builtin "BaseException.__getattribute__"))
  gg : PySem.W.findIn K (.ref C) "__getattr__" = some none
  gc : PySem.W.findIn K (.ref C) "__class__" = some (some (.builtin "object.__class__"))
  sa : PySem.W.findIn K (.ref C) "__setattr__" = some (some (.builtin "object.__setattr__"))
  sg : PySem.W.specialIn K (.builtin "object.__class__") "__get__" = some (some (.builtin "getset_descriptor.__get__"))
  tk : PySem.W.takesIn K (.builtin "object.__class__") = some true
section
variable {K : PySem.W.Frag} {C B : Addr} {l m : List Addr}
theorem Xk.cls (h : Xk K C l) : ∃ cd : ClassData, PySem.W.clsIn K C = some cd ∧ cd.mro = mroV C l ∧ cd.hasDict = true := by
  obtain ⟨nm, q, N, bs, bm, sn, sub, ab, col, dd, k0, k1, k2, k3, k5, e, em⟩ := h.lk
  unfold PySem.W.clsIn
  rw [e]
  exact ⟨_, rfl, em, rfl⟩
theorem Xk.mro (h : Xk K C l) (v : Value) : PySem.W.mroIn K C v = some ((mroV C l).contains v) := by
  obtain ⟨cd, e, em, _⟩ := h.cls
  unfold PySem.W.mroIn
  rw [e]
  show (if cd.mro.isEmpty then none else some (cd.mro.contains v)) = _
  rw [em]
  rfl
theorem Xk.sub (h : Xk K C l) (v : Value) : PySem.W.subIn K (.ref C) v = some ((mroV C l).contains v) := h.mro v
theorem has_ty (C : Addr) (l : List Addr) (T : String) : (mroV C l).contains (.type T) = ([.type "ValueError", .type "Exception", .type "BaseException", .type "object"] : List Value).contains (.type T) := by
  show ((Value.type T == Value.ref C) || _) = _
  rw [show (Value.type T == Value.ref C) = false from rfl, Bool.false_or]
  show (l.map Value.ref ++ _).contains (Value.type T) = _
  induction l with
  | nil => rfl
  | cons a l ih =>
    show ((Value.type T == Value.ref a) || _) = _
    rw [show (Value.type T == Value.ref a) = false from rfl, Bool.false_or]
    exact ih
theorem has_ref (C : Addr) (l : List Addr) (B : Addr) : (mroV C l).contains (.ref B) = (C :: l).contains B := by
  have h : ∀ a b : Addr, (Value.ref a == Value.ref b) = (a == b) := fun a b => by
    by_cases e : a = b
    · subst e
      rw [beq_self_eq_true, beq_self_eq_true]
    · rw [beq_eq_false_iff_ne.mpr e, beq_eq_false_iff_ne.mpr fun z => e (Value.ref.inj z)]
  show ((Value.ref B == Value.ref C) || (l.map Value.ref ++ _).contains (Value.ref B)) = ((B == C) || l.contains B)
  rw [h]
  congr 1
  induction l with
  | nil => rfl
  | cons a l ih =>
    show ((Value.ref B == Value.ref a) || _) = ((B == a) || _)
    rw [h]
    congr 1
theorem Xk.sub_ref (h : Xk K C l) (B : Addr) : PySem.W.subIn K (.ref C) (.ref B) = some ((C :: l).contains B) := by
  rw [h.sub, has_ref]
theorem Xk.ty (h : Xk K C l) : PySem.W.typeIn K (.ref C) = some (.type "type") := by
  obtain ⟨nm, q, N, bs, bm, sn, sub, ab, col, dd, k0, k1, k2, k3, k5, e, em⟩ := h.lk
  show (K.lookup C).map (·.cls) = _
  rw [e]
  rfl
theorem Xk.dict (h : Xk K C l) : PySem.W.hasDictIn K C = true := by
  obtain ⟨cd, e, _, hd⟩ := h.cls
  unfold PySem.W.hasDictIn
  rw [e]
  exact hd
theorem Xk.base (h : Xk K C l) : PySem.W.subIn K (.ref C) (.type "BaseException") = some true := by
  rw [h.sub, has_ty]
  rfl
theorem Xk.xc (h : Xk K C l) : Xc K C := ⟨h.ke, h.base, h.ty⟩
theorem Xk.xf (h : Xk K C l) : XfC K C := ⟨h.ga, h.gg, h.base, h.dict⟩
theorem Xk.ec (h : Xk K C l) : ExcC K C := ⟨h.ga, h.gg, h.base, h.dict, h.gc, h.sg, h.tk, by rw [h.mro, has_ty]; rfl⟩
theorem refs_of (l : List Addr) : PySem.HandSPX.refsVE (l.map Value.ref ++ [.type "ValueError", .type "Exception", .type "BaseException", .type "object"]) = true := by
  induction l with
  | nil => rfl
  | cons a l ih => exact ih
theorem Xk.oc (h : Xk K C l) : OexC K C := by
  refine ⟨?_, h.sa, h.base, h.ty, h.ke⟩
  obtain ⟨nm, q, N, bs, bm, sn, sub, ab, col, dd, k0, k1, k2, k3, k5, e, em⟩ := h.lk
  refine ⟨nm, q, N, bs, bm, sn, sub, ab, col, dd, k0, k1, k2, k3, k5, e, ?_⟩
  rw [(List.cons.inj em).2]
  exact refs_of l
/-- except D, where an exception of the class C flies -/
theorem Xk.exm (h : Xk K C l) (d : Xk K B m) : PySem.W.exmOne K (.ref C) (.ref B) = some ((C :: l).contains B) := by
  unfold PySem.W.exmOne
  rw [d.base]
  obtain ⟨cd, e, _, _⟩ := d.cls
  show (if ((PySem.W.clsIn K B).isSome && PySem.W.typeIn K (.ref B) == some (.type "type")) = true then PySem.W.subIn K (.ref C) (.ref B) else none) = _
  rw [e, d.ty]
  exact h.sub_ref B
theorem Xk.kit (h : Xk K C l) (d : Xk K B m) : PySem.W.kitOne K (.ref C) (.ref B) = some ((C :: l).contains B) := by
  unfold PySem.W.kitOne
  split
  · rename_i e
    have e2 : C = B := Value.ref.inj (eq_of_beq e)
    subst e2
    rw [List.contains_cons, beq_self_eq_true, Bool.true_or]
  · obtain ⟨cd, e, _, _⟩ := d.cls
    show (if ((PySem.W.clsIn K B).isSome && PySem.W.typeIn K (.ref B) == some (.type "type")) = true then PySem.W.subIn K (.ref C) (.ref B) else none) = _
    rw [e, d.ty]
    exact h.sub_ref B
theorem Xk.kitT (h : Xk K C l) {T : String} (d : PySem.W.kitMeta T = true) : PySem.W.kitOne K (.ref C) (.type T) = some (([.type "ValueError", .type "Exception", .type "BaseException", .type "object"] : List Value).contains (.type T)) := by
  unfold PySem.W.kitOne
  rw [show (Value.ref C == Value.type T) = false from rfl, if_neg (by decide)]
  show (if PySem.W.kitMeta T = true then PySem.W.subIn K (.ref C) (.type T) else none) = _
  rw [if_pos d, h.sub, has_ty]
/-! ### the program's classes: a table of (class, its own bases) -/
abbrev XT := List (Addr × List Addr)
noncomputable def XT.at (t : XT) (C : Addr) : Option (List Addr) := t.lookup C
noncomputable def XT.Ok (K : PySem.W.Frag) (t : XT) : Prop := ∀ p ∈ t, Xk K p.1 p.2
theorem look_mem {t : XT} : ∀ {C : Addr} {l : List Addr}, t.lookup C = some l → (C, l) ∈ t := by
  induction t with
  | nil => intro C l h; cases h
  | cons p t ih =>
    obtain ⟨B, m⟩ := p
    intro C l h
    rw [List.lookup_cons] at h
    cases e : C == B with
    | true =>
      rw [e] at h
      cases h
      rw [eq_of_beq e]
      exact List.mem_cons_self
    | false =>
      rw [e] at h
      exact List.mem_cons_of_mem _ (ih h)
theorem XT.Ok.get {t : XT} (h : t.Ok K) (e : t.at C = some l) : Xk K C l := h _ (look_mem e)
/-- except D: does it take the exception x -/
noncomputable def XT.exm (t : XT) (B : Addr) : D → Option Bool := fun x => match x with
  | .ins C _ _ => match t.at C, t.at B with
    | some l, some _ => some ((C :: l).contains B)
    | _, _ => none
  | _ => none
theorem XT.Ok.exm {t : XT} (h : t.Ok K) : TabOk K (.ref B) (t.exm B) := by
  intro x b cls hx hc
  unfold XT.exm at hx
  split at hx
  · rename_i C ns vs
    split at hx
    · rename_i l m h1 h2
      cases hx
      cases (show cls = .ref C from hc)
      exact (h.get h1).exm (h.get h2)
    · cases hx
  · cases hx
/-- isinstance(e, t) of an exception of the class C -/
noncomputable def XT.isx (t : XT) (C : Addr) : D → Option Bool := fun x => match x with
  | .rf B => match t.at C, t.at B with
    | some l, some _ => some ((C :: l).contains B)
    | _, _ => none
  | .ty T => match t.at C with
    | some _ => if PySem.W.kitMeta T = true then some (([.type "ValueError", .type "Exception", .type "BaseException", .type "object"] : List Value).contains (.type T)) else none
    | none => none
  | _ => none
theorem XT.Ok.isx {t : XT} (h : t.Ok K) : TabI K (.ref C) (t.isx C) := by
  intro x b hx
  unfold XT.isx at hx
  split at hx
  · rename_i B
    split at hx
    · rename_i l m h1 h2
      cases hx
      exact ⟨_, rfl, (h.get h1).kit (h.get h2)⟩
    · cases hx
  · rename_i T
    split at hx
    · rename_i l h1
      split at hx
      · rename_i hm
        cases hx
        exact ⟨_, rfl, (h.get h1).kitT hm⟩
      · cases hx
    · cases hx
  · cases hx
/-- the class of an exception -/
noncomputable def clsA : D → Addr
  | .ins C _ _ => C
  | _ => 0
end
section
variable {X : Cx} {W : WX} {K : PySem.W.Frag}
/-! ### a number of the top -/
theorem je_gint {x : Str} {n : Int} {pos : Pos} (hg : Gl X x) (hm : ∃ t, X.mg x = some (.int n t)) (hd : (x == ("__debug__" : Str)) = false := by decide) : JE X W (.Name x pos) (mC (.int n)) := by
  obtain ⟨t, e⟩ := hm
  exact peI (pe_glob hg e (show RelV (.int n) (.int n t) from ⟨t, rfl⟩) hd) (tC_of fun _ => rfl)
end
/-- the j-th statement of a class's body -/
noncomputable def clsStmt : Stmt → Nat → Stmt
  | .ClassDef _ _ _ body _ _ _ _ _ _ _, j => body.getD j (.Pass ⟨0, 0, 0, 0⟩)
  | s, _ => s
end Wf
set_option Elab.async false
set_option linter.all false
set_option maxRecDepth 100000
set_option maxHeartbeats 1000000
/-! Classes of exceptions: words for the printed texts. -/
namespace Wf
open PySem PySem.Spec PyProof.Rows L2
inductive XAll (K : PySem.W.Frag) : XT → Prop where
  | nil : XAll K []
  | cons {C : Addr} {l : List Addr} {t : XT} : Xk K C l → XAll K t → XAll K ((C, l) :: t)
inductive NAll (P : Addr → Prop) : XT → Prop where
  | nil : NAll P []
  | cons {C : Addr} {l : List Addr} {t : XT} : P C → NAll P t → NAll P ((C, l) :: t)
theorem xall_of {K : PySem.W.Frag} {t : XT} (h : XAll K t) : t.Ok K := by
  induction h with
  | nil => intro p hp; cases hp
  | cons x _ ih =>
    intro p hp
    rcases List.mem_cons.mp hp with e | hp
    · rw [e]
      exact x
    · exact ih p hp
theorem nall_of {P : Addr → Prop} {t : XT} (h : NAll P t) {C : Addr} {l : List Addr} (e : t.at C = some l) : P C := by
  have hm := look_mem e
  clear e
  induction h with
  | nil => cases hm
  | cons x _ ih =>
    rcases List.mem_cons.mp hm with e | hm
    · cases e
      exact x
    · exact ih hm
theorem exm_inv {t : XT} {B : Addr} {y : D} (h : t.exm B y = some true) : ∃ C ns vs l, y = .ins C ns vs ∧ t.at C = some l := by
  unfold XT.exm at h
  split at h
  · rename_i C ns vs
    split at h
    · rename_i l m h1 h2
      exact ⟨C, ns, vs, l, rfl, h1⟩
    · cases h
  · cases h
/-! ### a name's list is given up: from here on it is data -/
noncomputable def Wd.tmb (w : Wd) (a : Addr) : Wd := ⟨w.p, fun b => w.F b ∨ b = a, w.G, w.H⟩
section
variable {K : PySem.W.Frag}
theorem Le.tmb (w : Wd) (a : Addr) : Le w (w.tmb a) := ⟨fun _ _ h => h, fun _ f => .inl f, fun _ _ => rfl, fun _ g => ⟨g, rfl⟩⟩
theorem Sim.tmb {w : Wd} {cs : List D} {i : Nat} {a : Addr} {c : D} (s : Sim K w cs) (hi : w.p[i]? = some a) (hc : cs[i]? = some c) : Sim K (w.tmb a) (cs.set i .non) := by
  obtain ⟨f1, f2, f3, f4⟩ := s.cell i a c hi hc
  refine ⟨by rw [List.length_set]; exact s.len, s.nd, fun b f => ?_, fun b g => ?_, fun j b d hj hd => ?_⟩
  · rcases f with f | f
    · exact s.trk b f
    · rw [f]
      exact f2
  · obtain ⟨g1, g2, g3⟩ := s.gtr b g
    refine ⟨fun f => f.elim g1 fun e => ?_, g2, g3⟩
    subst e
    exact g3 i hi
  · have hj' : w.p[j]? = some b := hj
    by_cases e : i = j
    · subst e
      rw [List.getElem?_set_self (List.getElem?_eq_some_iff.mp hc).1] at hd
      cases hd
      cases hi.symm.trans hj'
      exact ⟨fun t => Bool.noConfusion t, f2, f2, rfl⟩
    · rw [List.getElem?_set_ne e] at hd
      obtain ⟨c1, c2, c3, c4⟩ := s.cell j b d hj' hd
      exact ⟨fun t f => f.elim (c1 t) fun z => e (s.nd i j a hi (z ▸ hj')), c2, ORep.cell (w := w) (w' := w.tmb a) (fun _ h => .inl h) (fun _ _ => rfl) rfl d c4 c3, c4⟩
end
noncomputable def mFrzV (k : Nat) : MS := fun r cs => match r[k]? with
  | some (some (.ref i)) => match cs[i]? with
    | some (.lst l) => .ok (.nx (r.set k (some (.lst l)))) (cs.set i .non)
    | _ => .bad
  | _ => .bad
end Wf
set_option Elab.async false
set_option linter.all false
set_option maxRecDepth 100000
set_option maxHeartbeats 1000000
/-! Reckoning: exceptions, sums, signs of texts. -/
namespace Wf
open PySem PySem.Spec PyProof.Rows L2
section
variable {m n ma mb : M} {ml : ML} {r : Env} {cs ds l : List D} {d x y : D} {z w : Str} {i j : Int} {k : Nat} {b : Bool} {ms : MS}
noncomputable def kLenSet : D → List D → R D := fun d cs => match d with
  | .str z => if z.length ≤ 1000 then .ok (.int ((metC z.cps.toList).length : Nat)) cs else .bad
  | _ => .bad
theorem e_lenSet : mLenSet m r cs = (m r cs).bind kLenSet := (rfl)
theorem k_lenSet (h : z.length ≤ 1000) : kLenSet (.str z) cs = .ok (.int ((metC z.cps.toList).length : Nat)) cs := if_pos h
theorem blsOf_map : ∀ bs : List Bool, blsOf (bs.map D.bl) = some bs
  | [] => rfl
  | b :: bs => by
    show (blsOf (bs.map D.bl)).map (b :: ·) = _
    rw [blsOf_map bs]
    rfl
theorem intsOf_map : ∀ bs : List Int, intsOf (bs.map D.int) = some bs
  | [] => rfl
  | b :: bs => by
    show (intsOf (bs.map D.int)).map (b :: ·) = _
    rw [intsOf_map bs]
    rfl
theorem o_all {bs : List Bool} : allD [.lst (bs.map .bl)] cs = .ok (.bl (bs.all id)) cs := by
  show (match blsOf (bs.map .bl) with
    | some bs => R.ok (D.bl (bs.all id)) cs
    | none => .bad) = _
  rw [blsOf_map]
theorem o_any {bs : List Bool} : anyD [.lst (bs.map .bl)] cs = .ok (.bl (bs.any id)) cs := by
  show (match blsOf (bs.map .bl) with
    | some bs => R.ok (D.bl (bs.any id)) cs
    | none => .bad) = _
  rw [blsOf_map]
theorem o_sum {is : List Int} : sumD [.lst (is.map .int)] cs = .ok (.int is.sum) cs := by
  show (match intsOf (is.map .int) with
    | some bs => R.ok (D.int bs.sum) cs
    | none => .bad) = _
  rw [intsOf_map]
theorem o_find : findD (.str z) [.str w] cs = .ok (.int (Txt.find z w)) cs := (rfl)
noncomputable def kRev : D → List D → R D := fun d cs => match d with
  | .str z => if z.length ≤ sizeLine then .ok (.str (revS z)) cs else .bad
  | d => match lstOf cs d with
    | some l => .ok (.lst l.reverse) cs
    | none => .bad
theorem e_rev : mRev m r cs = (m r cs).bind kRev := (rfl)
theorem k_revS (h : z.length ≤ 16777216) : kRev (.str z) cs = .ok (.str (revS z)) cs := if_pos h
theorem k_revL : kRev (.lst l) cs = .ok (.lst l.reverse) cs := (rfl)
theorem revS_len : (revS z).length = z.length := by
  show z.cps.toList.reverse.toArray.size = z.cps.size
  rw [List.size_toArray, List.length_reverse, Array.length_toList]
/-! errors -/
theorem e_raise0 {C : Addr} : mRaise0 C r cs = .err (.ins C [] []) r cs := (rfl)
noncomputable def kRaiseO (C : Addr) (ns : List Str) (r : Env) : List D → List D → R Fl := fun ds cs => if ds.length = ns.length then .err (.ins C ns.reverse ds.reverse) r cs else .bad
theorem e_raiseO {C : Addr} {ns : List Str} : mRaiseO C ns ml r cs = (ml r cs).bind (kRaiseO C ns r) := (rfl)
theorem k_raiseO {C : Addr} {ns : List Str} (h : ds.length = ns.length) : kRaiseO C ns r ds cs = .err (.ins C ns.reverse ds.reverse) r cs := if_pos h
theorem b_err {α β : Type} {e : Env} {q : α → List D → R β} : (R.err x e cs).bind q = .err x e cs := (rfl)
theorem n_err {α : Type} {e e' : Env} : (noteE e (.err x e' cs) : R α) = .err x e cs := (rfl)
theorem f_err {n : Nat} {e : Env} (h : nr x = true) : finR n (.err x e cs) = .err x [] (cs.take n) := if_pos h
theorem Ok_finE {n : Nat} {e : Env} {P : D → List D → Prop} : Ok (finR n (.err x e cs)) P = False := by
  show Ok (if nr x = true then R.err x [] (cs.take n) else R.bad) P = False
  by_cases h : nr x = true
  · rw [if_pos h]
    exact Ok_err ..
  · rw [if_neg h]
    exact Ok_M
theorem n_ins {C : Addr} {ns : List Str} : nr (.ins C ns l) = nrs l := (rfl)
noncomputable def kTry (i : Nat) (tab : D → Option Bool) (ms : Addr → Option Addr → D → MS) : R Fl → R Fl := fun o => match o with
  | .err x r' cs' => match tab x with
    | some true => pickAll (mSuite i ms x (fldN x) (fldV x) r' cs')
    | some false => .err x r' cs'
    | none => .bad
  | o => o
theorem e_tryAs {i : Nat} {tab : D → Option Bool} {hs : Addr → Option Addr → D → MS} : mTryAs i tab ms hs r cs = kTry i tab hs (ms r cs) := (rfl)
theorem k_tryOk {i : Nat} {tab : D → Option Bool} {hs : Addr → Option Addr → D → MS} {fl : Fl} : kTry i tab hs (.ok fl cs) = .ok fl cs := (rfl)
theorem k_tryErr {i : Nat} {tab : D → Option Bool} {hs : Addr → Option Addr → D → MS} {e : Env} {v : R Fl} (h : tab x = some true) (hv : ∀ a q, mSuite i hs x (fldN x) (fldV x) e cs a q = v) : kTry i tab hs (.err x e cs) = v := by
  show (match tab x with
    | some true => pickAll (mSuite i hs x (fldN x) (fldV x) e cs)
    | some false => .err x e cs
    | none => .bad) = v
  rw [h]
  exact pickAll_eq hv
noncomputable def kWipe (i : Nat) : Fl → List D → R Fl := fun fl cs => .ok (wipeF i fl) cs
theorem e_suite {i : Nat} {hs : Addr → Option Addr → D → MS} {ns : List Str} {e : Env} {a : Addr} {q : Option Addr} : mSuite i hs x ns l e cs a q = (calmR (hs a q x (e.set i (some (.exn a q ns l))) cs)).bind (kWipe i) := (rfl)
theorem k_wipeR {i : Nat} : kWipe i (.ret d) cs = .ok (.ret d) cs := (rfl)
theorem k_wipeN {i : Nat} {e : Env} : kWipe i (.nx e) cs = .ok (.nx (e.set i none)) cs := (rfl)
noncomputable def kIsx (cs : List D) : Option Bool → R D
  | some b => .ok (.bl b) cs
  | none => .bad
theorem o_isx {a : Addr} {q : Option Addr} {tab : D → Option Bool} {ns : List Str} : isxD a q tab [.exn a q ns l, d] cs = kIsx cs (tab d) := by
  show (if a = a ∧ q = q then (match tab d with
    | some b => .ok (.bl b) cs
    | none => .bad) else .bad : R D) = _
  rw [if_pos ⟨rfl, rfl⟩]
  cases tab d <;> rfl
theorem k_isx : kIsx cs (some b) = .ok (.bl b) cs := (rfl)
theorem e_xf {a : Addr} {q : Option Addr} {f : Str} : mXf a q f m r cs = (m r cs).bind (fldD a q f) := (rfl)
theorem o_fld {a : Addr} {q : Option Addr} {f : Str} {ns : List Str} (h : (ns.zip l).lookup f = some d) : fldD a q f (.exn a q ns l) cs = .ok d cs := by
  show (if a = a ∧ q = q then (match (ns.zip l).lookup f with
    | some y => .ok y cs
    | none => .bad) else .bad : R D) = _
  rw [if_pos ⟨rfl, rfl⟩, h]
noncomputable def kFrzT (n : Nat) : D → List D → R D := fun d cs' => match d with
  | .tup [x, .ref i] => if n ≤ i ∧ i + 1 = cs'.length ∧ nr x = true then match cs'[i]? with
      | some (.lst l) => .ok (.tup [x, .lst l]) (cs'.take i)
      | _ => .bad
    else .bad
  | d => .ok d cs'
theorem e_frzT : mFrzT m r cs = (m r cs).bind (kFrzT cs.length) := (rfl)
/-! ### signs -/
theorem At_sgn {c : Nat} {i : Nat} : At z (sgn c) i = decide (z.cps.toList[i]? = some c) := by
  by_cases h : i + (sgn c).length ≤ z.length
  · rw [← cut_at h]
    have hl : (sgn c).length = 1 := rfl
    rw [hl] at h ⊢
    have hz := str_len z
    have e : (cutS z (some (i : Int)) (some ((i : Int) + ((1 : Nat) : Int)))).cps.toList = (z.cps.toList.drop i).take 1 := by
      rw [cutS_list]
      have q1 : HT.sIx z.length 0 (some (i : Int)) = i := by
        unfold HT.sIx
        simp only
        rw [if_neg (by omega)]
        omega
      have q2 : HT.sIx z.length z.length (some ((i : Int) + ((1 : Nat) : Int))) = i + 1 := by
        unfold HT.sIx
        simp only
        rw [if_neg (by omega)]
        omega
      rw [q1, q2, show i + 1 - i = 1 by omega]
    rw [Bool.eq_iff_iff, decide_eq_true_eq, decide_eq_true_eq]
    have hi : i < z.cps.toList.length := by omega
    rw [List.getElem?_eq_getElem hi]
    have e2 : (z.cps.toList.drop i).take 1 = [z.cps.toList[i]] := by
      rw [List.drop_eq_getElem_cons hi]
      rfl
    rw [e2] at e
    constructor
    · intro q
      rw [q] at e
      have : [c] = [z.cps.toList[i]] := e
      rw [← (List.cons.inj this).1]
    · intro q
      refine str_ext ?_
      rw [e, Option.some.inj q]
      rfl
  · rw [At_no h]
    have hl : (sgn c).length = 1 := rfl
    have hz := str_len z
    rw [List.getElem?_eq_none (by omega)]
    simp
theorem find_ix (c : Nat) : ∀ (l : List Nat) (lo n : Nat), lo + l.length ≤ n → (List.range' lo (n + 1 - lo)).find? (fun i => decide (i - lo < l.length ∧ l[i - lo]? = some c)) = if c ∈ l then some (lo + l.idxOf c) else none := by
  intro l
  induction l with
  | nil =>
    intro lo n _
    rw [if_neg (by simp), List.find?_eq_none]
    intro i _
    simp
  | cons a l ih =>
    intro lo n h
    rw [List.length_cons] at h
    rw [show n + 1 - lo = (n + 1 - (lo + 1)) + 1 by omega, List.range'_succ]
    by_cases e : a = c
    · rw [List.find?_cons_of_pos (by simp [e]), if_pos (by simp [e])]
      simp [e]
    · rw [List.find?_cons_of_neg (by simp [e])]
      have key : (List.range' (lo + 1) (n + 1 - (lo + 1))).find? (fun i => decide (i - lo < (a :: l).length ∧ (a :: l)[i - lo]? = some c)) =
          (List.range' (lo + 1) (n + 1 - (lo + 1))).find? (fun i => decide (i - (lo + 1) < l.length ∧ l[i - (lo + 1)]? = some c)) := by
        have step : ∀ is : List Nat, (∀ i ∈ is, lo + 1 ≤ i) → is.find? (fun i => decide (i - lo < (a :: l).length ∧ (a :: l)[i - lo]? = some c)) = is.find? (fun i => decide (i - (lo + 1) < l.length ∧ l[i - (lo + 1)]? = some c)) := by
          intro is
          induction is with
          | nil => intro _; rfl
          | cons i is ihs =>
            intro hi
            have h1 := hi i List.mem_cons_self
            have e1 : decide (i - lo < (a :: l).length ∧ (a :: l)[i - lo]? = some c) = decide (i - (lo + 1) < l.length ∧ l[i - (lo + 1)]? = some c) := by
              obtain ⟨q, rfl⟩ : ∃ q, i = lo + 1 + q := ⟨i - (lo + 1), by omega⟩
              rw [show lo + 1 + q - lo = q + 1 by omega, show lo + 1 + q - (lo + 1) = q by omega, List.length_cons, List.getElem?_cons_succ]
              rw [Bool.eq_iff_iff, decide_eq_true_eq, decide_eq_true_eq]
              constructor
              · rintro ⟨p1, p2⟩
                exact ⟨by omega, p2⟩
              · rintro ⟨p1, p2⟩
                exact ⟨by omega, p2⟩
            rw [List.find?_cons, List.find?_cons, e1, ihs fun i' hi' => hi i' (List.mem_cons_of_mem _ hi')]
        exact step _ fun i hi => (List.mem_range'_1.mp hi).1
      rw [key, ih (lo + 1) n (by omega)]
      by_cases hm : c ∈ l
      · rw [if_pos hm, if_pos (List.mem_cons_of_mem _ hm), List.idxOf_cons]
        have hne : (a == c) = false := by simpa using e
        rw [hne]
        simp
        omega
      · rw [if_neg hm, if_neg]
        intro hh
        rcases List.mem_cons.mp hh with q | q
        · exact e q.symm
        · exact hm q
theorem occ_sgn (z : Str) (c : Nat) : Builtin.Str.occurrences z (sgn c) 0 z.length 1 = if c ∈ z.cps.toList then [z.cps.toList.idxOf c] else [] := by
  rw [occ1]
  have hz := str_len z
  have e : (At z (sgn c)) = fun i => decide (i - 0 < z.cps.toList.length ∧ z.cps.toList[i - 0]? = some c) := by
    funext i
    rw [At_sgn, Bool.eq_iff_iff, decide_eq_true_eq, decide_eq_true_eq, Nat.sub_zero]
    exact ⟨fun q => ⟨(List.getElem?_eq_some_iff.mp q).1, q⟩, fun q => q.2⟩
  rw [e, find_ix c z.cps.toList 0 z.length (by omega), Nat.zero_add]
  split <;> rfl
theorem in_sgn (z : Str) (c : Nat) : inS (sgn c) z = decide (c ∈ z.cps.toList) := by
  unfold inS
  rw [occ_sgn]
  by_cases h : c ∈ z.cps.toList
  · rw [if_pos h, decide_eq_true h]
    rfl
  · rw [if_neg h, decide_eq_false h]
    rfl
theorem chrs_eq (z : Str) : chrs z = z.cps.toList.map fun c => D.str (sgn c) := (rfl)
theorem metC_all (l : List Nat) : decide ((metC l).length = l.length) = decide l.Nodup := by
  have key : ∀ (m a : List Nat), (m.foldl addC a).length ≤ a.length + m.length ∧ ((m.foldl addC a).length = a.length + m.length ↔ (∀ c ∈ m, c ∉ a) ∧ m.Nodup) := by
    intro m
    induction m with
    | nil => intro a; simp
    | cons c m ih =>
      intro a
      simp only [List.foldl_cons, List.length_cons]
      by_cases h : c ∈ a
      · have e : addC a c = a := if_pos h
        rw [e]
        obtain ⟨i1, _⟩ := ih a
        refine ⟨by omega, ⟨fun q => by omega, fun q => absurd h (q.1 c List.mem_cons_self)⟩⟩
      · have e : addC a c = a ++ [c] := if_neg h
        rw [e]
        obtain ⟨i1, i2⟩ := ih (a ++ [c])
        rw [List.length_append, List.length_singleton] at i1 i2
        refine ⟨by omega, ?_⟩
        rw [show a.length + (m.length + 1) = a.length + 1 + m.length by omega, i2, List.nodup_cons]
        constructor
        · rintro ⟨q1, q2⟩
          refine ⟨fun d hd => ?_, fun hc => ?_, q2⟩
          · rcases List.mem_cons.mp hd with e | hd
            · rw [e]
              exact h
            · exact fun z => q1 d hd (List.mem_append_left _ z)
          · exact q1 c hc (List.mem_append_right _ List.mem_cons_self)
        · rintro ⟨q1, q2, q3⟩
          refine ⟨fun d hd z => ?_, q3⟩
          rcases List.mem_append.mp z with z | z
          · exact q1 d (List.mem_cons_of_mem _ hd) z
          · rw [List.mem_singleton.mp z] at hd
            exact q2 hd
  have := (key l []).2
  simp only [List.length_nil, Nat.zero_add] at this
  rw [Bool.eq_iff_iff, decide_eq_true_eq, decide_eq_true_eq]
  unfold metC
  rw [this]
  constructor
  · exact fun q => q.2
  · exact fun q => ⟨fun c _ z => (by simp at z), q⟩
theorem nodup_take (l : List Nat) : l.Nodup ↔ ∀ k c, l[k]? = some c → c ∉ l.take k := by
  constructor
  · intro h k c hk hm
    obtain ⟨j, hj⟩ := List.mem_iff_getElem?.mp hm
    rw [List.getElem?_take] at hj
    split at hj
    · rename_i hjk
      obtain ⟨h1, e1⟩ := List.getElem?_eq_some_iff.mp hj
      obtain ⟨h2, e2⟩ := List.getElem?_eq_some_iff.mp hk
      exact List.pairwise_iff_getElem.mp h j k h1 h2 hjk (e1.trans e2.symm)
    · cases hj
  · intro h
    refine List.pairwise_iff_getElem.mpr fun i j hi hj hij e => ?_
    refine h j l[j] (List.getElem?_eq_getElem hj) ?_
    rw [← e]
    refine List.mem_iff_getElem?.mpr ⟨i, ?_⟩
    rw [List.getElem?_take, if_pos hij, List.getElem?_eq_getElem hi]
theorem map_pureT {α : Type} {f : D → List D → R (Option D)} {cs : List D} {e g : α → D} {l : List α} (h : ∀ a ∈ l, f (e a) cs = .ok (some (g a)) cs) : mapR f (l.map e) cs = .ok (l.map g) cs := by
  induction l with
  | nil => rfl
  | cons a l ih =>
    have h1 := h a List.mem_cons_self
    have h2 := ih fun b hb => h b (List.mem_cons_of_mem _ hb)
    show (f (e a) cs).bind _ = _
    rw [h1]
    show (mapR f (l.map e) cs).bind _ = _
    rw [h2]
    rfl
end
end Wf
set_option Elab.async false
set_option linter.all false
set_option maxRecDepth 100000
set_option maxHeartbeats 1000000
/-! Readings by mirrors: instances of own classes. -/
namespace Wf
open PySem PySem.Spec PyProof.Rows L2
section
variable {X : Cx} {W : WX} {K : PySem.W.Frag} {e : Expr} {es : List Expr} {m : M} {ml mk : ML} {pos : Pos} {x : Str} {p : Pos}
noncomputable def insOf (cs : List D) : D → Option (Addr × List Str × List D)
  | .ins C ns l => some (C, ns, l)
  | .ref i => match cs[i]? with
    | some (.ins C ns l) => some (C, ns, l)
    | _ => none
  | _ => none
/-! ### e.f -/
noncomputable def fldG (C : Addr) (f : Str) (x : D) (cs : List D) : R D := match insOf cs x with
  | some (C', ns, l) => if C' = C then (match (ns.zip l).lookup f with
    | some y => .ok y cs
    | none => .bad) else .bad
  | none => .bad
noncomputable def mFld (C : Addr) (f : Str) (m : M) : M := fun r cs => (m r cs).bind (fldG C f)
/-! ### e.f = value, of a live one -/
noncomputable def stF (C : Addr) (f : Str) (x y : D) (cs : List D) : Option (List D) := match x with
  | .ref i => match cs[i]? with
    | some (.ins C' ns l) => if C' = C ∧ ns.contains f = false ∧ ns.length < 900 ∧ nr y = true then some (cs.set i (.ins C (ns ++ [f]) (l ++ [y]))) else none
    | _ => none
  | _ => none
noncomputable def mStF (C : Addr) (f : Str) (me mo : M) : MS := fun r cs => (me r cs).bind fun y cs => (mo r cs).bind fun x cs => match stF C f x y cs with
  | some cs' => .ok (.nx r) cs'
  | none => .bad
/-! ### C(..) -/
noncomputable def mMake (C : Addr) (f : Fn) (n k : Nat) (ix : List Nat) (ml mk : ML) : M := fun r cs => (ml r cs).bind fun ds cs => (mk r cs).bind fun es cs => if ds.length = n ∧ es.length = k then
  (noteE r (f (pick ix (.ref cs.length :: (ds ++ es))) (cs ++ [.ins C [] []]))).bind fun d cs' => if isNon d = true then .ok (.ref cs.length) cs' else .bad
  else .bad
variable {k nn : Nat} {f C : Addr} {fd : FuncData} {ps ks : List Str} {fn : Fn} {kws : List Keyword} {ix : List Nat}
end
end Wf
set_option Elab.async false
set_option linter.all false
set_option maxRecDepth 100000
set_option maxHeartbeats 1000000
/-! Readings by mirrors: methods, properties, own in and len. -/
namespace Wf
open PySem PySem.Spec PyProof.Rows L2
section
variable {X : Cx} {W : WX} {K : PySem.W.Frag} {e o : Expr} {es : List Expr} {m mo : M} {ml mk : ML} {pos apos : Pos} {x nm : Str} {p : Pos}
variable {k nn : Nat} {f C : Addr} {fd : FuncData} {ps ks : List Str} {fn : Fn} {kws : List Keyword} {ix : List Nat}
/-- the object is an instance of the class at C without an attribute nm -/
noncomputable def isIns (C : Addr) (nm : Str) (x : D) (cs : List D) : Bool := match insOf cs x with
  | some (C', ns, _) => decide (C' = C) && !ns.contains nm
  | none => false
/-! ### o.m(..) -/
noncomputable def mMeth (C : Addr) (nm : Str) (f : Fn) (mo : M) (ml : ML) : M := fun r cs => (mo r cs).bind fun x cs => if isIns C nm x cs = true then (ml r cs).bind fun ds cs => noteE r (f (x :: ds) cs) else .bad
noncomputable def mMethK (C : Addr) (nm : Str) (f : Fn) (k : Nat) (ix : List Nat) (mo : M) (mk : ML) : M := fun r cs => (mo r cs).bind fun x cs => if isIns C nm x cs = true then (mk r cs).bind fun es cs => if es.length = k then noteE r (f (pick ix (x :: es)) cs) else .bad else .bad
/-! ### o.f, a property -/
noncomputable def no0 : XK := fun _ _ _ => False
noncomputable def propD (C : Addr) (f : Fn) (x : D) (cs : List D) : R D := match insOf cs x with
  | some (C', _, _) => if C' = C then calmR (f [x] cs) else .bad
  | none => .bad
noncomputable def mProp (C : Addr) (f : Fn) (mo : M) : M := fun r cs => (mo r cs).bind (propD C f)
/-! ### x in o -/
noncomputable def rInOwn (C : Addr) (sp : Sp) (neg : Bool) : R2 := fun x y H Q => ∃ a dx fs, y = .ref a ∧ H a = some (.ins C dx fs) ∧ sp [y, x] H (fun v H' => ∃ b, v = .bl b ∧ Q (.bl (xor neg b)) H') no0
noncomputable def inOwnD (C : Addr) (f : Fn) (neg : Bool) : Op2 := fun x y cs => match insOf cs y with
  | some (C', _, _) => if C' = C then (calmR (f [y, x] cs)).bind fun d cs' => match d with
    | .bl b => .ok (.bl (xor neg b)) cs'
    | _ => .bad else .bad
  | none => .bad
end
end Wf
set_option Elab.async false
set_option linter.all false
set_option maxRecDepth 100000
set_option maxHeartbeats 1000000
/-! Readings by mirrors: what is live settles, dicts, enumerate. -/
namespace Wf
open PySem PySem.Spec PyProof.Rows L2
section
variable {X : Cx} {W : WX} {K : PySem.W.Frag} {e o i : Expr} {m mo mi ma mb me : M} {ml : ML} {pos : Pos}
/-! ### a fresh live thing settles -/
noncomputable def datD : D → Bool
  | .lst _ => true
  | .dct _ _ => true
  | .ins _ _ _ => true
  | _ => false
noncomputable def mFrzA (m : M) : M := fun r cs => (m r cs).bind fun d cs' => match d with
  | .ref i => if cs.length ≤ i ∧ i + 1 = cs'.length then match cs'[i]? with
      | some c => if datD c = true then .ok c (cs'.take i) else .bad
      | none => .bad
    else .bad
  | d => .ok d cs'
/-! ### dicts -/
noncomputable def keyOf : D → Option Key
  | .int i => some (.inl i)
  | .str z => some (.inr z)
  | _ => none
noncomputable def dctOf (cs : List D) : D → Option (List Key × List D)
  | .dct ks l => some (ks, l)
  | .ref i => match cs[i]? with
    | some (.dct ks l) => some (ks, l)
    | _ => none
  | _ => none
/-- what the dict has at k -/
noncomputable def dlook (ks : List Key) (l : List D) (k : Key) : Option D := ((ks.zip l).find? fun kv => decide (kv.1 = k)).map (·.2)
noncomputable def dgetD : Op2 := fun x y cs => match dctOf cs x, keyOf y with
  | some (ks, l), some k => (match dlook ks l k with
    | some d => .ok d cs
    | none => .bad)
  | _, _ => .bad
noncomputable def rDGet : R2 := fun x y H Q => ∃ a v, x = .ref a ∧ DGet H a y (some v) ∧ Q v H
noncomputable def dinD (neg : Bool) : Op2 := fun y x cs => match dctOf cs x, keyOf y with
  | some (ks, l), some k => .ok (.bl (xor neg (dlook ks l k).isSome)) cs
  | _, _ => .bad
noncomputable def rDInB (neg : Bool) : R2 := fun y x H Q => ∃ a o, x = .ref a ∧ DGet H a y o ∧ Q (.bl (xor neg o.isSome)) H
/-- {} -/
noncomputable def mDnew : M := fun _ cs => .ok (.ref cs.length) (cs ++ [.dct [] []])
end
end Wf
set_option Elab.async false
set_option linter.all false
set_option maxRecDepth 100000
set_option maxHeartbeats 1000000
/-! Readings by mirrors: dicts that are changed, enumerate, dict comprehensions. -/
namespace Wf
open PySem PySem.Spec PyProof.Rows L2
section
variable {X : Cx} {W : WX} {K : PySem.W.Frag} {e o i : Expr} {m mo mi ma mb me : M} {ml : ML} {pos : Pos}
noncomputable def kin (ks : List Key) (k : Key) : Bool := ks.any fun j => decide (j = k)
/-! ### d[k] = v, a new key -/
noncomputable def dsetD : Op3 := fun o i d cs => match o with
  | .ref n => match cs[n]? with
    | some (.dct ks l) => (match keyOf i with
      | some k => if kin ks k = false ∧ ks.length < 16777216 ∧ nr d = true then some (cs.set n (.dct (ks ++ [k]) (l ++ [d]))) else none
      | none => none)
    | _ => none
  | _ => none
/-! ### enumerate -/
noncomputable def enumL : Nat → List D → List D
  | _, [] => []
  | n, d :: ds => .tup [.int (n : Nat), d] :: enumL (n + 1) ds
noncomputable def mEnum (m : M) : ML := fun r cs => (m r cs).bind fun d cs => match d with
  | .lst l => .ok (enumL 0 l) cs
  | _ => .bad
end
end Wf
set_option Elab.async false
set_option linter.all false
set_option maxRecDepth 100000
set_option maxHeartbeats 1000000
/-! Readings by mirrors: dict comprehensions. -/
namespace Wf
open PySem PySem.Spec PyProof.Rows L2
section
variable {X : Cx} {W : WX} {K : PySem.W.Frag} {e o i : Expr} {m mo mi ma mb me mk mv : M} {mt : MT} {pos : Pos}
noncomputable def dadd : List Key → List D → List D → Option (List Key × List D)
  | ks, l, [] => some (ks, l)
  | ks, l, .tup [kd, v] :: r => match keyOf kd with
    | some k => if kin ks k = false then dadd (ks ++ [k]) (l ++ [v]) r else none
    | none => none
  | _, _, _ => none
noncomputable def dcF (g : D → Env → Option Env) (mt : MT) (mk mv : M) (r : Env) : D → List D → R (Option D) := fun d cs => match g d r with
  | some r' => (mt r' cs).bind fun b cs => if b then (mk r' cs).bind fun y cs => (mv r' cs).bind fun z cs => .ok (some (.tup [y, z])) cs else .ok none cs
  | none => .bad
noncomputable def mDc (vs : List Nat) (mi : ML) (g : D → Env → Option Env) (mt : MT) (mk mv : M) : M := fun r cs => (mi r cs).bind fun ds cs => (calmR (mapR (dcF g mt mk mv (wipeD r vs)) ds cs)).bind fun ys cs => if ys.length < sizeLine then (match dadd [] [] ys with
  | some (ks, l) => .ok (.dct ks l) cs
  | none => .bad) else .bad
variable {kx vx tg iter : Expr} {ifs : List Expr} {scope : Scope} {own : List (Str × Nat)} {wi : ML} {g : TG} {gf : D → Env → Option Env}
end
end Wf
set_option Elab.async false
set_option linter.all false
set_option maxRecDepth 100000
set_option maxHeartbeats 1000000
/-! Readings by mirrors: str(i), extend, a deep in. -/
namespace Wf
open PySem PySem.Spec PyProof.Rows L2
section
variable {X : Cx} {W : WX} {K : PySem.W.Frag}
noncomputable def strD : OpC := fun ds cs => match ds with
  | [.int i] => if i.natAbs < 1000000000 then .ok (.str (toString i)) cs else .bad
  | _ => .bad
/-! ### l.extend(m) -/
noncomputable def extendD : OpM := fun x ds cs => match x, ds with
  | .ref i, [.lst m] => match cs[i]? with
    | some (.lst l) => if l.length + m.length ≤ sizeLine ∧ nrs m = true ∧ nrs l = true then .ok .non (cs.set i (.lst (l ++ m))) else .bad
    | _ => .bad
  | _, _ => .bad
/-! ### x in a list of data -/
noncomputable def inDB (cs : List D) (x y : D) : Option Bool := match pyTop cs x, pyTop cs y with
  | some d, some (.list ds) => if SeqAt.shaped d = true ∧ SeqAt.shaped (.list ds) = true then some (ds.any fun z => PyData.eqv z d) else none
  | _, _ => none
noncomputable def inDD : Op2 := fun x y cs => match inDB cs x y with
  | some b => .ok (.bl b) cs
  | none => .bad
noncomputable def notInDD : Op2 := fun x y cs => match inDB cs x y with
  | some b => .ok (.bl (!b)) cs
  | none => .bad
/-! ### a sum of two lists that is changed later -/
noncomputable def addDL : Op2 := fun x y cs => match lstOwn cs x, lstOwn cs y with
  | some l, some m => if l.length + m.length ≤ sizeLine ∧ nrs (l ++ m) = true then .ok (.ref cs.length) (cs ++ [.lst (l ++ m)]) else .bad
  | _, _ => .bad
variable {o i : Expr} {mo mi : M} {pos : Pos}
end
end Wf
set_option Elab.async false
set_option linter.all false
set_option maxRecDepth 100000
/-! Equations for classes, dictionaries and targets that are tuples. -/
namespace Wf
open PySem PySem.Spec PyProof.Rows L2
section
variable {m me mo mv : M} {mt : MT} {ml mk : ML} {b : MS} {r r' : Env} {cs : List D} {C : Addr} {f nm : Str} {ns : List Str} {l ds es ys : List D} {d x y z : D} {fn : Fn} {i n k : Nat} {ix : List Nat} {ks : List Key} {kk : Key} {neg : Bool}
theorem e_fld : mFld C f m r cs = (m r cs).bind (fldG C f) := (rfl)
noncomputable def kStF2 (C : Addr) (f : Str) (r : Env) (y : D) : D → List D → R Fl := fun x cs => match stF C f x y cs with
  | some cs' => .ok (.nx r) cs'
  | none => .bad
noncomputable def kStF1 (C : Addr) (f : Str) (mo : M) (r : Env) : D → List D → R Fl := fun y cs => (mo r cs).bind (kStF2 C f r y)
theorem e_stF : mStF C f m mo r cs = (m r cs).bind (kStF1 C f mo r) := (rfl)
theorem k_stF1 : kStF1 C f mo r y cs = (mo r cs).bind (kStF2 C f r y) := (rfl)
theorem k_stF2 (h : cs[i]? = some (.ins C ns l)) (hn : ns.contains f = false) (h9 : ns.length < 900) (hy : nr y = true) : kStF2 C f r y (.ref i) cs = .ok (.nx r) (cs.set i (.ins C (ns ++ [f]) (l ++ [y]))) := by
  have q : stF C f (.ref i) y cs = some (cs.set i (.ins C (ns ++ [f]) (l ++ [y]))) := by
    unfold stF
    simp only [h]
    exact if_pos ⟨trivial, hn, h9, hy⟩
  unfold kStF2
  rw [q]
theorem k_stFA (hn : ns.contains f = false) (h9 : ns.length < 900) (hy : nr y = true) : kStF2 C f r y (.ref cs.length) (cs ++ [.ins C ns l]) = .ok (.nx r) (cs ++ [.ins C (ns ++ [f]) (l ++ [y])]) := by
  rw [k_stF2 (ns := ns) (l := l) (by simp) hn h9 hy]
  simp
noncomputable def kMeth2 (f : Fn) (r : Env) (x : D) : List D → List D → R D := fun ds cs => noteE r (f (x :: ds) cs)
noncomputable def kMeth1 (C : Addr) (nm : Str) (f : Fn) (ml : ML) (r : Env) : D → List D → R D := fun x cs => if isIns C nm x cs = true then (ml r cs).bind (kMeth2 f r x) else .bad
theorem e_meth : mMeth C nm fn mo ml r cs = (mo r cs).bind (kMeth1 C nm fn ml r) := (rfl)
theorem k_meth2 : kMeth2 fn r x ds cs = noteE r (fn (x :: ds) cs) := (rfl)
theorem e_prop : mProp C fn mo r cs = (mo r cs).bind (propD C fn) := (rfl)
theorem e_dnew : mDnew r cs = .ok (.ref cs.length) (cs ++ [.dct [] []]) := (rfl)
theorem b_for2 {a c : Nat} : bFor (gtTup 2 (gtCons (gtN a) (gtCons (gtN c) gtNil))) b r (.tup [x, y]) cs = b ((r.set a (some x)).set c (some y)) cs := (rfl)
theorem b_for3 {a c e : Nat} : bFor (gtTup 3 (gtCons (gtN a) (gtCons (gtN c) (gtCons (gtN e) gtNil)))) b r (.tup [x, y, z]) cs = b (((r.set a (some x)).set c (some y)).set e (some z)) cs := (rfl)
theorem f_lc2 {a c : Nat} : lcF (gtTup 2 (gtCons (gtN a) (gtCons (gtN c) gtNil))) mt me r (.tup [x, y]) cs = (mt ((r.set a (some x)).set c (some y)) cs).bind (kLcT me ((r.set a (some x)).set c (some y))) := (rfl)
theorem f_lc3 {a c e : Nat} : lcF (gtTup 3 (gtCons (gtN a) (gtCons (gtN c) (gtCons (gtN e) gtNil)))) mt me r (.tup [x, y, z]) cs = (mt (((r.set a (some x)).set c (some y)).set e (some z)) cs).bind (kLcT me (((r.set a (some x)).set c (some y)).set e (some z))) := (rfl)
theorem k_asgT2 {a c : Nat} : kAsg (gtTup 2 (gtCons (gtN a) (gtCons (gtN c) gtNil))) r (.tup [x, y]) cs = .ok (.nx ((r.set a (some x)).set c (some y))) cs := (rfl)
theorem k_asgT3 {a c e : Nat} : kAsg (gtTup 3 (gtCons (gtN a) (gtCons (gtN c) (gtCons (gtN e) gtNil)))) r (.tup [x, y, z]) cs = .ok (.nx (((r.set a (some x)).set c (some y)).set e (some z))) cs := (rfl)
noncomputable def kEnum : D → List D → R (List D) := fun d cs => match d with
  | .lst l => .ok (enumL 0 l) cs
  | _ => .bad
theorem e_enum : mEnum m r cs = (m r cs).bind kEnum := (rfl)
theorem k_enum : kEnum (.lst l) cs = .ok (enumL 0 l) cs := (rfl)
noncomputable def kDc2 : List D → List D → R D := fun ys cs => if ys.length < sizeLine then (match dadd [] [] ys with
  | some (ks, l) => .ok (.dct ks l) cs
  | none => .bad) else .bad
noncomputable def kDc1 (vs : List Nat) (g : D → Env → Option Env) (mt : MT) (mk mv : M) (r : Env) : List D → List D → R D := fun ds cs => (calmR (mapR (dcF g mt mk mv (wipeD r vs)) ds cs)).bind kDc2
theorem e_dc {vs : List Nat} {mi : ML} {g : D → Env → Option Env} : mDc vs mi g mt me mv r cs = (mi r cs).bind (kDc1 vs g mt me mv r) := (rfl)
theorem k_dc1 {vs : List Nat} {g : D → Env → Option Env} : kDc1 vs g mt me mv r ds cs = (calmR (mapR (dcF g mt me mv (wipeD r vs)) ds cs)).bind kDc2 := (rfl)
noncomputable def kMk3 (n : Nat) : D → List D → R D := fun d cs' => if isNon d = true then .ok (.ref n) cs' else .bad
noncomputable def kMk2 (C : Addr) (f : Fn) (n k : Nat) (ix : List Nat) (r : Env) (ds : List D) : List D → List D → R D := fun es cs => if ds.length = n ∧ es.length = k then
  (noteE r (f (pick ix (.ref cs.length :: (ds ++ es))) (cs ++ [.ins C [] []]))).bind (kMk3 cs.length)
  else .bad
noncomputable def kMk1 (C : Addr) (f : Fn) (n k : Nat) (ix : List Nat) (mk : ML) (r : Env) : List D → List D → R D := fun ds cs => (mk r cs).bind (kMk2 C f n k ix r ds)
theorem e_make : mMake C fn n k ix ml mk r cs = (ml r cs).bind (kMk1 C fn n k ix mk r) := (rfl)
theorem k_mk1 : kMk1 C fn n k ix mk r ds cs = (mk r cs).bind (kMk2 C fn n k ix r ds) := (rfl)
theorem k_mk3 : kMk3 n .non cs = .ok (.ref n) cs := (rfl)
noncomputable def kFrzA (n : Nat) : D → List D → R D := fun d cs' => match d with
  | .ref i => if n ≤ i ∧ i + 1 = cs'.length then match cs'[i]? with
      | some c => if datD c = true then .ok c (cs'.take i) else .bad
      | none => .bad
    else .bad
  | d => .ok d cs'
theorem e_frzA : mFrzA m r cs = (m r cs).bind (kFrzA cs.length) := (rfl)
theorem k_frzA (h : datD d = true) : kFrzA cs.length (.ref cs.length) (cs ++ [d]) = .ok d cs := by
  unfold kFrzA
  simp [h]
end
end Wf
set_option Elab.async false
set_option linter.all false
set_option maxRecDepth 100000
set_option maxHeartbeats 1000000
/-! Readings by mirrors: l.count(x) of flat items, l.clear(), tuple(x). -/
namespace Wf
open PySem PySem.Spec PyProof.Rows L2
section
variable {X : Cx} {W : WX} {K : PySem.W.Frag}
/-! ### l.count(x), flat items -/
noncomputable def rCntF (K : PySem.W.Frag) : V → List V → Hp → VK → Prop := fun x vs H Q => ∃ (a : Addr) (ys : List V) (y : V), x = .ref a ∧ vs = [y] ∧ SqL K H a ys ∧ flatV y = true ∧ ys.all flatV = true ∧ Q (.int (ys.countP fun z => eqV z y : Nat)) H
noncomputable def countD : OpM := fun x ds cs => match ds with
  | [y] => match lstOf cs x with
    | some l => if flatD y = true ∧ l.all flatD = true then .ok (.int (l.countP fun z => eqF z y : Nat)) cs else .bad
    | none => .bad
  | _ => .bad
/-! ### l.clear() -/
noncomputable def clearD : OpM := fun x ds cs => match x, ds with
  | .ref i, [] => match cs[i]? with
    | some (.lst l) => .ok .non (cs.set i (.lst []))
    | _ => .bad
  | _, _ => .bad
/-! ### tuple(x) -/
noncomputable def rTupAny (K : PySem.W.Frag) : List V → Hp → VK → Prop := fun xs H Q => ∃ p ys, xs = [.ref p] ∧ ((SqL K H p ys ∧ ∀ l, H l = none → Q (.ref l) (upd H l (.tup ys))) ∨ (SqT K H p ys ∧ Q (.ref p) H))
noncomputable def tupD : OpC := fun ds cs => match ds with
  | [.tup l] => .ok (.tup l) cs
  | [d] => match lstOf cs d with
    | some l => .ok (.tup l) cs
    | none => .bad
  | _ => .bad
end
end Wf
set_option Elab.async false
set_option linter.all false
set_option maxRecDepth 100000
set_option maxHeartbeats 1000000
/-! Readings by mirrors: C(..) where the keyword-only defaults fill up. -/
namespace Wf
open PySem PySem.Spec PyProof.Rows L2
section
variable {X : Cx} {W : WX} {K : PySem.W.Frag}
noncomputable def mMakeD (C : Addr) (f : Fn) (n : Nat) (dfl : List D) (ml : ML) : M := fun r cs => (ml r cs).bind fun ds cs => if ds.length = n then
  (noteE r (f (.ref cs.length :: (ds ++ dfl)) (cs ++ [.ins C [] []]))).bind fun d cs' => if isNon d = true then .ok (.ref cs.length) cs' else .bad
  else .bad
variable {k nn : Nat} {f C : Addr} {fd : FuncData} {ps : List Str} {fn : Fn} {dvs : List V} {dsv : List Value} {dfl : List D}
end
end Wf
set_option Elab.async false
set_option linter.all false
set_option maxRecDepth 100000
set_option maxHeartbeats 1000000
/-! Readings by mirrors: enumerate over a tuple. -/
namespace Wf
open PySem PySem.Spec PyProof.Rows L2
/-- the object that a call makes behind the iterator -/
abbrev enmO (z : Nat) : Obj := { cls := .type "enumerate", data := .fields #[.none, .bool false, .ref z, rawInt 0, .none, .none] }
/-- the tuple at a, each item in a new pair -/
noncomputable def Iet (K : PySem.W.Frag) (a : Addr) : It :=
  ⟨fun i H => ∃ (xs : List V) (x : V), SqT K H a xs ∧ xs[i]? = some x,
    fun i H v H' => ∃ T x, v = .ref T ∧ H T = none ∧ H' = upd H T (.tup [.int (i : Nat), x]) ∧ ∀ xs, SqT K H a xs → xs[i]? = some x,
    fun i H => ∃ xs : List V, SqT K H a xs ∧ xs.length ≤ i⟩
section
variable {X : Cx} {W : WX} {e : Expr} {m : M} {pos : Pos}
noncomputable def iEnumA (K : PySem.W.Frag) (ta : TA) : TI := fun σ H R => ta σ H fun vs H1 => ∃ a xs, vs = [.ref a] ∧ ((SqL K H1 a xs ∧ R (Ite K a) H1) ∨ (SqT K H1 a xs ∧ R (Iet K a) H1))
noncomputable def mEnumA (m : M) : ML := fun r cs => (m r cs).bind fun d cs => match d with
  | .lst l => .ok (enumL 0 l) cs
  | .tup l => .ok (enumL 0 l) cs
  | _ => .bad
noncomputable def kEnumA : D → List D → R (List D) := fun d cs => match d with
  | .lst l => .ok (enumL 0 l) cs
  | .tup l => .ok (enumL 0 l) cs
  | _ => .bad
variable {r : Env} {cs l : List D}
theorem e_enumA : mEnumA m r cs = (m r cs).bind kEnumA := (rfl)
theorem k_enumAL : kEnumA (.lst l) cs = .ok (enumL 0 l) cs := (rfl)
theorem k_enumAT : kEnumA (.tup l) cs = .ok (enumL 0 l) cs := (rfl)
end
end Wf
set_option Elab.async false
set_option linter.all false
set_option maxRecDepth 100000
set_option maxHeartbeats 1000000
/-! Equations for the walk: methods without arguments, l.count, l.clear, tuple(x), C(..) with defaults, try .. except C. -/
namespace Wf
open PySem L2
section
variable {r : Env} {cs ds l : List D} {mo m : M} {ml : ML} {x d y : D}
noncomputable def kBM0 (T : String) (f : OpM) : D → List D → R D := fun x cs => if tyD T x cs = true then f x [] cs else .bad
theorem e_BM0 {T : String} {f : OpM} : mBM0 T f mo r cs = (mo r cs).bind (kBM0 T f) := (rfl)
theorem k_BM0 {T : String} {f : OpM} (h : tyD T x cs = true) : kBM0 T f x cs = f x [] cs := if_pos h
theorem o_tupT : tupD [.tup l] cs = .ok (.tup l) cs := (rfl)
theorem o_tupL : tupD [.lst l] cs = .ok (.tup l) cs := (rfl)
noncomputable def kMkD (C : Addr) (f : Fn) (n : Nat) (dfl : List D) (r : Env) : List D → List D → R D := fun ds cs => if ds.length = n then
  (noteE r (f (.ref cs.length :: (ds ++ dfl)) (cs ++ [.ins C [] []]))).bind (kMk3 cs.length) else .bad
theorem e_makeD {C : Addr} {f : Fn} {n : Nat} {dfl : List D} : mMakeD C f n dfl ml r cs = (ml r cs).bind (kMkD C f n dfl r) := (rfl)
noncomputable def kTryO (tab : D → Option Bool) (ms : MS) : R Fl → R Fl := fun o => match o with
  | .err x r' cs' => match tab x with
    | some true => calmR (ms r' cs')
    | some false => .err x r' cs'
    | none => .bad
  | o => o
theorem e_tryO {tab : D → Option Bool} {mb ms : MS} : mTryOnly tab mb ms r cs = kTryO tab ms (mb r cs) := (rfl)
theorem k_tryOok {tab : D → Option Bool} {ms : MS} {fl : Fl} : kTryO tab ms (.ok fl cs) = .ok fl cs := (rfl)
end
end Wf
set_option Elab.async false
set_option linter.all false
set_option maxRecDepth 100000
set_option maxHeartbeats 1000000
/-! Readings by mirrors: a sum of two tuples, empty ones too. -/
namespace Wf
open PySem PySem.Spec PyProof.Rows L2
section
variable {X : Cx} {W : WX} {K : PySem.W.Frag} {cs l m : List D}
noncomputable def addTD : Op2 := fun x y cs => match x, y with
  | .tup l, .tup m => if l.length + m.length ≤ sizeLine then .ok (.tup (l ++ m)) cs else .bad
  | x, y => addD x y cs
noncomputable def rAddT (K : PySem.W.Frag) : R2 := fun x y H Q => rCatA K x y H Q ∨ rAddAny K x y H Q
theorem o_addTI {i j : Int} : addTD (.int i) (.int j) cs = .ok (.int (i + j)) cs := (rfl)
end
end Wf
set_option Elab.async false
set_option linter.all false
set_option maxRecDepth 100000
set_option maxHeartbeats 1000000
/-! Readings by mirrors: for x in l, where l is a cell that the rows of the loop leave as it is. -/
namespace Wf
open PySem PySem.Spec PyProof.Rows L2
open Classical in
/-- the loop over the cell k, which holds l at each turn -/
noncomputable def forK (f : Env → D → List D → R Fl) (k : Nat) (l : List D) : List D → Env → List D → R Fl
  | [], r, cs => if cs[k]? = some (.lst l) then .ok (.nx r) cs else .bad
  | d :: ds, r, cs => if cs[k]? = some (.lst l) then ((f r d cs).bind fun fl cs => match fl with
    | .nx r' => forK f k l ds r' cs
    | .ct r' => forK f k l ds r' cs
    | .brk r' => .ok (.nx r') cs
    | .ret v => .ok (.ret v) cs) else .bad
noncomputable def mForR (m : M) (g : D → Env → Option Env) (b : MS) : MS := fun r cs => (m r cs).bind fun d cs => match d with
  | .ref k => match cs[k]? with
    | some (.lst l) => forK (fun r d cs => match g d r with
      | some r' => b r' cs
      | none => .bad) k l l r cs
    | _ => .bad
  | .lst l => forR (fun r d cs => match g d r with
      | some r' => b r' cs
      | none => .bad) l r cs
  | _ => .bad
section
variable {X : Cx} {W : WX} {m : M} {ms : MS} {pos : Pos}
variable {r : Env} {cs l : List D}
noncomputable def kForR (g : D → Env → Option Env) (b : MS) (r : Env) : D → List D → R Fl := fun d cs => match d with
  | .ref k => match cs[k]? with
    | some (.lst l) => forK (bFor g b) k l l r cs
    | _ => .bad
  | .lst l => forR (bFor g b) l r cs
  | _ => .bad
theorem e_forR {g : D → Env → Option Env} {b : MS} : mForR m g b r cs = (m r cs).bind (kForR g b r) := (rfl)
theorem k_forRL {g : D → Env → Option Env} {b : MS} : kForR g b r (.lst l) cs = forR (bFor g b) l r cs := (rfl)
end
end Wf
set_option Elab.async false
set_option linter.all false
set_option maxRecDepth 100000
set_option maxHeartbeats 1000000
/-! Readings by mirrors: [e for x in l], where l is a cell that the comprehension leaves as it is. -/
namespace Wf
open PySem PySem.Spec PyProof.Rows L2
open Classical in
noncomputable def mapK (f : D → List D → R (Option D)) (q : Nat) (l : List D) : List D → List D → R (List D)
  | [], cs => if cs[q]? = some (.lst l) then .ok [] cs else .bad
  | d :: ds, cs => if cs[q]? = some (.lst l) then ((f d cs).bind fun o cs => (mapK f q l ds cs).bind fun ys cs => .ok (addO o ys) cs) else .bad
noncomputable def mLcR (vs : List Nat) (m : M) (gf : D → Env → Option Env) (mt : MT) (me : M) : M := fun r cs => (m r cs).bind fun d cs => match d with
  | .ref q => match cs[q]? with
    | some (.lst l) => (calmR (mapK (lcF gf mt me (wipeD r vs)) q l l cs)).bind (kLc2 kDone)
    | _ => .bad
  | .lst l => (calmR (mapR (lcF gf mt me (wipeD r vs)) l cs)).bind (kLc2 kDone)
  | _ => .bad
section
variable {X : Cx} {W : WX} {K : PySem.W.Frag} {m me : M} {mt : MT} {pos : Pos}
noncomputable def tiL (K : PySem.W.Frag) (te : TE) : TI := fun σ H Rr => te σ H fun v H1 => ∃ p, v = .ref p ∧ (∃ xs, SqL K H1 p xs) ∧ Rr (Itl K p) H1
variable {elt tg iter : Expr} {ifs : List Expr} {scope : Scope} {own : List (Str × Nat)} {g : TG} {gf : D → Env → Option Env}
variable {r : Env} {cs l ds : List D}
noncomputable def kLcR (vs : List Nat) (gf : D → Env → Option Env) (mt : MT) (me : M) (r : Env) : D → List D → R D := fun d cs => match d with
  | .ref q => match cs[q]? with
    | some (.lst l) => (calmR (mapK (lcF gf mt me (wipeD r vs)) q l l cs)).bind (kLc2 kDone)
    | _ => .bad
  | .lst l => (calmR (mapR (lcF gf mt me (wipeD r vs)) l cs)).bind (kLc2 kDone)
  | _ => .bad
theorem k_lcRL {vs : List Nat} {gf : D → Env → Option Env} {mt : MT} {me : M} {r : Env} {cs l : List D} : kLcR vs gf mt me r (.lst l) cs = (calmR (mapR (lcF gf mt me (wipeD r vs)) l cs)).bind (kLc2 kDone) := (rfl)
theorem e_lcR {vs : List Nat} : mLcR vs m gf mt me r cs = (m r cs).bind (kLcR vs gf mt me r) := (rfl)
end
end Wf
set_option Elab.async false
set_option linter.all false
set_option maxRecDepth 100000
set_option maxHeartbeats 1000000
/-! Readings by mirrors: {k: v for i, x in enumerate(l)}, where l is a cell that the comprehension leaves as it is. -/
namespace Wf
open PySem PySem.Spec PyProof.Rows L2
noncomputable def mDcE (vs : List Nat) (m : M) (g : D → Env → Option Env) (mt : MT) (mk mv : M) : M := fun r cs => (m r cs).bind fun d cs => match d with
  | .ref q => match cs[q]? with
    | some (.lst l) => (calmR (mapK (dcF g mt mk mv (wipeD r vs)) q l (enumL 0 l) cs)).bind kDc2
    | _ => .bad
  | _ => .bad
section
variable {X : Cx} {W : WX} {K : PySem.W.Frag} {m mk mv : M} {mt : MT} {pos : Pos}
noncomputable def tiE (K : PySem.W.Frag) (te : TE) : TI := fun σ H Rr => te σ H fun v H1 => ∃ p, v = .ref p ∧ (∃ xs, SqL K H1 p xs) ∧ Rr (Ite K p) H1
variable {kx vx tg iter : Expr} {ifs : List Expr} {scope : Scope} {own : List (Str × Nat)} {g : TG} {gf : D → Env → Option Env}
variable {r : Env} {cs l : List D}
noncomputable def kDcE (vs : List Nat) (g : D → Env → Option Env) (mt : MT) (mk mv : M) (r : Env) : D → List D → R D := fun d cs => match d with
  | .ref q => match cs[q]? with
    | some (.lst l) => (calmR (mapK (dcF g mt mk mv (wipeD r vs)) q l (enumL 0 l) cs)).bind kDc2
    | _ => .bad
  | _ => .bad
theorem e_dcE {vs : List Nat} {gf : D → Env → Option Env} : mDcE vs m gf mt mk mv r cs = (m r cs).bind (kDcE vs gf mt mk mv r) := (rfl)
end
end Wf
set_option Elab.async false
set_option linter.all false
set_option maxRecDepth 100000
set_option maxHeartbeats 1000000
/-! Readings by mirrors: reversed(x), x a list or a tuple that is data. -/
namespace Wf
open PySem PySem.Spec PyProof.Rows L2
section
variable {X : Cx} {W : WX} {K : PySem.W.Frag} {e : Expr} {m : M} {pos : Pos}
theorem rev_at {α : Type} {xs : List α} {i : Nat} (h : i < xs.length) : xs.reverse[i]? = xs[xs.length - 1 - i]? := List.getElem?_reverse h
theorem IterOk.rev {w : Wd} {a : Addr} {xs : List V} {ds : List D} (h : ∀ w', Lx w w' → SqL K w'.H a xs) (r : Reps K w ds xs) : IterOk K w (L2.Itv K a xs.length) ds.reverse := fun w' l i => by
  have hl := Reps.length _ r
  refine ⟨fun hi => ?_, fun d hd => ?_⟩
  · show xs.length ≤ i
    rw [List.length_reverse] at hi
    omega
  have hi : i < ds.length := by
    have := (List.getElem?_eq_some_iff.mp hd).1
    rwa [List.length_reverse] at this
  rw [rev_at hi] at hd
  obtain ⟨x, hx, rx⟩ := Reps.get _ r hd
  rw [hl] at hx
  refine ⟨⟨by omega, xs, x, h w' l, hx⟩, fun y H' cs s ⟨eH, hy⟩ => ?_⟩
  have := hy xs (h w' l)
  rw [hx] at this
  cases this
  exact ⟨w', eH.symm, Le.refl w', s, Rep.x l d _ rx⟩
noncomputable def kRevA : D → List D → R (List D) := fun d cs => match d with
  | .lst l => .ok l.reverse cs
  | .tup l => .ok l.reverse cs
  | _ => .bad
noncomputable def mRevA (m : M) : ML := fun r cs => (m r cs).bind kRevA
variable {r : Env} {cs l : List D}
theorem e_revA : mRevA m r cs = (m r cs).bind kRevA := (rfl)
theorem k_revAL : kRevA (.lst l) cs = .ok l.reverse cs := (rfl)
theorem k_revAT : kRevA (.tup l) cs = .ok l.reverse cs := (rfl)
end
end Wf
set_option Elab.async false
set_option linter.all false
set_option maxRecDepth 100000
set_option maxHeartbeats 1000000
/-! Readings by mirrors: a slice that may be the whole tuple. -/
namespace Wf
open PySem PySem.Spec PyProof.Rows L2
section
variable {K : PySem.W.Frag}
/-- a slice; that of a whole tuple is the tuple -/
noncomputable def slTD : OpSl := fun x lo hi cs => match x with
  | .tup l => .ok (.tup (cutD l lo hi)) cs
  | x => slD x lo hi cs
noncomputable def rSlAnyT (K : PySem.W.Frag) : V → Option Int → Option Int → Hp → VK → Prop := fun x lo hi H Q => rSlAny K x lo hi H Q ∨ L2.rSlA K x lo hi H Q
end
end Wf
set_option Elab.async false
set_option linter.all false
set_option maxRecDepth 100000
set_option maxHeartbeats 1000000
/-! Readings by mirrors: the greatest and the least of a list of numbers. -/
namespace Wf
open PySem PySem.Spec PyProof.Rows L2
section
variable {K : PySem.W.Frag}
noncomputable def maxI : Int → List Int → Int
  | m, [] => m
  | m, a :: l => maxI (if m < a then a else m) l
noncomputable def minI : Int → List Int → Int
  | m, [] => m
  | m, a :: l => minI (if a < m then a else m) l
noncomputable def maxLD : OpC := fun ds cs => match ds with
  | [d] => match lstOf cs d with
    | some l => match intsOf l with
      | some (n :: ns) => .ok (.int (maxI n ns)) cs
      | _ => .bad
    | none => .bad
  | _ => .bad
noncomputable def minLD : OpC := fun ds cs => match ds with
  | [d] => match lstOf cs d with
    | some l => match intsOf l with
      | some (n :: ns) => .ok (.int (minI n ns)) cs
      | _ => .bad
    | none => .bad
  | _ => .bad
/-! ### // by a divisor below 2 ^ 64 -/
noncomputable def CDivX (_ j : Int) : Prop := 0 < j ∧ j < 18446744073709551616
instance (i j : Int) : Decidable (CDivX i j) := by unfold CDivX; exact inferInstance
noncomputable def fdivXD : Op2 := fun x y cs => match x, y with
  | .int i, .int j => if CDivX i j then .ok (.int (i.fdiv j)) cs else .bad
  | _, _ => .bad
end
end Wf
set_option Elab.async false
set_option linter.all false
set_option maxRecDepth 100000
set_option maxHeartbeats 1000000
/-! Readings by mirrors: whether a list, a number, a text, a dict is empty or 0; the least of a list of data. -/
namespace Wf
open PySem PySem.Spec PyProof.Rows L2
section
variable {X : Cx} {W : WX} {K : PySem.W.Frag} {a : Expr} {m : M} {pos : Pos}
/-! ### whether it is true -/
noncomputable def kTr : D → List D → R Bool := fun d cs => match d with
  | .non => .ok false cs
  | .bl b => .ok b cs
  | .int i => .ok (i != 0) cs
  | .str z => if z.length ≤ 16777216 then .ok ((z.length : Int) != 0) cs else .bad
  | .lst l => .ok (!l.isEmpty) cs
  | .tup l => .ok (!l.isEmpty) cs
  | .ref k => match cs[k]? with
    | some (.lst l) => .ok (!l.isEmpty) cs
    | some (.dct ks _) => .ok (!ks.isEmpty) cs
    | _ => .bad
  | _ => .bad
noncomputable def mTr (m : M) : MT := fun r cs => (m r cs).bind kTr
/-! ### the least of a list of data -/
noncomputable def leastB (ds : List PyData) : Nat → Nat → Bool := fun i j => PySem.W.dataLt (ds.getD i .none) (ds.getD j .none)
noncomputable def rMinAll (K : PySem.W.Frag) : List V → Hp → VK → Prop := fun vs H Q => ∃ (p : Addr) (L : List (V × PyData)), vs = [V.ref p] ∧ SqL K H p (L.map (·.1)) ∧ (∀ q ∈ L, Dp K H q.1 q.2) ∧ PySem.W.AlikeAll (L.map (·.2)) ∧ (∀ q ∈ L, q.2.depth ≤ 60) ∧ 0 < L.length ∧
  ∀ q, L[argBest (leastB (L.map (·.2))) (L.length - 1)]? = some q → Q q.1 H
/-- the index of the least of these -/
noncomputable def leastI (l : List D) : Nat := argBest (leastB (l.map encD)) (l.length - 1)
noncomputable def minOk (l : List D) : Bool := l.all fun d => (pyOf d).isSome && decide ((encD d).depth ≤ 60) && !(isNo (encD d)) && l.all fun e => PySem.W.alike (encD d) (encD e)
noncomputable def minAD : OpC := fun ds cs => match ds with
  | [d] => match lstOf cs d with
    | some l => if minOk l = true then (match l[leastI l]? with
      | some x => .ok x cs
      | none => .bad) else .bad
    | none => .bad
  | _ => .bad
section
variable {r : Env} {cs l : List D} {k : Nat} {ks : List Key} {i : Int}
theorem e_tr : mTr m r cs = (m r cs).bind kTr := (rfl)
theorem k_trL : kTr (.lst l) cs = .ok (!l.isEmpty) cs := (rfl)
theorem k_trT : kTr (.tup l) cs = .ok (!l.isEmpty) cs := (rfl)
theorem k_trI : kTr (.int i) cs = .ok (i != 0) cs := (rfl)
theorem k_trN : kTr .non cs = .ok false cs := (rfl)
end
end
end Wf
set_option Elab.async false
set_option linter.all false
set_option maxRecDepth 100000
set_option maxHeartbeats 1000000
/-! Readings by mirrors: t[::-1], t a tuple. -/
namespace Wf
open PySem PySem.Spec PyProof.Rows L2 HT
section
variable {pr : Program} {wd : World} {A : Around} {E : Value → Shared → Prop} {s : Shared}
end
section
variable {X : Cx} {W : WX} {K : PySem.W.Frag}
noncomputable def tRevT (K : PySem.W.Frag) (te : TE) : TE := fun σ H Q => te σ H fun x H1 => ∃ a xs, x = .ref a ∧ SqT K H1 a xs ∧ ∀ p, H1 p = none → Q (.ref p) (upd H1 p (.tup xs.reverse))
noncomputable def kRevT : D → List D → R D := fun d cs => match d with
  | .tup l => .ok (.tup l.reverse) cs
  | _ => .bad
noncomputable def mRevT (m : M) : M := fun r cs => (m r cs).bind kRevT
theorem e_revT {m : M} {r : Env} {cs : List D} : mRevT m r cs = (m r cs).bind kRevT := (rfl)
theorem k_revT {l cs : List D} : kRevT (.tup l) cs = .ok (.tup l.reverse) cs := (rfl)
end
end Wf
set_option Elab.async false
set_option linter.all false
set_option maxRecDepth 100000
set_option maxHeartbeats 1000000
/-! Readings by mirrors: a, b = x, y with plain local names. -/
namespace Wf
open PySem PySem.Spec PyProof.Rows L2 HT
section
variable {X : Cx} {W : WX} {K : PySem.W.Frag}
noncomputable def kPar (i j : Nat) (r : Env) : List D → List D → R Fl := fun ds cs => match ds with
  | [d, e] => .ok (.nx ((r.set i (some d)).set j (some e))) cs
  | _ => .bad
noncomputable def mPar (i j : Nat) (ml : ML) : MS := fun r cs => (ml r cs).bind (kPar i j r)
theorem e_par {i j : Nat} {ml : ML} {r : Env} {cs : List D} : mPar i j ml r cs = (ml r cs).bind (kPar i j r) := (rfl)
theorem k_par {i j : Nat} {r : Env} {d e : D} {cs : List D} : kPar i j r [d, e] cs = .ok (.nx ((r.set i (some d)).set j (some e))) cs := (rfl)
end
end Wf
set_option Elab.async false
set_option linter.all false
set_option maxRecDepth 100000
set_option maxHeartbeats 1000000
/-! Readings by mirrors: a text n times, n below 0 too. -/
namespace Wf
open PySem PySem.Spec PyProof.Rows L2 HT
section
variable {X : Cx} {W : WX} {K : PySem.W.Frag}
noncomputable def mulND : Op2 := fun x y cs => match x, y with
  | .str z, .int n => if -(2 ^ 63) ≤ n ∧ n < 2 ^ 24 ∧ z.length * n.toNat ≤ sizeLine then .ok (.str (strMul z n)) cs else .bad
  | x, y => mulD x y cs
theorem o_mulN {z : Str} {n : Int} {cs : List D} (h : -(2 ^ 63) ≤ n ∧ n < 2 ^ 24 ∧ z.length * n.toNat ≤ 16777216) : mulND (.str z) (.int n) cs = .ok (.str (strMul z n)) cs := if_pos h
theorem o_mulNL {l : List D} {n : Int} {cs : List D} : mulND (.lst l) (.int n) cs = mulD (.lst l) (.int n) cs := (rfl)
theorem o_mulNI {i j : Int} {cs : List D} : mulND (.int i) (.int j) cs = mulD (.int i) (.int j) cs := (rfl)
end
end Wf
set_option Elab.async false
set_option linter.all false
set_option maxRecDepth 100000
set_option maxHeartbeats 1000000
/-! Readings by mirrors: l.index(x) of flat items. -/
namespace Wf
open PySem PySem.Spec PyProof.Rows L2
section
variable {X : Cx} {W : WX} {K : PySem.W.Frag}
noncomputable def lindexD : OpM := fun x ds cs => match ds with
  | [y] => match lstOf cs x with
    | some l => if flatD y = true ∧ l.all flatD = true then
        (match l.findIdx? fun z => eqF z y with
         | some j => .ok (.int (j : Nat)) cs
         | none => .bad) else .bad
    | none => .bad
  | _ => .bad
end
end Wf
set_option Elab.async false
set_option linter.all false
set_option maxRecDepth 100000
set_option maxHeartbeats 1000000
/-! Readings by mirrors: z.lower(). -/
namespace Wf
open PySem PySem.Spec PyProof.Rows L2
section
variable {X : Cx} {W : WX} {K : PySem.W.Frag}
noncomputable def lowerD : OpM := fun x ds cs => match x, ds with
  | .str a, [] => if a.length ≤ 5592405 then .ok (.str (Txt.lower a)) cs else .bad
  | _, _ => .bad
end
end Wf
set_option Elab.async false
set_option linter.all false
set_option maxRecDepth 100000
set_option maxHeartbeats 1000000
/-! Readings by mirrors: C(a=.., b=..), no positional ones. -/
namespace Wf
open PySem PySem.Spec PyProof.Rows L2 HT
section
variable {X : Cx} {W : WX} {k : Nat} {f C : Addr} {fd : FuncData} {ps ks : List Str} {fn : Fn} {kws : List Keyword} {ix : List Nat} {mk : ML} {x : Str} {p pos : Pos}
end
end Wf
set_option Elab.async false
set_option linter.all false
set_option maxRecDepth 100000
set_option maxHeartbeats 1000000
/-! Readings by mirrors: l.reverse(). -/
namespace Wf
open PySem PySem.Spec PyProof.Rows L2
section
variable {X : Cx} {W : WX} {K : PySem.W.Frag}
noncomputable def reverseD : OpM := fun x ds cs => match x, ds with
  | .ref i, [] => match cs[i]? with
    | some (.lst l) => if nrs l = true then .ok .non (cs.set i (.lst l.reverse)) else .bad
    | _ => .bad
  | _, _ => .bad
end
end Wf
set_option Elab.async false
set_option linter.all false
set_option maxRecDepth 100000
set_option maxHeartbeats 1000000
/-! Readings by mirrors: z.count(y) of texts. -/
namespace Wf
open PySem PySem.Spec PyProof.Rows L2
section
variable {X : Cx} {W : WX} {K : PySem.W.Frag}
noncomputable def scountD : OpM := fun x ds cs => match x, ds with
  | .str a, [.str b] => .ok (.int (Txt.count a b)) cs
  | _, _ => .bad
end
end Wf
set_option Elab.async false
set_option linter.all false
set_option maxRecDepth 100000
set_option maxHeartbeats 1000000
/-! First pieces of a rule for comprehensions that an exception leaves: what reads the frame alone, and the block let go under an exception that this frame holds. -/
namespace Wf
open PySem PySem.Spec PyProof.Rows L2
section
variable {X : Cx}
/-- a block's context under a wish -/
abbrev blkE (X : Cx) (s : Shared) (H : Hp) (scope : Scope) (C : Addr) (cl : List (Str × Addr)) (fp : List Addr) (E : Value → Shared → Prop) : Cx := (X.blk s H scope (compEnvC scope cl C X.env) fp).wish E
end

section
variable {X : Cx} {W : WX} {K : PySem.W.Frag} {m me : M} {mt : MT} {pos : Pos}
/-- what leaves a block, at the def's own names -/
noncomputable def outX {α : Type} (r : Env) : R α → R α
  | .err x _ cs => .err x r cs
  | o => o
noncomputable def mLcX (vs : List Nat) (mi : ML) (g : D → Env → Option Env) (mt : MT) (me : M) : M := fun r cs => (mi r cs).bind fun ds cs => if ds.length < sizeLine then (outX r (mapR (lcF g mt me (wipeD r vs)) ds cs)).bind fun ys cs => .ok (.lst ys) cs else .bad
theorem XRep.settle {w : Wd} {p : Addr} {x : D} {c : Value} {od : Option Addr} (h : XRep K w x c od) : XRep K (w.settle p) x c od := by
  cases x with
  | ins C ns l =>
    obtain ⟨e1, h1⟩ := h
    refine ⟨e1, ?_⟩
    rcases h1 with h1 | ⟨d, xs, h1, h2, h3, h4, h5⟩
    · exact .inl h1
    · exact .inr ⟨d, xs, h1, .inl h2, h3, h4, Reps.b (Wd.settleB w p) l xs h5⟩
  | ty n => exact h
  | _ => exact h.elim
variable {elt tg iter : Expr} {ifs : List Expr} {scope : Scope} {own : List (Str × Nat)} {wi : ML} {g : TG} {gf : D → Env → Option Env}
variable {r : Env} {cs ds ys : List D} {vs : List Nat} {gf2 : D → Env → Option Env} {x : D} {r2 : Env}
noncomputable def kLcX (vs : List Nat) (gf : D → Env → Option Env) (mt : MT) (me : M) (r : Env) : List D → List D → R D := fun ds cs => if ds.length < sizeLine then (outX r (mapR (lcF gf mt me (wipeD r vs)) ds cs)).bind kDone else .bad
theorem e_lcX : mLcX vs wi gf2 mt me r cs = (wi r cs).bind (kLcX vs gf2 mt me r) := (rfl)
theorem x_ok {α : Type} {a : α} : outX r (.ok a cs) = .ok a cs := (rfl)
theorem x_err {α : Type} : outX r (.err x r2 cs : R α) = .err x r cs := (rfl)
end
end Wf
set_option Elab.async false
set_option linter.all false
set_option maxRecDepth 100000
set_option maxHeartbeats 1000000
/-! Readings by mirrors: several `except C as e` clauses in one try; isinstance(e, (A, B, ..)) in a suite. -/
namespace Wf
open PySem PySem.Spec PyProof.Rows L2
/-- what the clauses `except c as n` wish of an exception, one after the other -/
noncomputable def wAsN (K : PySem.W.Frag) (i : Nat) (Wout : WX) (D : Ends) : List (Value × (Addr → Value → Option Addr → TS)) → WX
  | [] => Wout
  | p :: r => wAs K p.1 i p.2 (wAsN K i Wout D r) D
inductive HdsAs (X : Cx) (n : Str) : List ExceptHandler → List (Value × (Addr → Value → Option Addr → TS)) → Prop
  | nil : HdsAs X n [] []
  | cons {y : Str} {c : Value} {ts : Addr → Value → Option Addr → TS} {st : Stmt} {sts : List Stmt} {p q : Pos} {hds : List ExceptHandler} {l : List (Value × (Addr → Value → Option Addr → TS))} (named : Names X y c)
      (suite : ∀ (a : Addr) (oe : Obj) (cls : Value) (d : Option Addr) (pn : List (Addr × Obj)), Zc cls d oe → (∃ fs, oe.data = .fields fs) → PSs (X.suite a ((a, oe) :: pn)) (st :: sts) (ts a cls d)) (rest : HdsAs X n hds l) :
      HdsAs X n (.ExceptHandler (some (.Name y p)) (some n) (st :: sts) q :: hds) ((c, ts) :: l)
section
variable {X : Cx} {n : Str} {i : Nat} {body : List Stmt} {hd : ExceptHandler} {hds : List ExceptHandler} {l : List (Value × (Addr → Value → Option Addr → TS))} {pos : Pos} {tb : WX → TS} {Wout : WX}
end
/-! ### the mirror -/
abbrev ClM := (D → Option Bool) × (Addr → Option Addr → D → MS)
noncomputable def catchN (i : Nat) : List ClM → D → Env → List D → R Fl
  | [], x, r, cs => .err x r cs
  | p :: l, x, r, cs => match p.1 x with
    | some true => pickAll (mSuite i p.2 x (fldN x) (fldV x) r cs)
    | some false => catchN i l x r cs
    | none => .bad
noncomputable def mTryN (i : Nat) (mb : MS) (l : List ClM) : MS := fun r cs => match mb r cs with
  | .err x r' cs' => catchN i l x r' cs'
  | o => o
section
variable {X : Cx} {W : WX} {K : PySem.W.Frag}
/-- the clauses and what their suites say -/
inductive HdsM (X : Cx) (n : Str) : List ExceptHandler → List (Value × ClM) → Prop
  | nil : HdsM X n [] []
  | cons {y : Str} {c : Value} {tab : D → Option Bool} {mh : Addr → Option Addr → D → MS} {st : Stmt} {sts : List Stmt} {p q : Pos} {hds : List ExceptHandler} {l : List (Value × ClM)} (named : Names X y c) (ht : TabOk X.K c tab)
      (suite : ∀ (a : Addr) (oe : Obj) (cls : Value) (d : Option Addr) (pn : List (Addr × Obj)) (y : D), Zc cls d oe → (∃ vs, oe.data = .fields vs) → tab y = some true → clsOf y cls → JB (X.suite a ((a, oe) :: pn)) W0 (st :: sts) (mh a d y)) (rest : HdsM X n hds l) :
      HdsM X n (.ExceptHandler (some (.Name y p)) (some n) (st :: sts) q :: hds) ((c, (tab, mh)) :: l)
noncomputable def tsOf (K : PySem.W.Frag) (p : Value × ClM) : Value × (Addr → Value → Option Addr → TS) := (p.1, fun a cls d D σ H => ∃ y, p.2.1 y = some true ∧ clsOf y cls ∧ tS K W0 (p.2.2 a d y) D σ H)
theorem HdsM.as {n : Str} {hds : List ExceptHandler} {l : List (Value × ClM)} (h : HdsM X n hds l) : HdsAs X n hds (l.map (tsOf X.K)) := by
  induction h with
  | nil => exact .nil
  | cons named ht suite rest ih => exact .cons named (fun a oe cls d pn z f => ⟨fun pins s σ H D I ⟨y, h1, h2, h3⟩ => (suite a oe cls d pn y z f h1 h2).run pins s σ H D I h3⟩) ih
/-! ### isinstance(e, (A, B, ..)) -/
noncomputable def isxTD (a : Addr) (d : Option Addr) (tab : D → Option Bool) : OpC := fun ds cs => match ds with
  | [.exn a' d' _ _, .tup ts] => if a' = a ∧ d' = d then (match ts.mapM tab with
    | some bs => .ok (.bl (bs.any id)) cs
    | none => .bad) else .bad
  | _ => .bad
noncomputable def rIsXT (K : PySem.W.Frag) (C a : Addr) (d : Option Addr) : List V → Hp → VK → Prop := fun xs H Q => ∃ (tp : Addr) (cs : List V) (us : List Value) (b : Bool), xs = [.ref a, .ref tp] ∧ H tp = some (.tup cs) ∧ (∀ its, Vals cs its → its = us) ∧ PySem.W.kitAny K (.ref C) us = some b ∧ (d = none ∨ ∃ dd fs, d = some dd ∧ H dd = some (.xd fs)) ∧ Q (.bl b) H
theorem any_tab {K : PySem.W.Frag} {C : Addr} {tab : D → Option Bool} (hT : TabI K (.ref C) tab) {w : Wd} : ∀ {ts : List D} {bs : List Bool} {vs : List V}, ts.mapM tab = some bs → Reps K w ts vs → ∃ us, (∀ its, Vals vs its → its = us) ∧ PySem.W.kitAny K (.ref C) us = some (bs.any id)
  | [], bs, vs, h, r => by
    cases (show vs = [] from r)
    cases h
    refine ⟨[], fun its v => ?_, rfl⟩
    cases v
    rfl
  | t :: ts, bs, vs, h, r => by
    obtain ⟨v, vs', rfl, r1, r2⟩ := r
    rw [List.mapM_cons] at h
    cases ht : tab t with
    | none =>
      rw [ht] at h
      cases h
    | some b =>
      rw [ht] at h
      cases hm : ts.mapM tab with
      | none =>
        rw [hm] at h
        cases h
      | some bs' =>
        rw [hm] at h
        cases h
        obtain ⟨cv, e1, e2⟩ := hT t b ht
        obtain ⟨us, h1, h2⟩ := any_tab hT hm r2
        refine ⟨cv :: us, fun its v => ?_, ?_⟩
        · cases v with
          | cons q1 q2 =>
            rw [tyV_of r1 e1 _ q1, h1 _ q2]
        · unfold PySem.W.kitAny
          rw [e2]
          cases b with
          | true => rfl
          | false => exact h2
theorem cs_isxT {C a : Addr} {d : Option Addr} {tab : D → Option Bool} (hT : TabI K (.ref C) tab) : CallS K (rIsXT K C a d) (isxTD a d tab) := fun E w cs ds vs Q s rs h => by
  unfold isxTD at h
  split at h
  · rename_i a' d' ns l ts
    obtain ⟨v1, vs1, rfl, r1, v2, vs2, e2, r2, r3⟩ := rs
    cases (show vs2 = [] from r3)
    subst e2
    split at h
    · rename_i hh
      obtain ⟨rfl, rfl⟩ := hh
      obtain ⟨rfl, hx⟩ := r1
      obtain ⟨tp, xs, rfl, _, ht, rt⟩ := r2
      cases hm : ts.mapM tab with
      | none =>
        rw [hm] at h
        exact h.elim
      | some bs =>
        rw [hm] at h
        obtain ⟨us, h1, h2⟩ := any_tab hT hm rt
        refine ⟨tp, xs, us, _, rfl, ht, h1, h2, ?_, h w (Le.refl w) s _ rfl⟩
        rcases hx with ⟨_, _, z⟩ | ⟨dd, ys, z, _, z2, _⟩
        · exact .inl z
        · exact .inr ⟨dd, _, z, z2⟩
    · exact h.elim
  · exact h.elim
theorem call_isXT {a C : Addr} {oe : Obj} {cls : Value} {d : Option Addr} {pn : List (Addr × Obj)} (T : ExcC X.K C) (hz : Zc (.ref C) d oe) (hf : ∃ vs, oe.data = .fields vs) : CallR (X.suite a ((a, oe) :: pn)) (.builtin "isinstance") (rIsXT X.K C a d) := by
  intro pins s σ H xs us Q I r h
  obtain ⟨tp, cs, ws, b, rfl, hT, hws, e, hd, q⟩ := h
  cases r with
  | cons rx rr =>
    cases rr with
    | @cons _ u2 _ _ rt rr =>
      cases rr
      cases rx
      cases (show u2 = Value.ref tp from rt)
      obtain ⟨_, its, rv, o, h1, h2, n, h3⟩ := (show ObjOk X.prog X.w H s.heap tp (.tup cs) from I.hok tp _ hT)
      have e3 := hws _ rv
      subst e3
      obtain ⟨oc, od, dt, sl⟩ := o
      simp only at h2 h3
      subst h2 h3
      obtain ⟨hget, _⟩ := I.pin (a, oe) (List.mem_append.mpr (.inl List.mem_cons_self))
      obtain ⟨vs, hv⟩ := hf
      have hcl : (PySem.W.clsIn X.K C).isSome = true := by
        obtain ⟨cd, hc, _⟩ := PySem.W.any_some T.hd
        exact hc ▸ rfl
      have fin : ∀ od, PySem.W.InstAt s.heap a oe C od → wpAny (model X.prog X.w) (X.suite a ((a, oe) :: pn)).A (call (.builtin "isinstance") [.ref a, .ref tp]) (EP (X.suite a ((a, oe) :: pn)) pins σ Q) (X.suite a ((a, oe) :: pn)).xe s := fun od J =>
        PySem.W.kia_tup (PySem.W.kitx_exc hcl T.hg T.hk T.hs T.ha T.hn T.ht T.hm) I.kIn J h1 e (fun z => nomatch z) fun tk => ⟨.bl b, H, I.tok tk, rfl, q⟩
      rcases hd with hd | ⟨dd, fs, hd, hH⟩
      · refine fin none ⟨hget, hz.1, ?_, ?_⟩
        · unfold PySem.W.notCls
          rw [hv] <;> rfl
        · rw [hz.2, hd]
          trivial
      · obtain ⟨mA, hns, hr⟩ := (I.hok dd _ hH : ObjOk X.prog X.w H s.heap dd (.xd fs))
        obtain ⟨od, ho, hl⟩ := lookIn_ns hns
        refine fin (some od) ⟨hget, hz.1, ?_, ?_⟩
        · unfold PySem.W.notCls
          rw [hv] <;> rfl
        · rw [hz.2, hd]
          exact ho
/-! ### equations -/
variable {mb : MS} {r e : Env} {cs : List D} {l : List ClM} {x : D} {i : Nat} {fl : Fl} {v : R Fl} {tab : D → Option Bool} {mh : Addr → Option Addr → D → MS}
noncomputable def kTryN (i : Nat) (l : List ClM) : R Fl → R Fl := fun o => match o with
  | .err x r' cs' => catchN i l x r' cs'
  | o => o
theorem e_tryN : mTryN i mb l r cs = kTryN i l (mb r cs) := (rfl)
theorem k_tryNok : kTryN i l (.ok fl cs) = .ok fl cs := (rfl)
theorem k_tryNerr : kTryN i l (.err x e cs) = catchN i l x e cs := (rfl)
end
end Wf
set_option Elab.async false
set_option linter.all false
set_option maxRecDepth 100000
set_option maxHeartbeats 1000000
/-! Readings by mirrors: [e for a in x for b in y]; [*x, e]. -/
namespace Wf
open PySem PySem.Spec PyProof.Rows L2
section
variable {X : Cx} {W : WX} {K : PySem.W.Frag} {m me : M} {mt mt1 : MT} {ml : ML} {pos : Pos}
noncomputable def lc2F (g : D → Env → Option Env) (mt : MT) (mi1 : ML) (g1 : D → Env → Option Env) (mt1 : MT) (me : M) (vs1 : List Nat) (r : Env) : D → List D → R (List D) := fun d cs => match g d r with
  | some r' => (mt r' cs).bind fun b cs => if b then (mi1 r' cs).bind fun ds1 cs => mapR (lcF g1 mt1 me (wipeD r' vs1)) ds1 cs else .ok [] cs
  | none => .bad
noncomputable def mapL2 (f : D → List D → R (List D)) : List D → List D → R (List D)
  | [], cs => .ok [] cs
  | d :: ds, cs => (f d cs).bind fun xs cs => (mapL2 f ds cs).bind fun ys cs => .ok (xs ++ ys) cs
noncomputable def mLc2 (vs vs1 : List Nat) (mi : ML) (g : D → Env → Option Env) (mt : MT) (mi1 : ML) (g1 : D → Env → Option Env) (mt1 : MT) (me : M) : M := fun r cs =>
  (mi r cs).bind fun ds cs => (calmR (mapL2 (lc2F g mt mi1 g1 mt1 me vs1 (wipeD r vs)) ds cs)).bind fun ys cs => if ys.length < sizeLine then .ok (.lst ys) cs else .bad
variable {elt tg iter tg1 iter1 : Expr} {ifs ifs1 : List Expr} {scope : Scope} {own : List (Str × Nat)} {vs1 : List Nat} {wi wi1 : ML} {g g1 : TG} {gf gf1 : D → Env → Option Env}
/-! ### [*x, ..] -/
noncomputable def mStar (m : M) (ml : ML) : ML := fun r cs => (m r cs).bind fun d cs => match d with
  | .lst l => (ml r cs).bind fun ds cs => .ok (l ++ ds) cs
  | .ref q => match cs[q]? with
    | some (.lst l) => (ml r cs).bind fun ds cs => .ok (l ++ ds) cs
    | _ => .bad
  | _ => .bad
variable {e : Expr} {es : List Expr} {p : Pos}
/-! ### equations -/
variable {r : Env} {cs ds ys l : List D} {vs : List Nat} {d : D}
noncomputable def kLc2x (vs vs1 : List Nat) (gf : D → Env → Option Env) (mt : MT) (mi1 : ML) (gf1 : D → Env → Option Env) (mt1 : MT) (me : M) (r : Env) : List D → List D → R D := fun ds cs => (calmR (mapL2 (lc2F gf mt mi1 gf1 mt1 me vs1 (wipeD r vs)) ds cs)).bind (kLc2 kDone)
theorem e_lc2 : mLc2 vs vs1 wi gf mt wi1 gf1 mt1 me r cs = (wi r cs).bind (kLc2x vs vs1 gf mt wi1 gf1 mt1 me r) := (rfl)
theorem k_lc2x {cs' : List D} (h : mapL2 (lc2F gf mt wi1 gf1 mt1 me vs1 (wipeD r vs)) ds cs = .ok ys cs') (hz : ys.length < sizeLine) : kLc2x vs vs1 gf mt wi1 gf1 mt1 me r ds cs = .ok (.lst ys) cs' := by
  unfold kLc2x
  rw [h]
  exact if_pos hz
noncomputable def kStar (ml : ML) (r : Env) : D → List D → R (List D) := fun d cs => match d with
  | .lst l => (ml r cs).bind fun ds cs => .ok (l ++ ds) cs
  | .ref q => match cs[q]? with
    | some (.lst l) => (ml r cs).bind fun ds cs => .ok (l ++ ds) cs
    | _ => .bad
  | _ => .bad
theorem e_star : mStar m ml r cs = (m r cs).bind (kStar ml r) := (rfl)
theorem k_star : kStar ml r (.lst l) cs = (ml r cs).bind fun ds cs => .ok (l ++ ds) cs := (rfl)
theorem k_starR {q : Nat} (h : cs[q]? = some (.lst l)) : kStar ml r (.ref q) cs = (ml r cs).bind fun ds cs => .ok (l ++ ds) cs := by
  show (match cs[q]? with
    | some (.lst l) => (ml r cs).bind fun ds cs => .ok (l ++ ds) cs
    | _ => .bad) = _
  rw [h]
end
end Wf
set_option Elab.async false
set_option linter.all false
set_option maxRecDepth 100000
set_option maxHeartbeats 1000000
/-! Readings by mirrors: f(k = v, ..) where a keyword-only default fills up; a def that hands back all the cells it made. -/
namespace Wf
open PySem PySem.Spec PyProof.Rows L2
section
variable {X : Cx} {W : WX}
/-- keywords ks are written, the values mv of the lacking ones stand behind them -/
noncomputable def KBd (K : PySem.W.Frag) (fd : FuncData) (ps ks : List Str) (ix : List Nat) (mv : List Value) : Prop := ∀ (s : Shared) (ws : List Value), K.In s.heap → ws.length = ks.length → BindsTo s fd ⟨[], ks.zip ws⟩ (ps.zip (pick ix (ws ++ mv)))
variable {k : Nat} {f : Addr} {fd : FuncData} {ps ks : List Str} {fn : Fn} {x : Str} {p : Pos} {mk : ML} {kws : List Keyword} {ix : List Nat} {dvs : List V} {dsv : List Value} {dfl : List D} {pos : Pos}
noncomputable def mCallK0D (f : Fn) (nk : Nat) (dfl : List D) (ix : List Nat) (mk : ML) : M := fun r cs => (mk r cs).bind fun es cs => if es.length = nk then noteE r (f (pick ix (es ++ dfl)) cs) else .bad
end
/-! ### a def that hands back all its cells -/
noncomputable def finRA (n : Nat) : R Fl → R D
  | .ok (.nx _) cs => .ok .non (cs.take n)
  | .ok (.ret d) cs => .ok d cs
  | .err x _ cs => if nr x = true then .err x [] (cs.take n) else .bad
  | _ => .bad
noncomputable def mDefA (nps nn : Nat) (m : MS) : Fn := fun ds cs => if ds.length = nps then finRA cs.length (m (env0 nn ds) cs) else .bad
section
variable {P : Program} {w : World} {K : PySem.W.Frag} {mg : Str → Option Value} {base : Heap} {x qual : Str} {st : Stmt} {f : Addr} {fd : FuncData} {N ps : List Str} {k : Nat}
end
/-! ### equations -/
section
variable {r : Env} {cs es : List D} {fn : Fn} {nk : Nat} {dfl : List D} {ix : List Nat} {mk : ML} {d : D} {n : Nat} {e : Env}
noncomputable def kCallKD (f : Fn) (nk : Nat) (dfl : List D) (ix : List Nat) (r : Env) : List D → List D → R D := fun es cs => if es.length = nk then noteE r (f (pick ix (es ++ dfl)) cs) else .bad
theorem e_callK0D : mCallK0D fn nk dfl ix mk r cs = (mk r cs).bind (kCallKD fn nk dfl ix r) := (rfl)
theorem k_callK0D (h : es.length = nk) : kCallKD fn nk dfl ix r es cs = noteE r (fn (pick ix (es ++ dfl)) cs) := if_pos h
end
end Wf
set_option Elab.async false
set_option linter.all false
set_option maxRecDepth 100000
set_option maxHeartbeats 1000000
/-! Readings by mirrors: isinstance(x, C) and x == y for instances of an own class; f(e, ..) where keyword-only defaults fill up. -/
namespace Wf
open PySem PySem.Spec PyProof.Rows L2
section
variable {X : Cx} {W : WX} {K : PySem.W.Frag} {w : Wd} {cs : List D} {C f : Addr} {fd : FuncData} {ps : List Str} {fn : Fn} {k : Nat}
/-! ### isinstance -/
structure InsK (K : PySem.W.Frag) (C : Addr) : Prop where
  cl : Cls K C
  ha : PySem.W.findIn K (.ref C) "__class__" = some (some (.builtin "object.__class__"))
  hn : PySem.W.specialIn K (.builtin "object.__class__") "__get__" = some (some (.builtin "getset_descriptor.__get__"))
  tk : PySem.W.takesIn K (.builtin "object.__class__") = some true
  hm : PySem.W.mroIn K C (.type "object") = some true
  hk : PySem.W.kitOne K (.ref C) (.ref C) = some true
noncomputable def isiOD (C : Addr) : OpC := fun ds cs => match ds with
  | [d, .rf C'] => match insOf cs d with
    | some (C0, _, _) => if C0 = C ∧ C' = C then .ok (.bl true) cs else .bad
    | none => .bad
  | _ => .bad
/-! ### x == y -/
noncomputable def rEqOwn (C : Addr) (sp : Sp) : R2 := fun x y H Q => ∃ a b dx dy fs gs, x = .ref a ∧ y = .ref b ∧ H a = some (.ins C dx fs) ∧ H b = some (.ins C dy gs) ∧ sp [x, y] H (fun v H' => ∃ b, v = .bl b ∧ Q (.bl b) H') no0
noncomputable def eqOwnD (C : Addr) (f : Fn) : Op2 := fun x y cs => match insOf cs x, insOf cs y with
  | some (C1, _, _), some (C2, _, _) => if C1 = C ∧ C2 = C then (calmR (f [x, y] cs)).bind fun d cs' => match d with
    | .bl b => .ok (.bl b) cs'
    | _ => .bad else .bad
  | _, _ => .bad
/-! ### f(e, ..), keyword-only defaults fill up -/
variable {x : Str} {p : Pos} {e : Expr} {es : List Expr} {ml : ML} {dvs : List V} {dsv : List Value} {dfl : List D} {pos : Pos}
noncomputable def mCallP (f : Fn) (dfl : List D) (ml : ML) : M := fun r cs => (ml r cs).bind fun ds cs => noteE r (f (ds ++ dfl) cs)
/-! ### equations -/
variable {r : Env} {ds ns l ns2 l2 : List D} {d y : D}
noncomputable def kCallP (f : Fn) (dfl : List D) (r : Env) : List D → List D → R D := fun ds cs => noteE r (f (ds ++ dfl) cs)
end
end Wf
set_option Elab.async false
set_option linter.all false
set_option maxRecDepth 100000
set_option maxHeartbeats 1000000
/-! Readings by mirrors: a name that is data on one way and a cell on the other settles. -/
namespace Wf
open PySem PySem.Spec PyProof.Rows L2
noncomputable def mFrzW (k : Nat) : MS := fun r cs => match r[k]? with
  | some (some (.ref i)) => match cs[i]? with
    | some (.lst l) => .ok (.nx (r.set k (some (.lst l)))) (cs.set i .non)
    | _ => .bad
  | some (some (.lst _)) => .ok (.nx r) cs
  | _ => .bad
noncomputable def kFrzW (k : Nat) (r : Env) (cs : List D) : R Fl := mFrzW k r cs
end Wf
set_option Elab.async false
set_option linter.all false
set_option maxRecDepth 100000
set_option maxHeartbeats 1000000
/-! == and `in` over data made of None, whole numbers, texts, tuples and lists. -/
namespace Wf
open PySem PySem.Spec PyProof.Rows L2
mutual
noncomputable def gd (n : Nat) : D → Bool
  | .non => true
  | .int _ => true
  | .str s => PyData.strOk s
  | .tup l => match n with
    | 0 => false
    | m + 1 => gds m l
  | .lst l => match n with
    | 0 => false
    | m + 1 => gds m l
  | _ => false
noncomputable def gds (n : Nat) : List D → Bool
  | [] => true
  | d :: ds => gd n d && gds n ds
end
end Wf
set_option Elab.async false
set_option linter.all false
set_option maxRecDepth 100000
set_option maxHeartbeats 1000000
/-! Readings by mirrors: l.pop(), len(d), list(d), {k: v}, a dict in a name settles. -/
namespace Wf
open PySem PySem.Spec PyProof.Rows L2
section
variable {X : Cx} {W : WX} {K : PySem.W.Frag} {w : Wd} {cs : List D}
noncomputable def popD : OpM := fun x ds cs => match x, ds with
  | .ref i, [] => match cs[i]? with
    | some (.lst l) => match l.getLast? with
      | some d => if nrs l = true then .ok d (cs.set i (.lst l.dropLast)) else .bad
      | none => .bad
    | _ => .bad
  | _, _ => .bad
/-! ### dicts -/
noncomputable def keyD : Key → D
  | .inl i => .int i
  | .inr z => .str z
noncomputable def rLenK : List V → Hp → VK → Prop := fun xs H Q => ∃ a kvs, xs = [V.ref a] ∧ H a = some (.dK kvs) ∧ Q (.int (List.length (α := Key × V) kvs)) H
noncomputable def lenKD : OpC := fun ds cs => match ds with
  | [d] => match dctOf cs d with
    | some (ks, _) => .ok (.int ks.length) cs
    | none => .bad
  | _ => .bad
noncomputable def rListK : List V → Hp → VK → Prop := fun xs H Q => ∃ (a : Addr) (kvs : List (Key × V)), xs = [.ref a] ∧ Rd H a (.dK kvs) ∧ ∀ p, H p = none → Q (.ref p) (upd H p (.lst (kvs.map fun kv => kV kv.1)))
noncomputable def listKD : OpC := fun ds cs => match ds with
  | [d] => match dctOf cs d with
    | some (ks, _) => .ok (.lst (ks.map keyD)) cs
    | none => .bad
  | _ => .bad
noncomputable def listKDL : OpC := fun ds cs => match ds with
  | [d] => match dctOf cs d with
    | some (ks, _) => .ok (.ref cs.length) (cs ++ [.lst (ks.map keyD)])
    | none => .bad
  | _ => .bad
/-! ### {k: v} -/
variable {k v : Expr} {mk mv : M} {pos : Pos}
noncomputable def mDisp1 (mk mv : M) : M := fun r cs => (mk r (cs ++ [.dct [] []])).bind fun k cs1 => (mv r cs1).bind fun d cs2 => match keyOf k, cs2[cs.length]? with
  | some q, some (.dct [] []) => if nr d = true then .ok (.ref cs.length) (cs2.set cs.length (.dct [q] [d])) else .bad
  | _, _ => .bad
noncomputable def kDisp2 (n : Nat) (k : D) : D → List D → R D := fun d cs2 => match keyOf k, cs2[n]? with
  | some q, some (.dct [] []) => if nr d = true then .ok (.ref n) (cs2.set n (.dct [q] [d])) else .bad
  | _, _ => .bad
noncomputable def kDisp1 (n : Nat) (mv : M) (r : Env) : D → List D → R D := fun k cs1 => (mv r cs1).bind (kDisp2 n k)
/-! ### a dict in a name settles -/
noncomputable def mFrzC (k : Nat) : MS := fun r cs => match r[k]? with
  | some (some (.ref i)) => match cs[i]? with
    | some (.dct ks l) => .ok (.nx (r.set k (some (.dct ks l)))) (cs.set i .non)
    | _ => .bad
  | _ => .bad
end
end Wf
set_option Elab.async false
set_option linter.all false
set_option maxRecDepth 100000
set_option maxHeartbeats 1000000
/-! len(o) by an own __len__; walking o, whose own __iter__ hands back iter(self.f). -/
namespace Wf
open PySem PySem.Spec PyProof.Rows L2 ItX
section
variable {X : Cx} {W : WX} {K : PySem.W.Frag} {w : Wd} {cs : List D} {C f : Addr} {fd : FuncData} {ps : List Str} {fn : Fn} {k : Nat}
/-! ### len(o) -/
noncomputable def rLenOwn (C : Addr) (sp : Sp) : List V → Hp → VK → Prop := fun xs H Q => ∃ a dx fs, xs = [.ref a] ∧ H a = some (.ins C dx fs) ∧ sp [.ref a] H (fun v H' => ∃ n : Int, v = .int n ∧ 0 ≤ n ∧ n < 2 ^ 62 ∧ Q (.int n) H') no0
noncomputable def lenOD (C : Addr) (f : Fn) : OpC := fun ds cs => match ds with
  | [x] => match insOf cs x with
    | some (C', _, _) => if C' = C then (calmR (f [x] cs)).bind fun d cs' => match d with
      | .int n => if 0 ≤ n ∧ n < 2 ^ 62 then .ok (.int n) cs' else .bad
      | _ => .bad else .bad
    | none => .bad
  | _ => .bad
/-! ### for x in o -/
/-- what an own __iter__ does that hands back iter(self.f) -/
noncomputable def ItEnd (H : Hp) (n : Nat) (l : Addr) : VK := fun v H' => ∃ it, v = .ref it ∧ n ≤ it ∧ H it = none ∧ H' = upd H it (ItO l it 0)
structure ItFn (P : Program) (w : World) (K : PySem.W.Frag) (mg : Str → Option Value) (base : Heap) (C fi : Addr) (fld : Str) : Prop where
  run : ∀ (A : Around) (outer : List PySem.Env) (s : Shared) (H : Hp) (a dx : Addr) (fs : List (Str × V)) (l : Addr) (zs : List V), Room 1 A → Env0 P w K mg base A outer s H → H a = some (.ins C dx fs) → fs.lookup fld = some (.ref l) → SqL K H l zs →
    codeAny (model P w) A (.call (.ref fi) ⟨[.ref a], []⟩) (CR (L2.CX P w) outer P w H s (ItEnd H s.heap.objs.size l) no0) s
/-- an own class with an own __iter__ -/
structure ItK (K : PySem.W.Frag) (C fi : Addr) : Prop where
  it : PySem.W.findIn K (.ref C) "__iter__" = some (some (.ref fi))
  fn : PySem.W.isFn K (.ref fi) = true
noncomputable def iOwn (K : PySem.W.Frag) (C : Addr) (fld : Str) (t : TE) : TI := fun σ H R => t σ H fun x H1 => ∃ a dx fs l zs, x = .ref a ∧ H1 a = some (.ins C dx fs) ∧ fs.lookup fld = some (.ref l) ∧ SqL K H1 l zs ∧ R (Itl K l) H1
noncomputable def itI (C : Addr) (fld : Str) (d : D) : Option (List D) := match d with
  | .ins C' ns l => if C' = C then match (ns.zip l).lookup fld with
    | some (.lst xs) => some xs
    | _ => none else none
  | _ => none
/-! ### list(o) -/
noncomputable def OwnLen (C : Addr) (f : Addr) (K : PySem.W.Frag) : Prop := PySem.W.findIn K (.ref C) "__len__" = some (some (.ref f)) ∧ PySem.W.isFn K (.ref f) = true
/-- behind the hint: the list q stands empty, l still reads zs -/
noncomputable def HintEnd (K : PySem.W.Frag) (q l : Addr) (zs : List V) (R : Hp → Prop) : VK := fun v H' => ∃ n : Int, v = .int n ∧ 0 ≤ n ∧ n ≤ (sizeLine : Nat) ∧ H' q = some (.lst []) ∧ SqL K H' l zs ∧ q ≠ l ∧ R H'
noncomputable def rListOwn (K : PySem.W.Frag) (C : Addr) (fld : Str) (sp : Sp) : List V → Hp → VK → Prop := fun xs H Q => ∃ a dx fs l zs, xs = [.ref a] ∧ H a = some (.ins C dx fs) ∧ fs.lookup fld = some (.ref l) ∧ SqL K H l zs ∧ zs.length < sizeLine ∧
  ∀ q, H q = none → sp [.ref a] (upd H q (.lst [])) (HintEnd K q l zs fun H' => Q (.ref q) (upd H' q (.lst zs))) no0
noncomputable def listO2 (n : Nat) (xs : List D) : D → List D → R D := fun d cs1 => match d, cs1[n]? with
  | .int m, some (.lst []) => if 0 ≤ m ∧ m ≤ (sizeLine : Nat) ∧ nrs xs = true then .ok (.ref n) (cs1.set n (.lst xs)) else .bad
  | _, _ => .bad
noncomputable def listOD (C : Addr) (fld : Str) (f : Fn) : OpC := fun ds cs => match ds with
  | [.ins C' ns l] => if C' = C then (match (ns.zip l).lookup fld with
    | some (.lst xs) => if xs.length < sizeLine then (calmR (f [.ins C' ns l] (cs ++ [.lst []]))).bind (listO2 cs.length xs) else .bad
    | _ => .bad) else .bad
  | _ => .bad
/-! ### o == y, whatever y is; isinstance(y, C) that says no -/
inductive TyB (H : Hp) : V → String → Prop where
  | non : TyB H .non "NoneType"
  | bl (x : Bool) : TyB H (.bl x) "bool"
  | int (i : Int) : TyB H (.int i) "int"
  | str (x : Str) : TyB H (.str x) "str"
  | lst {a : Addr} {xs : List V} (e : H a = some (.lst xs)) : TyB H (.ref a) "list"
  | tup {a : Addr} {xs : List V} (e : H a = some (.tup xs)) : TyB H (.ref a) "tuple"
/-- no class of ours stands above a built-in one -/
structure AlienK (K : PySem.W.Frag) (C : Addr) : Prop where
  nf : ∀ t ∈ ["NoneType", "bool", "int", "str", "list", "tuple"], PySem.W.notFirst K C (.type t) = true
  ki : ∀ t ∈ ["NoneType", "bool", "int", "str", "list", "tuple"], PySem.W.kitOne K (.type t) (.ref C) = some false
theorem TyB.ty {H : Hp} {y : V} {t : String} (h : TyB H y t) : TyX K H y (.type t) := by
  cases h with
  | non => exact .base .non
  | bl b => exact .base (.bl b)
  | int b => exact .base (.int b)
  | str b => exact .base (.str b)
  | lst e => exact .base (.lst e)
  | tup e => exact .base (.tup e)
noncomputable def tyB (d : D) : Option String := match d with
  | .non => some "NoneType"
  | .bl _ => some "bool"
  | .int _ => some "int"
  | .str _ => some "str"
  | .lst _ => some "list"
  | .tup _ => some "tuple"
  | _ => none
noncomputable def rEqOth (C : Addr) (sp : Sp) : R2 := fun x y H Q => ∃ a dx fs t, x = .ref a ∧ H a = some (.ins C dx fs) ∧ TyB H y t ∧ sp [x, y] H (fun v H' => ∃ b, v = .bl b ∧ Q (.bl b) H') no0
noncomputable def eqOthD (C : Addr) (f : Fn) : Op2 := fun x y cs => match insOf cs x, tyB y with
  | some (C1, _, _), some _ => if C1 = C then (calmR (f [x, y] cs)).bind fun d cs' => match d with
    | .bl b => .ok (.bl b) cs'
    | _ => .bad else .bad
  | _, _ => .bad
/-- an instance of C, or a thing of a built-in type -/
noncomputable def isiAD (C : Addr) : OpC := fun ds cs => match ds with
  | [d, .rf C'] => if C' = C then (match tyB d with
    | some _ => .ok (.bl false) cs
    | none => isiOD C [d, .rf C'] cs) else .bad
  | _ => .bad
end
end Wf
set_option Elab.async false
set_option linter.all false
set_option maxRecDepth 100000
set_option maxHeartbeats 1000000
/-! Readings by mirrors: split, partition, upper, int(text), f-strings. -/
namespace Wf
open PySem PySem.Spec PyProof.Rows L2
section
variable {X : Cx} {W : WX} {K : PySem.W.Frag} {w : Wd} {cs : List D}
noncomputable def splitD : OpM := fun x ds cs => match x, ds with
  | .str a, [.str b] => if (b.length == 0) = false ∧ a.length + 2 ≤ sizeLine then .ok (.lst ((Txt.split a b).map .str)) cs else .bad
  | _, _ => .bad
noncomputable def partD : OpM := fun x ds cs => match x, ds with
  | .str a, [.str b] => if (b.length == 0) = false ∧ a.length ≤ sizeLine then .ok (.tup [.str (Txt.partition a b).1, .str (Txt.partition a b).2.1, .str (Txt.partition a b).2.2]) cs else .bad
  | _, _ => .bad
noncomputable def upperD : OpM := fun x ds cs => match x, ds with
  | .str a, [] => if a.length ≤ 5592405 then .ok (.str (Txt.upper a)) cs else .bad
  | _, _ => .bad
theorem ms_upper : MtS K (fun x xs H Q => ∃ a, x = .str a ∧ xs = [] ∧ a.length ≤ 5592405 ∧ Q (.str (Txt.upper a)) H) upperD := fun E w cs x vx ds vs Q s rx rs h => by
  unfold upperD at h
  split at h
  · rename_i a
    cases (show vx = .str a from rx)
    have hv : vs = [] := rs
    subst hv
    obtain ⟨hl, h⟩ := if_bad h
    exact ⟨a, rfl, rfl, hl, aft s h rfl⟩
  · exact h.elim
theorem o_upper {a : Str} (h : a.length ≤ 5592405) : upperD (.str a) [] cs = .ok (.str (Txt.upper a)) cs := if_pos h
/-- int(text) -/
noncomputable def intSD : OpC := fun ds cs => match ds with
  | [.str a] => match PySem.intText? a with
    | some n => if a.length ≤ 640 then .ok (.int n) cs else .bad
    | none => .bad
  | _ => .bad
/-! ### f-strings -/
/-- {x}: a text or a number, as a text -/
noncomputable def fmtD (d : D) (cs : List D) : R D := match d with
  | .str y => if y.length ≤ sizeLine then .ok (.str y) cs else .bad
  | .int i => if i.natAbs.log2 < 1920 then .ok (.str (Str.ofString (toString i))) cs else .bad
  | _ => .bad
noncomputable def mFmt (m : M) : M := fun r cs => (m r cs).bind fmtD
/-- texts one behind the other -/
noncomputable def mJs : List M → Str → Wf.Env → List D → R Str
  | [], acc, _, cs => .ok acc cs
  | m :: ms, acc, r, cs => (m r cs).bind fun d cs1 => match d with
    | .str y => if (acc ++ y).length ≤ sizeLine then mJs ms (acc ++ y) r cs1 else .bad
    | _ => .bad
noncomputable def mJoin (ms : List M) : M := fun r cs => (mJs ms Str.empty r cs).bind fun y cs => .ok (.str y) cs
inductive JJ (X : Cx) (W : WX) : List Expr → List M → Prop where
  | nil : JJ X W [] []
  | cons {e : Expr} {m : M} {es : List Expr} {ms : List M} (h : JE X W e m) (r : JJ X W es ms) : JJ X W (e :: es) (m :: ms)
/-! equations -/
end
end Wf
set_option Elab.async false
set_option linter.all false
set_option maxRecDepth 100000
set_option maxHeartbeats 1000000
/-! Readings by mirrors: z or .. of texts. -/
namespace Wf
open PySem PySem.Spec PyProof.Rows L2
section
variable {X : Cx} {W : WX} {K : PySem.W.Frag} {a b : Expr} {m n : M} {rest : List Expr} {pos : Pos}
noncomputable def kOrS (n : M) (r : Wf.Env) : D → List D → R D := fun d cs => match d with
  | .str z => if z.length ≤ sizeLine then (if z.length = 0 then n r cs else .ok (.str z) cs) else .bad
  | _ => .bad
noncomputable def mOrS (m n : M) : M := fun r cs => (m r cs).bind (kOrS n r)
theorem je_orS (h : JE X W a m) (k : JE X W (.BoolOp .Or (b :: rest) pos) n) : JE X W (.BoolOp .Or (a :: b :: rest) pos) (mOrS m n) := by
  refine peI (pe_orT h k) fun σ H Q ⟨w, rr, cs, e, s, ev, a⟩ => ?_
  refine ⟨w, rr, cs, e, s, ev, (After.bind a).imp fun x cs1 w1 l1 s1 a1 v r1 => ?_⟩
  cases x with
  | str z =>
    obtain ⟨hl, a1⟩ := if_bad a1
    cases (show v = .str z from r1)
    refine ⟨((z.length : Int) != 0), ⟨hl, rfl⟩, ?_⟩
    by_cases h0 : z.length = 0
    · rw [if_pos h0] at a1
      rw [if_neg (by simp [h0])]
      exact ⟨w1, rr, cs1, rfl, s1, ev.mono l1, a1⟩
    · rw [if_neg h0] at a1
      rw [if_pos (by simp; omega)]
      exact a1 w1 (Le.refl w1) s1 _ rfl
  | _ => exact a1.elim
theorem e_orS {r : Wf.Env} {cs : List D} : mOrS m n r cs = (m r cs).bind (kOrS n r) := (rfl)
theorem k_orSN {r : Wf.Env} {cs : List D} {z : Str} (h : z.length = 0) : kOrS n r (.str z) cs = n r cs := by
  unfold kOrS
  dsimp only
  rw [if_pos (by rw [h]; exact Nat.zero_le _), if_pos h]
theorem k_orSY {r : Wf.Env} {cs : List D} {z : Str} (hl : z.length ≤ sizeLine) (h : z.length ≠ 0) : kOrS n r (.str z) cs = .ok (.str z) cs := by
  unfold kOrS
  dsimp only
  rw [if_pos hl, if_neg h]
end
end Wf
set_option Elab.async false
set_option linter.all false
set_option maxRecDepth 100000
set_option maxHeartbeats 1000000
/-! Readings by mirrors: enumerate(xs, start=k). -/
namespace Wf
open PySem PySem.Spec PyProof.Rows L2
/-- as Ite, the numbers from k on -/
noncomputable def ItE (K : PySem.W.Frag) (a : Addr) (k : Nat) : It :=
  ⟨fun i H => ∃ (ys : List V) (y : V), SqL K H a ys ∧ ys[i]? = some y, fun i H v H' => ∃ T y, v = .ref T ∧ H T = none ∧ H' = upd H T (.tup [.int ((k + i : Nat) : Int), y]) ∧ ∀ ys, SqL K H a ys → ys[i]? = some y, fun i H => ∃ ys : List V, SqL K H a ys ∧ ys.length ≤ i⟩
noncomputable def iEnumS (K : PySem.W.Frag) (k : Nat) (ta : TA) : TI := fun σ H R => ta σ H fun vs H1 => ∃ a ys, vs = [.ref a] ∧ SqL K H1 a ys ∧ R (ItE K a k) H1
section
variable {X : Cx} {W : WX} {K : PySem.W.Frag} {e : Expr} {m : M}
noncomputable def kEnumS (k : Nat) : D → List D → R (List D) := fun d cs => match d with
  | .lst l => .ok (enumL k l) cs
  | _ => .bad
noncomputable def mEnumS (k : Nat) (m : M) : ML := fun r cs => (m r cs).bind (kEnumS k)
/-! ### str(i), to 10^18 -/
noncomputable def strXD : OpC := fun ds cs => match ds with
  | [.int i] => if i.natAbs < 1000000000000000000000 then .ok (.str (toString i)) cs else .bad
  | _ => .bad
end
end Wf
set_option Elab.async false
set_option linter.all false
set_option maxRecDepth 100000
set_option maxHeartbeats 1000000
/-! Exceptions as values: made, asked by isinstance, their fields read. -/
namespace Wf
open PySem PySem.Spec PyProof.Rows L2
section
variable {X : Cx} {W : WX} {K : PySem.W.Frag} {x : Str} {e : Expr} {es : List Expr} {ml : ML} {m : M} {p pos : Pos} {r : Env} {cs : List D}
/-! ### C() -/
noncomputable def mXob0 (C : Addr) : M := fun r cs => .ok (.xob C [] []) cs
theorem pe_xob0 {C : Addr} {bmB : List Value} {B newId initId : String} (F : ExcBaseFacts B newId initId bmB) (q : PySem.W.excIn X.K C bmB newId = true) (gC : X.mg x = some (.ref C)) (kC : PySem.W.keepIn X.K (.ref C) = true) (hg : Gl X x)
    (hdb : (x == ("__debug__" : Str)) = false := by decide) : PE X (.Call (.Name x p) [] [] pos) (fun σ H Q => ∀ a, H a = none → Q (.ref a) (upd H a (exo a C none))) := by
  refine ⟨fun pins s σ H Q I h => ?_⟩
  refine wpAny_Call_Name_kw (ld_glob I hg gC ?_ hdb)
  refine PySem.W.callWith_K0 I.kIn kC ?_
  obtain ⟨bm, N, nm, qn, bs, hdct, sn, sub, ab, col, dd, k0, k1, k2, k3, k5, mN, hC, hN, hni, T⟩ := exc_obj I.kIn q
  refine wpAny_call_exc_subT F T hC hN hni (fun h' e hm => ?_) (Nat.zero_le _)
  have hn : H e = none := I.hok.gone hm.new
  obtain ⟨t, ht, _, _⟩ := hm.there
  exact ⟨.ref e, upd H e (exo e C none), I.laidN hm.keeps hm.new hn (exo_ok ht), rfl, h e hn⟩
theorem je_xob0 {C : Addr} {bmB : List Value} {B newId initId : String} (F : ExcBaseFacts B newId initId bmB) (q : PySem.W.excIn X.K C bmB newId = true) (T : Xc X.K C) (gC : X.mg x = some (.ref C)) (hg : Gl X x)
    (hdb : (x == ("__debug__" : Str)) = false := by decide) : JE X W (.Call (.Name x p) [] [] pos) (mXob0 C) := by
  refine peI (pe_xob0 F q gC T.ke hg hdb) fun σ H Q ⟨w, rr, cs, e, s, ev, a⟩ => ?_
  subst e
  intro b hb
  have le := s.le_new (o := exo b C none) hb
  exact a (w.new b (exo b C none)) le (s.new hb) (.ref b) ⟨b, rfl, .inr rfl, .inl ⟨rfl, rfl, upd_same⟩⟩
/-! ### C(e, ..), C's own __init__ -/
noncomputable def mXobO (C : Addr) (ns : List Str) (ml : ML) : M := fun r cs => (ml r cs).bind fun ds cs => if ds.length = ns.length then .ok (.xob C ns.reverse ds.reverse) cs else .bad
noncomputable def tMkV (C : Addr) (sp : Sp) (ta : TA) : TE := fun σ H Q => ta σ H fun vs H1 => vs.length ≤ 1000 ∧ ∀ a, H1 a = none → sp (.ref a :: vs) (upd H1 a (exo a C none)) (fun v H2 => v = .non ∧ Q (.ref a) H2) (fun _ _ _ => False)
theorem pe_oexV {CX : CXT} {C fI : Addr} {k : Nat} {fd : FuncData} {ps : List Str} {sp : Sp} {ta : TA} (T : OexC X.K C) (iC : PySem.W.findIn X.K (.ref C) "__init__" = some (some (.ref fI))) (tI : PySem.W.typeIn X.K (.ref fI) = some (.type "function"))
    (F1 : FnOk X.prog X.w X.K X.mg X.base CX k fI fd ps sp) (hr : Room (k + 1) X.A) (hb : Binds X.K fd ps []) (hx : Passes CX X (fun _ _ _ => False)) (hg : Gl X x) (hm : X.mg x = some (.ref C)) (ha : PA X (e :: es) ta)
    (hdb : (x == ("__debug__" : Str)) = false := by decide) (he : starEach (e :: es) X.env = (false, eval e X.env) :: starEach es X.env := by rfl) (hpl : (backTo pos (starEach es X.env)).any (·.1) = false := by rfl) :
    PE X (.Call (.Name x p) (e :: es) [] pos) (tMkV C sp ta) := by
  refine ⟨fun pins s σ H Q I h => ?_⟩
  obtain ⟨nm, q, N, bs, bm, sn, sub, ab, col, dd, k0, k1, k2, k3, k5, hC, hbm⟩ := T.cls
  refine wpAny_Call_Name_kw (ld_glob I hg hm ?_ hdb)
  refine PySem.W.callWith_K (h₀ := X.base) I.ok.mod.kin T.kC (thn (ha.run pos pins s σ H _ I h) fun us s1 ⟨vs, H1, I1, r1, hz, q1⟩ => ⟨I1.kIn, ?_⟩) he hpl
  show wpAny _ _ (call (.ref C) us) _ _ _
  obtain ⟨hp, g, dr, tk, os⟩ := s1
  have hsz : hp.objs.size ≤ hp.objs.size + 1 := Nat.le_succ _
  have hn : H1 (hp.objs.size + 1) = none := I1.hok.fresh hsz
  have hq := q1 (hp.objs.size + 1) hn
  have kk : ∀ b o, hp.get? b = some o → ((hp.push (PySem.W.kdv_tup us)).push (PySem.HandSPX.excO C hp.objs.size)).get? b = some o := fun b o e => Heap.get?_push_of_some _ (Heap.get?_push_of_some _ e)
  have hget : ((hp.push (PySem.W.kdv_tup us)).push (PySem.HandSPX.excO C hp.objs.size)).get? (hp.objs.size + 1) = some (PySem.HandSPX.excO C hp.objs.size) := by heap_get
  have I2 : Inv X pins σ (upd H1 (hp.objs.size + 1) (exo (hp.objs.size + 1) C none)) ⟨(hp.push (PySem.W.kdv_tup us)).push (PySem.HandSPX.excO C hp.objs.size), g, dr, tk, os⟩ :=
    I1.laid (t' := tk) (a := hp.objs.size + 1) (o := exo (hp.objs.size + 1) C none) (h' := (hp.push (PySem.W.kdv_tup us)).push (PySem.HandSPX.excO C hp.objs.size)) kk hsz (exo_ok hget)
  have r2 : Vals (V.ref (hp.objs.size + 1) :: vs) (Value.ref (hp.objs.size + 1) :: us) := .cons rfl r1
  have hl : (Value.ref (hp.objs.size + 1) :: us ++ []).length = ps.length := by
    have e := r2.length
    rw [F1.len _ _ _ _ hq] at e
    rw [List.append_nil]
    exact e.symm
  have hus : us.length ≤ sizeLine := by
    rw [← Paired.length r1, sizeLine_eq]
    omega
  have b2 := hb _ (Value.ref (hp.objs.size + 1) :: us) I2.kIn hl
  rw [List.append_nil] at b2
  refine wpAny_call (PySem.HandSPX.call_own F.excBase_ValueError (fun Y => PySem.HandSPX.refsVE_contains Y bm hbm) (I1.kIn _ _ hC) (PySem.W.looks_findIn I1.kIn iC) (fun self => PySem.W.bind_fn I1.kIn self tI) hus
    (codeAny_mono (F1.run _ X.stack _ _ ⟨Value.ref (hp.objs.size + 1) :: us, []⟩ (Value.ref (hp.objs.size + 1) :: us) _ _ (fun _ _ _ => False) (hr.make C us []) (I2.env0.make C us []) b2 r2 hq) fun r s' hq' => ?_))
  cases r with
  | error er => exact hx pins σ _ _ er s' I2 hq'
  | ok fl =>
    cases fl with
    | ret u =>
      obtain ⟨v, H', I3, rv, ev, q3⟩ := I2.after hq'
      subst ev
      exact ⟨rv, ⟨V.ref (hp.objs.size + 1), H', I3, rfl, q3⟩⟩
    | next => exact False.elim hq'
    | brk => exact False.elim hq'
    | cont => exact False.elim hq'
theorem je_xobO {C fI : Addr} {ns : List Str} {k : Nat} {fd : FuncData} {ps : List Str} (T : OexC X.K C) (iC : PySem.W.findIn X.K (.ref C) "__init__" = some (some (.ref fI))) (tI : PySem.W.typeIn X.K (.ref fI) = some (.type "function"))
    (F1 : FnOk X.prog X.w X.K X.mg X.base (L2.CX X.prog X.w) k fI fd ps (iniSp X.K C ns)) (hr : Room (k + 1) X.A) (hb : Binds X.K fd ps []) (hg : Gl X x) (hm : X.mg x = some (.ref C)) (hn : ns.length ≤ 800) (ha : JA X W (e :: es) ml)
    (hdb : (x == ("__debug__" : Str)) = false := by decide) (he : starEach (e :: es) X.env = (false, eval e X.env) :: starEach es X.env := by rfl) (hpl : (backTo pos (starEach es X.env)).any (·.1) = false := by rfl) :
    JE X W (.Call (.Name x p) (e :: es) [] pos) (mXobO C ns ml) := by
  refine peI (pe_oexV T iC tI F1 hr hb passL hg hm ha hdb he hpl) fun σ H Q ⟨w, rr, cs, e, s, ev, a⟩ => ?_
  refine ⟨w, rr, cs, e, s, ev, (After.bind a).imp fun ds cs1 w1 l1 s1 a1 vs r1 => ?_⟩
  obtain ⟨hl, a1⟩ := if_bad a1
  have hv := Reps.length _ r1
  refine ⟨by omega, fun a0 n0 => ⟨a0, vs, rfl, by omega, T, upd_same, fun dx H' n ne e1 e2 e3 => ⟨rfl, ?_⟩⟩⟩
  have n1 : w1.H dx = none := by
    rw [← n]
    exact (upd_ne ne).symm
  have le1 := s1.le_new (o := exd dx (ns.zip vs).reverse) n1
  have s2 := s1.new (o := exd dx (ns.zip vs).reverse) n1
  have n2 : (w1.new dx (exd dx (ns.zip vs).reverse)).H a0 = none := (upd_ne (Ne.symm ne)).trans n0
  have le2 := s2.le_new (o := exo a0 C (some dx)) n2
  have s3 := s2.new (o := exo a0 C (some dx)) n2
  have eH : H' = ((w1.new dx (exd dx (ns.zip vs).reverse)).new a0 (exo a0 C (some dx))).H := by
    funext b
    show H' b = upd (upd w1.H dx (exd dx (ns.zip vs).reverse)) a0 (exo a0 C (some dx)) b
    by_cases hb : b = a0
    · rw [hb, upd_same, e1]
    · rw [upd_ne hb]
      by_cases hb2 : b = dx
      · rw [hb2, upd_same, e2]
      · rw [upd_ne hb2, e3 b hb hb2, upd_ne hb]
  rw [eH]
  refine a1 _ (le1.trans le2) s3 (.ref a0) ⟨a0, rfl, .inr rfl, .inr ⟨dx, vs.reverse, .inl (.inr rfl), upd_same, ?_, ?_, ?_⟩⟩
  · rw [← zip_rev ns vs (by omega)]
    exact (upd_ne ne).trans upd_same
  · rw [List.length_reverse, List.length_reverse]
    omega
  · exact Reps.mono _ (le1.trans le2) _ _ (Reps.rev r1)
/-! ### isinstance(x, C) -/
noncomputable def rIsV (K : PySem.W.Frag) : List V → Hp → VK → Prop := fun xs H Q => ∃ (a C : Addr) (d : Option Addr) (c : V) (cv : Value) (b : Bool), xs = [.ref a, c] ∧ (∀ u, RelV c u → u = cv) ∧ H a = some (exo a C d) ∧ (d = none ∨ ∃ dd fs, d = some dd ∧ H dd = some (exd dd fs)) ∧ ExcC K C ∧ PySem.W.kitOne K (.ref C) cv = some b ∧ Q (.bl b) H
theorem call_isV : CallR X (.builtin "isinstance") (rIsV X.K) := by
  intro pins s σ H xs us Q I r h
  obtain ⟨a, C, d, c, cv, b, rfl, hcv, ea, hd, T, e, q⟩ := h
  cases r with
  | cons rx rr =>
    cases rr with
    | @cons _ u2 _ _ rt rr =>
      cases rr
      cases rx
      have ec := hcv _ rt
      subst ec
      obtain ⟨t1, hget⟩ := exo_at I.hok ea
      have hcl : (PySem.W.clsIn X.K C).isSome = true := by
        obtain ⟨cd, hc, _⟩ := PySem.W.any_some T.hd
        rw [hc]
        rfl
      have fin : ∀ od, PySem.W.InstAt s.heap a ({ cls := .ref C, dict := d, data := .fields #[.ref t1, .none, .none, .none, .bool false, .none] } : Obj) C od → wpAny (model X.prog X.w) X.A (call (.builtin "isinstance") [.ref a, u2]) (EP X pins σ Q) X.xe s := fun od J =>
        PySem.W.kia_one (PySem.W.kitx_exc hcl T.hg T.hk T.hs T.ha T.hn T.ht T.hm) I.kIn J e (fun z => nomatch z) fun tk => ⟨.bl b, H, I.kept (t' := tk) fun _ _ z => z, rfl, q⟩
      rcases hd with hd | ⟨dd, fs, hd, hH⟩
      · subst hd
        exact fin none ⟨hget, rfl, rfl, trivial⟩
      · subst hd
        obtain ⟨mA, hns, hr⟩ := exd_at I.hok hH
        obtain ⟨od, ho, hl⟩ := lookIn_ns hns
        exact fin (some od) ⟨hget, rfl, rfl, ho⟩
theorem isx_at {t : XT} {C : Addr} {y : D} {b : Bool} (h : t.isx C y = some b) : ∃ l, t.at C = some l := by
  unfold XT.isx at h
  split at h
  · split at h
    · rename_i l m h1 h2
      exact ⟨_, h1⟩
    · cases h
  · split at h
    · rename_i l h1
      exact ⟨_, h1⟩
    · cases h
  · cases h
noncomputable def isvD (t : XT) : OpC := fun ds cs => match ds with
  | [.xob C _ _, y] => (match t.isx C y with
    | some b => .ok (.bl b) cs
    | none => .bad)
  | _ => .bad
theorem cs_isv {t : XT} (hT : t.Ok K) : CallS K (rIsV K) (isvD t) := fun E w cs ds vs Q s rs h => by
  unfold isvD at h
  split at h
  · rename_i C ns l y
    obtain ⟨v1, vs1, rfl, r1, v2, vs2, e2, r2, r3⟩ := rs
    cases (show vs2 = [] from r3)
    subst e2
    split at h
    · rename_i b hb
      obtain ⟨cv, e1, e2⟩ := hT.isx y b hb
      obtain ⟨l2, hl⟩ := isx_at hb
      obtain ⟨a, rfl, fa, hx⟩ := r1
      have q := h w (Le.refl w) s _ rfl
      rcases hx with ⟨_, _, g⟩ | ⟨dx, xs, _, g, g2, _⟩
      · exact ⟨a, C, none, v2, cv, b, rfl, tyV_of r2 e1, g, .inl rfl, (hT.get hl).ec, e2, q⟩
      · exact ⟨a, C, some dx, v2, cv, b, rfl, tyV_of r2 e1, g, .inr ⟨dx, _, rfl, g2⟩, (hT.get hl).ec, e2, q⟩
    · exact h.elim
  · exact h.elim
/-! ### x.f -/
noncomputable def xofD (t : XT) (f : Str) (d : D) (cs : List D) : R D := match d with
  | .xob C ns l => (match t.at C with
    | some _ => (match (ns.zip l).lookup f with
      | some y => .ok y cs
      | none => .bad)
    | none => .bad)
  | _ => .bad
noncomputable def mXoF (t : XT) (f : Str) (m : M) : M := fun r cs => (m r cs).bind (xofD t f)
noncomputable def tXoF (K : PySem.W.Frag) (f : Str) (te : TE) : TE := fun σ H Q => te σ H fun x H1 => ∃ (a C dd : Addr) (fs : List (Str × V)) (v : V), x = .ref a ∧ XfC K C ∧ PySem.W.findIn K (.ref C) f = some none ∧ H1 a = some (exo a C (some dd)) ∧ H1 dd = some (exd dd fs) ∧ fs.lookup f = some v ∧ Q v H1
theorem pe_xof {te : TE} {n : Str} (he : PE X e te) (hb : attributeBase e n X.env (eval e X.env) = eval e X.env := by rfl) :
    PE X (.Attribute e n pos) (tXoF X.K n te) := by
  refine ⟨fun pins s σ H Q I h => ?_⟩
  refine attr_of hb (thn (he.run pins s σ H _ I h) fun u s1 hh => ?_)
  obtain ⟨x, H1, I1, rx, a, C, dd, fs, v, ex, T, hno, ea, ed, l, q⟩ := hh
  subst ex
  obtain rfl : u = Value.ref a := rx
  obtain ⟨t1, ha⟩ := exo_at I1.hok ea
  obtain ⟨mA, hns, hr⟩ := exd_at I1.hok ed
  obtain ⟨od, ho, hl⟩ := lookIn_ns hns
  obtain ⟨u, hu, ru⟩ := RelO.some_of (v := v) (o := mA n) (by rw [← l]; exact hr n)
  have J : PySem.W.InstAt s1.heap a ({ cls := .ref C, dict := some dd, data := .fields #[.ref t1, .none, .none, .none, .bool false, .none] } : Obj) C (some od) := ⟨ha, rfl, rfl, ho⟩
  exact HandSPX.exc_get I1.kIn J T.ga T.gg T.exC (PySem.W.findObj_own T.hdC hno rfl (by rw [hl, hu])) (handed_of ru) ⟨v, H1, I1.tok _, ru, q⟩
theorem je_xof {t : XT} {n : Str} (hT : t.Ok X.K) (hN : ∀ (C : Addr) {l : List Addr}, t.at C = some l → PySem.W.findIn X.K (.ref C) n = some none) (he : JE X W e m) (hb : attributeBase e n X.env (eval e X.env) = eval e X.env := by rfl) :
    JE X W (.Attribute e n pos) (mXoF t n m) := by
  refine peI (pe_xof he hb) fun σ H Q ⟨w, rr, cs, e, s, ev, a1⟩ => ?_
  refine ⟨w, rr, cs, e, s, ev, (After.bind a1).imp fun x cs1 w1 l1 s1 a2 v rv => ?_⟩
  unfold xofD at a2
  split at a2
  · rename_i C ns l
    split at a2
    · rename_i l2 hl2
      split at a2
      · rename_i y hy
        obtain ⟨a, rfl, fa, hx⟩ := rv
        rcases hx with ⟨q1, _, _⟩ | ⟨dd, xs, z1, z2, z3, z4, z5⟩
        · subst q1
          cases hy
        · obtain ⟨v, hv, rv⟩ := Reps.look z5 hy
          exact ⟨a, C, dd, _, v, rfl, (hT.get hl2).xf, hN _ hl2, z2, z3, hv, a2 w1 (Le.refl w1) s1 v rv⟩
      · exact a2.elim
    · exact a2.elim
  · exact a2.elim
/-! equations -/
variable {ds l : List D} {d y : D} {b : Bool} {C : Addr} {ns : List Str} {f : Str} {t : XT}
theorem e_xob0 : mXob0 C r cs = .ok (.xob C [] []) cs := (rfl)
noncomputable def kXobO (C : Addr) (ns : List Str) : List D → List D → R D := fun ds cs => if ds.length = ns.length then .ok (.xob C ns.reverse ds.reverse) cs else .bad
theorem e_xobO : mXobO C ns ml r cs = (ml r cs).bind (kXobO C ns) := (rfl)
theorem k_xobO (h : ds.length = ns.length) : kXobO C ns ds cs = .ok (.xob C ns.reverse ds.reverse) cs := if_pos h
theorem o_isv (h : t.isx C y = some b) : isvD t [.xob C ns l, y] cs = .ok (.bl b) cs := by
  show (match t.isx C y with
    | some b => R.ok (D.bl b) cs
    | none => .bad) = _
  rw [h]
theorem e_xof : mXoF t f m r cs = (m r cs).bind (xofD t f) := (rfl)
theorem o_xof {l2 : List Addr} (h : t.at C = some l2) (hy : (ns.zip l).lookup f = some y) : xofD t f (.xob C ns l) cs = .ok y cs := by
  show (match t.at C with
    | some _ => (match (ns.zip l).lookup f with
      | some y => R.ok y cs
      | none => .bad)
    | none => .bad) = _
  rw [h]
  dsimp only
  rw [hy]
end
end Wf
set_option Elab.async false
set_option linter.all false
set_option maxRecDepth 100000
set_option maxHeartbeats 4000000
/-! The text, def by def: its mirror and the reading of its body. -/
namespace K02
open PySem PySem.Spec PyProof.Rows L2 Wf
noncomputable def topS (i : Nat) : Stmt := PySem.Challenge.pw_wayfill_k02_written_words.main.body.getD i (.Pass ⟨0, 0, 0, 0⟩)
/-- the classes of the text, each with its own bases -/
noncomputable abbrev tX : XT := [(24, []), (37, [24]), (49, [37, 24]), (61, [37, 24]), (73, [24]), (85, [24]), (97, [24]), (109, [24]), (121, [24]), (133, [24]), (145, [24]), (157, [24]), (176, [24]), (195, [24]), (214, [24]), (233, [24]), (252, [24]), (271, [24]), (290, [24]), (309, [24]), (328, [24]), (347, [24]), (366, [24]), (385, [24]), (404, [24]), (423, [24]), (442, [24]), (461, [24]), (480, [24]), (499, [24]), (518, [24]), (537, [24])]
structure Bt (K : PySem.W.Frag) (mg : Str → Option Value) : Prop where
  z_ValueError : mg "ValueError" = none
  z_abs : mg "abs" = none
  z_all : mg "all" = none
  z_bool : mg "bool" = none
  z_int : mg "int" = none
  z_isinstance : mg "isinstance" = none
  z_len : mg "len" = none
  z_list : mg "list" = none
  z_range : mg "range" = none
  z_set : mg "set" = none
  z_str : mg "str" = none
  z_tuple : mg "tuple" = none
  g_LETTERS : ∃ t, mg "LETTERS" = some (.int 6 t)
  g_MOVES : ∃ t, mg "MOVES" = some (.int 400 t)
  g_OVERLAPS : ∃ t, mg "OVERLAPS" = some (.int 200 t)
  g_RULES : ∃ t, mg "RULES" = some (.int 12 t)
  g_SIDE : ∃ t, mg "SIDE" = some (.int 8 t)
  g_SQUARES : ∃ t, mg "SQUARES" = some (.int 40 t)
  g_WAY : ∃ t, mg "WAY" = some (.int 120 t)
  g_WEIGHT : ∃ t, mg "WEIGHT" = some (.int 99 t)
  g_WORD : ∃ t, mg "WORD" = some (.int 32 t)
  g_WORDS : ∃ t, mg "WORDS" = some (.int 400 t)
  k_BadChange : mg "BadChange" = some (.ref 442)
  k_BadEnds : mg "BadEnds" = some (.ref 85)
  k_BadEntry : mg "BadEntry" = some (.ref 537)
  k_BadFare : mg "BadFare" = some (.ref 97)
  k_BadLetters : mg "BadLetters" = some (.ref 176)
  k_BadLog : mg "BadLog" = some (.ref 423)
  k_BadMove : mg "BadMove" = some (.ref 404)
  k_BadName : mg "BadName" = some (.ref 214)
  k_BadNumber : mg "BadNumber" = some (.ref 233)
  k_BadOverlap : mg "BadOverlap" = some (.ref 145)
  k_BadRow : mg "BadRow" = some (.ref 252)
  k_BadRule : mg "BadRule" = some (.ref 271)
  k_BadSquare : mg "BadSquare" = some (.ref 385)
  k_BadStep : mg "BadStep" = some (.ref 366)
  k_BadSum : mg "BadSum" = some (.ref 133)
  k_BadTable : mg "BadTable" = some (.ref 121)
  k_BadText : mg "BadText" = some (.ref 347)
  k_BadTranslation : mg "BadTranslation" = some (.ref 109)
  k_BadWeights : mg "BadWeights" = some (.ref 73)
  k_BadWord : mg "BadWord" = some (.ref 195)
  k_BoundError : mg "BoundError" = some (.ref 37)
  k_Lacking : mg "Lacking" = some (.ref 499)
  k_NothingToUndo : mg "NothingToUndo" = some (.ref 157)
  k_Open : mg "Open" = some (.ref 480)
  k_Repeated : mg "Repeated" = some (.ref 328)
  k_Rising : mg "Rising" = some (.ref 290)
  k_Stopped : mg "Stopped" = some (.ref 518)
  k_TooLong : mg "TooLong" = some (.ref 49)
  k_TooMany : mg "TooMany" = some (.ref 61)
  k_Unjoined : mg "Unjoined" = some (.ref 461)
  k_Unknown : mg "Unknown" = some (.ref 309)
  k_WayfillError : mg "WayfillError" = some (.ref 24)
  xt : tX.Ok K
  q_BadEnds : PySem.W.excIn K 85 [.type "ValueError", .type "Exception", .type "BaseException", .type "object"] "ValueError.__new__" = true
  q_BadFare : PySem.W.excIn K 97 [.type "ValueError", .type "Exception", .type "BaseException", .type "object"] "ValueError.__new__" = true
  q_BadOverlap : PySem.W.excIn K 145 [.type "ValueError", .type "Exception", .type "BaseException", .type "object"] "ValueError.__new__" = true
  q_BadSum : PySem.W.excIn K 133 [.type "ValueError", .type "Exception", .type "BaseException", .type "object"] "ValueError.__new__" = true
  q_BadTable : PySem.W.excIn K 121 [.type "ValueError", .type "Exception", .type "BaseException", .type "object"] "ValueError.__new__" = true
  q_BadTranslation : PySem.W.excIn K 109 [.type "ValueError", .type "Exception", .type "BaseException", .type "object"] "ValueError.__new__" = true
  q_BadWeights : PySem.W.excIn K 73 [.type "ValueError", .type "Exception", .type "BaseException", .type "object"] "ValueError.__new__" = true
  q_NothingToUndo : PySem.W.excIn K 157 [.type "ValueError", .type "Exception", .type "BaseException", .type "object"] "ValueError.__new__" = true
  q_TooLong : PySem.W.excIn K 49 [.type "ValueError", .type "Exception", .type "BaseException", .type "object"] "ValueError.__new__" = true
  q_TooMany : PySem.W.excIn K 61 [.type "ValueError", .type "Exception", .type "BaseException", .type "object"] "ValueError.__new__" = true
  no_at : ∀ (C : Addr) {l : List Addr}, tX.at C = some l → PySem.W.findIn K (.ref C) "at" = some none
  no_name : ∀ (C : Addr) {l : List Addr}, tX.at C = some l → PySem.W.findIn K (.ref C) "name" = some none
  no_number : ∀ (C : Addr) {l : List Addr}, tX.at C = some l → PySem.W.findIn K (.ref C) "number" = some none
  no_one : ∀ (C : Addr) {l : List Addr}, tX.at C = some l → PySem.W.findIn K (.ref C) "one" = some none
  no_other : ∀ (C : Addr) {l : List Addr}, tX.at C = some l → PySem.W.findIn K (.ref C) "other" = some none
  no_path : ∀ (C : Addr) {l : List Addr}, tX.at C = some l → PySem.W.findIn K (.ref C) "path" = some none
  no_text : ∀ (C : Addr) {l : List Addr}, tX.at C = some l → PySem.W.findIn K (.ref C) "text" = some none
  no_top : ∀ (C : Addr) {l : List Addr}, tX.at C = some l → PySem.W.findIn K (.ref C) "top" = some none
structure Dfi (K : PySem.W.Frag) (C : Addr) (qual : Str) (st : Stmt) (f : Addr) (fd : FuncData) (ps : List Str) : Prop where
  F : Fun K "__init__" qual st f fd
  i : PySem.W.findIn K (.ref C) "__init__" = some (some (.ref f))
  t : PySem.W.typeIn K (.ref f) = some (.type "function")
  b : Binds K fd ps []
noncomputable abbrev s_BadLetters_i : Stmt := clsStmt (topS 13) 0
noncomputable abbrev P_BadLetters_i : List Str := ["self", "text"]
theorem sc_BadLetters_i : FnScope P_BadLetters_i P_BadLetters_i (defScope s_BadLetters_i) := ⟨rfl, rfl, rfl, by decide +kernel, rfl, by decide +kernel, by decide +kernel⟩
noncomputable abbrev s_BadWord_i : Stmt := clsStmt (topS 14) 0
noncomputable abbrev P_BadWord_i : List Str := ["self", "text"]
theorem sc_BadWord_i : FnScope P_BadWord_i P_BadWord_i (defScope s_BadWord_i) := ⟨rfl, rfl, rfl, by decide +kernel, rfl, by decide +kernel, by decide +kernel⟩
noncomputable abbrev s_BadName_i : Stmt := clsStmt (topS 15) 0
noncomputable abbrev P_BadName_i : List Str := ["self", "name"]
theorem sc_BadName_i : FnScope P_BadName_i P_BadName_i (defScope s_BadName_i) := ⟨rfl, rfl, rfl, by decide +kernel, rfl, by decide +kernel, by decide +kernel⟩
noncomputable abbrev s_BadNumber_i : Stmt := clsStmt (topS 16) 0
noncomputable abbrev P_BadNumber_i : List Str := ["self", "number"]
theorem sc_BadNumber_i : FnScope P_BadNumber_i P_BadNumber_i (defScope s_BadNumber_i) := ⟨rfl, rfl, rfl, by decide +kernel, rfl, by decide +kernel, by decide +kernel⟩
noncomputable abbrev s_BadRow_i : Stmt := clsStmt (topS 17) 0
noncomputable abbrev P_BadRow_i : List Str := ["self", "at"]
theorem sc_BadRow_i : FnScope P_BadRow_i P_BadRow_i (defScope s_BadRow_i) := ⟨rfl, rfl, rfl, by decide +kernel, rfl, by decide +kernel, by decide +kernel⟩
noncomputable abbrev s_BadRule_i : Stmt := clsStmt (topS 18) 0
noncomputable abbrev P_BadRule_i : List Str := ["self", "name"]
theorem sc_BadRule_i : FnScope P_BadRule_i P_BadRule_i (defScope s_BadRule_i) := ⟨rfl, rfl, rfl, by decide +kernel, rfl, by decide +kernel, by decide +kernel⟩
noncomputable abbrev s_Rising_i : Stmt := clsStmt (topS 19) 0
noncomputable abbrev P_Rising_i : List Str := ["self", "name"]
theorem sc_Rising_i : FnScope P_Rising_i P_Rising_i (defScope s_Rising_i) := ⟨rfl, rfl, rfl, by decide +kernel, rfl, by decide +kernel, by decide +kernel⟩
noncomputable abbrev s_Unknown_i : Stmt := clsStmt (topS 20) 0
noncomputable abbrev P_Unknown_i : List Str := ["self", "name"]
theorem sc_Unknown_i : FnScope P_Unknown_i P_Unknown_i (defScope s_Unknown_i) := ⟨rfl, rfl, rfl, by decide +kernel, rfl, by decide +kernel, by decide +kernel⟩
noncomputable abbrev s_Repeated_i : Stmt := clsStmt (topS 21) 0
noncomputable abbrev P_Repeated_i : List Str := ["self", "name"]
theorem sc_Repeated_i : FnScope P_Repeated_i P_Repeated_i (defScope s_Repeated_i) := ⟨rfl, rfl, rfl, by decide +kernel, rfl, by decide +kernel, by decide +kernel⟩
noncomputable abbrev s_BadText_i : Stmt := clsStmt (topS 22) 0
noncomputable abbrev P_BadText_i : List Str := ["self", "at"]
theorem sc_BadText_i : FnScope P_BadText_i P_BadText_i (defScope s_BadText_i) := ⟨rfl, rfl, rfl, by decide +kernel, rfl, by decide +kernel, by decide +kernel⟩
noncomputable abbrev s_BadStep_i : Stmt := clsStmt (topS 23) 0
noncomputable abbrev P_BadStep_i : List Str := ["self", "at"]
theorem sc_BadStep_i : FnScope P_BadStep_i P_BadStep_i (defScope s_BadStep_i) := ⟨rfl, rfl, rfl, by decide +kernel, rfl, by decide +kernel, by decide +kernel⟩
noncomputable abbrev s_BadSquare_i : Stmt := clsStmt (topS 24) 0
noncomputable abbrev P_BadSquare_i : List Str := ["self", "name"]
theorem sc_BadSquare_i : FnScope P_BadSquare_i P_BadSquare_i (defScope s_BadSquare_i) := ⟨rfl, rfl, rfl, by decide +kernel, rfl, by decide +kernel, by decide +kernel⟩
noncomputable abbrev s_BadMove_i : Stmt := clsStmt (topS 25) 0
noncomputable abbrev P_BadMove_i : List Str := ["self", "at"]
theorem sc_BadMove_i : FnScope P_BadMove_i P_BadMove_i (defScope s_BadMove_i) := ⟨rfl, rfl, rfl, by decide +kernel, rfl, by decide +kernel, by decide +kernel⟩
noncomputable abbrev s_BadLog_i : Stmt := clsStmt (topS 26) 0
noncomputable abbrev P_BadLog_i : List Str := ["self", "at"]
theorem sc_BadLog_i : FnScope P_BadLog_i P_BadLog_i (defScope s_BadLog_i) := ⟨rfl, rfl, rfl, by decide +kernel, rfl, by decide +kernel, by decide +kernel⟩
noncomputable abbrev s_BadChange_i : Stmt := clsStmt (topS 27) 0
noncomputable abbrev P_BadChange_i : List Str := ["self", "at"]
theorem sc_BadChange_i : FnScope P_BadChange_i P_BadChange_i (defScope s_BadChange_i) := ⟨rfl, rfl, rfl, by decide +kernel, rfl, by decide +kernel, by decide +kernel⟩
noncomputable abbrev s_Unjoined_i : Stmt := clsStmt (topS 28) 0
noncomputable abbrev P_Unjoined_i : List Str := ["self", "one", "other"]
theorem sc_Unjoined_i : FnScope P_Unjoined_i P_Unjoined_i (defScope s_Unjoined_i) := ⟨rfl, rfl, rfl, by decide +kernel, rfl, by decide +kernel, by decide +kernel⟩
noncomputable abbrev s_Open_i : Stmt := clsStmt (topS 29) 0
noncomputable abbrev P_Open_i : List Str := ["self", "top", "one", "other"]
theorem sc_Open_i : FnScope P_Open_i P_Open_i (defScope s_Open_i) := ⟨rfl, rfl, rfl, by decide +kernel, rfl, by decide +kernel, by decide +kernel⟩
noncomputable abbrev s_Lacking_i : Stmt := clsStmt (topS 30) 0
noncomputable abbrev P_Lacking_i : List Str := ["self", "top", "one", "other"]
theorem sc_Lacking_i : FnScope P_Lacking_i P_Lacking_i (defScope s_Lacking_i) := ⟨rfl, rfl, rfl, by decide +kernel, rfl, by decide +kernel, by decide +kernel⟩
noncomputable abbrev s_Stopped_i : Stmt := clsStmt (topS 31) 0
noncomputable abbrev P_Stopped_i : List Str := ["self", "path"]
theorem sc_Stopped_i : FnScope P_Stopped_i P_Stopped_i (defScope s_Stopped_i) := ⟨rfl, rfl, rfl, by decide +kernel, rfl, by decide +kernel, by decide +kernel⟩
noncomputable abbrev s_BadEntry_i : Stmt := clsStmt (topS 32) 0
noncomputable abbrev P_BadEntry_i : List Str := ["self", "at", "name"]
theorem sc_BadEntry_i : FnScope P_BadEntry_i P_BadEntry_i (defScope s_BadEntry_i) := ⟨rfl, rfl, rfl, by decide +kernel, rfl, by decide +kernel, by decide +kernel⟩
structure Df (K : PySem.W.Frag) (mg : Str → Option Value) (x : Str) (st : Stmt) (f : Addr) (fd : FuncData) (ps : List Str) : Prop where
  F : Fun K x x st f fd
  g : mg x = some (.ref f)
  k : PySem.W.keepIn K (.ref f) = true
  b : Binds K fd ps []
noncomputable abbrev s_is_alphabet : Stmt := topS 44
noncomputable abbrev N_is_alphabet : List Str := ["letters", "letter"]
noncomputable abbrev P_is_alphabet : List Str := ["letters"]
theorem sc_is_alphabet : FnScope N_is_alphabet P_is_alphabet (defScope s_is_alphabet) := ⟨rfl, rfl, rfl, by decide +kernel, rfl, by decide +kernel, by decide +kernel⟩
noncomputable abbrev s_check_letters : Stmt := topS 45
noncomputable abbrev N_check_letters : List Str := ["letters"]
noncomputable abbrev P_check_letters : List Str := ["letters"]
theorem sc_check_letters : FnScope N_check_letters P_check_letters (defScope s_check_letters) := ⟨rfl, rfl, rfl, by decide +kernel, rfl, by decide +kernel, by decide +kernel⟩
noncomputable abbrev s_has_letters_only : Stmt := topS 46
noncomputable abbrev N_has_letters_only : List Str := ["letters", "word", "letter"]
noncomputable abbrev P_has_letters_only : List Str := ["letters", "word"]
theorem sc_has_letters_only : FnScope N_has_letters_only P_has_letters_only (defScope s_has_letters_only) := ⟨rfl, rfl, rfl, by decide +kernel, rfl, by decide +kernel, by decide +kernel⟩
noncomputable abbrev s_is_word : Stmt := topS 47
noncomputable abbrev N_is_word : List Str := ["letters", "word"]
noncomputable abbrev P_is_word : List Str := ["letters", "word"]
theorem sc_is_word : FnScope N_is_word P_is_word (defScope s_is_word) := ⟨rfl, rfl, rfl, by decide +kernel, rfl, by decide +kernel, by decide +kernel⟩
noncomputable abbrev s_format_word : Stmt := topS 48
noncomputable abbrev N_format_word : List Str := ["word"]
noncomputable abbrev P_format_word : List Str := ["word"]
theorem sc_format_word : FnScope N_format_word P_format_word (defScope s_format_word) := ⟨rfl, rfl, rfl, by decide +kernel, rfl, by decide +kernel, by decide +kernel⟩
noncomputable abbrev s_read_word : Stmt := topS 49
noncomputable abbrev N_read_word : List Str := ["letters", "text", "at"]
noncomputable abbrev P_read_word : List Str := ["letters", "text", "at"]
theorem sc_read_word : FnScope N_read_word P_read_word (defScope s_read_word) := ⟨rfl, rfl, rfl, by decide +kernel, rfl, by decide +kernel, by decide +kernel⟩
noncomputable abbrev s_parse_word : Stmt := topS 50
noncomputable abbrev N_parse_word : List Str := ["letters", "text"]
noncomputable abbrev P_parse_word : List Str := ["letters", "text"]
theorem sc_parse_word : FnScope N_parse_word P_parse_word (defScope s_parse_word) := ⟨rfl, rfl, rfl, by decide +kernel, rfl, by decide +kernel, by decide +kernel⟩
noncomputable abbrev s__law_draws : Stmt := topS 52
noncomputable abbrev N__law_draws : List Str := ["script", "cell"]
noncomputable abbrev P__law_draws : List Str := ["script"]
theorem sc__law_draws : FnScope N__law_draws P__law_draws (defScope s__law_draws) := ⟨rfl, rfl, rfl, by decide +kernel, rfl, by decide +kernel, by decide +kernel⟩
noncomputable abbrev s__law_mixed : Stmt := topS 53
noncomputable abbrev N__law_mixed : List Str := ["seed", "turn", "first", "second"]
noncomputable abbrev P__law_mixed : List Str := ["seed", "turn"]
theorem sc__law_mixed : FnScope N__law_mixed P__law_mixed (defScope s__law_mixed) := ⟨rfl, rfl, rfl, by decide +kernel, rfl, by decide +kernel, by decide +kernel⟩
noncomputable abbrev s__law_take : Stmt := topS 54
noncomputable abbrev N__law_take : List Str := ["store", "size", "cell", "drawn"]
noncomputable abbrev P__law_take : List Str := ["store", "size"]
theorem sc__law_take : FnScope N__law_take P__law_take (defScope s__law_take) := ⟨rfl, rfl, rfl, by decide +kernel, rfl, by decide +kernel, by decide +kernel⟩
noncomputable abbrev s__law_span : Stmt := topS 55
noncomputable abbrev N__law_span : List Str := ["store", "low", "high"]
noncomputable abbrev P__law_span : List Str := ["store", "low", "high"]
theorem sc__law_span : FnScope N__law_span P__law_span (defScope s__law_span) := ⟨rfl, rfl, rfl, by decide +kernel, rfl, by decide +kernel, by decide +kernel⟩
noncomputable abbrev s__law_rare : Stmt := topS 56
noncomputable abbrev N__law_rare : List Str := ["store", "size"]
noncomputable abbrev P__law_rare : List Str := ["store", "size"]
theorem sc__law_rare : FnScope N__law_rare P__law_rare (defScope s__law_rare) := ⟨rfl, rfl, rfl, by decide +kernel, rfl, by decide +kernel, by decide +kernel⟩
noncomputable abbrev s__law_pick : Stmt := topS 57
noncomputable abbrev N__law_pick : List Str := ["store", "row"]
noncomputable abbrev P__law_pick : List Str := ["store", "row"]
theorem sc__law_pick : FnScope N__law_pick P__law_pick (defScope s__law_pick) := ⟨rfl, rfl, rfl, by decide +kernel, rfl, by decide +kernel, by decide +kernel⟩
noncomputable abbrev s__law_in_range : Stmt := topS 58
noncomputable abbrev N__law_in_range : List Str := ["store", "low", "high"]
noncomputable abbrev P__law_in_range : List Str := ["store", "low", "high"]
theorem sc__law_in_range : FnScope N__law_in_range P__law_in_range (defScope s__law_in_range) := ⟨rfl, rfl, rfl, by decide +kernel, rfl, by decide +kernel, by decide +kernel⟩
noncomputable abbrev s__law_letters : Stmt := topS 59
noncomputable abbrev N__law_letters : List Str := ["store", "low", "high", "size", "left", "out", "k", "spot"]
noncomputable abbrev P__law_letters : List Str := ["store", "low", "high"]
theorem sc__law_letters : FnScope N__law_letters P__law_letters (defScope s__law_letters) := ⟨rfl, rfl, rfl, by decide +kernel, rfl, by decide +kernel, by decide +kernel⟩
noncomputable abbrev s__law_stranger : Stmt := topS 60
noncomputable abbrev N__law_stranger : List Str := ["store", "letters", "letter"]
noncomputable abbrev P__law_stranger : List Str := ["store", "letters"]
theorem sc__law_stranger : FnScope N__law_stranger P__law_stranger (defScope s__law_stranger) := ⟨rfl, rfl, rfl, by decide +kernel, rfl, by decide +kernel, by decide +kernel⟩
noncomputable abbrev s__law_bad_letters : Stmt := topS 61
noncomputable abbrev N__law_bad_letters : List Str := ["store", "kind", "good", "spot"]
noncomputable abbrev P__law_bad_letters : List Str := ["store"]
theorem sc__law_bad_letters : FnScope N__law_bad_letters P__law_bad_letters (defScope s__law_bad_letters) := ⟨rfl, rfl, rfl, by decide +kernel, rfl, by decide +kernel, by decide +kernel⟩
noncomputable abbrev s__law_word : Stmt := topS 62
noncomputable abbrev N__law_word : List Str := ["store", "letters", "low", "high", "size", "kind", "piece", "k"]
noncomputable abbrev P__law_word : List Str := ["store", "letters", "low", "high"]
theorem sc__law_word : FnScope N__law_word P__law_word (defScope s__law_word) := ⟨rfl, rfl, rfl, by decide +kernel, rfl, by decide +kernel, by decide +kernel⟩
noncomputable abbrev s__law_bad_word : Stmt := topS 63
noncomputable abbrev N__law_bad_word : List Str := ["store", "letters", "kind", "size", "word", "k", "spot", "odd"]
noncomputable abbrev P__law_bad_word : List Str := ["store", "letters"]
theorem sc__law_bad_word : FnScope N__law_bad_word P__law_bad_word (defScope s__law_bad_word) := ⟨rfl, rfl, rfl, by decide +kernel, rfl, by decide +kernel, by decide +kernel⟩
noncomputable abbrev s__law_line : Stmt := topS 64
noncomputable abbrev N__law_line : List Str := ["store", "size", "chars", "k"]
noncomputable abbrev P__law_line : List Str := ["store", "size"]
theorem sc__law_line : FnScope N__law_line P__law_line (defScope s__law_line) := ⟨rfl, rfl, rfl, by decide +kernel, rfl, by decide +kernel, by decide +kernel⟩
noncomputable abbrev s__law_spoilt : Stmt := topS 65
noncomputable abbrev N__law_spoilt : List Str := ["store", "text", "spot", "kind", "char"]
noncomputable abbrev P__law_spoilt : List Str := ["store", "text"]
theorem sc__law_spoilt : FnScope N__law_spoilt P__law_spoilt (defScope s__law_spoilt) := ⟨rfl, rfl, rfl, by decide +kernel, rfl, by decide +kernel, by decide +kernel⟩
noncomputable abbrev s__law_same : Stmt := topS 66
noncomputable abbrev N__law_same : List Str := ["told", "due", "k"]
noncomputable abbrev P__law_same : List Str := ["told", "due"]
theorem sc__law_same : FnScope N__law_same P__law_same (defScope s__law_same) := ⟨rfl, rfl, rfl, by decide +kernel, rfl, by decide +kernel, by decide +kernel⟩
noncomputable abbrev s__law_word_fault : Stmt := topS 67
noncomputable abbrev N__law_word_fault : List Str := ["letters", "word", "size", "char"]
noncomputable abbrev P__law_word_fault : List Str := ["letters", "word", "size"]
theorem sc__law_word_fault : FnScope N__law_word_fault P__law_word_fault (defScope s__law_word_fault) := ⟨rfl, rfl, rfl, by decide +kernel, rfl, by decide +kernel, by decide +kernel⟩
noncomputable abbrev s__law_written : Stmt := topS 68
noncomputable abbrev N__law_written : List Str := ["word"]
noncomputable abbrev P__law_written : List Str := ["word"]
theorem sc__law_written : FnScope N__law_written P__law_written (defScope s__law_written) := ⟨rfl, rfl, rfl, by decide +kernel, rfl, by decide +kernel, by decide +kernel⟩
noncomputable abbrev s__law_is_alphabet : Stmt := topS 69
noncomputable abbrev N__law_is_alphabet : List Str := ["letters", "k"]
noncomputable abbrev P__law_is_alphabet : List Str := ["letters"]
theorem sc__law_is_alphabet : FnScope N__law_is_alphabet P__law_is_alphabet (defScope s__law_is_alphabet) := ⟨rfl, rfl, rfl, by decide +kernel, rfl, by decide +kernel, by decide +kernel⟩
noncomputable abbrev s__law_read : Stmt := topS 70
noncomputable abbrev N__law_read : List Str := ["letters", "text", "kind", "e", "plain"]
noncomputable abbrev P__law_read : List Str := ["letters", "text", "kind"]
theorem sc__law_read : FnScope N__law_read P__law_read (defScope s__law_read) := ⟨rfl, rfl, rfl, by decide +kernel, rfl, by decide +kernel, by decide +kernel⟩
noncomputable abbrev s__law_due : Stmt := topS 71
noncomputable abbrev N__law_due : List Str := ["letters", "text"]
noncomputable abbrev P__law_due : List Str := ["letters", "text"]
theorem sc__law_due : FnScope N__law_due P__law_due (defScope s__law_due) := ⟨rfl, rfl, rfl, by decide +kernel, rfl, by decide +kernel, by decide +kernel⟩
noncomputable abbrev s__law_right : Stmt := topS 72
noncomputable abbrev N__law_right : List Str := ["letters", "text", "good", "due"]
noncomputable abbrev P__law_right : List Str := ["letters", "text"]
theorem sc__law_right : FnScope N__law_right P__law_right (defScope s__law_right) := ⟨rfl, rfl, rfl, by decide +kernel, rfl, by decide +kernel, by decide +kernel⟩
noncomputable abbrev s__law_texts : Stmt := topS 73
noncomputable abbrev N__law_texts : List Str := ["store", "letters", "word", "out"]
noncomputable abbrev P__law_texts : List Str := ["store", "letters", "word"]
theorem sc__law_texts : FnScope N__law_texts P__law_texts (defScope s__law_texts) := ⟨rfl, rfl, rfl, by decide +kernel, rfl, by decide +kernel, by decide +kernel⟩
noncomputable abbrev s__law_alphabets : Stmt := topS 74
noncomputable abbrev N__law_alphabets : List Str := ["store", "letters", "out"]
noncomputable abbrev P__law_alphabets : List Str := ["store", "letters"]
theorem sc__law_alphabets : FnScope N__law_alphabets P__law_alphabets (defScope s__law_alphabets) := ⟨rfl, rfl, rfl, by decide +kernel, rfl, by decide +kernel, by decide +kernel⟩
noncomputable abbrev s__law_long_right : Stmt := topS 75
noncomputable abbrev N__law_long_right : List Str := ["store", "letters", "size", "far", "spot", "bent", "text"]
noncomputable abbrev P__law_long_right : List Str := ["store", "letters"]
theorem sc__law_long_right : FnScope N__law_long_right P__law_long_right (defScope s__law_long_right) := ⟨rfl, rfl, rfl, by decide +kernel, rfl, by decide +kernel, by decide +kernel⟩
noncomputable abbrev s__law_marks : Stmt := topS 76
noncomputable abbrev N__law_marks : List Str := ["made", "marks"]
noncomputable abbrev P__law_marks : List Str := ["made"]
theorem sc__law_marks : FnScope N__law_marks P__law_marks (defScope s__law_marks) := ⟨rfl, rfl, rfl, by decide +kernel, rfl, by decide +kernel, by decide +kernel⟩
noncomputable abbrev s__law_errors_right : Stmt := topS 77
noncomputable abbrev N__law_errors_right : List Str := ["store", "text", "also", "spot", "one", "other", "made", "texts", "names", "spots", "pair", "overlaps", "last", "k", "kinds", "j", "told", "x", "due"]
noncomputable abbrev P__law_errors_right : List Str := ["store", "text", "also"]
theorem sc__law_errors_right : FnScope N__law_errors_right P__law_errors_right (defScope s__law_errors_right) := ⟨rfl, rfl, rfl, by decide +kernel, rfl, by decide +kernel, by decide +kernel⟩
noncomputable abbrev s_law : Stmt := topS 78
noncomputable abbrev N_law : List Str := ["script", "told", "store", "letters", "others", "k", "word", "written", "far", "text", "bent"]
noncomputable abbrev P_law : List Str := ["script"]
theorem sc_law : FnScope N_law P_law (defScope s_law) := ⟨rfl, rfl, rfl, by decide +kernel, rfl, by decide +kernel, by decide +kernel⟩
theorem lenOf1 {α : Type} {l : List α} (h : l.length = 1) : ∃ a0, l = [a0] := by
  match l, h with
  | [a0], _ => exact ⟨a0, rfl⟩
theorem lenOf2 {α : Type} {l : List α} (h : l.length = 2) : ∃ a0 a1, l = [a0, a1] := by
  match l, h with
  | [a0, a1], _ => exact ⟨a0, a1, rfl⟩
theorem lenOf3 {α : Type} {l : List α} (h : l.length = 3) : ∃ a0 a1 a2, l = [a0, a1, a2] := by
  match l, h with
  | [a0, a1, a2], _ => exact ⟨a0, a1, a2, rfl⟩
theorem lenOf4 {α : Type} {l : List α} (h : l.length = 4) : ∃ a0 a1 a2 a3, l = [a0, a1, a2, a3] := by
  match l, h with
  | [a0, a1, a2, a3], _ => exact ⟨a0, a1, a2, a3, rfl⟩
theorem KB_parse_word_1_0 {K : PySem.W.Frag} {f : Addr} {fd : FuncData} (F : Fun K "parse_word" "parse_word" s_parse_word f fd) : KBs fd P_parse_word 0 ["text", "letters"] [1, 0] := by
  obtain ⟨oc, od, kV, doc, pm, an, cdv, ct, osl, rfl, lk, hcd⟩ := F.ex
  intro us ws hu hw
  obtain rfl := List.eq_nil_of_length_eq_zero hu
  obtain ⟨_, _, rfl⟩ := lenOf2 hw
  rfl
theorem KB_is_alphabet_0 {K : PySem.W.Frag} {f : Addr} {fd : FuncData} (F : Fun K "is_alphabet" "is_alphabet" s_is_alphabet f fd) : KBs fd P_is_alphabet 0 ["letters"] [0] := by
  obtain ⟨oc, od, kV, doc, pm, an, cdv, ct, osl, rfl, lk, hcd⟩ := F.ex
  intro us ws hu hw
  obtain rfl := List.eq_nil_of_length_eq_zero hu
  obtain ⟨_, rfl⟩ := lenOf1 hw
  rfl
theorem KB_is_word_1_0 {K : PySem.W.Frag} {f : Addr} {fd : FuncData} (F : Fun K "is_word" "is_word" s_is_word f fd) : KBs fd P_is_word 0 ["word", "letters"] [1, 0] := by
  obtain ⟨oc, od, kV, doc, pm, an, cdv, ct, osl, rfl, lk, hcd⟩ := F.ex
  intro us ws hu hw
  obtain rfl := List.eq_nil_of_length_eq_zero hu
  obtain ⟨_, _, rfl⟩ := lenOf2 hw
  rfl
theorem KB_format_word_0 {K : PySem.W.Frag} {f : Addr} {fd : FuncData} (F : Fun K "format_word" "format_word" s_format_word f fd) : KBs fd P_format_word 0 ["word"] [0] := by
  obtain ⟨oc, od, kV, doc, pm, an, cdv, ct, osl, rfl, lk, hcd⟩ := F.ex
  intro us ws hu hw
  obtain rfl := List.eq_nil_of_length_eq_zero hu
  obtain ⟨_, rfl⟩ := lenOf1 hw
  rfl
noncomputable def m_is_alphabet : MS := (mSeq (mIf (mNot (mB (mChain leD leD (mC (.int 1)) (mCB lenD (mCons (mV 0) mNil)) (mC (.int 6))))) (mRet (mC (.bl false))) mSkip)
  (mSeq (mIf (mB (mOp neD (mLenSet (mV 0)) (mCB lenD (mCons (mV 0) mNil)))) (mRet (mC (.bl false))) mSkip)
  (mRet (mCB allD (mCons (mLc [1] (mIt itA (mV 0)) (gtN 1) mYes (mChain leD leD (mC (.str "a")) (mV 1) (mC (.str "z")))) mNil)))))
noncomputable def f_is_alphabet : Fn := mDef 1 2 m_is_alphabet
noncomputable def m_check_letters : MS := (mIf (mNot (mB (mCall f_is_alphabet (mCons (mV 0) mNil)))) (mRaiseO 176 ["text"] (mCons (mV 0) mNil)) mSkip)
noncomputable def f_check_letters : Fn := mDef 1 1 m_check_letters
noncomputable def m_has_letters_only : MS := (mRet (mCB allD (mCons (mLc [2] (mIt itA (mV 1)) (gtN 2) mYes (mOp inD (mV 2) (mV 0))) mNil)))
noncomputable def f_has_letters_only : Fn := mDef 2 3 m_has_letters_only
noncomputable def m_is_word : MS := (mSeq (mIf (mNot (mB (mCall f_is_alphabet (mCons (mV 0) mNil)))) (mRet (mC (.bl false))) mSkip)
  (mRet (mAndV (mCall f_has_letters_only (mCons (mV 0) (mCons (mV 1) mNil))) (mOp leD (mCB lenD (mCons (mV 1) mNil)) (mC (.int 32))))))
noncomputable def f_is_word : Fn := mDef 2 2 m_is_word
noncomputable def m_format_word : MS := (mRet (mOrS (mV 0) (mC (.str "-"))))
noncomputable def f_format_word : Fn := mDef 1 1 m_format_word
noncomputable def m_read_word : MS := (mSeq (mIf (mB (mOp eqD (mV 1) (mC (.str "-")))) (mRet (mC (.str ""))) mSkip)
  (mSeq (mIf (mOr (mB (mOp eqD (mV 1) (mC (.str "")))) (mNot (mB (mCall f_is_word (mCons (mV 0) (mCons (mV 1) mNil)))))) (mRaiseO 347 ["at"] (mCons (mV 2) mNil)) mSkip)
  (mRet (mV 1))))
noncomputable def f_read_word : Fn := mDef 3 3 m_read_word
noncomputable def m_parse_word : MS := (mSeq (mExpr (mCall f_check_letters (mCons (mV 0) mNil)))
  (mRet (mCall f_read_word (mCons (mV 0) (mCons (mV 1) (mCons (mC (.int 1)) mNil))))))
noncomputable def f_parse_word : Fn := mDef 2 2 m_parse_word
noncomputable def m__law_draws : MS := (mRet (mLstL (mCons (mLc [1] (mIt itA (mV 0)) (gtN 1) mYes (mCB intD (mCons (mV 1) mNil))) (mCons (mC (.int 0)) (mCons (mC (.int 0)) (mCons (mC (.int 0)) (mCons (mC (.int 1)) (mCons (mC (.int 0)) mNil))))))))
noncomputable def f__law_draws : Fn := mDef 1 2 m__law_draws
noncomputable def m__law_mixed : MS := (mSeq (mAsg (gtN 2) (mOp modD (mCB intD (mCons (mOp addD (mOp addD (mOp mulD (mV 0) (mC (.int 48271))) (mOp mulD (mV 1) (mC (.int 69621)))) (mC (.int 11))) mNil)) (mC (.int 2147483647))))
  (mSeq (mAsg (gtN 3) (mOp modD (mCB intD (mCons (mOp addD (mOp addD (mOp mulD (mV 2) (mV 2)) (mOp mulD (mV 1) (mC (.int 40014)))) (mC (.int 7))) mNil)) (mC (.int 2147483399))))
  (mRet (mOp modD (mCB intD (mCons (mOp addD (mOp mulD (mV 3) (mV 3)) (mV 2)) mNil)) (mC (.int 2147483629))))))
noncomputable def f__law_mixed : Fn := mDef 2 4 m__law_mixed
noncomputable def m__law_take : MS := (mSeq (mIf (mB (mOp ltD (mV 1) (mC (.int 2)))) (mRet (mC (.int 0))) mSkip)
  (mSeq (mIf (mAnd (mB (mOp eqD (mOp ixD (mV 0) (mC (.int 2))) (mC (.int 0)))) (mAnd (mB (mOp eqD (mOp ixD (mV 0) (mC (.int 3))) (mC (.int 0)))) (mB (mOp ltD (mOp ixD (mV 0) (mC (.int 1))) (mCB lenD (mCons (mOp ixD (mV 0) (mC (.int 0))) mNil)))))) (mSeq (mAsg (gtN 2) (mOp ixD (mOp ixD (mV 0) (mC (.int 0))) (mOp ixD (mV 0) (mC (.int 1)))))
  (mSeq (mSub setD (mOp addD (mOp ixD (mV 0) (mC (.int 1))) (mC (.int 1))) (mV 0) (mC (.int 1)))
  (mSeq (mSub setD (mOp modD (mCB intD (mCons (mOp addD (mOp mulD (mOp ixD (mV 0) (mC (.int 4))) (mC (.int 16807))) (mV 2)) mNil)) (mC (.int 2147483647))) (mV 0) (mC (.int 4)))
  (mIf (mOr (mB (mOp geD (mV 2) (mOp powD (mC (.int 10)) (mC (.int 18))))) (mB (mOp geD (mUn negD (mV 2)) (mOp powD (mC (.int 10)) (mC (.int 18)))))) (mSub setD (mCB absD (mCons (mV 2) mNil)) (mV 0) (mC (.int 2))) (mSub setD (mC (.int 3)) (mV 0) (mC (.int 3))))))) mSkip)
  (mSeq (mIf (mB (mOp gtD (mOp ixD (mV 0) (mC (.int 2))) (mC (.int 0)))) (mSeq (mAsg (gtN 3) (mOp modD (mCB intD (mCons (mOp ixD (mV 0) (mC (.int 2))) mNil)) (mV 1)))
  (mSeq (mSub setD (mOp fdivD (mOp ixD (mV 0) (mC (.int 2))) (mV 1)) (mV 0) (mC (.int 2)))
  (mRet (mV 3)))) mSkip)
  (mSeq (mIf (mB (mOp gtD (mOp ixD (mV 0) (mC (.int 3))) (mC (.int 0)))) (mSub setD (mOp subD (mOp ixD (mV 0) (mC (.int 3))) (mC (.int 1))) (mV 0) (mC (.int 3))) mSkip)
  (mSeq (mSub setD (mOp addD (mOp ixD (mV 0) (mC (.int 5))) (mC (.int 1))) (mV 0) (mC (.int 5)))
  (mRet (mOp modD (mCB intD (mCons (mCall f__law_mixed (mCons (mOp ixD (mV 0) (mC (.int 4))) (mCons (mOp ixD (mV 0) (mC (.int 5))) mNil))) mNil)) (mV 1))))))))
noncomputable def f__law_take : Fn := mDef 2 4 m__law_take
noncomputable def m__law_span : MS := (mRet (mOp addD (mV 1) (mCall f__law_take (mCons (mV 0) (mCons (mOp addD (mOp subD (mV 2) (mV 1)) (mC (.int 1))) mNil)))))
noncomputable def f__law_span : Fn := mDef 3 3 m__law_span
noncomputable def m__law_rare : MS := (mRet (mOp eqD (mCall f__law_take (mCons (mV 0) (mCons (mV 1) mNil))) (mOp subD (mV 1) (mC (.int 1)))))
noncomputable def f__law_rare : Fn := mDef 2 2 m__law_rare
noncomputable def m__law_pick : MS := (mRet (mOp ixD (mV 1) (mCall f__law_take (mCons (mV 0) (mCons (mCB lenD (mCons (mV 1) mNil)) mNil)))))
noncomputable def f__law_pick : Fn := mDef 2 2 m__law_pick
noncomputable def m__law_in_range : MS := (mSeq (mIf (mB (mOp eqD (mCall f__law_take (mCons (mV 0) (mCons (mC (.int 3)) mNil))) (mC (.int 2)))) (mRet (mCall f__law_pick (mCons (mV 0) (mCons (mLst (mCons (mV 1) (mCons (mV 2) mNil))) mNil)))) mSkip)
  (mRet (mCall f__law_span (mCons (mV 0) (mCons (mV 1) (mCons (mV 2) mNil))))))
noncomputable def f__law_in_range : Fn := mDef 3 3 m__law_in_range
noncomputable def m__law_letters : MS := (mSeq (mAsg (gtN 3) (mCall f__law_span (mCons (mV 0) (mCons (mV 1) (mCons (mV 2) mNil)))))
  (mSeq (mAsg (gtN 4) (mC (.str "abcdefghijklmnopqrstuvwxyz")))
  (mSeq (mIf (mB (mOp eqD (mCall f__law_take (mCons (mV 0) (mCons (mC (.int 3)) mNil))) (mC (.int 0)))) (mRet (mSl slD (mV 4) mNoP (mP (mV 3)))) mSkip)
  (mSeq (mAsg (gtN 5) (mC (.str "")))
  (mSeq (mFor (mRng1 (mCons (mV 3) mNil)) (gtN 6) (mSeq (mAsg (gtN 7) (mCall f__law_take (mCons (mV 0) (mCons (mCB lenD (mCons (mV 4) mNil)) mNil))))
  (mSeq (mAsg (gtN 5) (mOp addD (mV 5) (mOp ixD (mV 4) (mV 7))))
  (mAsg (gtN 4) (mOp addD (mSl slD (mV 4) mNoP (mP (mV 7))) (mSl slD (mV 4) (mP (mOp addD (mV 7) (mC (.int 1)))) mNoP))))))
  (mRet (mV 5)))))))
noncomputable def f__law_letters : Fn := mDef 3 8 m__law_letters
noncomputable def m__law_stranger : MS := (mRet (mCall f__law_pick (mCons (mV 0) (mCons (mLc [2] (mIt itA (mC (.str "abcdefghijklmnopqrstuvwxyz"))) (gtN 2) (mB (mOp notInD (mV 2) (mV 1))) (mV 2)) mNil))))
noncomputable def f__law_stranger : Fn := mDef 2 3 m__law_stranger
noncomputable def m__law_bad_letters : MS := (mSeq (mAsg (gtN 1) (mCall f__law_take (mCons (mV 0) (mCons (mC (.int 5)) mNil))))
  (mSeq (mIf (mB (mOp eqD (mV 1) (mC (.int 0)))) (mRet (mC (.str ""))) mSkip)
  (mSeq (mIf (mB (mOp eqD (mV 1) (mC (.int 1)))) (mRet (mCall f__law_letters (mCons (mV 0) (mCons (mC (.int 7)) (mCons (mC (.int 8)) mNil))))) mSkip)
  (mSeq (mAsg (gtN 2) (mCall f__law_letters (mCons (mV 0) (mCons (mC (.int 1)) (mCons (mC (.int 6)) mNil)))))
  (mSeq (mAsg (gtN 3) (mCall f__law_take (mCons (mV 0) (mCons (mOp addD (mCB lenD (mCons (mV 2) mNil)) (mC (.int 1))) mNil))))
  (mSeq (mIf (mB (mOp eqD (mV 1) (mC (.int 2)))) (mRet (mOp addD (mOp addD (mSl slD (mV 2) mNoP (mP (mV 3))) (mCall f__law_pick (mCons (mV 0) (mCons (mV 2) mNil)))) (mSl slD (mV 2) (mP (mV 3)) mNoP))) mSkip)
  (mSeq (mIf (mB (mOp eqD (mV 1) (mC (.int 3)))) (mRet (mOp addD (mOp addD (mSl slD (mV 2) mNoP (mP (mV 3))) (mCall f__law_pick (mCons (mV 0) (mCons (mC (.str "AZ059 -_:~")) mNil)))) (mSl slD (mV 2) (mP (mV 3)) mNoP))) mSkip)
  (mSeq (mAsg (gtN 3) (mCall f__law_take (mCons (mV 0) (mCons (mCB lenD (mCons (mV 2) mNil)) mNil))))
  (mRet (mOp addD (mOp addD (mSl slD (mV 2) mNoP (mP (mV 3))) (mCall f__law_pick (mCons (mV 0) (mCons (mC (.str "AQZ1 .")) mNil)))) (mSl slD (mV 2) (mP (mOp addD (mV 3) (mC (.int 1)))) mNoP)))))))))))
noncomputable def f__law_bad_letters : Fn := mDef 1 4 m__law_bad_letters
noncomputable def m__law_word : MS := (mSeq (mAsg (gtN 4) (mCall f__law_in_range (mCons (mV 0) (mCons (mV 2) (mCons (mV 3) mNil)))))
  (mSeq (mAsg (gtN 5) (mCall f__law_take (mCons (mV 0) (mCons (mC (.int 4)) mNil))))
  (mSeq (mIf (mB (mOp eqD (mV 5) (mC (.int 0)))) (mRet (mOp mulD (mCall f__law_pick (mCons (mV 0) (mCons (mV 1) mNil))) (mV 4))) mSkip)
  (mSeq (mIf (mB (mOp eqD (mV 5) (mC (.int 1)))) (mSeq (mAsg (gtN 6) (mOp addD (mCall f__law_pick (mCons (mV 0) (mCons (mV 1) mNil))) (mCall f__law_pick (mCons (mV 0) (mCons (mV 1) mNil)))))
  (mRet (mSl slD (mOp mulD (mV 6) (mV 4)) mNoP (mP (mV 4))))) mSkip)
  (mRet (mBM "str" joinD (mC (.str "")) (mCons (mLc [7] (mRng1 (mCons (mV 4) mNil)) (gtN 7) mYes (mCall f__law_pick (mCons (mV 0) (mCons (mV 1) mNil)))) mNil)))))))
noncomputable def f__law_word : Fn := mDef 4 8 m__law_word
noncomputable def m__law_bad_word : MS := (mSeq (mAsg (gtN 2) (mCall f__law_take (mCons (mV 0) (mCons (mC (.int 4)) mNil))))
  (mSeq (mAsg (gtN 3) (mCall f__law_take (mCons (mV 0) (mCons (mC (.int 7)) mNil))))
  (mSeq (mIf (mB (mOp gtD (mV 2) (mC (.int 1)))) (mAsg (gtN 3) (mOp addD (mC (.int 33)) (mCall f__law_take (mCons (mV 0) (mCons (mC (.int 8)) mNil))))) mSkip)
  (mSeq (mAsg (gtN 4) (mBM "str" joinD (mC (.str "")) (mCons (mLc [5] (mRng1 (mCons (mV 3) mNil)) (gtN 5) mYes (mCall f__law_pick (mCons (mV 0) (mCons (mV 1) mNil)))) mNil)))
  (mSeq (mIf (mB (mOp eqD (mV 2) (mC (.int 2)))) (mRet (mTup (mCons (mV 4) (mCons (mTup (mCons (mC (.str "TooLong")) mNil)) mNil)))) mSkip)
  (mSeq (mAsg (gtN 6) (mCall f__law_take (mCons (mV 0) (mCons (mOp addD (mV 3) (mC (.int 1))) mNil))))
  (mSeq (mAsg (gtN 7) (mCall f__law_pick (mCons (mV 0) (mCons (mC (.str " !\"#$&'()*+,-./0123456789:;<=>?@AMZ[\\]^_`{|}~")) mNil))))
  (mSeq (mAsg (gtN 4) (mOp addD (mOp addD (mSl slD (mV 4) mNoP (mP (mV 6))) (mCall f__law_pick (mCons (mV 0) (mCons (mLst (mCons (mCall f__law_stranger (mCons (mV 0) (mCons (mV 1) mNil))) (mCons (mV 7) mNil))) mNil)))) (mSl slD (mV 4) (mP (mV 6)) mNoP)))
  (mRet (mTup (mCons (mV 4) (mCons (mTup (mCons (mC (.str "BadWord")) (mCons (mV 4) mNil))) mNil))))))))))))
noncomputable def f__law_bad_word : Fn := mDef 2 8 m__law_bad_word
noncomputable def m__law_line : MS := (mSeq (mAsg (gtN 2) (mC (.str " !\"#$&'()*+,-./0123456789:;<=>?@ABCDEFGHIJKLMNOPQRSTUVWXYZ[\\]^_`")))
  (mSeq (mAsg (gtN 2) (mOp addD (mV 2) (mC (.str "abcdefghijklmnopqrstuvwxyz{|}~"))))
  (mRet (mBM "str" joinD (mC (.str "")) (mCons (mLc [3] (mRng1 (mCons (mCall f__law_in_range (mCons (mV 0) (mCons (mC (.int 0)) (mCons (mV 1) mNil)))) mNil)) (gtN 3) mYes (mCall f__law_pick (mCons (mV 0) (mCons (mV 2) mNil)))) mNil)))))
noncomputable def f__law_line : Fn := mDef 2 4 m__law_line
noncomputable def m__law_spoilt : MS := (mSeq (mAsg (gtN 2) (mCall f__law_take (mCons (mV 0) (mCons (mOp addD (mCB lenD (mCons (mV 1) mNil)) (mC (.int 1))) mNil))))
  (mSeq (mAsg (gtN 3) (mCall f__law_take (mCons (mV 0) (mCons (mC (.int 6)) mNil))))
  (mSeq (mAsg (gtN 4) (mCall f__law_pick (mCons (mV 0) (mCons (mC (.str " -+0129abzAZR:={}~")) mNil))))
  (mSeq (mIf (mOr (mB (mOp eqD (mV 3) (mC (.int 0)))) (mB (mOp eqD (mV 1) (mC (.str ""))))) (mRet (mOp addD (mOp addD (mSl slD (mV 1) mNoP (mP (mV 2))) (mV 4)) (mSl slD (mV 1) (mP (mV 2)) mNoP))) mSkip)
  (mSeq (mIf (mB (mOp eqD (mV 3) (mC (.int 1)))) (mRet (mOp addD (mSl slD (mV 1) mNoP (mP (mV 2))) (mSl slD (mV 1) (mP (mOp addD (mV 2) (mC (.int 1)))) mNoP))) mSkip)
  (mSeq (mIf (mB (mOp eqD (mV 3) (mC (.int 2)))) (mRet (mOp addD (mOp addD (mSl slD (mV 1) mNoP (mP (mV 2))) (mV 4)) (mSl slD (mV 1) (mP (mOp addD (mV 2) (mC (.int 1)))) mNoP))) mSkip)
  (mSeq (mIf (mB (mOp eqD (mV 3) (mC (.int 3)))) (mRet (mOp addD (mOp addD (mSl slD (mV 1) mNoP (mP (mV 2))) (mSl slD (mV 1) (mP (mV 2)) (mP (mOp addD (mV 2) (mC (.int 1)))))) (mSl slD (mV 1) (mP (mV 2)) mNoP))) mSkip)
  (mSeq (mIf (mB (mOp eqD (mV 3) (mC (.int 4)))) (mRet (mOp addD (mOp addD (mSl slD (mV 1) mNoP (mP (mV 2))) (mRev (mSl slD (mV 1) (mP (mV 2)) (mP (mOp addD (mV 2) (mC (.int 2))))))) (mSl slD (mV 1) (mP (mOp addD (mV 2) (mC (.int 2)))) mNoP))) mSkip)
  (mRet (mOp addD (mV 1) (mCall f__law_pick (mCons (mV 0) (mCons (mLst (mCons (mC (.str " ")) (mCons (mC (.str " -")) (mCons (mC (.str " R1")) (mCons (mC (.str "0")) (mCons (mC (.str " +")) mNil)))))) mNil)))))))))))))
noncomputable def f__law_spoilt : Fn := mDef 2 5 m__law_spoilt
noncomputable def m__law_same (fn_rec : Fn) : MS := (mSeq (mIf (mB (mOp isND (mV 1) (mC .non))) (mRet (mOp isND (mV 0) (mC .non))) mSkip)
  (mSeq (mIf (mB (mCB isiD (mCons (mV 1) (mCons (mC (.ty "bool")) mNil)))) (mRet (mAndV (mCB isiD (mCons (mV 0) (mCons (mC (.ty "bool")) mNil))) (mOp eqD (mV 0) (mV 1)))) mSkip)
  (mSeq (mIf (mB (mCB isiD (mCons (mV 1) (mCons (mC (.ty "int")) mNil)))) (mRet (mAndV (mCB isiD (mCons (mV 0) (mCons (mC (.ty "int")) mNil))) (mAndV (mNotV (mCB isiD (mCons (mV 0) (mCons (mC (.ty "bool")) mNil)))) (mOp eqD (mV 0) (mV 1))))) mSkip)
  (mSeq (mIf (mB (mCB isiD (mCons (mV 1) (mCons (mC (.ty "str")) mNil)))) (mRet (mAndV (mCB isiD (mCons (mV 0) (mCons (mC (.ty "str")) mNil))) (mOp eqD (mV 0) (mV 1)))) mSkip)
  (mSeq (mIf (mAnd (mB (mCB isiD (mCons (mV 1) (mCons (mC (.ty "tuple")) mNil)))) (mNot (mB (mCB isiD (mCons (mV 0) (mCons (mC (.ty "tuple")) mNil)))))) (mRet (mC (.bl false))) mSkip)
  (mSeq (mIf (mAnd (mB (mCB isiD (mCons (mV 1) (mCons (mC (.ty "list")) mNil)))) (mNot (mB (mCB isiD (mCons (mV 0) (mCons (mC (.ty "list")) mNil)))))) (mRet (mC (.bl false))) mSkip)
  (mSeq (mIf (mB (mOp neD (mCB lenD (mCons (mV 0) mNil)) (mCB lenD (mCons (mV 1) mNil)))) (mRet (mC (.bl false))) mSkip)
  (mSeq (mFor (mRng1 (mCons (mCB lenD (mCons (mV 1) mNil)) mNil)) (gtN 2) (mIf (mNot (mB (mCall (fn_rec) (mCons (mOp ixD (mV 0) (mV 2)) (mCons (mOp ixD (mV 1) (mV 2)) mNil))))) (mRet (mC (.bl false))) mSkip))
  (mRet (mC (.bl true)))))))))))
noncomputable def f__law_same : Nat → Fn
  | 0 => fun _ _ => .bad
  | n + 1 => mDef 2 3 (m__law_same (f__law_same n))
noncomputable def m__law_word_fault : MS := (mSeq (mFor (mIt itA (mV 1)) (gtN 3) (mIf (mB (mOp notInD (mV 3) (mV 0))) (mRet (mTup (mCons (mC (.str "BadWord")) (mCons (mV 1) mNil)))) mSkip))
  (mSeq (mIf (mB (mOp gtD (mCB lenD (mCons (mV 1) mNil)) (mV 2))) (mRet (mTup (mCons (mC (.str "TooLong")) mNil))) mSkip)
  (mRet (mTup mNil))))
noncomputable def f__law_word_fault : Fn := mDef 3 4 m__law_word_fault
noncomputable def m__law_written : MS := (mSeq (mIf (mB (mOp eqD (mV 0) (mC (.str "")))) (mRet (mC (.str "-"))) mSkip)
  (mRet (mV 0)))
noncomputable def f__law_written : Fn := mDef 1 1 m__law_written
noncomputable def m__law_is_alphabet : MS := (mSeq (mIf (mOr (mB (mOp ltD (mCB lenD (mCons (mV 0) mNil)) (mC (.int 1)))) (mB (mOp gtD (mCB lenD (mCons (mV 0) mNil)) (mC (.int 6))))) (mRet (mC (.bl false))) mSkip)
  (mSeq (mFor (mRng1 (mCons (mCB lenD (mCons (mV 0) mNil)) mNil)) (gtN 1) (mIf (mOr (mB (mOp notInD (mOp ixD (mV 0) (mV 1)) (mC (.str "abcdefghijklmnopqrstuvwxyz")))) (mB (mOp inD (mOp ixD (mV 0) (mV 1)) (mSl slD (mV 0) mNoP (mP (mV 1)))))) (mRet (mC (.bl false))) mSkip))
  (mRet (mC (.bl true)))))
noncomputable def f__law_is_alphabet : Fn := mDef 1 2 m__law_is_alphabet
noncomputable def m__law_read : MS := (mSeq (mTryAs 3 (tX.exm 24) (mSeq (mIf (mB (mOp eqD (mV 2) (mC (.int 1)))) (mRet (mTup (mCons (mC (.str "told")) (mCons (mCallK0 f_parse_word 2 [1, 0] (mCons (mV 1) (mCons (mV 0) mNil))) mNil)))) mSkip)
  (mRet (mTup (mCons (mC (.str "told")) (mCons (mCall f_parse_word (mCons (mV 0) (mCons (mV 1) mNil))) mNil))))) (fun a d y => (mSeq (mAsg (gtN 4) (mAndV (mCB (isxD a d (tX.isx (clsA y))) (mCons (mV 3) (mCons (mC (.ty "ValueError")) mNil))) (mNotV (mCB (isxTD a d (tX.isx (clsA y))) (mCons (mV 3) (mCons (mTup (mCons (mC (.rf 37)) (mCons (mC (.rf 195)) mNil))) mNil))))))
  (mSeq (mIf (mAnd (mB (mV 4)) (mAnd (mB (mCB (isxD a d (tX.isx (clsA y))) (mCons (mV 3) (mCons (mC (.rf 176)) mNil)))) (mNot (mB (mCB (isxD a d (tX.isx (clsA y))) (mCons (mV 3) (mCons (mC (.rf 347)) mNil))))))) (mRet (mTup (mCons (mC (.str "BadLetters")) (mCons (mXf a d "text" (mV 3)) mNil)))) mSkip)
  (mIf (mAnd (mB (mV 4)) (mAnd (mB (mCB (isxD a d (tX.isx (clsA y))) (mCons (mV 3) (mCons (mC (.rf 347)) mNil)))) (mNot (mB (mCB (isxD a d (tX.isx (clsA y))) (mCons (mV 3) (mCons (mC (.rf 176)) mNil))))))) (mRet (mTup (mCons (mC (.str "BadText")) (mCons (mXf a d "at" (mV 3)) mNil)))) mSkip)))))
  (mRet (mTup (mCons (mC (.str "other")) mNil))))
noncomputable def f__law_read : Fn := mDef 3 5 m__law_read
noncomputable def m__law_due : MS := (mSeq (mIf (mNot (mB (mCall f__law_is_alphabet (mCons (mV 0) mNil)))) (mRet (mTup (mCons (mC (.str "BadLetters")) (mCons (mV 0) mNil)))) mSkip)
  (mSeq (mIf (mB (mOp eqD (mV 1) (mC (.str "-")))) (mRet (mTup (mCons (mC (.str "told")) (mCons (mC (.str "")) mNil)))) mSkip)
  (mSeq (mIf (mOr (mB (mOp eqD (mV 1) (mC (.str "")))) (mB (mOp gtD (mCB lenD (mCons (mCall f__law_word_fault (mCons (mV 0) (mCons (mV 1) (mCons (mC (.int 32)) mNil)))) mNil)) (mC (.int 0))))) (mRet (mTup (mCons (mC (.str "BadText")) (mCons (mC (.int 1)) mNil)))) mSkip)
  (mRet (mTup (mCons (mC (.str "told")) (mCons (mV 1) mNil)))))))
noncomputable def f__law_due : Fn := mDef 2 2 m__law_due
noncomputable def m__law_right : MS := (mSeq (mAsg (gtN 2) (mCall f__law_is_alphabet (mCons (mV 0) mNil)))
  (mSeq (mIf (mOr (mNot (mB (mCall (f__law_same 8) (mCons (mCall f_is_alphabet (mCons (mV 0) mNil)) (mCons (mV 2) mNil))))) (mNot (mB (mCall (f__law_same 8) (mCons (mCallK0 f_is_alphabet 1 [0] (mCons (mV 0) mNil)) (mCons (mV 2) mNil)))))) (mRet (mC (.bl false))) mSkip)
  (mSeq (mAsg (gtN 2) (mAndV (mV 2) (mOp eqD (mCB lenD (mCons (mCall f__law_word_fault (mCons (mV 0) (mCons (mV 1) (mCons (mC (.int 32)) mNil)))) mNil)) (mC (.int 0)))))
  (mSeq (mIf (mOr (mNot (mB (mCall (f__law_same 8) (mCons (mCall f_is_word (mCons (mV 0) (mCons (mV 1) mNil))) (mCons (mV 2) mNil))))) (mNot (mB (mCall (f__law_same 8) (mCons (mCallK0 f_is_word 2 [1, 0] (mCons (mV 1) (mCons (mV 0) mNil))) (mCons (mV 2) mNil)))))) (mRet (mC (.bl false))) mSkip)
  (mSeq (mAsg (gtN 3) (mCall f__law_due (mCons (mV 0) (mCons (mV 1) mNil))))
  (mRet (mAndV (mCall (f__law_same 8) (mCons (mCall f__law_read (mCons (mV 0) (mCons (mV 1) (mCons (mC (.int 0)) mNil)))) (mCons (mV 3) mNil))) (mCall (f__law_same 8) (mCons (mCall f__law_read (mCons (mV 0) (mCons (mV 1) (mCons (mC (.int 1)) mNil)))) (mCons (mV 3) mNil))))))))))
noncomputable def f__law_right : Fn := mDef 2 4 m__law_right
noncomputable def m__law_texts : MS := (mSeq (mAsg (gtN 3) (mLstL (mCons (mC (.str "")) (mCons (mC (.str "-")) (mCons (mC (.str "--")) (mCons (mCall f__law_written (mCons (mV 2) mNil)) (mCons (mOp addD (mC (.str "-")) (mCall f__law_pick (mCons (mV 0) (mCons (mV 1) mNil)))) (mCons (mOp addD (mCall f__law_pick (mCons (mV 0) (mCons (mV 1) mNil))) (mC (.str "-"))) mNil))))))))
  (mSeq (mExpr (mBM "list" appendD (mV 3) (mCons (mOp addD (mC (.str " ")) (mCall f__law_written (mCons (mV 2) mNil))) mNil)))
  (mSeq (mExpr (mBM "list" appendD (mV 3) (mCons (mOp addD (mV 2) (mC (.str " "))) mNil)))
  (mSeq (mExpr (mBM "list" appendD (mV 3) (mCons (mCall f__law_word (mCons (mV 0) (mCons (mV 1) (mCons (mC (.int 31)) (mCons (mC (.int 33)) mNil))))) mNil)))
  (mSeq (mExpr (mBM "list" appendD (mV 3) (mCons (mOp ixD (mCall f__law_bad_word (mCons (mV 0) (mCons (mV 1) mNil))) (mC (.int 0))) mNil)))
  (mSeq (mExpr (mBM "list" appendD (mV 3) (mCons (mCall f__law_spoilt (mCons (mV 0) (mCons (mCall f__law_written (mCons (mV 2) mNil)) mNil))) mNil)))
  (mSeq (mExpr (mBM "list" appendD (mV 3) (mCons (mCall f__law_line (mCons (mV 0) (mCons (mC (.int 6)) mNil))) mNil)))
  (mRet (mV 3)))))))))
noncomputable def f__law_texts : Fn := mDef 3 4 m__law_texts
noncomputable def m__law_alphabets : MS := (mSeq (mAsg (gtN 2) (mLstL (mCons (mCall f__law_bad_letters (mCons (mV 0) mNil)) (mCons (mOp addD (mV 1) (mSl slD (mV 1) mNoP (mP (mC (.int 1))))) (mCons (mRev (mV 1)) (mCons (mCall f__law_line (mCons (mV 0) (mCons (mC (.int 7)) mNil))) mNil))))))
  (mSeq (mExpr (mBM "list" appendD (mV 2) (mCons (mCall f__law_spoilt (mCons (mV 0) (mCons (mV 1) mNil))) mNil)))
  (mSeq (mExpr (mBM "list" appendD (mV 2) (mCons (mBM0 "str" upperD (mV 1)) mNil)))
  (mSeq (mExpr (mBM "list" appendD (mV 2) (mCons (mSl slD (mC (.str "abcdefghijklmnopqrstuvwxyz")) mNoP (mP (mCall f__law_take (mCons (mV 0) (mCons (mC (.int 27)) mNil))))) mNil)))
  (mRet (mV 2))))))
noncomputable def f__law_alphabets : Fn := mDef 2 3 m__law_alphabets
noncomputable def m__law_long_right : MS := (mSeq (mAsg (gtN 2) (mCall f__law_in_range (mCons (mV 0) (mCons (mC (.int 60)) (mCons (mC (.int 4990)) mNil)))))
  (mSeq (mAsg (gtN 3) (mOp mulD (mCall f__law_pick (mCons (mV 0) (mCons (mV 1) mNil))) (mV 2)))
  (mSeq (mAsg (gtN 4) (mCall f__law_take (mCons (mV 0) (mCons (mOp addD (mV 2) (mC (.int 1))) mNil))))
  (mSeq (mAsg (gtN 5) (mOp addD (mOp addD (mSl slD (mV 3) mNoP (mP (mV 4))) (mCall f__law_pick (mCons (mV 0) (mCons (mC (.str "-?A 0")) mNil)))) (mSl slD (mV 3) (mP (mV 4)) mNoP)))
  (mSeq (mFor (mIt itA (mLst (mCons (mV 3) (mCons (mV 5) mNil)))) (gtN 6) (mIf (mOr (mNot (mB (mCall f__law_right (mCons (mV 1) (mCons (mV 6) mNil))))) (mNot (mB (mCall f__law_right (mCons (mV 6) (mCons (mV 1) mNil)))))) (mRet (mC (.bl false))) mSkip))
  (mRet (mCall (f__law_same 8) (mCons (mCall f_format_word (mCons (mV 3) mNil)) (mCons (mV 3) mNil)))))))))
noncomputable def f__law_long_right : Fn := mDef 2 7 m__law_long_right
noncomputable def m__law_marks : MS := (mSeq (mAsg (gtN 1) (mLst (mCons (mCB (isvD tX) (mCons (mV 0) (mCons (mC (.rf 49)) mNil))) (mCons (mCB (isvD tX) (mCons (mV 0) (mCons (mC (.rf 61)) mNil))) (mCons (mCB (isvD tX) (mCons (mV 0) (mCons (mC (.rf 73)) mNil))) mNil)))))
  (mSeq (mAsg (gtN 1) (mOp addD (mV 1) (mLst (mCons (mCB (isvD tX) (mCons (mV 0) (mCons (mC (.rf 85)) mNil))) (mCons (mCB (isvD tX) (mCons (mV 0) (mCons (mC (.rf 97)) mNil))) (mCons (mCB (isvD tX) (mCons (mV 0) (mCons (mC (.rf 109)) mNil))) mNil))))))
  (mSeq (mAsg (gtN 1) (mOp addD (mV 1) (mLst (mCons (mCB (isvD tX) (mCons (mV 0) (mCons (mC (.rf 121)) mNil))) (mCons (mCB (isvD tX) (mCons (mV 0) (mCons (mC (.rf 133)) mNil))) (mCons (mCB (isvD tX) (mCons (mV 0) (mCons (mC (.rf 145)) mNil))) mNil))))))
  (mSeq (mAsg (gtN 1) (mOp addD (mV 1) (mLst (mCons (mCB (isvD tX) (mCons (mV 0) (mCons (mC (.rf 157)) mNil))) (mCons (mCB (isvD tX) (mCons (mV 0) (mCons (mC (.rf 176)) mNil))) (mCons (mCB (isvD tX) (mCons (mV 0) (mCons (mC (.rf 195)) mNil))) mNil))))))
  (mSeq (mAsg (gtN 1) (mOp addD (mV 1) (mLst (mCons (mCB (isvD tX) (mCons (mV 0) (mCons (mC (.rf 214)) mNil))) (mCons (mCB (isvD tX) (mCons (mV 0) (mCons (mC (.rf 271)) mNil))) (mCons (mCB (isvD tX) (mCons (mV 0) (mCons (mC (.rf 290)) mNil))) mNil))))))
  (mSeq (mAsg (gtN 1) (mOp addD (mV 1) (mLst (mCons (mCB (isvD tX) (mCons (mV 0) (mCons (mC (.rf 309)) mNil))) (mCons (mCB (isvD tX) (mCons (mV 0) (mCons (mC (.rf 328)) mNil))) (mCons (mCB (isvD tX) (mCons (mV 0) (mCons (mC (.rf 385)) mNil))) mNil))))))
  (mSeq (mAsg (gtN 1) (mOp addD (mV 1) (mLst (mCons (mCB (isvD tX) (mCons (mV 0) (mCons (mC (.rf 252)) mNil))) (mCons (mCB (isvD tX) (mCons (mV 0) (mCons (mC (.rf 347)) mNil))) (mCons (mCB (isvD tX) (mCons (mV 0) (mCons (mC (.rf 366)) mNil))) mNil))))))
  (mSeq (mAsg (gtN 1) (mOp addD (mV 1) (mLst (mCons (mCB (isvD tX) (mCons (mV 0) (mCons (mC (.rf 404)) mNil))) (mCons (mCB (isvD tX) (mCons (mV 0) (mCons (mC (.rf 423)) mNil))) (mCons (mCB (isvD tX) (mCons (mV 0) (mCons (mC (.rf 442)) mNil))) mNil))))))
  (mSeq (mAsg (gtN 1) (mOp addD (mV 1) (mLst (mCons (mCB (isvD tX) (mCons (mV 0) (mCons (mC (.rf 233)) mNil))) (mCons (mCB (isvD tX) (mCons (mV 0) (mCons (mC (.rf 461)) mNil))) (mCons (mCB (isvD tX) (mCons (mV 0) (mCons (mC (.rf 480)) mNil))) mNil))))))
  (mRet (mOp addD (mV 1) (mLst (mCons (mCB (isvD tX) (mCons (mV 0) (mCons (mC (.rf 499)) mNil))) (mCons (mCB (isvD tX) (mCons (mV 0) (mCons (mC (.rf 518)) mNil))) (mCons (mCB (isvD tX) (mCons (mV 0) (mCons (mC (.rf 537)) mNil))) mNil)))))))))))))))
noncomputable def f__law_marks : Fn := mDef 1 2 m__law_marks
noncomputable def m__law_errors_right : MS := (mSeq (mAsg (gtN 3) (mCall f__law_pick (mCons (mV 0) (mCons (mLst (mCons (mCall f__law_span (mCons (mV 0) (mCons (mUn negD (mC (.int 99))) (mCons (mC (.int 999)) mNil)))) (mCons (mC (.int 0)) (mCons (mOp subD (mOp powD (mC (.int 10)) (mC (.int 18))) (mC (.int 1))) (mCons (mOp subD (mC (.int 1)) (mOp powD (mC (.int 10)) (mC (.int 18)))) mNil))))) mNil))))
  (mSeq (mAsg (gtN 4) (mTup (mCons (mC (.int 1)) (mCons (mV 1) (mCons (mV 3) mNil)))))
  (mSeq (mAsg (gtN 5) (mTup (mCons (mUn negD (mC (.int 1))) (mCons (mV 2) (mCons (mC (.int 0)) mNil)))))
  (mSeq (mAsg (gtN 6) (mLst (mCons (mXob0 49) (mCons (mXob0 61) (mCons (mXob0 73) (mCons (mXob0 85) (mCons (mXob0 97) (mCons (mXob0 109) (mCons (mXob0 121) (mCons (mXob0 133) mNil))))))))))
  (mSeq (mAsg (gtN 6) (mOp addD (mV 6) (mLst (mCons (mXob0 145) (mCons (mXob0 157) mNil)))))
  (mSeq (mAsg (gtN 7) (mLst (mCons (mXobO 176 ["text"] (mCons (mV 1) mNil)) (mCons (mXobO 195 ["text"] (mCons (mV 1) mNil)) mNil))))
  (mSeq (mAsg (gtN 8) (mLst (mCons (mXobO 214 ["name"] (mCons (mV 1) mNil)) (mCons (mXobO 271 ["name"] (mCons (mV 1) mNil)) (mCons (mXobO 290 ["name"] (mCons (mV 1) mNil)) (mCons (mXobO 309 ["name"] (mCons (mV 1) mNil)) (mCons (mXobO 328 ["name"] (mCons (mV 1) mNil)) (mCons (mXobO 385 ["name"] (mCons (mV 1) mNil)) mNil))))))))
  (mSeq (mAsg (gtN 9) (mLst (mCons (mXobO 252 ["at"] (mCons (mV 3) mNil)) (mCons (mXobO 347 ["at"] (mCons (mV 3) mNil)) (mCons (mXobO 366 ["at"] (mCons (mV 3) mNil)) (mCons (mXobO 404 ["at"] (mCons (mV 3) mNil)) (mCons (mXobO 423 ["at"] (mCons (mV 3) mNil)) (mCons (mXobO 442 ["at"] (mCons (mV 3) mNil)) mNil))))))))
  (mSeq (mAsg (gtN 10) (mXobO 461 ["one", "other"] (mCons (mV 1) (mCons (mV 2) mNil))))
  (mSeq (mAsg (gtN 11) (mLst (mCons (mXobO 480 ["top", "one", "other"] (mCons (mV 1) (mCons (mV 4) (mCons (mV 5) mNil)))) (mCons (mXobO 499 ["top", "one", "other"] (mCons (mV 1) (mCons (mV 4) (mCons (mV 5) mNil)))) mNil))))
  (mSeq (mAsg (gtN 12) (mLst (mCons (mXobO 233 ["number"] (mCons (mV 3) mNil)) (mCons (mXobO 518 ["path"] (mCons (mTup (mCons (mV 3) (mCons (mC (.int 0)) (mCons (mC (.int 3)) mNil)))) mNil)) (mCons (mXobO 537 ["at", "name"] (mCons (mV 3) (mCons (mV 2) mNil))) mNil)))))
  (mSeq (mAsg (gtN 6) (mOp addD (mOp addD (mOp addD (mOp addD (mOp addD (mOp addD (mV 6) (mV 7)) (mV 8)) (mV 9)) (mLst (mCons (mOp ixD (mV 12) (mC (.int 0))) (mCons (mV 10) mNil)))) (mV 11)) (mSl slD (mV 12) (mP (mC (.int 1))) mNoP)))
  (mSeq (mFor (mRng1 (mCons (mC (.int 30)) mNil)) (gtN 13) (mSeq (mAsg (gtN 14) (mLst (mCons (mCB (isvD tX) (mCons (mOp ixD (mV 6) (mV 13)) (mCons (mC (.rf 37)) mNil))) (mCons (mCB (isvD tX) (mCons (mOp ixD (mV 6) (mV 13)) (mCons (mC (.rf 24)) mNil))) (mCons (mCB (isvD tX) (mCons (mOp ixD (mV 6) (mV 13)) (mCons (mC (.ty "ValueError")) mNil))) mNil)))))
  (mIf (mOr (mB (mOp neD (mCall f__law_marks (mCons (mOp ixD (mV 6) (mV 13)) mNil)) (mLc [15] (mRng1 (mCons (mC (.int 30)) mNil)) (gtN 15) mYes (mOp eqD (mV 15) (mV 13))))) (mB (mOp neD (mV 14) (mLst (mCons (mOp ltD (mV 13) (mC (.int 2))) (mCons (mC (.bl true)) (mCons (mC (.bl true)) mNil))))))) (mRet (mC (.bl false))) mSkip)))
  (mSeq (mAsg (gtN 16) (mLst (mCons (mLc [17] (mIt itA (mV 7)) (gtN 17) mYes (mXoF tX "text" (mV 17))) (mCons (mLc [17] (mIt itA (mV 8)) (gtN 17) mYes (mXoF tX "name" (mV 17))) (mCons (mLc [17] (mIt itA (mV 9)) (gtN 17) mYes (mXoF tX "at" (mV 17))) (mCons (mXoF tX "number" (mOp ixD (mV 12) (mC (.int 0)))) (mCons (mXoF tX "path" (mOp ixD (mV 12) (mC (.int 1)))) mNil)))))))
  (mSeq (mAsg (gtN 16) (mOp addD (mV 16) (mLst (mCons (mXoF tX "one" (mV 10)) (mCons (mXoF tX "other" (mV 10)) (mCons (mXoF tX "at" (mOp ixD (mV 12) (mC (.int 2)))) (mCons (mXoF tX "name" (mOp ixD (mV 12) (mC (.int 2)))) mNil)))))))
  (mSeq (mFor (mIt itA (mV 11)) (gtN 17) (mAsg (gtN 16) (mOp addD (mV 16) (mLst (mCons (mXoF tX "top" (mV 17)) (mCons (mXoF tX "one" (mV 17)) (mCons (mXoF tX "other" (mV 17)) mNil)))))))
  (mSeq (mAsg (gtN 18) (mLst (mCons (mOp mulD (mLst (mCons (mV 1) mNil)) (mC (.int 2))) (mCons (mOp mulD (mLst (mCons (mV 1) mNil)) (mC (.int 6))) (mCons (mOp mulD (mLst (mCons (mV 3) mNil)) (mC (.int 6))) (mCons (mV 3) (mCons (mTup (mCons (mV 3) (mCons (mC (.int 0)) (mCons (mC (.int 3)) mNil)))) (mCons (mV 1) (mCons (mV 2) (mCons (mV 3) (mCons (mV 2) mNil)))))))))))
  (mRet (mCall (f__law_same 8) (mCons (mV 16) (mCons (mOp addD (mV 18) (mOp mulD (mLst (mCons (mV 1) (mCons (mV 4) (mCons (mV 5) mNil)))) (mC (.int 2)))) mNil)))))))))))))))))))))
noncomputable def f__law_errors_right : Fn := mDef 3 19 m__law_errors_right
noncomputable def m_law : MS := (mSeq (mAsg (gtN 1) (mLst (mCons (mC (.int 6)) (mCons (mC (.int 12)) (mCons (mC (.int 8)) (mCons (mC (.int 99)) (mCons (mC (.int 32)) (mCons (mC (.int 120)) (mCons (mC (.int 400)) (mCons (mC (.int 40)) (mCons (mC (.int 200)) (mCons (mC (.int 400)) mNil))))))))))))
  (mSeq (mIf (mNot (mB (mCall (f__law_same 8) (mCons (mV 1) (mCons (mLst (mCons (mC (.int 6)) (mCons (mC (.int 12)) (mCons (mC (.int 8)) (mCons (mC (.int 99)) (mCons (mC (.int 32)) (mCons (mC (.int 120)) (mCons (mC (.int 400)) (mCons (mC (.int 40)) (mCons (mC (.int 200)) (mCons (mC (.int 400)) mNil))))))))))) mNil))))) (mRet (mC (.bl false))) mSkip)
  (mSeq (mAsg (gtN 2) (mCall f__law_draws (mCons (mV 0) mNil)))
  (mSeq (mAsg (gtN 3) (mCall f__law_letters (mCons (mV 2) (mCons (mC (.int 1)) (mCons (mC (.int 6)) mNil)))))
  (mSeq (mAsg (gtN 4) (mCall f__law_letters (mCons (mV 2) (mCons (mC (.int 1)) (mCons (mC (.int 6)) mNil)))))
  (mSeq (mFor (mRng1 (mCons (mC (.int 2)) mNil)) (gtN 5) (mSeq (mAsg (gtN 6) (mCall f__law_word (mCons (mV 2) (mCons (mV 3) (mCons (mC (.int 0)) (mCons (mCall f__law_pick (mCons (mV 2) (mCons (mLst (mCons (mC (.int 5)) (mCons (mC (.int 32)) mNil))) mNil))) mNil))))))
  (mSeq (mAsg (gtN 7) (mCall f_format_word (mCons (mV 6) mNil)))
  (mSeq (mIf (mOr (mNot (mB (mCall (f__law_same 8) (mCons (mV 7) (mCons (mCall f__law_written (mCons (mV 6) mNil)) mNil))))) (mNot (mB (mCall (f__law_same 8) (mCons (mCall f__law_read (mCons (mV 3) (mCons (mV 7) (mCons (mC (.int 0)) mNil)))) (mCons (mTup (mCons (mC (.str "told")) (mCons (mV 6) mNil))) mNil)))))) (mRet (mC (.bl false))) mSkip)
  (mSeq (mAsg (gtN 8) (mOp addD (mV 6) (mOp mulD (mRev (mV 3)) (mOp mulD (mV 5) (mC (.int 8))))))
  (mSeq (mIf (mNot (mB (mCall (f__law_same 8) (mCons (mCallK0 f_format_word 1 [0] (mCons (mV 8) mNil)) (mCons (mCall f__law_written (mCons (mV 8) mNil)) mNil))))) (mRet (mC (.bl false))) mSkip)
  (mSeq (mFor (mIt itA (mFrz (mCall f__law_texts (mCons (mV 2) (mCons (mV 3) (mCons (mV 6) mNil)))))) (gtN 9) (mIf (mOr (mNot (mB (mCall f__law_right (mCons (mV 3) (mCons (mV 9) mNil))))) (mNot (mB (mCall f__law_right (mCons (mV 4) (mCons (mV 9) mNil)))))) (mRet (mC (.bl false))) mSkip))
  (mSeq (mFor (mIt itA (mFrz (mCall f__law_alphabets (mCons (mV 2) (mCons (mV 3) mNil))))) (gtN 10) (mIf (mOr (mNot (mB (mCall f__law_right (mCons (mV 10) (mCons (mV 7) mNil))))) (mNot (mB (mCall f__law_right (mCons (mV 10) (mCons (mOp ixD (mCall f__law_bad_word (mCons (mV 2) (mCons (mV 3) mNil))) (mC (.int 0))) mNil)))))) (mRet (mC (.bl false))) mSkip))
  (mIf (mOr (mNot (mB (mCall f__law_right (mCons (mV 3) (mCons (mV 7) mNil))))) (mNot (mB (mCall f__law_right (mCons (mV 3) (mCons (mV 6) mNil)))))) (mRet (mC (.bl false))) mSkip)))))))))
  (mSeq (mIf (mAnd (mB (mCall f__law_rare (mCons (mV 2) (mCons (mC (.int 4)) mNil)))) (mNot (mB (mCall f__law_long_right (mCons (mV 2) (mCons (mV 3) mNil)))))) (mRet (mC (.bl false))) mSkip)
  (mRet (mCall f__law_errors_right (mCons (mV 2) (mCons (mOp mulD (mCall f__law_line (mCons (mV 2) (mCons (mC (.int 12)) mNil))) (mC (.int 30))) (mCons (mCall f__law_word (mCons (mV 2) (mCons (mV 3) (mCons (mC (.int 0)) (mCons (mC (.int 32)) mNil))))) mNil))))))))))))
noncomputable def f_law : Fn := mDef 1 11 m_law
section
variable {P : Program} {w : World} {K : PySem.W.Frag} {mg : Str → Option Value} {base : Heap}
theorem oki_BadLetters (X : Xk K 176 [24]) (no : ∀ f ∈ (["text"] : List Str), PySem.W.findIn K (.ref 176) f = some none) {f : Addr} {fd : FuncData} (D : Dfi K 176 "BadLetters.__init__" s_BadLetters_i f fd P_BadLetters_i) :
    FnOk P w K mg base (L2.CX P w) 1 f fd P_BadLetters_i (iniSp K 176 ["text"]) :=
  ini_ok D.F sc_BadLetters_i rfl (by decide) (by decide) fun cdv A outer s H E hr => (by
    have e : defBody s_BadLetters_i = _ := rfl
    rw [e]
    exact (.cons (ps_ost (pv 0) (pv 1)) (no "text" (by decide)) .nil))
theorem oki_BadWord (X : Xk K 195 [24]) (no : ∀ f ∈ (["text"] : List Str), PySem.W.findIn K (.ref 195) f = some none) {f : Addr} {fd : FuncData} (D : Dfi K 195 "BadWord.__init__" s_BadWord_i f fd P_BadWord_i) :
    FnOk P w K mg base (L2.CX P w) 1 f fd P_BadWord_i (iniSp K 195 ["text"]) :=
  ini_ok D.F sc_BadWord_i rfl (by decide) (by decide) fun cdv A outer s H E hr => (by
    have e : defBody s_BadWord_i = _ := rfl
    rw [e]
    exact (.cons (ps_ost (pv 0) (pv 1)) (no "text" (by decide)) .nil))
theorem oki_BadName (X : Xk K 214 [24]) (no : ∀ f ∈ (["name"] : List Str), PySem.W.findIn K (.ref 214) f = some none) {f : Addr} {fd : FuncData} (D : Dfi K 214 "BadName.__init__" s_BadName_i f fd P_BadName_i) :
    FnOk P w K mg base (L2.CX P w) 1 f fd P_BadName_i (iniSp K 214 ["name"]) :=
  ini_ok D.F sc_BadName_i rfl (by decide) (by decide) fun cdv A outer s H E hr => (by
    have e : defBody s_BadName_i = _ := rfl
    rw [e]
    exact (.cons (ps_ost (pv 0) (pv 1)) (no "name" (by decide)) .nil))
theorem oki_BadNumber (X : Xk K 233 [24]) (no : ∀ f ∈ (["number"] : List Str), PySem.W.findIn K (.ref 233) f = some none) {f : Addr} {fd : FuncData} (D : Dfi K 233 "BadNumber.__init__" s_BadNumber_i f fd P_BadNumber_i) :
    FnOk P w K mg base (L2.CX P w) 1 f fd P_BadNumber_i (iniSp K 233 ["number"]) :=
  ini_ok D.F sc_BadNumber_i rfl (by decide) (by decide) fun cdv A outer s H E hr => (by
    have e : defBody s_BadNumber_i = _ := rfl
    rw [e]
    exact (.cons (ps_ost (pv 0) (pv 1)) (no "number" (by decide)) .nil))
theorem oki_BadRow (X : Xk K 252 [24]) (no : ∀ f ∈ (["at"] : List Str), PySem.W.findIn K (.ref 252) f = some none) {f : Addr} {fd : FuncData} (D : Dfi K 252 "BadRow.__init__" s_BadRow_i f fd P_BadRow_i) :
    FnOk P w K mg base (L2.CX P w) 1 f fd P_BadRow_i (iniSp K 252 ["at"]) :=
  ini_ok D.F sc_BadRow_i rfl (by decide) (by decide) fun cdv A outer s H E hr => (by
    have e : defBody s_BadRow_i = _ := rfl
    rw [e]
    exact (.cons (ps_ost (pv 0) (pv 1)) (no "at" (by decide)) .nil))
theorem oki_BadRule (X : Xk K 271 [24]) (no : ∀ f ∈ (["name"] : List Str), PySem.W.findIn K (.ref 271) f = some none) {f : Addr} {fd : FuncData} (D : Dfi K 271 "BadRule.__init__" s_BadRule_i f fd P_BadRule_i) :
    FnOk P w K mg base (L2.CX P w) 1 f fd P_BadRule_i (iniSp K 271 ["name"]) :=
  ini_ok D.F sc_BadRule_i rfl (by decide) (by decide) fun cdv A outer s H E hr => (by
    have e : defBody s_BadRule_i = _ := rfl
    rw [e]
    exact (.cons (ps_ost (pv 0) (pv 1)) (no "name" (by decide)) .nil))
theorem oki_Rising (X : Xk K 290 [24]) (no : ∀ f ∈ (["name"] : List Str), PySem.W.findIn K (.ref 290) f = some none) {f : Addr} {fd : FuncData} (D : Dfi K 290 "Rising.__init__" s_Rising_i f fd P_Rising_i) :
    FnOk P w K mg base (L2.CX P w) 1 f fd P_Rising_i (iniSp K 290 ["name"]) :=
  ini_ok D.F sc_Rising_i rfl (by decide) (by decide) fun cdv A outer s H E hr => (by
    have e : defBody s_Rising_i = _ := rfl
    rw [e]
    exact (.cons (ps_ost (pv 0) (pv 1)) (no "name" (by decide)) .nil))
theorem oki_Unknown (X : Xk K 309 [24]) (no : ∀ f ∈ (["name"] : List Str), PySem.W.findIn K (.ref 309) f = some none) {f : Addr} {fd : FuncData} (D : Dfi K 309 "Unknown.__init__" s_Unknown_i f fd P_Unknown_i) :
    FnOk P w K mg base (L2.CX P w) 1 f fd P_Unknown_i (iniSp K 309 ["name"]) :=
  ini_ok D.F sc_Unknown_i rfl (by decide) (by decide) fun cdv A outer s H E hr => (by
    have e : defBody s_Unknown_i = _ := rfl
    rw [e]
    exact (.cons (ps_ost (pv 0) (pv 1)) (no "name" (by decide)) .nil))
theorem oki_Repeated (X : Xk K 328 [24]) (no : ∀ f ∈ (["name"] : List Str), PySem.W.findIn K (.ref 328) f = some none) {f : Addr} {fd : FuncData} (D : Dfi K 328 "Repeated.__init__" s_Repeated_i f fd P_Repeated_i) :
    FnOk P w K mg base (L2.CX P w) 1 f fd P_Repeated_i (iniSp K 328 ["name"]) :=
  ini_ok D.F sc_Repeated_i rfl (by decide) (by decide) fun cdv A outer s H E hr => (by
    have e : defBody s_Repeated_i = _ := rfl
    rw [e]
    exact (.cons (ps_ost (pv 0) (pv 1)) (no "name" (by decide)) .nil))
theorem oki_BadText (X : Xk K 347 [24]) (no : ∀ f ∈ (["at"] : List Str), PySem.W.findIn K (.ref 347) f = some none) {f : Addr} {fd : FuncData} (D : Dfi K 347 "BadText.__init__" s_BadText_i f fd P_BadText_i) :
    FnOk P w K mg base (L2.CX P w) 1 f fd P_BadText_i (iniSp K 347 ["at"]) :=
  ini_ok D.F sc_BadText_i rfl (by decide) (by decide) fun cdv A outer s H E hr => (by
    have e : defBody s_BadText_i = _ := rfl
    rw [e]
    exact (.cons (ps_ost (pv 0) (pv 1)) (no "at" (by decide)) .nil))
theorem oki_BadStep (X : Xk K 366 [24]) (no : ∀ f ∈ (["at"] : List Str), PySem.W.findIn K (.ref 366) f = some none) {f : Addr} {fd : FuncData} (D : Dfi K 366 "BadStep.__init__" s_BadStep_i f fd P_BadStep_i) :
    FnOk P w K mg base (L2.CX P w) 1 f fd P_BadStep_i (iniSp K 366 ["at"]) :=
  ini_ok D.F sc_BadStep_i rfl (by decide) (by decide) fun cdv A outer s H E hr => (by
    have e : defBody s_BadStep_i = _ := rfl
    rw [e]
    exact (.cons (ps_ost (pv 0) (pv 1)) (no "at" (by decide)) .nil))
theorem oki_BadSquare (X : Xk K 385 [24]) (no : ∀ f ∈ (["name"] : List Str), PySem.W.findIn K (.ref 385) f = some none) {f : Addr} {fd : FuncData} (D : Dfi K 385 "BadSquare.__init__" s_BadSquare_i f fd P_BadSquare_i) :
    FnOk P w K mg base (L2.CX P w) 1 f fd P_BadSquare_i (iniSp K 385 ["name"]) :=
  ini_ok D.F sc_BadSquare_i rfl (by decide) (by decide) fun cdv A outer s H E hr => (by
    have e : defBody s_BadSquare_i = _ := rfl
    rw [e]
    exact (.cons (ps_ost (pv 0) (pv 1)) (no "name" (by decide)) .nil))
theorem oki_BadMove (X : Xk K 404 [24]) (no : ∀ f ∈ (["at"] : List Str), PySem.W.findIn K (.ref 404) f = some none) {f : Addr} {fd : FuncData} (D : Dfi K 404 "BadMove.__init__" s_BadMove_i f fd P_BadMove_i) :
    FnOk P w K mg base (L2.CX P w) 1 f fd P_BadMove_i (iniSp K 404 ["at"]) :=
  ini_ok D.F sc_BadMove_i rfl (by decide) (by decide) fun cdv A outer s H E hr => (by
    have e : defBody s_BadMove_i = _ := rfl
    rw [e]
    exact (.cons (ps_ost (pv 0) (pv 1)) (no "at" (by decide)) .nil))
theorem oki_BadLog (X : Xk K 423 [24]) (no : ∀ f ∈ (["at"] : List Str), PySem.W.findIn K (.ref 423) f = some none) {f : Addr} {fd : FuncData} (D : Dfi K 423 "BadLog.__init__" s_BadLog_i f fd P_BadLog_i) :
    FnOk P w K mg base (L2.CX P w) 1 f fd P_BadLog_i (iniSp K 423 ["at"]) :=
  ini_ok D.F sc_BadLog_i rfl (by decide) (by decide) fun cdv A outer s H E hr => (by
    have e : defBody s_BadLog_i = _ := rfl
    rw [e]
    exact (.cons (ps_ost (pv 0) (pv 1)) (no "at" (by decide)) .nil))
theorem oki_BadChange (X : Xk K 442 [24]) (no : ∀ f ∈ (["at"] : List Str), PySem.W.findIn K (.ref 442) f = some none) {f : Addr} {fd : FuncData} (D : Dfi K 442 "BadChange.__init__" s_BadChange_i f fd P_BadChange_i) :
    FnOk P w K mg base (L2.CX P w) 1 f fd P_BadChange_i (iniSp K 442 ["at"]) :=
  ini_ok D.F sc_BadChange_i rfl (by decide) (by decide) fun cdv A outer s H E hr => (by
    have e : defBody s_BadChange_i = _ := rfl
    rw [e]
    exact (.cons (ps_ost (pv 0) (pv 1)) (no "at" (by decide)) .nil))
theorem oki_Unjoined (X : Xk K 461 [24]) (no : ∀ f ∈ (["one", "other"] : List Str), PySem.W.findIn K (.ref 461) f = some none) {f : Addr} {fd : FuncData} (D : Dfi K 461 "Unjoined.__init__" s_Unjoined_i f fd P_Unjoined_i) :
    FnOk P w K mg base (L2.CX P w) 1 f fd P_Unjoined_i (iniSp K 461 ["one", "other"]) :=
  ini_ok D.F sc_Unjoined_i rfl (by decide) (by decide) fun cdv A outer s H E hr => (by
    have e : defBody s_Unjoined_i = _ := rfl
    rw [e]
    exact (.cons (ps_ost (pv 0) (pv 1)) (no "one" (by decide)) (.cons (ps_ost (pv 0) (pv 2)) (no "other" (by decide)) .nil)))
theorem oki_Open (X : Xk K 480 [24]) (no : ∀ f ∈ (["top", "one", "other"] : List Str), PySem.W.findIn K (.ref 480) f = some none) {f : Addr} {fd : FuncData} (D : Dfi K 480 "Open.__init__" s_Open_i f fd P_Open_i) :
    FnOk P w K mg base (L2.CX P w) 1 f fd P_Open_i (iniSp K 480 ["top", "one", "other"]) :=
  ini_ok D.F sc_Open_i rfl (by decide) (by decide) fun cdv A outer s H E hr => (by
    have e : defBody s_Open_i = _ := rfl
    rw [e]
    exact (.cons (ps_ost (pv 0) (pv 1)) (no "top" (by decide)) (.cons (ps_ost (pv 0) (pv 2)) (no "one" (by decide)) (.cons (ps_ost (pv 0) (pv 3)) (no "other" (by decide)) .nil))))
theorem oki_Lacking (X : Xk K 499 [24]) (no : ∀ f ∈ (["top", "one", "other"] : List Str), PySem.W.findIn K (.ref 499) f = some none) {f : Addr} {fd : FuncData} (D : Dfi K 499 "Lacking.__init__" s_Lacking_i f fd P_Lacking_i) :
    FnOk P w K mg base (L2.CX P w) 1 f fd P_Lacking_i (iniSp K 499 ["top", "one", "other"]) :=
  ini_ok D.F sc_Lacking_i rfl (by decide) (by decide) fun cdv A outer s H E hr => (by
    have e : defBody s_Lacking_i = _ := rfl
    rw [e]
    exact (.cons (ps_ost (pv 0) (pv 1)) (no "top" (by decide)) (.cons (ps_ost (pv 0) (pv 2)) (no "one" (by decide)) (.cons (ps_ost (pv 0) (pv 3)) (no "other" (by decide)) .nil))))
theorem oki_Stopped (X : Xk K 518 [24]) (no : ∀ f ∈ (["path"] : List Str), PySem.W.findIn K (.ref 518) f = some none) {f : Addr} {fd : FuncData} (D : Dfi K 518 "Stopped.__init__" s_Stopped_i f fd P_Stopped_i) :
    FnOk P w K mg base (L2.CX P w) 1 f fd P_Stopped_i (iniSp K 518 ["path"]) :=
  ini_ok D.F sc_Stopped_i rfl (by decide) (by decide) fun cdv A outer s H E hr => (by
    have e : defBody s_Stopped_i = _ := rfl
    rw [e]
    exact (.cons (ps_ost (pv 0) (pv 1)) (no "path" (by decide)) .nil))
theorem oki_BadEntry (X : Xk K 537 [24]) (no : ∀ f ∈ (["at", "name"] : List Str), PySem.W.findIn K (.ref 537) f = some none) {f : Addr} {fd : FuncData} (D : Dfi K 537 "BadEntry.__init__" s_BadEntry_i f fd P_BadEntry_i) :
    FnOk P w K mg base (L2.CX P w) 1 f fd P_BadEntry_i (iniSp K 537 ["at", "name"]) :=
  ini_ok D.F sc_BadEntry_i rfl (by decide) (by decide) fun cdv A outer s H E hr => (by
    have e : defBody s_BadEntry_i = _ := rfl
    rw [e]
    exact (.cons (ps_ost (pv 0) (pv 1)) (no "at" (by decide)) (.cons (ps_ost (pv 0) (pv 2)) (no "name" (by decide)) .nil)))
theorem ok_is_alphabet (T : Bt K mg) {a_is_alphabet : Addr} {fd_is_alphabet : FuncData} (D_is_alphabet : Df K mg "is_alphabet" s_is_alphabet a_is_alphabet fd_is_alphabet P_is_alphabet)   :
    FnOk P w K mg base (L2.CX P w) 1 a_is_alphabet fd_is_alphabet P_is_alphabet (spF K f_is_alphabet) :=
  fn_ok D_is_alphabet.F sc_is_alphabet fun cdv A outer s H E hr => by
    have pw := passes_of (X := cxOf (L2.CX P w) P w K mg base N_is_alphabet "is_alphabet" (defScope s_is_alphabet) a_is_alphabet cdv A outer s H E) rfl
    exact (jb_cons (js_if (jt_not (jt_chain op_leD sp_le op_leD sp_le je_int (je_callB call_len cs_len (by rfl) T.z_len (by decide +kernel) (ja_cons (je_v 0) ja_nil)) (je_gint (by rfl) T.g_LETTERS))) (jb_one (js_ret je_bl)) jb_nil)
    (jb_cons (js_if (jt_cmp (op_neA hr.units) sp_ne (je_lenSet rfl (by rfl) T.z_len (by rfl) T.z_set (je_v 0)) (je_callB call_len cs_len (by rfl) T.z_len (by decide +kernel) (ja_cons (je_v 0) ja_nil)) (nomark _)) (jb_one (js_ret je_bl)) jb_nil)
    (jb_one (js_ret (je_callB (cr_all rfl) cs_all (by rfl) T.z_all (by decide +kernel) (ja_cons (je_lc (own := [("letter", 1)]) rfl sc_is_alphabet.nd (ji_any (je_v 0)) (blkOk_by (own := [("letter", 1)]) (N := N_is_alphabet) (sc := defScope s_is_alphabet) (by decide +kernel)) (fun _ _ _ _ _ => (pg_name (i := 1) sc_is_alphabet.nd rfl (Or.inl rfl))) (gt_name (by decide)) (fun _ _ _ _ _ => jts_nil) (fun _ _ _ _ _ => (je_chain op_leD sp_le op_leD sp_le je_str (je_v 1) je_str))) ja_nil))))))
theorem ok_check_letters (T : Bt K mg) {a_check_letters : Addr} {fd_check_letters : FuncData} (D_check_letters : Df K mg "check_letters" s_check_letters a_check_letters fd_check_letters P_check_letters) {a_is_alphabet : Addr} {fd_is_alphabet : FuncData} (D_is_alphabet : Df K mg "is_alphabet" s_is_alphabet a_is_alphabet fd_is_alphabet P_is_alphabet) (G_is_alphabet : FnOk P w K mg base (L2.CX P w) 1 a_is_alphabet fd_is_alphabet P_is_alphabet (spF K f_is_alphabet)) {a_BadLetters_i : Addr} {fd_BadLetters_i : FuncData} (Di_BadLetters : Dfi K 176 "BadLetters.__init__" s_BadLetters_i a_BadLetters_i fd_BadLetters_i P_BadLetters_i) (Gi_BadLetters : FnOk P w K mg base (L2.CX P w) 1 a_BadLetters_i fd_BadLetters_i P_BadLetters_i (iniSp K 176 ["text"])) :
    FnOk P w K mg base (L2.CX P w) 3 a_check_letters fd_check_letters P_check_letters (spF K f_check_letters) :=
  fn_ok D_check_letters.F sc_check_letters fun cdv A outer s H E hr => by
    have tk : Takes (cxOf (L2.CX P w) P w K mg base N_check_letters "check_letters" (defScope s_check_letters) a_check_letters cdv A outer s H E) (WD E) := takes_of rfl rfl rfl rfl
    have pw := passes_of (X := cxOf (L2.CX P w) P w K mg base N_check_letters "check_letters" (defScope s_check_letters) a_check_letters cdv A outer s H E) rfl
    exact (jb_one (js_if (jt_not (jt_val (je_call G_is_alphabet (hr.mono (by decide)) (by rfl) D_is_alphabet.g D_is_alphabet.k D_is_alphabet.b tk (ja_cons (je_v 0) ja_nil)))) (jb_one (js_raiseO (ns := ["text"]) rfl tk (T.xt.get (C := 176) rfl).oc Di_BadLetters.i Di_BadLetters.t Gi_BadLetters (hr.mono (by decide)) Di_BadLetters.b (by rfl) T.k_BadLetters (by decide) (ja_cons (je_v 0) ja_nil))) jb_nil))
theorem ok_has_letters_only (T : Bt K mg) {a_has_letters_only : Addr} {fd_has_letters_only : FuncData} (D_has_letters_only : Df K mg "has_letters_only" s_has_letters_only a_has_letters_only fd_has_letters_only P_has_letters_only)   :
    FnOk P w K mg base (L2.CX P w) 1 a_has_letters_only fd_has_letters_only P_has_letters_only (spF K f_has_letters_only) :=
  fn_ok D_has_letters_only.F sc_has_letters_only fun cdv A outer s H E hr => by
    have pw := passes_of (X := cxOf (L2.CX P w) P w K mg base N_has_letters_only "has_letters_only" (defScope s_has_letters_only) a_has_letters_only cdv A outer s H E) rfl
    exact (jb_one (js_ret (je_callB (cr_all rfl) cs_all (by rfl) T.z_all (by decide +kernel) (ja_cons (je_lc (own := [("letter", 2)]) rfl sc_has_letters_only.nd (ji_any (je_v 1)) (blkOk_by (own := [("letter", 2)]) (N := N_has_letters_only) (sc := defScope s_has_letters_only) (by decide +kernel)) (fun _ _ _ _ _ => (pg_name (i := 2) sc_has_letters_only.nd rfl (Or.inl rfl))) (gt_name (by decide)) (fun _ _ _ _ _ => jts_nil) (fun _ _ _ _ _ => (je_cmp op_inA sp_in (je_v 2) (je_v 0) (by rfl)))) ja_nil))))
theorem ok_is_word (T : Bt K mg) {a_is_word : Addr} {fd_is_word : FuncData} (D_is_word : Df K mg "is_word" s_is_word a_is_word fd_is_word P_is_word) {a_is_alphabet : Addr} {fd_is_alphabet : FuncData} (D_is_alphabet : Df K mg "is_alphabet" s_is_alphabet a_is_alphabet fd_is_alphabet P_is_alphabet) (G_is_alphabet : FnOk P w K mg base (L2.CX P w) 1 a_is_alphabet fd_is_alphabet P_is_alphabet (spF K f_is_alphabet)) {a_has_letters_only : Addr} {fd_has_letters_only : FuncData} (D_has_letters_only : Df K mg "has_letters_only" s_has_letters_only a_has_letters_only fd_has_letters_only P_has_letters_only) (G_has_letters_only : FnOk P w K mg base (L2.CX P w) 1 a_has_letters_only fd_has_letters_only P_has_letters_only (spF K f_has_letters_only))  :
    FnOk P w K mg base (L2.CX P w) 2 a_is_word fd_is_word P_is_word (spF K f_is_word) :=
  fn_ok D_is_word.F sc_is_word fun cdv A outer s H E hr => by
    have tk : Takes (cxOf (L2.CX P w) P w K mg base N_is_word "is_word" (defScope s_is_word) a_is_word cdv A outer s H E) (WD E) := takes_of rfl rfl rfl rfl
    have pw := passes_of (X := cxOf (L2.CX P w) P w K mg base N_is_word "is_word" (defScope s_is_word) a_is_word cdv A outer s H E) rfl
    exact (jb_cons (js_if (jt_not (jt_val (je_call G_is_alphabet (hr.mono (by decide)) (by rfl) D_is_alphabet.g D_is_alphabet.k D_is_alphabet.b tk (ja_cons (je_v 0) ja_nil)))) (jb_one (js_ret je_bl)) jb_nil)
    (jb_one (js_ret (je_and (je_call G_has_letters_only (hr.mono (by decide)) (by rfl) D_has_letters_only.g D_has_letters_only.k D_has_letters_only.b tk (ja_cons (je_v 0) (ja_cons (je_v 1) ja_nil))) (je_one (je_cmp op_leD sp_le (je_callB call_len cs_len (by rfl) T.z_len (by decide +kernel) (ja_cons (je_v 1) ja_nil)) (je_gint (by rfl) T.g_WORD) (nomark _)))))))
theorem ok_format_word (T : Bt K mg) {a_format_word : Addr} {fd_format_word : FuncData} (D_format_word : Df K mg "format_word" s_format_word a_format_word fd_format_word P_format_word)   :
    FnOk P w K mg base (L2.CX P w) 1 a_format_word fd_format_word P_format_word (spF K f_format_word) :=
  fn_ok D_format_word.F sc_format_word fun cdv A outer s H E hr => by
    have pw := passes_of (X := cxOf (L2.CX P w) P w K mg base N_format_word "format_word" (defScope s_format_word) a_format_word cdv A outer s H E) rfl
    exact (jb_one (js_ret (je_orS (je_v 0) (je_one je_str))))
theorem ok_read_word (T : Bt K mg) {a_read_word : Addr} {fd_read_word : FuncData} (D_read_word : Df K mg "read_word" s_read_word a_read_word fd_read_word P_read_word) {a_is_word : Addr} {fd_is_word : FuncData} (D_is_word : Df K mg "is_word" s_is_word a_is_word fd_is_word P_is_word) (G_is_word : FnOk P w K mg base (L2.CX P w) 2 a_is_word fd_is_word P_is_word (spF K f_is_word)) {a_BadText_i : Addr} {fd_BadText_i : FuncData} (Di_BadText : Dfi K 347 "BadText.__init__" s_BadText_i a_BadText_i fd_BadText_i P_BadText_i) (Gi_BadText : FnOk P w K mg base (L2.CX P w) 1 a_BadText_i fd_BadText_i P_BadText_i (iniSp K 347 ["at"])) :
    FnOk P w K mg base (L2.CX P w) 3 a_read_word fd_read_word P_read_word (spF K f_read_word) :=
  fn_ok D_read_word.F sc_read_word fun cdv A outer s H E hr => by
    have tk : Takes (cxOf (L2.CX P w) P w K mg base N_read_word "read_word" (defScope s_read_word) a_read_word cdv A outer s H E) (WD E) := takes_of rfl rfl rfl rfl
    have pw := passes_of (X := cxOf (L2.CX P w) P w K mg base N_read_word "read_word" (defScope s_read_word) a_read_word cdv A outer s H E) rfl
    exact (jb_cons (js_if (jt_cmp (op_eqA hr.units) sp_eq (je_v 1) je_str (nomark _)) (jb_one (js_ret je_str)) jb_nil)
    (jb_cons (js_if (JW.jt (jw_or (jt_cmp (op_eqA hr.units) sp_eq (je_v 1) je_str (nomark _)) (jw_or1 (jt_not (jt_val (je_call G_is_word (hr.mono (by decide)) (by rfl) D_is_word.g D_is_word.k D_is_word.b tk (ja_cons (je_v 0) (ja_cons (je_v 1) ja_nil)))))))) (jb_one (js_raiseO (ns := ["at"]) rfl tk (T.xt.get (C := 347) rfl).oc Di_BadText.i Di_BadText.t Gi_BadText (hr.mono (by decide)) Di_BadText.b (by rfl) T.k_BadText (by decide) (ja_cons (je_v 2) ja_nil))) jb_nil)
    (jb_one (js_ret (je_v 1)))))
theorem ok_parse_word (T : Bt K mg) {a_parse_word : Addr} {fd_parse_word : FuncData} (D_parse_word : Df K mg "parse_word" s_parse_word a_parse_word fd_parse_word P_parse_word) {a_check_letters : Addr} {fd_check_letters : FuncData} (D_check_letters : Df K mg "check_letters" s_check_letters a_check_letters fd_check_letters P_check_letters) (G_check_letters : FnOk P w K mg base (L2.CX P w) 3 a_check_letters fd_check_letters P_check_letters (spF K f_check_letters)) {a_read_word : Addr} {fd_read_word : FuncData} (D_read_word : Df K mg "read_word" s_read_word a_read_word fd_read_word P_read_word) (G_read_word : FnOk P w K mg base (L2.CX P w) 3 a_read_word fd_read_word P_read_word (spF K f_read_word))  :
    FnOk P w K mg base (L2.CX P w) 4 a_parse_word fd_parse_word P_parse_word (spF K f_parse_word) :=
  fn_ok D_parse_word.F sc_parse_word fun cdv A outer s H E hr => by
    have tk : Takes (cxOf (L2.CX P w) P w K mg base N_parse_word "parse_word" (defScope s_parse_word) a_parse_word cdv A outer s H E) (WD E) := takes_of rfl rfl rfl rfl
    have pw := passes_of (X := cxOf (L2.CX P w) P w K mg base N_parse_word "parse_word" (defScope s_parse_word) a_parse_word cdv A outer s H E) rfl
    exact (jb_cons (js_expr (je_call G_check_letters (hr.mono (by decide)) (by rfl) D_check_letters.g D_check_letters.k D_check_letters.b tk (ja_cons (je_v 0) ja_nil)))
    (jb_one (js_ret (je_call G_read_word (hr.mono (by decide)) (by rfl) D_read_word.g D_read_word.k D_read_word.b tk (ja_cons (je_v 0) (ja_cons (je_v 1) (ja_cons je_int ja_nil)))))))
theorem ok__law_draws (T : Bt K mg) {a__law_draws : Addr} {fd__law_draws : FuncData} (D__law_draws : Df K mg "_law_draws" s__law_draws a__law_draws fd__law_draws P__law_draws)   :
    FnOk P w K mg base (L2.CX P w) 1 a__law_draws fd__law_draws P__law_draws (spF K f__law_draws) :=
  fn_ok D__law_draws.F sc__law_draws fun cdv A outer s H E hr => by
    have pw := passes_of (X := cxOf (L2.CX P w) P w K mg base N__law_draws "_law_draws" (defScope s__law_draws) a__law_draws cdv A outer s H E) rfl
    exact (jb_one (js_ret (je_lstL (ja_cons (je_lc (own := [("cell", 1)]) rfl sc__law_draws.nd (ji_any (je_v 0)) (blkOk_by (own := [("cell", 1)]) (N := N__law_draws) (sc := defScope s__law_draws) (by decide +kernel)) (fun _ _ _ _ _ => (pg_name (i := 1) sc__law_draws.nd rfl (Or.inl rfl))) (gt_name (by decide)) (fun _ _ _ _ _ => jts_nil) (fun _ _ _ _ _ => (je_callT call_int1 cs_int (by rfl) T.z_int (by decide +kernel) (ja_cons (je_v 1) ja_nil)))) (ja_cons je_int (ja_cons je_int (ja_cons je_int (ja_cons je_int (ja_cons je_int ja_nil)))))))))
theorem ok__law_mixed (T : Bt K mg) {a__law_mixed : Addr} {fd__law_mixed : FuncData} (D__law_mixed : Df K mg "_law_mixed" s__law_mixed a__law_mixed fd__law_mixed P__law_mixed)   :
    FnOk P w K mg base (L2.CX P w) 1 a__law_mixed fd__law_mixed P__law_mixed (spF K f__law_mixed) :=
  fn_ok D__law_mixed.F sc__law_mixed fun cdv A outer s H E hr => by
    have pw := passes_of (X := cxOf (L2.CX P w) P w K mg base N__law_mixed "_law_mixed" (defScope s__law_mixed) a__law_mixed cdv A outer s H E) rfl
    exact (jb_cons (js_set (i := 2) sc__law_mixed.nd rfl (Or.inl rfl) (je_op op_modN sp_mod (je_callT call_int1 cs_int (by rfl) T.z_int (by decide +kernel) (ja_cons (je_op op_addD sp_add (je_op op_addD sp_add (je_op op_mulD sp_mul (je_v 0) je_int) (je_op op_mulD sp_mul (je_v 1) je_int)) je_int) ja_nil)) je_int))
    (jb_cons (js_set (i := 3) sc__law_mixed.nd rfl (Or.inl rfl) (je_op op_modN sp_mod (je_callT call_int1 cs_int (by rfl) T.z_int (by decide +kernel) (ja_cons (je_op op_addD sp_add (je_op op_addD sp_add (je_op op_mulD sp_mul (je_v 2) (je_v 2)) (je_op op_mulD sp_mul (je_v 1) je_int)) je_int) ja_nil)) je_int))
    (jb_one (js_ret (je_op op_modN sp_mod (je_callT call_int1 cs_int (by rfl) T.z_int (by decide +kernel) (ja_cons (je_op op_addD sp_add (je_op op_mulD sp_mul (je_v 3) (je_v 3)) (je_v 2)) ja_nil)) je_int)))))
theorem ok__law_take (T : Bt K mg) {a__law_take : Addr} {fd__law_take : FuncData} (D__law_take : Df K mg "_law_take" s__law_take a__law_take fd__law_take P__law_take) {a__law_mixed : Addr} {fd__law_mixed : FuncData} (D__law_mixed : Df K mg "_law_mixed" s__law_mixed a__law_mixed fd__law_mixed P__law_mixed) (G__law_mixed : FnOk P w K mg base (L2.CX P w) 1 a__law_mixed fd__law_mixed P__law_mixed (spF K f__law_mixed))  :
    FnOk P w K mg base (L2.CX P w) 2 a__law_take fd__law_take P__law_take (spF K f__law_take) :=
  fn_ok D__law_take.F sc__law_take fun cdv A outer s H E hr => by
    have tk : Takes (cxOf (L2.CX P w) P w K mg base N__law_take "_law_take" (defScope s__law_take) a__law_take cdv A outer s H E) (WD E) := takes_of rfl rfl rfl rfl
    have pw := passes_of (X := cxOf (L2.CX P w) P w K mg base N__law_take "_law_take" (defScope s__law_take) a__law_take cdv A outer s H E) rfl
    exact (jb_cons (js_if (jt_cmp op_ltD sp_lt (je_v 1) je_int (nomark _)) (jb_one (js_ret je_int)) jb_nil)
    (jb_cons (js_if (JW.jt (jw_and (jt_cmp (op_eqA hr.units) sp_eq (je_ix ix_seq sp_ix (je_v 0) je_int (fun _ _ => rfl)) je_int (nomark _)) (jw_and (jt_cmp (op_eqA hr.units) sp_eq (je_ix ix_seq sp_ix (je_v 0) je_int (fun _ _ => rfl)) je_int (nomark _)) (jw_and1 (jt_cmp op_ltD sp_lt (je_ix ix_seq sp_ix (je_v 0) je_int (fun _ _ => rfl)) (je_callB call_len cs_len (by rfl) T.z_len (by decide +kernel) (ja_cons (je_ix ix_seq sp_ix (je_v 0) je_int (fun _ _ => rfl)) ja_nil)) (nomark _)))))) (jb_cons (js_set (i := 2) sc__law_take.nd rfl (Or.inl rfl) (je_ix ix_seq sp_ix (je_ix ix_seq sp_ix (je_v 0) je_int (fun _ _ => rfl)) (je_ix ix_seq sp_ix (je_v 0) je_int (fun _ _ => rfl)) (fun _ _ => rfl)))
    (jb_cons (js_sub set_list sp_set (je_op op_addD sp_add (je_ix ix_seq sp_ix (je_v 0) je_int (fun _ _ => rfl)) je_int) (je_v 0) je_int)
    (jb_cons (js_sub set_list sp_set (je_op op_modN sp_mod (je_callT call_int1 cs_int (by rfl) T.z_int (by decide +kernel) (ja_cons (je_op op_addD sp_add (je_op op_mulD sp_mul (je_ix ix_seq sp_ix (je_v 0) je_int (fun _ _ => rfl)) je_int) (je_v 2)) ja_nil)) je_int) (je_v 0) je_int)
    (jb_one (js_if (JW.jt (jw_or (jt_cmp op_ge sp_ge (je_v 2) (je_op op_pow sp_pow je_int je_int) (nomark _)) (jw_or1 (jt_cmp op_ge sp_ge (je_un un_neg sp_neg (je_v 2)) (je_op op_pow sp_pow je_int je_int) (nomark _))))) (jb_one (js_sub set_list sp_set (je_callB call_abs cs_abs (by rfl) T.z_abs (by decide +kernel) (ja_cons (je_v 2) ja_nil)) (je_v 0) je_int)) (jb_one (js_sub set_list sp_set je_int (je_v 0) je_int))))))) jb_nil)
    (jb_cons (js_if (jt_cmp op_gt sp_gt (je_ix ix_seq sp_ix (je_v 0) je_int (fun _ _ => rfl)) je_int (nomark _)) (jb_cons (js_set (i := 3) sc__law_take.nd rfl (Or.inl rfl) (je_op op_modN sp_mod (je_callT call_int1 cs_int (by rfl) T.z_int (by decide +kernel) (ja_cons (je_ix ix_seq sp_ix (je_v 0) je_int (fun _ _ => rfl)) ja_nil)) (je_v 1)))
    (jb_cons (js_sub set_list sp_set (je_op op_fdivN sp_fdiv (je_ix ix_seq sp_ix (je_v 0) je_int (fun _ _ => rfl)) (je_v 1)) (je_v 0) je_int)
    (jb_one (js_ret (je_v 3))))) jb_nil)
    (jb_cons (js_if (jt_cmp op_gt sp_gt (je_ix ix_seq sp_ix (je_v 0) je_int (fun _ _ => rfl)) je_int (nomark _)) (jb_one (js_sub set_list sp_set (je_op op_sub sp_sub (je_ix ix_seq sp_ix (je_v 0) je_int (fun _ _ => rfl)) je_int) (je_v 0) je_int)) jb_nil)
    (jb_cons (js_sub set_list sp_set (je_op op_addD sp_add (je_ix ix_seq sp_ix (je_v 0) je_int (fun _ _ => rfl)) je_int) (je_v 0) je_int)
    (jb_one (js_ret (je_op op_modN sp_mod (je_callT call_int1 cs_int (by rfl) T.z_int (by decide +kernel) (ja_cons (je_call G__law_mixed (hr.mono (by decide)) (by rfl) D__law_mixed.g D__law_mixed.k D__law_mixed.b tk (ja_cons (je_ix ix_seq sp_ix (je_v 0) je_int (fun _ _ => rfl)) (ja_cons (je_ix ix_seq sp_ix (je_v 0) je_int (fun _ _ => rfl)) ja_nil))) ja_nil)) (je_v 1)))))))))
theorem ok__law_span (T : Bt K mg) {a__law_span : Addr} {fd__law_span : FuncData} (D__law_span : Df K mg "_law_span" s__law_span a__law_span fd__law_span P__law_span) {a__law_take : Addr} {fd__law_take : FuncData} (D__law_take : Df K mg "_law_take" s__law_take a__law_take fd__law_take P__law_take) (G__law_take : FnOk P w K mg base (L2.CX P w) 2 a__law_take fd__law_take P__law_take (spF K f__law_take))  :
    FnOk P w K mg base (L2.CX P w) 3 a__law_span fd__law_span P__law_span (spF K f__law_span) :=
  fn_ok D__law_span.F sc__law_span fun cdv A outer s H E hr => by
    have tk : Takes (cxOf (L2.CX P w) P w K mg base N__law_span "_law_span" (defScope s__law_span) a__law_span cdv A outer s H E) (WD E) := takes_of rfl rfl rfl rfl
    have pw := passes_of (X := cxOf (L2.CX P w) P w K mg base N__law_span "_law_span" (defScope s__law_span) a__law_span cdv A outer s H E) rfl
    exact (jb_one (js_ret (je_op op_addD sp_add (je_v 1) (je_call G__law_take (hr.mono (by decide)) (by rfl) D__law_take.g D__law_take.k D__law_take.b tk (ja_cons (je_v 0) (ja_cons (je_op op_addD sp_add (je_op op_sub sp_sub (je_v 2) (je_v 1)) je_int) ja_nil))))))
theorem ok__law_rare (T : Bt K mg) {a__law_rare : Addr} {fd__law_rare : FuncData} (D__law_rare : Df K mg "_law_rare" s__law_rare a__law_rare fd__law_rare P__law_rare) {a__law_take : Addr} {fd__law_take : FuncData} (D__law_take : Df K mg "_law_take" s__law_take a__law_take fd__law_take P__law_take) (G__law_take : FnOk P w K mg base (L2.CX P w) 2 a__law_take fd__law_take P__law_take (spF K f__law_take))  :
    FnOk P w K mg base (L2.CX P w) 3 a__law_rare fd__law_rare P__law_rare (spF K f__law_rare) :=
  fn_ok D__law_rare.F sc__law_rare fun cdv A outer s H E hr => by
    have tk : Takes (cxOf (L2.CX P w) P w K mg base N__law_rare "_law_rare" (defScope s__law_rare) a__law_rare cdv A outer s H E) (WD E) := takes_of rfl rfl rfl rfl
    have pw := passes_of (X := cxOf (L2.CX P w) P w K mg base N__law_rare "_law_rare" (defScope s__law_rare) a__law_rare cdv A outer s H E) rfl
    exact (jb_one (js_ret (je_cmp (op_eqA hr.units) sp_eq (je_call G__law_take (hr.mono (by decide)) (by rfl) D__law_take.g D__law_take.k D__law_take.b tk (ja_cons (je_v 0) (ja_cons (je_v 1) ja_nil))) (je_op op_sub sp_sub (je_v 1) je_int) (nomark _))))
theorem ok__law_pick (T : Bt K mg) {a__law_pick : Addr} {fd__law_pick : FuncData} (D__law_pick : Df K mg "_law_pick" s__law_pick a__law_pick fd__law_pick P__law_pick) {a__law_take : Addr} {fd__law_take : FuncData} (D__law_take : Df K mg "_law_take" s__law_take a__law_take fd__law_take P__law_take) (G__law_take : FnOk P w K mg base (L2.CX P w) 2 a__law_take fd__law_take P__law_take (spF K f__law_take))  :
    FnOk P w K mg base (L2.CX P w) 3 a__law_pick fd__law_pick P__law_pick (spF K f__law_pick) :=
  fn_ok D__law_pick.F sc__law_pick fun cdv A outer s H E hr => by
    have tk : Takes (cxOf (L2.CX P w) P w K mg base N__law_pick "_law_pick" (defScope s__law_pick) a__law_pick cdv A outer s H E) (WD E) := takes_of rfl rfl rfl rfl
    have pw := passes_of (X := cxOf (L2.CX P w) P w K mg base N__law_pick "_law_pick" (defScope s__law_pick) a__law_pick cdv A outer s H E) rfl
    exact (jb_one (js_ret (je_ix ix_seq sp_ix (je_v 1) (je_call G__law_take (hr.mono (by decide)) (by rfl) D__law_take.g D__law_take.k D__law_take.b tk (ja_cons (je_v 0) (ja_cons (je_callB call_len cs_len (by rfl) T.z_len (by decide +kernel) (ja_cons (je_v 1) ja_nil)) ja_nil))) (fun _ _ => rfl))))
theorem ok__law_in_range (T : Bt K mg) {a__law_in_range : Addr} {fd__law_in_range : FuncData} (D__law_in_range : Df K mg "_law_in_range" s__law_in_range a__law_in_range fd__law_in_range P__law_in_range) {a__law_take : Addr} {fd__law_take : FuncData} (D__law_take : Df K mg "_law_take" s__law_take a__law_take fd__law_take P__law_take) (G__law_take : FnOk P w K mg base (L2.CX P w) 2 a__law_take fd__law_take P__law_take (spF K f__law_take)) {a__law_pick : Addr} {fd__law_pick : FuncData} (D__law_pick : Df K mg "_law_pick" s__law_pick a__law_pick fd__law_pick P__law_pick) (G__law_pick : FnOk P w K mg base (L2.CX P w) 3 a__law_pick fd__law_pick P__law_pick (spF K f__law_pick)) {a__law_span : Addr} {fd__law_span : FuncData} (D__law_span : Df K mg "_law_span" s__law_span a__law_span fd__law_span P__law_span) (G__law_span : FnOk P w K mg base (L2.CX P w) 3 a__law_span fd__law_span P__law_span (spF K f__law_span))  :
    FnOk P w K mg base (L2.CX P w) 4 a__law_in_range fd__law_in_range P__law_in_range (spF K f__law_in_range) :=
  fn_ok D__law_in_range.F sc__law_in_range fun cdv A outer s H E hr => by
    have tk : Takes (cxOf (L2.CX P w) P w K mg base N__law_in_range "_law_in_range" (defScope s__law_in_range) a__law_in_range cdv A outer s H E) (WD E) := takes_of rfl rfl rfl rfl
    have pw := passes_of (X := cxOf (L2.CX P w) P w K mg base N__law_in_range "_law_in_range" (defScope s__law_in_range) a__law_in_range cdv A outer s H E) rfl
    exact (jb_cons (js_if (jt_cmp (op_eqA hr.units) sp_eq (je_call G__law_take (hr.mono (by decide)) (by rfl) D__law_take.g D__law_take.k D__law_take.b tk (ja_cons (je_v 0) (ja_cons je_int ja_nil))) je_int (nomark _)) (jb_one (js_ret (je_call G__law_pick (hr.mono (by decide)) (by rfl) D__law_pick.g D__law_pick.k D__law_pick.b tk (ja_cons (je_v 0) (ja_cons (je_lst (ja_cons (je_v 1) (ja_cons (je_v 2) ja_nil))) ja_nil))))) jb_nil)
    (jb_one (js_ret (je_call G__law_span (hr.mono (by decide)) (by rfl) D__law_span.g D__law_span.k D__law_span.b tk (ja_cons (je_v 0) (ja_cons (je_v 1) (ja_cons (je_v 2) ja_nil)))))))
theorem ok__law_letters (T : Bt K mg) {a__law_letters : Addr} {fd__law_letters : FuncData} (D__law_letters : Df K mg "_law_letters" s__law_letters a__law_letters fd__law_letters P__law_letters) {a__law_span : Addr} {fd__law_span : FuncData} (D__law_span : Df K mg "_law_span" s__law_span a__law_span fd__law_span P__law_span) (G__law_span : FnOk P w K mg base (L2.CX P w) 3 a__law_span fd__law_span P__law_span (spF K f__law_span)) {a__law_take : Addr} {fd__law_take : FuncData} (D__law_take : Df K mg "_law_take" s__law_take a__law_take fd__law_take P__law_take) (G__law_take : FnOk P w K mg base (L2.CX P w) 2 a__law_take fd__law_take P__law_take (spF K f__law_take))  :
    FnOk P w K mg base (L2.CX P w) 4 a__law_letters fd__law_letters P__law_letters (spF K f__law_letters) :=
  fn_ok D__law_letters.F sc__law_letters fun cdv A outer s H E hr => by
    have tk : Takes (cxOf (L2.CX P w) P w K mg base N__law_letters "_law_letters" (defScope s__law_letters) a__law_letters cdv A outer s H E) (WD E) := takes_of rfl rfl rfl rfl
    have pw := passes_of (X := cxOf (L2.CX P w) P w K mg base N__law_letters "_law_letters" (defScope s__law_letters) a__law_letters cdv A outer s H E) rfl
    exact (jb_cons (js_set (i := 3) sc__law_letters.nd rfl (Or.inl rfl) (je_call G__law_span (hr.mono (by decide)) (by rfl) D__law_span.g D__law_span.k D__law_span.b tk (ja_cons (je_v 0) (ja_cons (je_v 1) (ja_cons (je_v 2) ja_nil)))))
    (jb_cons (js_set (i := 4) sc__law_letters.nd rfl (Or.inl rfl) je_str)
    (jb_cons (js_if (jt_cmp (op_eqA hr.units) sp_eq (je_call G__law_take (hr.mono (by decide)) (by rfl) D__law_take.g D__law_take.k D__law_take.b tk (ja_cons (je_v 0) (ja_cons je_int ja_nil))) je_int (nomark _)) (jb_one (js_ret (je_slice sl_any sp_sl (je_v 4) jo_none (jo_some (je_v 3))))) jb_nil)
    (jb_cons (js_set (i := 5) sc__law_letters.nd rfl (Or.inl rfl) je_str)
    (jb_cons (js_for (vs := [6]) pw rfl (piI (pi_range1 (by rfl) T.z_range (ja_cons (je_v 3) ja_nil)) t_rng1) (pg_name (i := 6) sc__law_letters.nd rfl (Or.inl rfl)) (gt_name (by decide)) (jb_cons (js_set (i := 7) sc__law_letters.nd rfl (Or.inl rfl) (je_call G__law_take (hr.mono (by decide)) (by rfl) D__law_take.g D__law_take.k D__law_take.b tk (ja_cons (je_v 0) (ja_cons (je_callB call_len cs_len (by rfl) T.z_len (by decide +kernel) (ja_cons (je_v 4) ja_nil)) ja_nil))))
    (jb_cons (js_set (i := 5) sc__law_letters.nd rfl (Or.inl rfl) (je_op op_addD sp_add (je_v 5) (je_ix ix_seq sp_ix (je_v 4) (je_v 7) (fun _ _ => rfl))))
    (jb_one (js_set (i := 4) sc__law_letters.nd rfl (Or.inl rfl) (je_op op_addD sp_add (je_slice sl_any sp_sl (je_v 4) jo_none (jo_some (je_v 7))) (je_slice sl_any sp_sl (je_v 4) (jo_some (je_op op_addD sp_add (je_v 7) je_int)) jo_none)))))))
    (jb_one (js_ret (je_v 5))))))))
theorem ok__law_stranger (T : Bt K mg) {a__law_stranger : Addr} {fd__law_stranger : FuncData} (D__law_stranger : Df K mg "_law_stranger" s__law_stranger a__law_stranger fd__law_stranger P__law_stranger) {a__law_pick : Addr} {fd__law_pick : FuncData} (D__law_pick : Df K mg "_law_pick" s__law_pick a__law_pick fd__law_pick P__law_pick) (G__law_pick : FnOk P w K mg base (L2.CX P w) 3 a__law_pick fd__law_pick P__law_pick (spF K f__law_pick))  :
    FnOk P w K mg base (L2.CX P w) 4 a__law_stranger fd__law_stranger P__law_stranger (spF K f__law_stranger) :=
  fn_ok D__law_stranger.F sc__law_stranger fun cdv A outer s H E hr => by
    have tk : Takes (cxOf (L2.CX P w) P w K mg base N__law_stranger "_law_stranger" (defScope s__law_stranger) a__law_stranger cdv A outer s H E) (WD E) := takes_of rfl rfl rfl rfl
    have pw := passes_of (X := cxOf (L2.CX P w) P w K mg base N__law_stranger "_law_stranger" (defScope s__law_stranger) a__law_stranger cdv A outer s H E) rfl
    exact (jb_one (js_ret (je_call G__law_pick (hr.mono (by decide)) (by rfl) D__law_pick.g D__law_pick.k D__law_pick.b tk (ja_cons (je_v 0) (ja_cons (je_lc (own := [("letter", 2)]) rfl sc__law_stranger.nd (ji_any je_str) (blkOk_by (own := [("letter", 2)]) (N := N__law_stranger) (sc := defScope s__law_stranger) (by decide +kernel)) (fun _ _ _ _ _ => (pg_name (i := 2) sc__law_stranger.nd rfl (Or.inl rfl))) (gt_name (by decide)) (fun _ _ _ _ _ => (jts_one (jt_cmp op_notInA sp_notIn (je_v 2) (je_v 1) (by rfl)))) (fun _ _ _ _ _ => (je_v 2))) ja_nil)))))
theorem ok__law_bad_letters (T : Bt K mg) {a__law_bad_letters : Addr} {fd__law_bad_letters : FuncData} (D__law_bad_letters : Df K mg "_law_bad_letters" s__law_bad_letters a__law_bad_letters fd__law_bad_letters P__law_bad_letters) {a__law_take : Addr} {fd__law_take : FuncData} (D__law_take : Df K mg "_law_take" s__law_take a__law_take fd__law_take P__law_take) (G__law_take : FnOk P w K mg base (L2.CX P w) 2 a__law_take fd__law_take P__law_take (spF K f__law_take)) {a__law_letters : Addr} {fd__law_letters : FuncData} (D__law_letters : Df K mg "_law_letters" s__law_letters a__law_letters fd__law_letters P__law_letters) (G__law_letters : FnOk P w K mg base (L2.CX P w) 4 a__law_letters fd__law_letters P__law_letters (spF K f__law_letters)) {a__law_pick : Addr} {fd__law_pick : FuncData} (D__law_pick : Df K mg "_law_pick" s__law_pick a__law_pick fd__law_pick P__law_pick) (G__law_pick : FnOk P w K mg base (L2.CX P w) 3 a__law_pick fd__law_pick P__law_pick (spF K f__law_pick))  :
    FnOk P w K mg base (L2.CX P w) 5 a__law_bad_letters fd__law_bad_letters P__law_bad_letters (spF K f__law_bad_letters) :=
  fn_ok D__law_bad_letters.F sc__law_bad_letters fun cdv A outer s H E hr => by
    have tk : Takes (cxOf (L2.CX P w) P w K mg base N__law_bad_letters "_law_bad_letters" (defScope s__law_bad_letters) a__law_bad_letters cdv A outer s H E) (WD E) := takes_of rfl rfl rfl rfl
    have pw := passes_of (X := cxOf (L2.CX P w) P w K mg base N__law_bad_letters "_law_bad_letters" (defScope s__law_bad_letters) a__law_bad_letters cdv A outer s H E) rfl
    exact (jb_cons (js_set (i := 1) sc__law_bad_letters.nd rfl (Or.inl rfl) (je_call G__law_take (hr.mono (by decide)) (by rfl) D__law_take.g D__law_take.k D__law_take.b tk (ja_cons (je_v 0) (ja_cons je_int ja_nil))))
    (jb_cons (js_if (jt_cmp (op_eqA hr.units) sp_eq (je_v 1) je_int (nomark _)) (jb_one (js_ret je_str)) jb_nil)
    (jb_cons (js_if (jt_cmp (op_eqA hr.units) sp_eq (je_v 1) je_int (nomark _)) (jb_one (js_ret (je_call G__law_letters (hr.mono (by decide)) (by rfl) D__law_letters.g D__law_letters.k D__law_letters.b tk (ja_cons (je_v 0) (ja_cons je_int (ja_cons je_int ja_nil)))))) jb_nil)
    (jb_cons (js_set (i := 2) sc__law_bad_letters.nd rfl (Or.inl rfl) (je_call G__law_letters (hr.mono (by decide)) (by rfl) D__law_letters.g D__law_letters.k D__law_letters.b tk (ja_cons (je_v 0) (ja_cons je_int (ja_cons je_int ja_nil)))))
    (jb_cons (js_set (i := 3) sc__law_bad_letters.nd rfl (Or.inl rfl) (je_call G__law_take (hr.mono (by decide)) (by rfl) D__law_take.g D__law_take.k D__law_take.b tk (ja_cons (je_v 0) (ja_cons (je_op op_addD sp_add (je_callB call_len cs_len (by rfl) T.z_len (by decide +kernel) (ja_cons (je_v 2) ja_nil)) je_int) ja_nil))))
    (jb_cons (js_if (jt_cmp (op_eqA hr.units) sp_eq (je_v 1) je_int (nomark _)) (jb_one (js_ret (je_op op_addD sp_add (je_op op_addD sp_add (je_slice sl_any sp_sl (je_v 2) jo_none (jo_some (je_v 3))) (je_call G__law_pick (hr.mono (by decide)) (by rfl) D__law_pick.g D__law_pick.k D__law_pick.b tk (ja_cons (je_v 0) (ja_cons (je_v 2) ja_nil)))) (je_slice sl_any sp_sl (je_v 2) (jo_some (je_v 3)) jo_none)))) jb_nil)
    (jb_cons (js_if (jt_cmp (op_eqA hr.units) sp_eq (je_v 1) je_int (nomark _)) (jb_one (js_ret (je_op op_addD sp_add (je_op op_addD sp_add (je_slice sl_any sp_sl (je_v 2) jo_none (jo_some (je_v 3))) (je_call G__law_pick (hr.mono (by decide)) (by rfl) D__law_pick.g D__law_pick.k D__law_pick.b tk (ja_cons (je_v 0) (ja_cons je_str ja_nil)))) (je_slice sl_any sp_sl (je_v 2) (jo_some (je_v 3)) jo_none)))) jb_nil)
    (jb_cons (js_set (i := 3) sc__law_bad_letters.nd rfl (Or.inl rfl) (je_call G__law_take (hr.mono (by decide)) (by rfl) D__law_take.g D__law_take.k D__law_take.b tk (ja_cons (je_v 0) (ja_cons (je_callB call_len cs_len (by rfl) T.z_len (by decide +kernel) (ja_cons (je_v 2) ja_nil)) ja_nil))))
    (jb_one (js_ret (je_op op_addD sp_add (je_op op_addD sp_add (je_slice sl_any sp_sl (je_v 2) jo_none (jo_some (je_v 3))) (je_call G__law_pick (hr.mono (by decide)) (by rfl) D__law_pick.g D__law_pick.k D__law_pick.b tk (ja_cons (je_v 0) (ja_cons je_str ja_nil)))) (je_slice sl_any sp_sl (je_v 2) (jo_some (je_op op_addD sp_add (je_v 3) je_int)) jo_none))))))))))))
theorem ok__law_word (T : Bt K mg) {a__law_word : Addr} {fd__law_word : FuncData} (D__law_word : Df K mg "_law_word" s__law_word a__law_word fd__law_word P__law_word) {a__law_in_range : Addr} {fd__law_in_range : FuncData} (D__law_in_range : Df K mg "_law_in_range" s__law_in_range a__law_in_range fd__law_in_range P__law_in_range) (G__law_in_range : FnOk P w K mg base (L2.CX P w) 4 a__law_in_range fd__law_in_range P__law_in_range (spF K f__law_in_range)) {a__law_take : Addr} {fd__law_take : FuncData} (D__law_take : Df K mg "_law_take" s__law_take a__law_take fd__law_take P__law_take) (G__law_take : FnOk P w K mg base (L2.CX P w) 2 a__law_take fd__law_take P__law_take (spF K f__law_take)) {a__law_pick : Addr} {fd__law_pick : FuncData} (D__law_pick : Df K mg "_law_pick" s__law_pick a__law_pick fd__law_pick P__law_pick) (G__law_pick : FnOk P w K mg base (L2.CX P w) 3 a__law_pick fd__law_pick P__law_pick (spF K f__law_pick))  :
    FnOk P w K mg base (L2.CX P w) 5 a__law_word fd__law_word P__law_word (spF K f__law_word) :=
  fn_ok D__law_word.F sc__law_word fun cdv A outer s H E hr => by
    have tk : Takes (cxOf (L2.CX P w) P w K mg base N__law_word "_law_word" (defScope s__law_word) a__law_word cdv A outer s H E) (WD E) := takes_of rfl rfl rfl rfl
    have pw := passes_of (X := cxOf (L2.CX P w) P w K mg base N__law_word "_law_word" (defScope s__law_word) a__law_word cdv A outer s H E) rfl
    exact (jb_cons (js_set (i := 4) sc__law_word.nd rfl (Or.inl rfl) (je_call G__law_in_range (hr.mono (by decide)) (by rfl) D__law_in_range.g D__law_in_range.k D__law_in_range.b tk (ja_cons (je_v 0) (ja_cons (je_v 2) (ja_cons (je_v 3) ja_nil)))))
    (jb_cons (js_set (i := 5) sc__law_word.nd rfl (Or.inl rfl) (je_call G__law_take (hr.mono (by decide)) (by rfl) D__law_take.g D__law_take.k D__law_take.b tk (ja_cons (je_v 0) (ja_cons je_int ja_nil))))
    (jb_cons (js_if (jt_cmp (op_eqA hr.units) sp_eq (je_v 5) je_int (nomark _)) (jb_one (js_ret (je_op op_mulD sp_mul (je_call G__law_pick (hr.mono (by decide)) (by rfl) D__law_pick.g D__law_pick.k D__law_pick.b tk (ja_cons (je_v 0) (ja_cons (je_v 1) ja_nil))) (je_v 4)))) jb_nil)
    (jb_cons (js_if (jt_cmp (op_eqA hr.units) sp_eq (je_v 5) je_int (nomark _)) (jb_cons (js_set (i := 6) sc__law_word.nd rfl (Or.inl rfl) (je_op op_addD sp_add (je_call G__law_pick (hr.mono (by decide)) (by rfl) D__law_pick.g D__law_pick.k D__law_pick.b tk (ja_cons (je_v 0) (ja_cons (je_v 1) ja_nil))) (je_call G__law_pick (hr.mono (by decide)) (by rfl) D__law_pick.g D__law_pick.k D__law_pick.b tk (ja_cons (je_v 0) (ja_cons (je_v 1) ja_nil)))))
    (jb_one (js_ret (je_slice sl_any sp_sl (je_op op_mulD sp_mul (je_v 6) (je_v 4)) jo_none (jo_some (je_v 4)))))) jb_nil)
    (jb_one (js_ret (je_bm PySem.F.plainAttrs_str PySem.F.slot_str_join PySem.F.type_str_join mt_join ms_join je_str (ja_cons (je_lc (own := [("k", 7)]) rfl sc__law_word.nd (piI (pi_range1 (by rfl) T.z_range (ja_cons (je_v 4) ja_nil)) t_rng1) (blkOk_by (own := [("k", 7)]) (N := N__law_word) (sc := defScope s__law_word) (by decide +kernel)) (fun _ _ _ _ _ => (pg_name (i := 7) sc__law_word.nd rfl (Or.inl rfl))) (gt_name (by decide)) (fun _ _ _ _ _ => jts_nil) (fun _ _ _ _ _ => (je_call G__law_pick (hr.mono (by decide)) (by rfl) D__law_pick.g D__law_pick.k D__law_pick.b takes0 (ja_cons (je_v 0) (ja_cons (je_v 1) ja_nil))))) ja_nil))))))))
theorem ok__law_bad_word (T : Bt K mg) {a__law_bad_word : Addr} {fd__law_bad_word : FuncData} (D__law_bad_word : Df K mg "_law_bad_word" s__law_bad_word a__law_bad_word fd__law_bad_word P__law_bad_word) {a__law_take : Addr} {fd__law_take : FuncData} (D__law_take : Df K mg "_law_take" s__law_take a__law_take fd__law_take P__law_take) (G__law_take : FnOk P w K mg base (L2.CX P w) 2 a__law_take fd__law_take P__law_take (spF K f__law_take)) {a__law_pick : Addr} {fd__law_pick : FuncData} (D__law_pick : Df K mg "_law_pick" s__law_pick a__law_pick fd__law_pick P__law_pick) (G__law_pick : FnOk P w K mg base (L2.CX P w) 3 a__law_pick fd__law_pick P__law_pick (spF K f__law_pick)) {a__law_stranger : Addr} {fd__law_stranger : FuncData} (D__law_stranger : Df K mg "_law_stranger" s__law_stranger a__law_stranger fd__law_stranger P__law_stranger) (G__law_stranger : FnOk P w K mg base (L2.CX P w) 4 a__law_stranger fd__law_stranger P__law_stranger (spF K f__law_stranger))  :
    FnOk P w K mg base (L2.CX P w) 5 a__law_bad_word fd__law_bad_word P__law_bad_word (spF K f__law_bad_word) :=
  fn_ok D__law_bad_word.F sc__law_bad_word fun cdv A outer s H E hr => by
    have tk : Takes (cxOf (L2.CX P w) P w K mg base N__law_bad_word "_law_bad_word" (defScope s__law_bad_word) a__law_bad_word cdv A outer s H E) (WD E) := takes_of rfl rfl rfl rfl
    have pw := passes_of (X := cxOf (L2.CX P w) P w K mg base N__law_bad_word "_law_bad_word" (defScope s__law_bad_word) a__law_bad_word cdv A outer s H E) rfl
    exact (jb_cons (js_set (i := 2) sc__law_bad_word.nd rfl (Or.inl rfl) (je_call G__law_take (hr.mono (by decide)) (by rfl) D__law_take.g D__law_take.k D__law_take.b tk (ja_cons (je_v 0) (ja_cons je_int ja_nil))))
    (jb_cons (js_set (i := 3) sc__law_bad_word.nd rfl (Or.inl rfl) (je_call G__law_take (hr.mono (by decide)) (by rfl) D__law_take.g D__law_take.k D__law_take.b tk (ja_cons (je_v 0) (ja_cons je_int ja_nil))))
    (jb_cons (js_if (jt_cmp op_gt sp_gt (je_v 2) je_int (nomark _)) (jb_one (js_set (i := 3) sc__law_bad_word.nd rfl (Or.inl rfl) (je_op op_addD sp_add je_int (je_call G__law_take (hr.mono (by decide)) (by rfl) D__law_take.g D__law_take.k D__law_take.b tk (ja_cons (je_v 0) (ja_cons je_int ja_nil)))))) jb_nil)
    (jb_cons (js_set (i := 4) sc__law_bad_word.nd rfl (Or.inl rfl) (je_bm PySem.F.plainAttrs_str PySem.F.slot_str_join PySem.F.type_str_join mt_join ms_join je_str (ja_cons (je_lc (own := [("k", 5)]) rfl sc__law_bad_word.nd (piI (pi_range1 (by rfl) T.z_range (ja_cons (je_v 3) ja_nil)) t_rng1) (blkOk_by (own := [("k", 5)]) (N := N__law_bad_word) (sc := defScope s__law_bad_word) (by decide +kernel)) (fun _ _ _ _ _ => (pg_name (i := 5) sc__law_bad_word.nd rfl (Or.inl rfl))) (gt_name (by decide)) (fun _ _ _ _ _ => jts_nil) (fun _ _ _ _ _ => (je_call G__law_pick (hr.mono (by decide)) (by rfl) D__law_pick.g D__law_pick.k D__law_pick.b takes0 (ja_cons (je_v 0) (ja_cons (je_v 1) ja_nil))))) ja_nil)))
    (jb_cons (js_if (jt_cmp (op_eqA hr.units) sp_eq (je_v 2) je_int (nomark _)) (jb_one (js_ret (je_tup (ja_cons (je_v 4) (ja_cons (je_tup (ja_cons je_str ja_nil)) ja_nil))))) jb_nil)
    (jb_cons (js_set (i := 6) sc__law_bad_word.nd rfl (Or.inl rfl) (je_call G__law_take (hr.mono (by decide)) (by rfl) D__law_take.g D__law_take.k D__law_take.b tk (ja_cons (je_v 0) (ja_cons (je_op op_addD sp_add (je_v 3) je_int) ja_nil))))
    (jb_cons (js_set (i := 7) sc__law_bad_word.nd rfl (Or.inl rfl) (je_call G__law_pick (hr.mono (by decide)) (by rfl) D__law_pick.g D__law_pick.k D__law_pick.b tk (ja_cons (je_v 0) (ja_cons je_str ja_nil))))
    (jb_cons (js_set (i := 4) sc__law_bad_word.nd rfl (Or.inl rfl) (je_op op_addD sp_add (je_op op_addD sp_add (je_slice sl_any sp_sl (je_v 4) jo_none (jo_some (je_v 6))) (je_call G__law_pick (hr.mono (by decide)) (by rfl) D__law_pick.g D__law_pick.k D__law_pick.b tk (ja_cons (je_v 0) (ja_cons (je_lst (ja_cons (je_call G__law_stranger (hr.mono (by decide)) (by rfl) D__law_stranger.g D__law_stranger.k D__law_stranger.b tk (ja_cons (je_v 0) (ja_cons (je_v 1) ja_nil))) (ja_cons (je_v 7) ja_nil))) ja_nil)))) (je_slice sl_any sp_sl (je_v 4) (jo_some (je_v 6)) jo_none)))
    (jb_one (js_ret (je_tup (ja_cons (je_v 4) (ja_cons (je_tup (ja_cons je_str (ja_cons (je_v 4) ja_nil))) ja_nil)))))))))))))
theorem ok__law_line (T : Bt K mg) {a__law_line : Addr} {fd__law_line : FuncData} (D__law_line : Df K mg "_law_line" s__law_line a__law_line fd__law_line P__law_line) {a__law_in_range : Addr} {fd__law_in_range : FuncData} (D__law_in_range : Df K mg "_law_in_range" s__law_in_range a__law_in_range fd__law_in_range P__law_in_range) (G__law_in_range : FnOk P w K mg base (L2.CX P w) 4 a__law_in_range fd__law_in_range P__law_in_range (spF K f__law_in_range)) {a__law_pick : Addr} {fd__law_pick : FuncData} (D__law_pick : Df K mg "_law_pick" s__law_pick a__law_pick fd__law_pick P__law_pick) (G__law_pick : FnOk P w K mg base (L2.CX P w) 3 a__law_pick fd__law_pick P__law_pick (spF K f__law_pick))  :
    FnOk P w K mg base (L2.CX P w) 5 a__law_line fd__law_line P__law_line (spF K f__law_line) :=
  fn_ok D__law_line.F sc__law_line fun cdv A outer s H E hr => by
    have tk : Takes (cxOf (L2.CX P w) P w K mg base N__law_line "_law_line" (defScope s__law_line) a__law_line cdv A outer s H E) (WD E) := takes_of rfl rfl rfl rfl
    have pw := passes_of (X := cxOf (L2.CX P w) P w K mg base N__law_line "_law_line" (defScope s__law_line) a__law_line cdv A outer s H E) rfl
    exact (jb_cons (js_set (i := 2) sc__law_line.nd rfl (Or.inr rfl) je_str)
    (jb_cons (js_set (i := 2) sc__law_line.nd rfl (Or.inr rfl) (je_op op_addD sp_add (je_v 2) je_str))
    (jb_one (js_ret (je_bm PySem.F.plainAttrs_str PySem.F.slot_str_join PySem.F.type_str_join mt_join ms_join je_str (ja_cons (je_lc (own := [("k", 3)]) rfl sc__law_line.nd (piI (pi_range1 (by rfl) T.z_range (ja_cons (je_call G__law_in_range (hr.mono (by decide)) (by rfl) D__law_in_range.g D__law_in_range.k D__law_in_range.b tk (ja_cons (je_v 0) (ja_cons je_int (ja_cons (je_v 1) ja_nil)))) ja_nil)) t_rng1) (blkOk_by (own := [("k", 3)]) (N := N__law_line) (sc := defScope s__law_line) (by decide +kernel)) (fun _ _ _ _ _ => (pg_name (i := 3) sc__law_line.nd rfl (Or.inl rfl))) (gt_name (by decide)) (fun _ _ _ _ _ => jts_nil) (fun _ _ _ _ _ => (je_call G__law_pick (hr.mono (by decide)) (by rfl) D__law_pick.g D__law_pick.k D__law_pick.b takes0 (ja_cons (je_v 0) (ja_cons (je_v 2) ja_nil))))) ja_nil))))))
theorem ok__law_spoilt (T : Bt K mg) {a__law_spoilt : Addr} {fd__law_spoilt : FuncData} (D__law_spoilt : Df K mg "_law_spoilt" s__law_spoilt a__law_spoilt fd__law_spoilt P__law_spoilt) {a__law_take : Addr} {fd__law_take : FuncData} (D__law_take : Df K mg "_law_take" s__law_take a__law_take fd__law_take P__law_take) (G__law_take : FnOk P w K mg base (L2.CX P w) 2 a__law_take fd__law_take P__law_take (spF K f__law_take)) {a__law_pick : Addr} {fd__law_pick : FuncData} (D__law_pick : Df K mg "_law_pick" s__law_pick a__law_pick fd__law_pick P__law_pick) (G__law_pick : FnOk P w K mg base (L2.CX P w) 3 a__law_pick fd__law_pick P__law_pick (spF K f__law_pick))  :
    FnOk P w K mg base (L2.CX P w) 4 a__law_spoilt fd__law_spoilt P__law_spoilt (spF K f__law_spoilt) :=
  fn_ok D__law_spoilt.F sc__law_spoilt fun cdv A outer s H E hr => by
    have tk : Takes (cxOf (L2.CX P w) P w K mg base N__law_spoilt "_law_spoilt" (defScope s__law_spoilt) a__law_spoilt cdv A outer s H E) (WD E) := takes_of rfl rfl rfl rfl
    have pw := passes_of (X := cxOf (L2.CX P w) P w K mg base N__law_spoilt "_law_spoilt" (defScope s__law_spoilt) a__law_spoilt cdv A outer s H E) rfl
    exact (jb_cons (js_set (i := 2) sc__law_spoilt.nd rfl (Or.inl rfl) (je_call G__law_take (hr.mono (by decide)) (by rfl) D__law_take.g D__law_take.k D__law_take.b tk (ja_cons (je_v 0) (ja_cons (je_op op_addD sp_add (je_callB call_len cs_len (by rfl) T.z_len (by decide +kernel) (ja_cons (je_v 1) ja_nil)) je_int) ja_nil))))
    (jb_cons (js_set (i := 3) sc__law_spoilt.nd rfl (Or.inl rfl) (je_call G__law_take (hr.mono (by decide)) (by rfl) D__law_take.g D__law_take.k D__law_take.b tk (ja_cons (je_v 0) (ja_cons je_int ja_nil))))
    (jb_cons (js_set (i := 4) sc__law_spoilt.nd rfl (Or.inl rfl) (je_call G__law_pick (hr.mono (by decide)) (by rfl) D__law_pick.g D__law_pick.k D__law_pick.b tk (ja_cons (je_v 0) (ja_cons je_str ja_nil))))
    (jb_cons (js_if (JW.jt (jw_or (jt_cmp (op_eqA hr.units) sp_eq (je_v 3) je_int (nomark _)) (jw_or1 (jt_cmp (op_eqA hr.units) sp_eq (je_v 1) je_str (nomark _))))) (jb_one (js_ret (je_op op_addD sp_add (je_op op_addD sp_add (je_slice sl_any sp_sl (je_v 1) jo_none (jo_some (je_v 2))) (je_v 4)) (je_slice sl_any sp_sl (je_v 1) (jo_some (je_v 2)) jo_none)))) jb_nil)
    (jb_cons (js_if (jt_cmp (op_eqA hr.units) sp_eq (je_v 3) je_int (nomark _)) (jb_one (js_ret (je_op op_addD sp_add (je_slice sl_any sp_sl (je_v 1) jo_none (jo_some (je_v 2))) (je_slice sl_any sp_sl (je_v 1) (jo_some (je_op op_addD sp_add (je_v 2) je_int)) jo_none)))) jb_nil)
    (jb_cons (js_if (jt_cmp (op_eqA hr.units) sp_eq (je_v 3) je_int (nomark _)) (jb_one (js_ret (je_op op_addD sp_add (je_op op_addD sp_add (je_slice sl_any sp_sl (je_v 1) jo_none (jo_some (je_v 2))) (je_v 4)) (je_slice sl_any sp_sl (je_v 1) (jo_some (je_op op_addD sp_add (je_v 2) je_int)) jo_none)))) jb_nil)
    (jb_cons (js_if (jt_cmp (op_eqA hr.units) sp_eq (je_v 3) je_int (nomark _)) (jb_one (js_ret (je_op op_addD sp_add (je_op op_addD sp_add (je_slice sl_any sp_sl (je_v 1) jo_none (jo_some (je_v 2))) (je_slice sl_any sp_sl (je_v 1) (jo_some (je_v 2)) (jo_some (je_op op_addD sp_add (je_v 2) je_int)))) (je_slice sl_any sp_sl (je_v 1) (jo_some (je_v 2)) jo_none)))) jb_nil)
    (jb_cons (js_if (jt_cmp (op_eqA hr.units) sp_eq (je_v 3) je_int (nomark _)) (jb_one (js_ret (je_op op_addD sp_add (je_op op_addD sp_add (je_slice sl_any sp_sl (je_v 1) jo_none (jo_some (je_v 2))) (je_rev (je_slice sl_any sp_sl (je_v 1) (jo_some (je_v 2)) (jo_some (je_op op_addD sp_add (je_v 2) je_int))))) (je_slice sl_any sp_sl (je_v 1) (jo_some (je_op op_addD sp_add (je_v 2) je_int)) jo_none)))) jb_nil)
    (jb_one (js_ret (je_op op_addD sp_add (je_v 1) (je_call G__law_pick (hr.mono (by decide)) (by rfl) D__law_pick.g D__law_pick.k D__law_pick.b tk (ja_cons (je_v 0) (ja_cons (je_lst (ja_cons je_str (ja_cons je_str (ja_cons je_str (ja_cons je_str (ja_cons je_str ja_nil)))))) ja_nil))))))))))))))
theorem ok__law_same (T : Bt K mg) {a__law_same : Addr} {fd__law_same : FuncData} (D__law_same : Df K mg "_law_same" s__law_same a__law_same fd__law_same P__law_same)   : ∀ n : Nat,
    FnOk P w K mg base (L2.CX P w) (0 + n) a__law_same fd__law_same P__law_same (spF K (f__law_same n))
  | 0 => ⟨fun _ _ _ _ ⟨_, _, _, _, _, _, h⟩ => h.elim, fun _ _ _ _ _ _ _ _ _ _ _ _ _ ⟨_, _, _, _, _, _, h⟩ => h.elim⟩
  | n + 1 => by
    have ih := ok__law_same T D__law_same   n
    exact fn_ok D__law_same.F sc__law_same fun cdv A outer s H E hr => by
      have tk : Takes (cxOf (L2.CX P w) P w K mg base N__law_same "_law_same" (defScope s__law_same) a__law_same cdv A outer s H E) (WD E) := takes_of rfl rfl rfl rfl
      have pw := passes_of (X := cxOf (L2.CX P w) P w K mg base N__law_same "_law_same" (defScope s__law_same) a__law_same cdv A outer s H E) rfl
      exact (jb_cons (js_if (jt_cmp op_isN sp_isN (je_v 1) je_non (nomark _)) (jb_one (js_ret (je_cmp op_isN sp_isN (je_v 0) je_non (nomark _)))) jb_nil)
    (jb_cons (js_if (jt_val (je_callB call_isi cs_isi (by rfl) T.z_isinstance (by decide +kernel) (ja_cons (je_v 1) (ja_cons (je_ty (by rfl) T.z_bool (by decide +kernel)) ja_nil)))) (jb_one (js_ret (je_and (je_callB call_isi cs_isi (by rfl) T.z_isinstance (by decide +kernel) (ja_cons (je_v 0) (ja_cons (je_ty (by rfl) T.z_bool (by decide +kernel)) ja_nil))) (je_one (je_cmp (op_eqA hr.units) sp_eq (je_v 0) (je_v 1) (nomark _)))))) jb_nil)
    (jb_cons (js_if (jt_val (je_callB call_isi cs_isi (by rfl) T.z_isinstance (by decide +kernel) (ja_cons (je_v 1) (ja_cons (je_ty (by rfl) T.z_int (by decide +kernel)) ja_nil)))) (jb_one (js_ret (je_and (je_callB call_isi cs_isi (by rfl) T.z_isinstance (by decide +kernel) (ja_cons (je_v 0) (ja_cons (je_ty (by rfl) T.z_int (by decide +kernel)) ja_nil))) (je_and (je_not (je_callB call_isi cs_isi (by rfl) T.z_isinstance (by decide +kernel) (ja_cons (je_v 0) (ja_cons (je_ty (by rfl) T.z_bool (by decide +kernel)) ja_nil)))) (je_one (je_cmp (op_eqA hr.units) sp_eq (je_v 0) (je_v 1) (nomark _))))))) jb_nil)
    (jb_cons (js_if (jt_val (je_callB call_isi cs_isi (by rfl) T.z_isinstance (by decide +kernel) (ja_cons (je_v 1) (ja_cons (je_ty (by rfl) T.z_str (by decide +kernel)) ja_nil)))) (jb_one (js_ret (je_and (je_callB call_isi cs_isi (by rfl) T.z_isinstance (by decide +kernel) (ja_cons (je_v 0) (ja_cons (je_ty (by rfl) T.z_str (by decide +kernel)) ja_nil))) (je_one (je_cmp (op_eqA hr.units) sp_eq (je_v 0) (je_v 1) (nomark _)))))) jb_nil)
    (jb_cons (js_if (JW.jt (jw_and (jt_val (je_callB call_isi cs_isi (by rfl) T.z_isinstance (by decide +kernel) (ja_cons (je_v 1) (ja_cons (je_ty (by rfl) T.z_tuple (by decide +kernel)) ja_nil)))) (jw_and1 (jt_not (jt_val (je_callB call_isi cs_isi (by rfl) T.z_isinstance (by decide +kernel) (ja_cons (je_v 0) (ja_cons (je_ty (by rfl) T.z_tuple (by decide +kernel)) ja_nil)))))))) (jb_one (js_ret je_bl)) jb_nil)
    (jb_cons (js_if (JW.jt (jw_and (jt_val (je_callB call_isi cs_isi (by rfl) T.z_isinstance (by decide +kernel) (ja_cons (je_v 1) (ja_cons (je_ty (by rfl) T.z_list (by decide +kernel)) ja_nil)))) (jw_and1 (jt_not (jt_val (je_callB call_isi cs_isi (by rfl) T.z_isinstance (by decide +kernel) (ja_cons (je_v 0) (ja_cons (je_ty (by rfl) T.z_list (by decide +kernel)) ja_nil)))))))) (jb_one (js_ret je_bl)) jb_nil)
    (jb_cons (js_if (jt_cmp (op_neA hr.units) sp_ne (je_callB call_len cs_len (by rfl) T.z_len (by decide +kernel) (ja_cons (je_v 0) ja_nil)) (je_callB call_len cs_len (by rfl) T.z_len (by decide +kernel) (ja_cons (je_v 1) ja_nil)) (nomark _)) (jb_one (js_ret je_bl)) jb_nil)
    (jb_cons (js_for (vs := [2]) pw rfl (piI (pi_range1 (by rfl) T.z_range (ja_cons (je_callB call_len cs_len (by rfl) T.z_len (by decide +kernel) (ja_cons (je_v 1) ja_nil)) ja_nil)) t_rng1) (pg_name (i := 2) sc__law_same.nd rfl (Or.inl rfl)) (gt_name (by decide)) (jb_one (js_if (jt_not (jt_val (je_call ih (hr.mono (Nat.le_refl _)) (by rfl) D__law_same.g D__law_same.k D__law_same.b tk (ja_cons (je_ix ix_seq sp_ix (je_v 0) (je_v 2) (fun _ _ => rfl)) (ja_cons (je_ix ix_seq sp_ix (je_v 1) (je_v 2) (fun _ _ => rfl)) ja_nil))))) (jb_one (js_ret je_bl)) jb_nil)))
    (jb_one (js_ret je_bl))))))))))
theorem ok__law_word_fault (T : Bt K mg) {a__law_word_fault : Addr} {fd__law_word_fault : FuncData} (D__law_word_fault : Df K mg "_law_word_fault" s__law_word_fault a__law_word_fault fd__law_word_fault P__law_word_fault)   :
    FnOk P w K mg base (L2.CX P w) 1 a__law_word_fault fd__law_word_fault P__law_word_fault (spF K f__law_word_fault) :=
  fn_ok D__law_word_fault.F sc__law_word_fault fun cdv A outer s H E hr => by
    have pw := passes_of (X := cxOf (L2.CX P w) P w K mg base N__law_word_fault "_law_word_fault" (defScope s__law_word_fault) a__law_word_fault cdv A outer s H E) rfl
    exact (jb_cons (js_for (vs := [3]) pw rfl (ji_any (je_v 1)) (pg_name (i := 3) sc__law_word_fault.nd rfl (Or.inl rfl)) (gt_name (by decide)) (jb_one (js_if (jt_cmp op_notInA sp_notIn (je_v 3) (je_v 0) (by rfl)) (jb_one (js_ret (je_tup (ja_cons je_str (ja_cons (je_v 1) ja_nil))))) jb_nil)))
    (jb_cons (js_if (jt_cmp op_gt sp_gt (je_callB call_len cs_len (by rfl) T.z_len (by decide +kernel) (ja_cons (je_v 1) ja_nil)) (je_v 2) (nomark _)) (jb_one (js_ret (je_tup (ja_cons je_str ja_nil)))) jb_nil)
    (jb_one (js_ret (je_tup ja_nil)))))
theorem ok__law_written (T : Bt K mg) {a__law_written : Addr} {fd__law_written : FuncData} (D__law_written : Df K mg "_law_written" s__law_written a__law_written fd__law_written P__law_written)   :
    FnOk P w K mg base (L2.CX P w) 1 a__law_written fd__law_written P__law_written (spF K f__law_written) :=
  fn_ok D__law_written.F sc__law_written fun cdv A outer s H E hr => by
    have pw := passes_of (X := cxOf (L2.CX P w) P w K mg base N__law_written "_law_written" (defScope s__law_written) a__law_written cdv A outer s H E) rfl
    exact (jb_cons (js_if (jt_cmp (op_eqA hr.units) sp_eq (je_v 0) je_str (nomark _)) (jb_one (js_ret je_str)) jb_nil)
    (jb_one (js_ret (je_v 0))))
theorem ok__law_is_alphabet (T : Bt K mg) {a__law_is_alphabet : Addr} {fd__law_is_alphabet : FuncData} (D__law_is_alphabet : Df K mg "_law_is_alphabet" s__law_is_alphabet a__law_is_alphabet fd__law_is_alphabet P__law_is_alphabet)   :
    FnOk P w K mg base (L2.CX P w) 1 a__law_is_alphabet fd__law_is_alphabet P__law_is_alphabet (spF K f__law_is_alphabet) :=
  fn_ok D__law_is_alphabet.F sc__law_is_alphabet fun cdv A outer s H E hr => by
    have pw := passes_of (X := cxOf (L2.CX P w) P w K mg base N__law_is_alphabet "_law_is_alphabet" (defScope s__law_is_alphabet) a__law_is_alphabet cdv A outer s H E) rfl
    exact (jb_cons (js_if (JW.jt (jw_or (jt_cmp op_ltD sp_lt (je_callB call_len cs_len (by rfl) T.z_len (by decide +kernel) (ja_cons (je_v 0) ja_nil)) je_int (nomark _)) (jw_or1 (jt_cmp op_gt sp_gt (je_callB call_len cs_len (by rfl) T.z_len (by decide +kernel) (ja_cons (je_v 0) ja_nil)) je_int (nomark _))))) (jb_one (js_ret je_bl)) jb_nil)
    (jb_cons (js_for (vs := [1]) pw rfl (piI (pi_range1 (by rfl) T.z_range (ja_cons (je_callB call_len cs_len (by rfl) T.z_len (by decide +kernel) (ja_cons (je_v 0) ja_nil)) ja_nil)) t_rng1) (pg_name (i := 1) sc__law_is_alphabet.nd rfl (Or.inl rfl)) (gt_name (by decide)) (jb_one (js_if (JW.jt (jw_or (jt_cmp op_notInA sp_notIn (je_ix ix_seq sp_ix (je_v 0) (je_v 1) (fun _ _ => rfl)) je_str (by rfl)) (jw_or1 (jt_cmp op_inA sp_in (je_ix ix_seq sp_ix (je_v 0) (je_v 1) (fun _ _ => rfl)) (je_slice sl_any sp_sl (je_v 0) jo_none (jo_some (je_v 1))) (by rfl))))) (jb_one (js_ret je_bl)) jb_nil)))
    (jb_one (js_ret je_bl))))
theorem ok__law_read (T : Bt K mg) {a__law_read : Addr} {fd__law_read : FuncData} (D__law_read : Df K mg "_law_read" s__law_read a__law_read fd__law_read P__law_read) {a_parse_word : Addr} {fd_parse_word : FuncData} (D_parse_word : Df K mg "parse_word" s_parse_word a_parse_word fd_parse_word P_parse_word) (G_parse_word : FnOk P w K mg base (L2.CX P w) 4 a_parse_word fd_parse_word P_parse_word (spF K f_parse_word))  :
    FnOk P w K mg base (L2.CX P w) 5 a__law_read fd__law_read P__law_read (spF K f__law_read) :=
  fn_ok D__law_read.F sc__law_read fun cdv A outer s H E hr => by
    have tk : Takes (cxOf (L2.CX P w) P w K mg base N__law_read "_law_read" (defScope s__law_read) a__law_read cdv A outer s H E) (WD E) := takes_of rfl rfl rfl rfl
    have pw := passes_of (X := cxOf (L2.CX P w) P w K mg base N__law_read "_law_read" (defScope s__law_read) a__law_read cdv A outer s H E) rfl
    exact (jb_cons (js_tryAs rfl rfl sc__law_read.nd rfl rfl ⟨by rfl, by decide, .inl T.k_WayfillError⟩ tk T.xt.exm (fun W pn xe tk pw => (jb_cons (js_if (jt_cmp (op_eqA hr.units) sp_eq (je_v 2) je_int (nomark _)) (jb_one (js_ret (je_tup (ja_cons je_str (ja_cons (je_callK0 (ks := ["text", "letters"]) (ix := [1, 0]) G_parse_word (hr.mono (by decide)) (by rfl) D_parse_word.g D_parse_word.k (KB_parse_word_1_0 D_parse_word.F) tk (jk_cons (je_v 1) (jk_cons (je_v 0) jk_nil))) ja_nil))))) jb_nil)
    (jb_one (js_ret (je_tup (ja_cons je_str (ja_cons (je_call G_parse_word (hr.mono (by decide)) (by rfl) D_parse_word.g D_parse_word.k D_parse_word.b tk (ja_cons (je_v 0) (ja_cons (je_v 1) ja_nil))) ja_nil))))))) (fun a oe cls d pn y hz hf hy hc => by
      obtain ⟨C, ns, vs, l, rfl, hm⟩ := exm_inv hy
      cases (show cls = .ref C from hc)
      have XC := T.xt.get hm
      exact (jb_cons (js_set (i := 4) sc__law_read.nd rfl (Or.inl rfl) (je_and (je_callB (call_isX (cls := .ref C) XC.ec hz hf) (cs_isx T.xt.isx) (by rfl) T.z_isinstance (by decide +kernel) (ja_cons (je_v 3) (ja_cons (je_ty (by rfl) T.z_ValueError (by decide +kernel)) ja_nil))) (je_one (je_not (je_callB (call_isXT (cls := .ref C) XC.ec hz hf) (cs_isxT T.xt.isx) (by rfl) T.z_isinstance (by decide +kernel) (ja_cons (je_v 3) (ja_cons (je_tup (ja_cons (je_glob (by rfl) T.k_BoundError) (ja_cons (je_glob (by rfl) T.k_BadWord) ja_nil))) ja_nil)))))))
    (jb_cons (js_if (JW.jt (jw_and (jt_val (je_v 4)) (jw_and (jt_val (je_callB (call_isX (cls := .ref C) XC.ec hz hf) (cs_isx T.xt.isx) (by rfl) T.z_isinstance (by decide +kernel) (ja_cons (je_v 3) (ja_cons (je_glob (by rfl) T.k_BadLetters) ja_nil)))) (jw_and1 (jt_not (jt_val (je_callB (call_isX (cls := .ref C) XC.ec hz hf) (cs_isx T.xt.isx) (by rfl) T.z_isinstance (by decide +kernel) (ja_cons (je_v 3) (ja_cons (je_glob (by rfl) T.k_BadText) ja_nil))))))))) (jb_one (js_ret (je_tup (ja_cons je_str (ja_cons (je_xf XC.xf (T.no_text _ hm) hz hf (je_v 3)) ja_nil))))) jb_nil)
    (jb_one (js_if (JW.jt (jw_and (jt_val (je_v 4)) (jw_and (jt_val (je_callB (call_isX (cls := .ref C) XC.ec hz hf) (cs_isx T.xt.isx) (by rfl) T.z_isinstance (by decide +kernel) (ja_cons (je_v 3) (ja_cons (je_glob (by rfl) T.k_BadText) ja_nil)))) (jw_and1 (jt_not (jt_val (je_callB (call_isX (cls := .ref C) XC.ec hz hf) (cs_isx T.xt.isx) (by rfl) T.z_isinstance (by decide +kernel) (ja_cons (je_v 3) (ja_cons (je_glob (by rfl) T.k_BadLetters) ja_nil))))))))) (jb_one (js_ret (je_tup (ja_cons je_str (ja_cons (je_xf XC.xf (T.no_at _ hm) hz hf (je_v 3)) ja_nil))))) jb_nil))))))
    (jb_one (js_ret (je_tup (ja_cons je_str ja_nil)))))
theorem ok__law_due (T : Bt K mg) {a__law_due : Addr} {fd__law_due : FuncData} (D__law_due : Df K mg "_law_due" s__law_due a__law_due fd__law_due P__law_due) {a__law_is_alphabet : Addr} {fd__law_is_alphabet : FuncData} (D__law_is_alphabet : Df K mg "_law_is_alphabet" s__law_is_alphabet a__law_is_alphabet fd__law_is_alphabet P__law_is_alphabet) (G__law_is_alphabet : FnOk P w K mg base (L2.CX P w) 1 a__law_is_alphabet fd__law_is_alphabet P__law_is_alphabet (spF K f__law_is_alphabet)) {a__law_word_fault : Addr} {fd__law_word_fault : FuncData} (D__law_word_fault : Df K mg "_law_word_fault" s__law_word_fault a__law_word_fault fd__law_word_fault P__law_word_fault) (G__law_word_fault : FnOk P w K mg base (L2.CX P w) 1 a__law_word_fault fd__law_word_fault P__law_word_fault (spF K f__law_word_fault))  :
    FnOk P w K mg base (L2.CX P w) 2 a__law_due fd__law_due P__law_due (spF K f__law_due) :=
  fn_ok D__law_due.F sc__law_due fun cdv A outer s H E hr => by
    have tk : Takes (cxOf (L2.CX P w) P w K mg base N__law_due "_law_due" (defScope s__law_due) a__law_due cdv A outer s H E) (WD E) := takes_of rfl rfl rfl rfl
    have pw := passes_of (X := cxOf (L2.CX P w) P w K mg base N__law_due "_law_due" (defScope s__law_due) a__law_due cdv A outer s H E) rfl
    exact (jb_cons (js_if (jt_not (jt_val (je_call G__law_is_alphabet (hr.mono (by decide)) (by rfl) D__law_is_alphabet.g D__law_is_alphabet.k D__law_is_alphabet.b tk (ja_cons (je_v 0) ja_nil)))) (jb_one (js_ret (je_tup (ja_cons je_str (ja_cons (je_v 0) ja_nil))))) jb_nil)
    (jb_cons (js_if (jt_cmp (op_eqA hr.units) sp_eq (je_v 1) je_str (nomark _)) (jb_one (js_ret (je_tup (ja_cons je_str (ja_cons je_str ja_nil))))) jb_nil)
    (jb_cons (js_if (JW.jt (jw_or (jt_cmp (op_eqA hr.units) sp_eq (je_v 1) je_str (nomark _)) (jw_or1 (jt_cmp op_gt sp_gt (je_callB call_len cs_len (by rfl) T.z_len (by decide +kernel) (ja_cons (je_call G__law_word_fault (hr.mono (by decide)) (by rfl) D__law_word_fault.g D__law_word_fault.k D__law_word_fault.b tk (ja_cons (je_v 0) (ja_cons (je_v 1) (ja_cons je_int ja_nil)))) ja_nil)) je_int (nomark _))))) (jb_one (js_ret (je_tup (ja_cons je_str (ja_cons je_int ja_nil))))) jb_nil)
    (jb_one (js_ret (je_tup (ja_cons je_str (ja_cons (je_v 1) ja_nil))))))))
theorem ok__law_right (T : Bt K mg) {a__law_right : Addr} {fd__law_right : FuncData} (D__law_right : Df K mg "_law_right" s__law_right a__law_right fd__law_right P__law_right) {a__law_is_alphabet : Addr} {fd__law_is_alphabet : FuncData} (D__law_is_alphabet : Df K mg "_law_is_alphabet" s__law_is_alphabet a__law_is_alphabet fd__law_is_alphabet P__law_is_alphabet) (G__law_is_alphabet : FnOk P w K mg base (L2.CX P w) 1 a__law_is_alphabet fd__law_is_alphabet P__law_is_alphabet (spF K f__law_is_alphabet)) {a__law_same : Addr} {fd__law_same : FuncData} (D__law_same : Df K mg "_law_same" s__law_same a__law_same fd__law_same P__law_same) (G__law_same : FnOk P w K mg base (L2.CX P w) 8 a__law_same fd__law_same P__law_same (spF K (f__law_same 8))) {a_is_alphabet : Addr} {fd_is_alphabet : FuncData} (D_is_alphabet : Df K mg "is_alphabet" s_is_alphabet a_is_alphabet fd_is_alphabet P_is_alphabet) (G_is_alphabet : FnOk P w K mg base (L2.CX P w) 1 a_is_alphabet fd_is_alphabet P_is_alphabet (spF K f_is_alphabet)) {a__law_word_fault : Addr} {fd__law_word_fault : FuncData} (D__law_word_fault : Df K mg "_law_word_fault" s__law_word_fault a__law_word_fault fd__law_word_fault P__law_word_fault) (G__law_word_fault : FnOk P w K mg base (L2.CX P w) 1 a__law_word_fault fd__law_word_fault P__law_word_fault (spF K f__law_word_fault)) {a_is_word : Addr} {fd_is_word : FuncData} (D_is_word : Df K mg "is_word" s_is_word a_is_word fd_is_word P_is_word) (G_is_word : FnOk P w K mg base (L2.CX P w) 2 a_is_word fd_is_word P_is_word (spF K f_is_word)) {a__law_due : Addr} {fd__law_due : FuncData} (D__law_due : Df K mg "_law_due" s__law_due a__law_due fd__law_due P__law_due) (G__law_due : FnOk P w K mg base (L2.CX P w) 2 a__law_due fd__law_due P__law_due (spF K f__law_due)) {a__law_read : Addr} {fd__law_read : FuncData} (D__law_read : Df K mg "_law_read" s__law_read a__law_read fd__law_read P__law_read) (G__law_read : FnOk P w K mg base (L2.CX P w) 5 a__law_read fd__law_read P__law_read (spF K f__law_read))  :
    FnOk P w K mg base (L2.CX P w) 10 a__law_right fd__law_right P__law_right (spF K f__law_right) :=
  fn_ok D__law_right.F sc__law_right fun cdv A outer s H E hr => by
    have tk : Takes (cxOf (L2.CX P w) P w K mg base N__law_right "_law_right" (defScope s__law_right) a__law_right cdv A outer s H E) (WD E) := takes_of rfl rfl rfl rfl
    have pw := passes_of (X := cxOf (L2.CX P w) P w K mg base N__law_right "_law_right" (defScope s__law_right) a__law_right cdv A outer s H E) rfl
    exact (jb_cons (js_set (i := 2) sc__law_right.nd rfl (Or.inl rfl) (je_call G__law_is_alphabet (hr.mono (by decide)) (by rfl) D__law_is_alphabet.g D__law_is_alphabet.k D__law_is_alphabet.b tk (ja_cons (je_v 0) ja_nil)))
    (jb_cons (js_if (JW.jt (jw_or (jt_not (jt_val (je_call G__law_same (hr.mono (by decide)) (by rfl) D__law_same.g D__law_same.k D__law_same.b tk (ja_cons (je_call G_is_alphabet (hr.mono (by decide)) (by rfl) D_is_alphabet.g D_is_alphabet.k D_is_alphabet.b tk (ja_cons (je_v 0) ja_nil)) (ja_cons (je_v 2) ja_nil))))) (jw_or1 (jt_not (jt_val (je_call G__law_same (hr.mono (by decide)) (by rfl) D__law_same.g D__law_same.k D__law_same.b tk (ja_cons (je_callK0 (ks := ["letters"]) (ix := [0]) G_is_alphabet (hr.mono (by decide)) (by rfl) D_is_alphabet.g D_is_alphabet.k (KB_is_alphabet_0 D_is_alphabet.F) tk (jk_cons (je_v 0) jk_nil)) (ja_cons (je_v 2) ja_nil)))))))) (jb_one (js_ret je_bl)) jb_nil)
    (jb_cons (js_set (i := 2) sc__law_right.nd rfl (Or.inl rfl) (je_and (je_v 2) (je_one (je_cmp (op_eqA hr.units) sp_eq (je_callB call_len cs_len (by rfl) T.z_len (by decide +kernel) (ja_cons (je_call G__law_word_fault (hr.mono (by decide)) (by rfl) D__law_word_fault.g D__law_word_fault.k D__law_word_fault.b tk (ja_cons (je_v 0) (ja_cons (je_v 1) (ja_cons je_int ja_nil)))) ja_nil)) je_int (nomark _)))))
    (jb_cons (js_if (JW.jt (jw_or (jt_not (jt_val (je_call G__law_same (hr.mono (by decide)) (by rfl) D__law_same.g D__law_same.k D__law_same.b tk (ja_cons (je_call G_is_word (hr.mono (by decide)) (by rfl) D_is_word.g D_is_word.k D_is_word.b tk (ja_cons (je_v 0) (ja_cons (je_v 1) ja_nil))) (ja_cons (je_v 2) ja_nil))))) (jw_or1 (jt_not (jt_val (je_call G__law_same (hr.mono (by decide)) (by rfl) D__law_same.g D__law_same.k D__law_same.b tk (ja_cons (je_callK0 (ks := ["word", "letters"]) (ix := [1, 0]) G_is_word (hr.mono (by decide)) (by rfl) D_is_word.g D_is_word.k (KB_is_word_1_0 D_is_word.F) tk (jk_cons (je_v 1) (jk_cons (je_v 0) jk_nil))) (ja_cons (je_v 2) ja_nil)))))))) (jb_one (js_ret je_bl)) jb_nil)
    (jb_cons (js_set (i := 3) sc__law_right.nd rfl (Or.inl rfl) (je_call G__law_due (hr.mono (by decide)) (by rfl) D__law_due.g D__law_due.k D__law_due.b tk (ja_cons (je_v 0) (ja_cons (je_v 1) ja_nil))))
    (jb_one (js_ret (je_and (je_call G__law_same (hr.mono (by decide)) (by rfl) D__law_same.g D__law_same.k D__law_same.b tk (ja_cons (je_call G__law_read (hr.mono (by decide)) (by rfl) D__law_read.g D__law_read.k D__law_read.b tk (ja_cons (je_v 0) (ja_cons (je_v 1) (ja_cons je_int ja_nil)))) (ja_cons (je_v 3) ja_nil))) (je_one (je_call G__law_same (hr.mono (by decide)) (by rfl) D__law_same.g D__law_same.k D__law_same.b tk (ja_cons (je_call G__law_read (hr.mono (by decide)) (by rfl) D__law_read.g D__law_read.k D__law_read.b tk (ja_cons (je_v 0) (ja_cons (je_v 1) (ja_cons je_int ja_nil)))) (ja_cons (je_v 3) ja_nil))))))))))))
theorem ok__law_texts (T : Bt K mg) {a__law_texts : Addr} {fd__law_texts : FuncData} (D__law_texts : Df K mg "_law_texts" s__law_texts a__law_texts fd__law_texts P__law_texts) {a__law_written : Addr} {fd__law_written : FuncData} (D__law_written : Df K mg "_law_written" s__law_written a__law_written fd__law_written P__law_written) (G__law_written : FnOk P w K mg base (L2.CX P w) 1 a__law_written fd__law_written P__law_written (spF K f__law_written)) {a__law_pick : Addr} {fd__law_pick : FuncData} (D__law_pick : Df K mg "_law_pick" s__law_pick a__law_pick fd__law_pick P__law_pick) (G__law_pick : FnOk P w K mg base (L2.CX P w) 3 a__law_pick fd__law_pick P__law_pick (spF K f__law_pick)) {a__law_word : Addr} {fd__law_word : FuncData} (D__law_word : Df K mg "_law_word" s__law_word a__law_word fd__law_word P__law_word) (G__law_word : FnOk P w K mg base (L2.CX P w) 5 a__law_word fd__law_word P__law_word (spF K f__law_word)) {a__law_bad_word : Addr} {fd__law_bad_word : FuncData} (D__law_bad_word : Df K mg "_law_bad_word" s__law_bad_word a__law_bad_word fd__law_bad_word P__law_bad_word) (G__law_bad_word : FnOk P w K mg base (L2.CX P w) 5 a__law_bad_word fd__law_bad_word P__law_bad_word (spF K f__law_bad_word)) {a__law_spoilt : Addr} {fd__law_spoilt : FuncData} (D__law_spoilt : Df K mg "_law_spoilt" s__law_spoilt a__law_spoilt fd__law_spoilt P__law_spoilt) (G__law_spoilt : FnOk P w K mg base (L2.CX P w) 4 a__law_spoilt fd__law_spoilt P__law_spoilt (spF K f__law_spoilt)) {a__law_line : Addr} {fd__law_line : FuncData} (D__law_line : Df K mg "_law_line" s__law_line a__law_line fd__law_line P__law_line) (G__law_line : FnOk P w K mg base (L2.CX P w) 5 a__law_line fd__law_line P__law_line (spF K f__law_line))  :
    FnOk P w K mg base (L2.CX P w) 6 a__law_texts fd__law_texts P__law_texts (spF K f__law_texts) :=
  fn_ok D__law_texts.F sc__law_texts fun cdv A outer s H E hr => by
    have tk : Takes (cxOf (L2.CX P w) P w K mg base N__law_texts "_law_texts" (defScope s__law_texts) a__law_texts cdv A outer s H E) (WD E) := takes_of rfl rfl rfl rfl
    have pw := passes_of (X := cxOf (L2.CX P w) P w K mg base N__law_texts "_law_texts" (defScope s__law_texts) a__law_texts cdv A outer s H E) rfl
    exact (jb_cons (js_set (i := 3) sc__law_texts.nd rfl (Or.inl rfl) (je_lstL (ja_cons je_str (ja_cons je_str (ja_cons je_str (ja_cons (je_call G__law_written (hr.mono (by decide)) (by rfl) D__law_written.g D__law_written.k D__law_written.b tk (ja_cons (je_v 2) ja_nil)) (ja_cons (je_op op_addD sp_add je_str (je_call G__law_pick (hr.mono (by decide)) (by rfl) D__law_pick.g D__law_pick.k D__law_pick.b tk (ja_cons (je_v 0) (ja_cons (je_v 1) ja_nil)))) (ja_cons (je_op op_addD sp_add (je_call G__law_pick (hr.mono (by decide)) (by rfl) D__law_pick.g D__law_pick.k D__law_pick.b tk (ja_cons (je_v 0) (ja_cons (je_v 1) ja_nil))) je_str) ja_nil))))))))
    (jb_cons (js_expr (je_bm PySem.F.plainAttrs_list PySem.F.slot_list_append PySem.F.type_list_append mt_append ms_append (je_v 3) (ja_cons (je_op op_addD sp_add je_str (je_call G__law_written (hr.mono (by decide)) (by rfl) D__law_written.g D__law_written.k D__law_written.b tk (ja_cons (je_v 2) ja_nil))) ja_nil)))
    (jb_cons (js_expr (je_bm PySem.F.plainAttrs_list PySem.F.slot_list_append PySem.F.type_list_append mt_append ms_append (je_v 3) (ja_cons (je_op op_addD sp_add (je_v 2) je_str) ja_nil)))
    (jb_cons (js_expr (je_bm PySem.F.plainAttrs_list PySem.F.slot_list_append PySem.F.type_list_append mt_append ms_append (je_v 3) (ja_cons (je_call G__law_word (hr.mono (by decide)) (by rfl) D__law_word.g D__law_word.k D__law_word.b tk (ja_cons (je_v 0) (ja_cons (je_v 1) (ja_cons je_int (ja_cons je_int ja_nil))))) ja_nil)))
    (jb_cons (js_expr (je_bm PySem.F.plainAttrs_list PySem.F.slot_list_append PySem.F.type_list_append mt_append ms_append (je_v 3) (ja_cons (je_ix ix_seq sp_ix (je_call G__law_bad_word (hr.mono (by decide)) (by rfl) D__law_bad_word.g D__law_bad_word.k D__law_bad_word.b tk (ja_cons (je_v 0) (ja_cons (je_v 1) ja_nil))) je_int (fun _ _ => rfl)) ja_nil)))
    (jb_cons (js_expr (je_bm PySem.F.plainAttrs_list PySem.F.slot_list_append PySem.F.type_list_append mt_append ms_append (je_v 3) (ja_cons (je_call G__law_spoilt (hr.mono (by decide)) (by rfl) D__law_spoilt.g D__law_spoilt.k D__law_spoilt.b tk (ja_cons (je_v 0) (ja_cons (je_call G__law_written (hr.mono (by decide)) (by rfl) D__law_written.g D__law_written.k D__law_written.b tk (ja_cons (je_v 2) ja_nil)) ja_nil))) ja_nil)))
    (jb_cons (js_expr (je_bm PySem.F.plainAttrs_list PySem.F.slot_list_append PySem.F.type_list_append mt_append ms_append (je_v 3) (ja_cons (je_call G__law_line (hr.mono (by decide)) (by rfl) D__law_line.g D__law_line.k D__law_line.b tk (ja_cons (je_v 0) (ja_cons je_int ja_nil))) ja_nil)))
    (jb_one (js_ret (je_v 3))))))))))
theorem ok__law_alphabets (T : Bt K mg) {a__law_alphabets : Addr} {fd__law_alphabets : FuncData} (D__law_alphabets : Df K mg "_law_alphabets" s__law_alphabets a__law_alphabets fd__law_alphabets P__law_alphabets) {a__law_bad_letters : Addr} {fd__law_bad_letters : FuncData} (D__law_bad_letters : Df K mg "_law_bad_letters" s__law_bad_letters a__law_bad_letters fd__law_bad_letters P__law_bad_letters) (G__law_bad_letters : FnOk P w K mg base (L2.CX P w) 5 a__law_bad_letters fd__law_bad_letters P__law_bad_letters (spF K f__law_bad_letters)) {a__law_line : Addr} {fd__law_line : FuncData} (D__law_line : Df K mg "_law_line" s__law_line a__law_line fd__law_line P__law_line) (G__law_line : FnOk P w K mg base (L2.CX P w) 5 a__law_line fd__law_line P__law_line (spF K f__law_line)) {a__law_spoilt : Addr} {fd__law_spoilt : FuncData} (D__law_spoilt : Df K mg "_law_spoilt" s__law_spoilt a__law_spoilt fd__law_spoilt P__law_spoilt) (G__law_spoilt : FnOk P w K mg base (L2.CX P w) 4 a__law_spoilt fd__law_spoilt P__law_spoilt (spF K f__law_spoilt)) {a__law_take : Addr} {fd__law_take : FuncData} (D__law_take : Df K mg "_law_take" s__law_take a__law_take fd__law_take P__law_take) (G__law_take : FnOk P w K mg base (L2.CX P w) 2 a__law_take fd__law_take P__law_take (spF K f__law_take))  :
    FnOk P w K mg base (L2.CX P w) 6 a__law_alphabets fd__law_alphabets P__law_alphabets (spF K f__law_alphabets) :=
  fn_ok D__law_alphabets.F sc__law_alphabets fun cdv A outer s H E hr => by
    have tk : Takes (cxOf (L2.CX P w) P w K mg base N__law_alphabets "_law_alphabets" (defScope s__law_alphabets) a__law_alphabets cdv A outer s H E) (WD E) := takes_of rfl rfl rfl rfl
    have pw := passes_of (X := cxOf (L2.CX P w) P w K mg base N__law_alphabets "_law_alphabets" (defScope s__law_alphabets) a__law_alphabets cdv A outer s H E) rfl
    exact (jb_cons (js_set (i := 2) sc__law_alphabets.nd rfl (Or.inl rfl) (je_lstL (ja_cons (je_call G__law_bad_letters (hr.mono (by decide)) (by rfl) D__law_bad_letters.g D__law_bad_letters.k D__law_bad_letters.b tk (ja_cons (je_v 0) ja_nil)) (ja_cons (je_op op_addD sp_add (je_v 1) (je_slice sl_any sp_sl (je_v 1) jo_none (jo_some je_int))) (ja_cons (je_rev (je_v 1)) (ja_cons (je_call G__law_line (hr.mono (by decide)) (by rfl) D__law_line.g D__law_line.k D__law_line.b tk (ja_cons (je_v 0) (ja_cons je_int ja_nil))) ja_nil))))))
    (jb_cons (js_expr (je_bm PySem.F.plainAttrs_list PySem.F.slot_list_append PySem.F.type_list_append mt_append ms_append (je_v 2) (ja_cons (je_call G__law_spoilt (hr.mono (by decide)) (by rfl) D__law_spoilt.g D__law_spoilt.k D__law_spoilt.b tk (ja_cons (je_v 0) (ja_cons (je_v 1) ja_nil))) ja_nil)))
    (jb_cons (js_expr (je_bm PySem.F.plainAttrs_list PySem.F.slot_list_append PySem.F.type_list_append mt_append ms_append (je_v 2) (ja_cons (je_bm0 PySem.F.plainAttrs_str PySem.F.slot_str_upper PySem.F.type_str_upper mt_upper ms_upper (je_v 1)) ja_nil)))
    (jb_cons (js_expr (je_bm PySem.F.plainAttrs_list PySem.F.slot_list_append PySem.F.type_list_append mt_append ms_append (je_v 2) (ja_cons (je_slice sl_any sp_sl je_str jo_none (jo_some (je_call G__law_take (hr.mono (by decide)) (by rfl) D__law_take.g D__law_take.k D__law_take.b tk (ja_cons (je_v 0) (ja_cons je_int ja_nil))))) ja_nil)))
    (jb_one (js_ret (je_v 2)))))))
theorem ok__law_long_right (T : Bt K mg) {a__law_long_right : Addr} {fd__law_long_right : FuncData} (D__law_long_right : Df K mg "_law_long_right" s__law_long_right a__law_long_right fd__law_long_right P__law_long_right) {a__law_in_range : Addr} {fd__law_in_range : FuncData} (D__law_in_range : Df K mg "_law_in_range" s__law_in_range a__law_in_range fd__law_in_range P__law_in_range) (G__law_in_range : FnOk P w K mg base (L2.CX P w) 4 a__law_in_range fd__law_in_range P__law_in_range (spF K f__law_in_range)) {a__law_pick : Addr} {fd__law_pick : FuncData} (D__law_pick : Df K mg "_law_pick" s__law_pick a__law_pick fd__law_pick P__law_pick) (G__law_pick : FnOk P w K mg base (L2.CX P w) 3 a__law_pick fd__law_pick P__law_pick (spF K f__law_pick)) {a__law_take : Addr} {fd__law_take : FuncData} (D__law_take : Df K mg "_law_take" s__law_take a__law_take fd__law_take P__law_take) (G__law_take : FnOk P w K mg base (L2.CX P w) 2 a__law_take fd__law_take P__law_take (spF K f__law_take)) {a__law_right : Addr} {fd__law_right : FuncData} (D__law_right : Df K mg "_law_right" s__law_right a__law_right fd__law_right P__law_right) (G__law_right : FnOk P w K mg base (L2.CX P w) 10 a__law_right fd__law_right P__law_right (spF K f__law_right)) {a__law_same : Addr} {fd__law_same : FuncData} (D__law_same : Df K mg "_law_same" s__law_same a__law_same fd__law_same P__law_same) (G__law_same : FnOk P w K mg base (L2.CX P w) 8 a__law_same fd__law_same P__law_same (spF K (f__law_same 8))) {a_format_word : Addr} {fd_format_word : FuncData} (D_format_word : Df K mg "format_word" s_format_word a_format_word fd_format_word P_format_word) (G_format_word : FnOk P w K mg base (L2.CX P w) 1 a_format_word fd_format_word P_format_word (spF K f_format_word))  :
    FnOk P w K mg base (L2.CX P w) 11 a__law_long_right fd__law_long_right P__law_long_right (spF K f__law_long_right) :=
  fn_ok D__law_long_right.F sc__law_long_right fun cdv A outer s H E hr => by
    have tk : Takes (cxOf (L2.CX P w) P w K mg base N__law_long_right "_law_long_right" (defScope s__law_long_right) a__law_long_right cdv A outer s H E) (WD E) := takes_of rfl rfl rfl rfl
    have pw := passes_of (X := cxOf (L2.CX P w) P w K mg base N__law_long_right "_law_long_right" (defScope s__law_long_right) a__law_long_right cdv A outer s H E) rfl
    exact (jb_cons (js_set (i := 2) sc__law_long_right.nd rfl (Or.inl rfl) (je_call G__law_in_range (hr.mono (by decide)) (by rfl) D__law_in_range.g D__law_in_range.k D__law_in_range.b tk (ja_cons (je_v 0) (ja_cons je_int (ja_cons je_int ja_nil)))))
    (jb_cons (js_set (i := 3) sc__law_long_right.nd rfl (Or.inl rfl) (je_op op_mulD sp_mul (je_call G__law_pick (hr.mono (by decide)) (by rfl) D__law_pick.g D__law_pick.k D__law_pick.b tk (ja_cons (je_v 0) (ja_cons (je_v 1) ja_nil))) (je_v 2)))
    (jb_cons (js_set (i := 4) sc__law_long_right.nd rfl (Or.inl rfl) (je_call G__law_take (hr.mono (by decide)) (by rfl) D__law_take.g D__law_take.k D__law_take.b tk (ja_cons (je_v 0) (ja_cons (je_op op_addD sp_add (je_v 2) je_int) ja_nil))))
    (jb_cons (js_set (i := 5) sc__law_long_right.nd rfl (Or.inl rfl) (je_op op_addD sp_add (je_op op_addD sp_add (je_slice sl_any sp_sl (je_v 3) jo_none (jo_some (je_v 4))) (je_call G__law_pick (hr.mono (by decide)) (by rfl) D__law_pick.g D__law_pick.k D__law_pick.b tk (ja_cons (je_v 0) (ja_cons je_str ja_nil)))) (je_slice sl_any sp_sl (je_v 3) (jo_some (je_v 4)) jo_none)))
    (jb_cons (js_for (vs := [6]) pw rfl (ji_any (je_lst (ja_cons (je_v 3) (ja_cons (je_v 5) ja_nil)))) (pg_name (i := 6) sc__law_long_right.nd rfl (Or.inl rfl)) (gt_name (by decide)) (jb_one (js_if (JW.jt (jw_or (jt_not (jt_val (je_call G__law_right (hr.mono (by decide)) (by rfl) D__law_right.g D__law_right.k D__law_right.b tk (ja_cons (je_v 1) (ja_cons (je_v 6) ja_nil))))) (jw_or1 (jt_not (jt_val (je_call G__law_right (hr.mono (by decide)) (by rfl) D__law_right.g D__law_right.k D__law_right.b tk (ja_cons (je_v 6) (ja_cons (je_v 1) ja_nil)))))))) (jb_one (js_ret je_bl)) jb_nil)))
    (jb_one (js_ret (je_call G__law_same (hr.mono (by decide)) (by rfl) D__law_same.g D__law_same.k D__law_same.b tk (ja_cons (je_call G_format_word (hr.mono (by decide)) (by rfl) D_format_word.g D_format_word.k D_format_word.b tk (ja_cons (je_v 3) ja_nil)) (ja_cons (je_v 3) ja_nil))))))))))
theorem ok__law_marks (T : Bt K mg) {a__law_marks : Addr} {fd__law_marks : FuncData} (D__law_marks : Df K mg "_law_marks" s__law_marks a__law_marks fd__law_marks P__law_marks)   :
    FnOk P w K mg base (L2.CX P w) 1 a__law_marks fd__law_marks P__law_marks (spF K f__law_marks) :=
  fn_ok D__law_marks.F sc__law_marks fun cdv A outer s H E hr => by
    have pw := passes_of (X := cxOf (L2.CX P w) P w K mg base N__law_marks "_law_marks" (defScope s__law_marks) a__law_marks cdv A outer s H E) rfl
    exact (jb_cons (js_set (i := 1) sc__law_marks.nd rfl (Or.inl rfl) (je_lst (ja_cons (je_callB call_isV (cs_isv T.xt) (by rfl) T.z_isinstance (by decide +kernel) (ja_cons (je_v 0) (ja_cons (je_glob (by rfl) T.k_TooLong) ja_nil))) (ja_cons (je_callB call_isV (cs_isv T.xt) (by rfl) T.z_isinstance (by decide +kernel) (ja_cons (je_v 0) (ja_cons (je_glob (by rfl) T.k_TooMany) ja_nil))) (ja_cons (je_callB call_isV (cs_isv T.xt) (by rfl) T.z_isinstance (by decide +kernel) (ja_cons (je_v 0) (ja_cons (je_glob (by rfl) T.k_BadWeights) ja_nil))) ja_nil)))))
    (jb_cons (js_set (i := 1) sc__law_marks.nd rfl (Or.inl rfl) (je_op op_addD sp_add (je_v 1) (je_lst (ja_cons (je_callB call_isV (cs_isv T.xt) (by rfl) T.z_isinstance (by decide +kernel) (ja_cons (je_v 0) (ja_cons (je_glob (by rfl) T.k_BadEnds) ja_nil))) (ja_cons (je_callB call_isV (cs_isv T.xt) (by rfl) T.z_isinstance (by decide +kernel) (ja_cons (je_v 0) (ja_cons (je_glob (by rfl) T.k_BadFare) ja_nil))) (ja_cons (je_callB call_isV (cs_isv T.xt) (by rfl) T.z_isinstance (by decide +kernel) (ja_cons (je_v 0) (ja_cons (je_glob (by rfl) T.k_BadTranslation) ja_nil))) ja_nil))))))
    (jb_cons (js_set (i := 1) sc__law_marks.nd rfl (Or.inl rfl) (je_op op_addD sp_add (je_v 1) (je_lst (ja_cons (je_callB call_isV (cs_isv T.xt) (by rfl) T.z_isinstance (by decide +kernel) (ja_cons (je_v 0) (ja_cons (je_glob (by rfl) T.k_BadTable) ja_nil))) (ja_cons (je_callB call_isV (cs_isv T.xt) (by rfl) T.z_isinstance (by decide +kernel) (ja_cons (je_v 0) (ja_cons (je_glob (by rfl) T.k_BadSum) ja_nil))) (ja_cons (je_callB call_isV (cs_isv T.xt) (by rfl) T.z_isinstance (by decide +kernel) (ja_cons (je_v 0) (ja_cons (je_glob (by rfl) T.k_BadOverlap) ja_nil))) ja_nil))))))
    (jb_cons (js_set (i := 1) sc__law_marks.nd rfl (Or.inl rfl) (je_op op_addD sp_add (je_v 1) (je_lst (ja_cons (je_callB call_isV (cs_isv T.xt) (by rfl) T.z_isinstance (by decide +kernel) (ja_cons (je_v 0) (ja_cons (je_glob (by rfl) T.k_NothingToUndo) ja_nil))) (ja_cons (je_callB call_isV (cs_isv T.xt) (by rfl) T.z_isinstance (by decide +kernel) (ja_cons (je_v 0) (ja_cons (je_glob (by rfl) T.k_BadLetters) ja_nil))) (ja_cons (je_callB call_isV (cs_isv T.xt) (by rfl) T.z_isinstance (by decide +kernel) (ja_cons (je_v 0) (ja_cons (je_glob (by rfl) T.k_BadWord) ja_nil))) ja_nil))))))
    (jb_cons (js_set (i := 1) sc__law_marks.nd rfl (Or.inl rfl) (je_op op_addD sp_add (je_v 1) (je_lst (ja_cons (je_callB call_isV (cs_isv T.xt) (by rfl) T.z_isinstance (by decide +kernel) (ja_cons (je_v 0) (ja_cons (je_glob (by rfl) T.k_BadName) ja_nil))) (ja_cons (je_callB call_isV (cs_isv T.xt) (by rfl) T.z_isinstance (by decide +kernel) (ja_cons (je_v 0) (ja_cons (je_glob (by rfl) T.k_BadRule) ja_nil))) (ja_cons (je_callB call_isV (cs_isv T.xt) (by rfl) T.z_isinstance (by decide +kernel) (ja_cons (je_v 0) (ja_cons (je_glob (by rfl) T.k_Rising) ja_nil))) ja_nil))))))
    (jb_cons (js_set (i := 1) sc__law_marks.nd rfl (Or.inl rfl) (je_op op_addD sp_add (je_v 1) (je_lst (ja_cons (je_callB call_isV (cs_isv T.xt) (by rfl) T.z_isinstance (by decide +kernel) (ja_cons (je_v 0) (ja_cons (je_glob (by rfl) T.k_Unknown) ja_nil))) (ja_cons (je_callB call_isV (cs_isv T.xt) (by rfl) T.z_isinstance (by decide +kernel) (ja_cons (je_v 0) (ja_cons (je_glob (by rfl) T.k_Repeated) ja_nil))) (ja_cons (je_callB call_isV (cs_isv T.xt) (by rfl) T.z_isinstance (by decide +kernel) (ja_cons (je_v 0) (ja_cons (je_glob (by rfl) T.k_BadSquare) ja_nil))) ja_nil))))))
    (jb_cons (js_set (i := 1) sc__law_marks.nd rfl (Or.inl rfl) (je_op op_addD sp_add (je_v 1) (je_lst (ja_cons (je_callB call_isV (cs_isv T.xt) (by rfl) T.z_isinstance (by decide +kernel) (ja_cons (je_v 0) (ja_cons (je_glob (by rfl) T.k_BadRow) ja_nil))) (ja_cons (je_callB call_isV (cs_isv T.xt) (by rfl) T.z_isinstance (by decide +kernel) (ja_cons (je_v 0) (ja_cons (je_glob (by rfl) T.k_BadText) ja_nil))) (ja_cons (je_callB call_isV (cs_isv T.xt) (by rfl) T.z_isinstance (by decide +kernel) (ja_cons (je_v 0) (ja_cons (je_glob (by rfl) T.k_BadStep) ja_nil))) ja_nil))))))
    (jb_cons (js_set (i := 1) sc__law_marks.nd rfl (Or.inl rfl) (je_op op_addD sp_add (je_v 1) (je_lst (ja_cons (je_callB call_isV (cs_isv T.xt) (by rfl) T.z_isinstance (by decide +kernel) (ja_cons (je_v 0) (ja_cons (je_glob (by rfl) T.k_BadMove) ja_nil))) (ja_cons (je_callB call_isV (cs_isv T.xt) (by rfl) T.z_isinstance (by decide +kernel) (ja_cons (je_v 0) (ja_cons (je_glob (by rfl) T.k_BadLog) ja_nil))) (ja_cons (je_callB call_isV (cs_isv T.xt) (by rfl) T.z_isinstance (by decide +kernel) (ja_cons (je_v 0) (ja_cons (je_glob (by rfl) T.k_BadChange) ja_nil))) ja_nil))))))
    (jb_cons (js_set (i := 1) sc__law_marks.nd rfl (Or.inl rfl) (je_op op_addD sp_add (je_v 1) (je_lst (ja_cons (je_callB call_isV (cs_isv T.xt) (by rfl) T.z_isinstance (by decide +kernel) (ja_cons (je_v 0) (ja_cons (je_glob (by rfl) T.k_BadNumber) ja_nil))) (ja_cons (je_callB call_isV (cs_isv T.xt) (by rfl) T.z_isinstance (by decide +kernel) (ja_cons (je_v 0) (ja_cons (je_glob (by rfl) T.k_Unjoined) ja_nil))) (ja_cons (je_callB call_isV (cs_isv T.xt) (by rfl) T.z_isinstance (by decide +kernel) (ja_cons (je_v 0) (ja_cons (je_glob (by rfl) T.k_Open) ja_nil))) ja_nil))))))
    (jb_one (js_ret (je_op op_addD sp_add (je_v 1) (je_lst (ja_cons (je_callB call_isV (cs_isv T.xt) (by rfl) T.z_isinstance (by decide +kernel) (ja_cons (je_v 0) (ja_cons (je_glob (by rfl) T.k_Lacking) ja_nil))) (ja_cons (je_callB call_isV (cs_isv T.xt) (by rfl) T.z_isinstance (by decide +kernel) (ja_cons (je_v 0) (ja_cons (je_glob (by rfl) T.k_Stopped) ja_nil))) (ja_cons (je_callB call_isV (cs_isv T.xt) (by rfl) T.z_isinstance (by decide +kernel) (ja_cons (je_v 0) (ja_cons (je_glob (by rfl) T.k_BadEntry) ja_nil))) ja_nil))))))))))))))))
theorem ok__law_errors_right (T : Bt K mg) {a__law_errors_right : Addr} {fd__law_errors_right : FuncData} (D__law_errors_right : Df K mg "_law_errors_right" s__law_errors_right a__law_errors_right fd__law_errors_right P__law_errors_right) {a__law_pick : Addr} {fd__law_pick : FuncData} (D__law_pick : Df K mg "_law_pick" s__law_pick a__law_pick fd__law_pick P__law_pick) (G__law_pick : FnOk P w K mg base (L2.CX P w) 3 a__law_pick fd__law_pick P__law_pick (spF K f__law_pick)) {a__law_span : Addr} {fd__law_span : FuncData} (D__law_span : Df K mg "_law_span" s__law_span a__law_span fd__law_span P__law_span) (G__law_span : FnOk P w K mg base (L2.CX P w) 3 a__law_span fd__law_span P__law_span (spF K f__law_span)) {a__law_marks : Addr} {fd__law_marks : FuncData} (D__law_marks : Df K mg "_law_marks" s__law_marks a__law_marks fd__law_marks P__law_marks) (G__law_marks : FnOk P w K mg base (L2.CX P w) 1 a__law_marks fd__law_marks P__law_marks (spF K f__law_marks)) {a__law_same : Addr} {fd__law_same : FuncData} (D__law_same : Df K mg "_law_same" s__law_same a__law_same fd__law_same P__law_same) (G__law_same : FnOk P w K mg base (L2.CX P w) 8 a__law_same fd__law_same P__law_same (spF K (f__law_same 8))) {a_BadChange_i : Addr} {fd_BadChange_i : FuncData} (Di_BadChange : Dfi K 442 "BadChange.__init__" s_BadChange_i a_BadChange_i fd_BadChange_i P_BadChange_i) (Gi_BadChange : FnOk P w K mg base (L2.CX P w) 1 a_BadChange_i fd_BadChange_i P_BadChange_i (iniSp K 442 ["at"])) {a_BadEntry_i : Addr} {fd_BadEntry_i : FuncData} (Di_BadEntry : Dfi K 537 "BadEntry.__init__" s_BadEntry_i a_BadEntry_i fd_BadEntry_i P_BadEntry_i) (Gi_BadEntry : FnOk P w K mg base (L2.CX P w) 1 a_BadEntry_i fd_BadEntry_i P_BadEntry_i (iniSp K 537 ["at", "name"])) {a_BadLetters_i : Addr} {fd_BadLetters_i : FuncData} (Di_BadLetters : Dfi K 176 "BadLetters.__init__" s_BadLetters_i a_BadLetters_i fd_BadLetters_i P_BadLetters_i) (Gi_BadLetters : FnOk P w K mg base (L2.CX P w) 1 a_BadLetters_i fd_BadLetters_i P_BadLetters_i (iniSp K 176 ["text"])) {a_BadLog_i : Addr} {fd_BadLog_i : FuncData} (Di_BadLog : Dfi K 423 "BadLog.__init__" s_BadLog_i a_BadLog_i fd_BadLog_i P_BadLog_i) (Gi_BadLog : FnOk P w K mg base (L2.CX P w) 1 a_BadLog_i fd_BadLog_i P_BadLog_i (iniSp K 423 ["at"])) {a_BadMove_i : Addr} {fd_BadMove_i : FuncData} (Di_BadMove : Dfi K 404 "BadMove.__init__" s_BadMove_i a_BadMove_i fd_BadMove_i P_BadMove_i) (Gi_BadMove : FnOk P w K mg base (L2.CX P w) 1 a_BadMove_i fd_BadMove_i P_BadMove_i (iniSp K 404 ["at"])) {a_BadName_i : Addr} {fd_BadName_i : FuncData} (Di_BadName : Dfi K 214 "BadName.__init__" s_BadName_i a_BadName_i fd_BadName_i P_BadName_i) (Gi_BadName : FnOk P w K mg base (L2.CX P w) 1 a_BadName_i fd_BadName_i P_BadName_i (iniSp K 214 ["name"])) {a_BadNumber_i : Addr} {fd_BadNumber_i : FuncData} (Di_BadNumber : Dfi K 233 "BadNumber.__init__" s_BadNumber_i a_BadNumber_i fd_BadNumber_i P_BadNumber_i) (Gi_BadNumber : FnOk P w K mg base (L2.CX P w) 1 a_BadNumber_i fd_BadNumber_i P_BadNumber_i (iniSp K 233 ["number"])) {a_BadRow_i : Addr} {fd_BadRow_i : FuncData} (Di_BadRow : Dfi K 252 "BadRow.__init__" s_BadRow_i a_BadRow_i fd_BadRow_i P_BadRow_i) (Gi_BadRow : FnOk P w K mg base (L2.CX P w) 1 a_BadRow_i fd_BadRow_i P_BadRow_i (iniSp K 252 ["at"])) {a_BadRule_i : Addr} {fd_BadRule_i : FuncData} (Di_BadRule : Dfi K 271 "BadRule.__init__" s_BadRule_i a_BadRule_i fd_BadRule_i P_BadRule_i) (Gi_BadRule : FnOk P w K mg base (L2.CX P w) 1 a_BadRule_i fd_BadRule_i P_BadRule_i (iniSp K 271 ["name"])) {a_BadSquare_i : Addr} {fd_BadSquare_i : FuncData} (Di_BadSquare : Dfi K 385 "BadSquare.__init__" s_BadSquare_i a_BadSquare_i fd_BadSquare_i P_BadSquare_i) (Gi_BadSquare : FnOk P w K mg base (L2.CX P w) 1 a_BadSquare_i fd_BadSquare_i P_BadSquare_i (iniSp K 385 ["name"])) {a_BadStep_i : Addr} {fd_BadStep_i : FuncData} (Di_BadStep : Dfi K 366 "BadStep.__init__" s_BadStep_i a_BadStep_i fd_BadStep_i P_BadStep_i) (Gi_BadStep : FnOk P w K mg base (L2.CX P w) 1 a_BadStep_i fd_BadStep_i P_BadStep_i (iniSp K 366 ["at"])) {a_BadText_i : Addr} {fd_BadText_i : FuncData} (Di_BadText : Dfi K 347 "BadText.__init__" s_BadText_i a_BadText_i fd_BadText_i P_BadText_i) (Gi_BadText : FnOk P w K mg base (L2.CX P w) 1 a_BadText_i fd_BadText_i P_BadText_i (iniSp K 347 ["at"])) {a_BadWord_i : Addr} {fd_BadWord_i : FuncData} (Di_BadWord : Dfi K 195 "BadWord.__init__" s_BadWord_i a_BadWord_i fd_BadWord_i P_BadWord_i) (Gi_BadWord : FnOk P w K mg base (L2.CX P w) 1 a_BadWord_i fd_BadWord_i P_BadWord_i (iniSp K 195 ["text"])) {a_Lacking_i : Addr} {fd_Lacking_i : FuncData} (Di_Lacking : Dfi K 499 "Lacking.__init__" s_Lacking_i a_Lacking_i fd_Lacking_i P_Lacking_i) (Gi_Lacking : FnOk P w K mg base (L2.CX P w) 1 a_Lacking_i fd_Lacking_i P_Lacking_i (iniSp K 499 ["top", "one", "other"])) {a_Open_i : Addr} {fd_Open_i : FuncData} (Di_Open : Dfi K 480 "Open.__init__" s_Open_i a_Open_i fd_Open_i P_Open_i) (Gi_Open : FnOk P w K mg base (L2.CX P w) 1 a_Open_i fd_Open_i P_Open_i (iniSp K 480 ["top", "one", "other"])) {a_Repeated_i : Addr} {fd_Repeated_i : FuncData} (Di_Repeated : Dfi K 328 "Repeated.__init__" s_Repeated_i a_Repeated_i fd_Repeated_i P_Repeated_i) (Gi_Repeated : FnOk P w K mg base (L2.CX P w) 1 a_Repeated_i fd_Repeated_i P_Repeated_i (iniSp K 328 ["name"])) {a_Rising_i : Addr} {fd_Rising_i : FuncData} (Di_Rising : Dfi K 290 "Rising.__init__" s_Rising_i a_Rising_i fd_Rising_i P_Rising_i) (Gi_Rising : FnOk P w K mg base (L2.CX P w) 1 a_Rising_i fd_Rising_i P_Rising_i (iniSp K 290 ["name"])) {a_Stopped_i : Addr} {fd_Stopped_i : FuncData} (Di_Stopped : Dfi K 518 "Stopped.__init__" s_Stopped_i a_Stopped_i fd_Stopped_i P_Stopped_i) (Gi_Stopped : FnOk P w K mg base (L2.CX P w) 1 a_Stopped_i fd_Stopped_i P_Stopped_i (iniSp K 518 ["path"])) {a_Unjoined_i : Addr} {fd_Unjoined_i : FuncData} (Di_Unjoined : Dfi K 461 "Unjoined.__init__" s_Unjoined_i a_Unjoined_i fd_Unjoined_i P_Unjoined_i) (Gi_Unjoined : FnOk P w K mg base (L2.CX P w) 1 a_Unjoined_i fd_Unjoined_i P_Unjoined_i (iniSp K 461 ["one", "other"])) {a_Unknown_i : Addr} {fd_Unknown_i : FuncData} (Di_Unknown : Dfi K 309 "Unknown.__init__" s_Unknown_i a_Unknown_i fd_Unknown_i P_Unknown_i) (Gi_Unknown : FnOk P w K mg base (L2.CX P w) 1 a_Unknown_i fd_Unknown_i P_Unknown_i (iniSp K 309 ["name"])) :
    FnOk P w K mg base (L2.CX P w) 10 a__law_errors_right fd__law_errors_right P__law_errors_right (spF K f__law_errors_right) :=
  fn_ok D__law_errors_right.F sc__law_errors_right fun cdv A outer s H E hr => by
    have tk : Takes (cxOf (L2.CX P w) P w K mg base N__law_errors_right "_law_errors_right" (defScope s__law_errors_right) a__law_errors_right cdv A outer s H E) (WD E) := takes_of rfl rfl rfl rfl
    have pw := passes_of (X := cxOf (L2.CX P w) P w K mg base N__law_errors_right "_law_errors_right" (defScope s__law_errors_right) a__law_errors_right cdv A outer s H E) rfl
    exact (jb_cons (js_set (i := 3) sc__law_errors_right.nd rfl (Or.inl rfl) (je_call G__law_pick (hr.mono (by decide)) (by rfl) D__law_pick.g D__law_pick.k D__law_pick.b tk (ja_cons (je_v 0) (ja_cons (je_lst (ja_cons (je_call G__law_span (hr.mono (by decide)) (by rfl) D__law_span.g D__law_span.k D__law_span.b tk (ja_cons (je_v 0) (ja_cons (je_un un_neg sp_neg je_int) (ja_cons je_int ja_nil)))) (ja_cons je_int (ja_cons (je_op op_sub sp_sub (je_op op_pow sp_pow je_int je_int) je_int) (ja_cons (je_op op_sub sp_sub je_int (je_op op_pow sp_pow je_int je_int)) ja_nil))))) ja_nil))))
    (jb_cons (js_set (i := 4) sc__law_errors_right.nd rfl (Or.inl rfl) (je_tup (ja_cons je_int (ja_cons (je_v 1) (ja_cons (je_v 3) ja_nil)))))
    (jb_cons (js_set (i := 5) sc__law_errors_right.nd rfl (Or.inl rfl) (je_tup (ja_cons (je_un un_neg sp_neg je_int) (ja_cons (je_v 2) (ja_cons je_int ja_nil)))))
    (jb_cons (js_set (i := 6) sc__law_errors_right.nd rfl (Or.inl rfl) (je_lst (ja_cons (je_xob0 PySem.F.excBase_ValueError T.q_TooLong (T.xt.get (C := 49) rfl).xc T.k_TooLong (by rfl)) (ja_cons (je_xob0 PySem.F.excBase_ValueError T.q_TooMany (T.xt.get (C := 61) rfl).xc T.k_TooMany (by rfl)) (ja_cons (je_xob0 PySem.F.excBase_ValueError T.q_BadWeights (T.xt.get (C := 73) rfl).xc T.k_BadWeights (by rfl)) (ja_cons (je_xob0 PySem.F.excBase_ValueError T.q_BadEnds (T.xt.get (C := 85) rfl).xc T.k_BadEnds (by rfl)) (ja_cons (je_xob0 PySem.F.excBase_ValueError T.q_BadFare (T.xt.get (C := 97) rfl).xc T.k_BadFare (by rfl)) (ja_cons (je_xob0 PySem.F.excBase_ValueError T.q_BadTranslation (T.xt.get (C := 109) rfl).xc T.k_BadTranslation (by rfl)) (ja_cons (je_xob0 PySem.F.excBase_ValueError T.q_BadTable (T.xt.get (C := 121) rfl).xc T.k_BadTable (by rfl)) (ja_cons (je_xob0 PySem.F.excBase_ValueError T.q_BadSum (T.xt.get (C := 133) rfl).xc T.k_BadSum (by rfl)) ja_nil))))))))))
    (jb_cons (js_set (i := 6) sc__law_errors_right.nd rfl (Or.inl rfl) (je_op op_addD sp_add (je_v 6) (je_lst (ja_cons (je_xob0 PySem.F.excBase_ValueError T.q_BadOverlap (T.xt.get (C := 145) rfl).xc T.k_BadOverlap (by rfl)) (ja_cons (je_xob0 PySem.F.excBase_ValueError T.q_NothingToUndo (T.xt.get (C := 157) rfl).xc T.k_NothingToUndo (by rfl)) ja_nil)))))
    (jb_cons (js_set (i := 7) sc__law_errors_right.nd rfl (Or.inl rfl) (je_lst (ja_cons (je_xobO (ns := ["text"]) (T.xt.get (C := 176) rfl).oc Di_BadLetters.i Di_BadLetters.t Gi_BadLetters (hr.mono (by decide)) Di_BadLetters.b (by rfl) T.k_BadLetters (by decide) (ja_cons (je_v 1) ja_nil)) (ja_cons (je_xobO (ns := ["text"]) (T.xt.get (C := 195) rfl).oc Di_BadWord.i Di_BadWord.t Gi_BadWord (hr.mono (by decide)) Di_BadWord.b (by rfl) T.k_BadWord (by decide) (ja_cons (je_v 1) ja_nil)) ja_nil))))
    (jb_cons (js_set (i := 8) sc__law_errors_right.nd rfl (Or.inl rfl) (je_lst (ja_cons (je_xobO (ns := ["name"]) (T.xt.get (C := 214) rfl).oc Di_BadName.i Di_BadName.t Gi_BadName (hr.mono (by decide)) Di_BadName.b (by rfl) T.k_BadName (by decide) (ja_cons (je_v 1) ja_nil)) (ja_cons (je_xobO (ns := ["name"]) (T.xt.get (C := 271) rfl).oc Di_BadRule.i Di_BadRule.t Gi_BadRule (hr.mono (by decide)) Di_BadRule.b (by rfl) T.k_BadRule (by decide) (ja_cons (je_v 1) ja_nil)) (ja_cons (je_xobO (ns := ["name"]) (T.xt.get (C := 290) rfl).oc Di_Rising.i Di_Rising.t Gi_Rising (hr.mono (by decide)) Di_Rising.b (by rfl) T.k_Rising (by decide) (ja_cons (je_v 1) ja_nil)) (ja_cons (je_xobO (ns := ["name"]) (T.xt.get (C := 309) rfl).oc Di_Unknown.i Di_Unknown.t Gi_Unknown (hr.mono (by decide)) Di_Unknown.b (by rfl) T.k_Unknown (by decide) (ja_cons (je_v 1) ja_nil)) (ja_cons (je_xobO (ns := ["name"]) (T.xt.get (C := 328) rfl).oc Di_Repeated.i Di_Repeated.t Gi_Repeated (hr.mono (by decide)) Di_Repeated.b (by rfl) T.k_Repeated (by decide) (ja_cons (je_v 1) ja_nil)) (ja_cons (je_xobO (ns := ["name"]) (T.xt.get (C := 385) rfl).oc Di_BadSquare.i Di_BadSquare.t Gi_BadSquare (hr.mono (by decide)) Di_BadSquare.b (by rfl) T.k_BadSquare (by decide) (ja_cons (je_v 1) ja_nil)) ja_nil))))))))
    (jb_cons (js_set (i := 9) sc__law_errors_right.nd rfl (Or.inl rfl) (je_lst (ja_cons (je_xobO (ns := ["at"]) (T.xt.get (C := 252) rfl).oc Di_BadRow.i Di_BadRow.t Gi_BadRow (hr.mono (by decide)) Di_BadRow.b (by rfl) T.k_BadRow (by decide) (ja_cons (je_v 3) ja_nil)) (ja_cons (je_xobO (ns := ["at"]) (T.xt.get (C := 347) rfl).oc Di_BadText.i Di_BadText.t Gi_BadText (hr.mono (by decide)) Di_BadText.b (by rfl) T.k_BadText (by decide) (ja_cons (je_v 3) ja_nil)) (ja_cons (je_xobO (ns := ["at"]) (T.xt.get (C := 366) rfl).oc Di_BadStep.i Di_BadStep.t Gi_BadStep (hr.mono (by decide)) Di_BadStep.b (by rfl) T.k_BadStep (by decide) (ja_cons (je_v 3) ja_nil)) (ja_cons (je_xobO (ns := ["at"]) (T.xt.get (C := 404) rfl).oc Di_BadMove.i Di_BadMove.t Gi_BadMove (hr.mono (by decide)) Di_BadMove.b (by rfl) T.k_BadMove (by decide) (ja_cons (je_v 3) ja_nil)) (ja_cons (je_xobO (ns := ["at"]) (T.xt.get (C := 423) rfl).oc Di_BadLog.i Di_BadLog.t Gi_BadLog (hr.mono (by decide)) Di_BadLog.b (by rfl) T.k_BadLog (by decide) (ja_cons (je_v 3) ja_nil)) (ja_cons (je_xobO (ns := ["at"]) (T.xt.get (C := 442) rfl).oc Di_BadChange.i Di_BadChange.t Gi_BadChange (hr.mono (by decide)) Di_BadChange.b (by rfl) T.k_BadChange (by decide) (ja_cons (je_v 3) ja_nil)) ja_nil))))))))
    (jb_cons (js_set (i := 10) sc__law_errors_right.nd rfl (Or.inl rfl) (je_xobO (ns := ["one", "other"]) (T.xt.get (C := 461) rfl).oc Di_Unjoined.i Di_Unjoined.t Gi_Unjoined (hr.mono (by decide)) Di_Unjoined.b (by rfl) T.k_Unjoined (by decide) (ja_cons (je_v 1) (ja_cons (je_v 2) ja_nil))))
    (jb_cons (js_set (i := 11) sc__law_errors_right.nd rfl (Or.inl rfl) (je_lst (ja_cons (je_xobO (ns := ["top", "one", "other"]) (T.xt.get (C := 480) rfl).oc Di_Open.i Di_Open.t Gi_Open (hr.mono (by decide)) Di_Open.b (by rfl) T.k_Open (by decide) (ja_cons (je_v 1) (ja_cons (je_v 4) (ja_cons (je_v 5) ja_nil)))) (ja_cons (je_xobO (ns := ["top", "one", "other"]) (T.xt.get (C := 499) rfl).oc Di_Lacking.i Di_Lacking.t Gi_Lacking (hr.mono (by decide)) Di_Lacking.b (by rfl) T.k_Lacking (by decide) (ja_cons (je_v 1) (ja_cons (je_v 4) (ja_cons (je_v 5) ja_nil)))) ja_nil))))
    (jb_cons (js_set (i := 12) sc__law_errors_right.nd rfl (Or.inl rfl) (je_lst (ja_cons (je_xobO (ns := ["number"]) (T.xt.get (C := 233) rfl).oc Di_BadNumber.i Di_BadNumber.t Gi_BadNumber (hr.mono (by decide)) Di_BadNumber.b (by rfl) T.k_BadNumber (by decide) (ja_cons (je_v 3) ja_nil)) (ja_cons (je_xobO (ns := ["path"]) (T.xt.get (C := 518) rfl).oc Di_Stopped.i Di_Stopped.t Gi_Stopped (hr.mono (by decide)) Di_Stopped.b (by rfl) T.k_Stopped (by decide) (ja_cons (je_tup (ja_cons (je_v 3) (ja_cons je_int (ja_cons je_int ja_nil)))) ja_nil)) (ja_cons (je_xobO (ns := ["at", "name"]) (T.xt.get (C := 537) rfl).oc Di_BadEntry.i Di_BadEntry.t Gi_BadEntry (hr.mono (by decide)) Di_BadEntry.b (by rfl) T.k_BadEntry (by decide) (ja_cons (je_v 3) (ja_cons (je_v 2) ja_nil))) ja_nil)))))
    (jb_cons (js_set (i := 6) sc__law_errors_right.nd rfl (Or.inl rfl) (je_op op_addD sp_add (je_op op_addD sp_add (je_op op_addD sp_add (je_op op_addD sp_add (je_op op_addD sp_add (je_op op_addD sp_add (je_v 6) (je_v 7)) (je_v 8)) (je_v 9)) (je_lst (ja_cons (je_ix ix_seq sp_ix (je_v 12) je_int (fun _ _ => rfl)) (ja_cons (je_v 10) ja_nil)))) (je_v 11)) (je_slice sl_any sp_sl (je_v 12) (jo_some je_int) jo_none)))
    (jb_cons (js_for (vs := [13]) pw rfl (piI (pi_range1 (by rfl) T.z_range (ja_cons je_int ja_nil)) t_rng1) (pg_name (i := 13) sc__law_errors_right.nd rfl (Or.inr rfl)) (gt_name (by decide)) (jb_cons (js_set (i := 14) sc__law_errors_right.nd rfl (Or.inl rfl) (je_lst (ja_cons (je_callB call_isV (cs_isv T.xt) (by rfl) T.z_isinstance (by decide +kernel) (ja_cons (je_ix ix_seq sp_ix (je_v 6) (je_v 13) (fun _ _ => rfl)) (ja_cons (je_glob (by rfl) T.k_BoundError) ja_nil))) (ja_cons (je_callB call_isV (cs_isv T.xt) (by rfl) T.z_isinstance (by decide +kernel) (ja_cons (je_ix ix_seq sp_ix (je_v 6) (je_v 13) (fun _ _ => rfl)) (ja_cons (je_glob (by rfl) T.k_WayfillError) ja_nil))) (ja_cons (je_callB call_isV (cs_isv T.xt) (by rfl) T.z_isinstance (by decide +kernel) (ja_cons (je_ix ix_seq sp_ix (je_v 6) (je_v 13) (fun _ _ => rfl)) (ja_cons (je_ty (by rfl) T.z_ValueError (by decide +kernel)) ja_nil))) ja_nil)))))
    (jb_one (js_if (JW.jt (jw_or (jt_cmp (op_neA hr.units) sp_ne (je_call G__law_marks (hr.mono (by decide)) (by rfl) D__law_marks.g D__law_marks.k D__law_marks.b tk (ja_cons (je_ix ix_seq sp_ix (je_v 6) (je_v 13) (fun _ _ => rfl)) ja_nil)) (je_lc (own := [("j", 15)]) rfl sc__law_errors_right.nd (piI (pi_range1 (by rfl) T.z_range (ja_cons je_int ja_nil)) t_rng1) (blkOk_by (own := [("j", 15)]) (N := N__law_errors_right) (sc := defScope s__law_errors_right) (by decide +kernel)) (fun _ _ _ _ _ => (pg_name (i := 15) sc__law_errors_right.nd rfl (Or.inl rfl))) (gt_name (by decide)) (fun _ _ _ _ _ => jts_nil) (fun _ _ _ _ _ => (je_cmp (op_eqA hr.units) sp_eq (je_v 15) (je_v 13) (nomark _)))) (nomark _)) (jw_or1 (jt_cmp (op_neA hr.units) sp_ne (je_v 14) (je_lst (ja_cons (je_cmp op_ltD sp_lt (je_v 13) je_int (nomark _)) (ja_cons je_bl (ja_cons je_bl ja_nil)))) (nomark _))))) (jb_one (js_ret je_bl)) jb_nil))))
    (jb_cons (js_set (i := 16) sc__law_errors_right.nd rfl (Or.inl rfl) (je_lst (ja_cons (je_lc (own := [("x", 17)]) rfl sc__law_errors_right.nd (ji_any (je_v 7)) (blkOk_by (own := [("x", 17)]) (N := N__law_errors_right) (sc := defScope s__law_errors_right) (by decide +kernel)) (fun _ _ _ _ _ => (pg_name (i := 17) sc__law_errors_right.nd rfl (Or.inl rfl))) (gt_name (by decide)) (fun _ _ _ _ _ => jts_nil) (fun _ _ _ _ _ => (je_xof T.xt T.no_text (je_v 17)))) (ja_cons (je_lc (own := [("x", 17)]) rfl sc__law_errors_right.nd (ji_any (je_v 8)) (blkOk_by (own := [("x", 17)]) (N := N__law_errors_right) (sc := defScope s__law_errors_right) (by decide +kernel)) (fun _ _ _ _ _ => (pg_name (i := 17) sc__law_errors_right.nd rfl (Or.inl rfl))) (gt_name (by decide)) (fun _ _ _ _ _ => jts_nil) (fun _ _ _ _ _ => (je_xof T.xt T.no_name (je_v 17)))) (ja_cons (je_lc (own := [("x", 17)]) rfl sc__law_errors_right.nd (ji_any (je_v 9)) (blkOk_by (own := [("x", 17)]) (N := N__law_errors_right) (sc := defScope s__law_errors_right) (by decide +kernel)) (fun _ _ _ _ _ => (pg_name (i := 17) sc__law_errors_right.nd rfl (Or.inl rfl))) (gt_name (by decide)) (fun _ _ _ _ _ => jts_nil) (fun _ _ _ _ _ => (je_xof T.xt T.no_at (je_v 17)))) (ja_cons (je_xof T.xt T.no_number (je_ix ix_seq sp_ix (je_v 12) je_int (fun _ _ => rfl))) (ja_cons (je_xof T.xt T.no_path (je_ix ix_seq sp_ix (je_v 12) je_int (fun _ _ => rfl))) ja_nil)))))))
    (jb_cons (js_set (i := 16) sc__law_errors_right.nd rfl (Or.inl rfl) (je_op op_addD sp_add (je_v 16) (je_lst (ja_cons (je_xof T.xt T.no_one (je_v 10)) (ja_cons (je_xof T.xt T.no_other (je_v 10)) (ja_cons (je_xof T.xt T.no_at (je_ix ix_seq sp_ix (je_v 12) je_int (fun _ _ => rfl))) (ja_cons (je_xof T.xt T.no_name (je_ix ix_seq sp_ix (je_v 12) je_int (fun _ _ => rfl))) ja_nil)))))))
    (jb_cons (js_for (vs := [17]) pw rfl (ji_any (je_v 11)) (pg_name (i := 17) sc__law_errors_right.nd rfl (Or.inl rfl)) (gt_name (by decide)) (jb_one (js_set (i := 16) sc__law_errors_right.nd rfl (Or.inl rfl) (je_op op_addD sp_add (je_v 16) (je_lst (ja_cons (je_xof T.xt T.no_top (je_v 17)) (ja_cons (je_xof T.xt T.no_one (je_v 17)) (ja_cons (je_xof T.xt T.no_other (je_v 17)) ja_nil))))))))
    (jb_cons (js_set (i := 18) sc__law_errors_right.nd rfl (Or.inl rfl) (je_lst (ja_cons (je_op op_mulD sp_mul (je_lst (ja_cons (je_v 1) ja_nil)) je_int) (ja_cons (je_op op_mulD sp_mul (je_lst (ja_cons (je_v 1) ja_nil)) je_int) (ja_cons (je_op op_mulD sp_mul (je_lst (ja_cons (je_v 3) ja_nil)) je_int) (ja_cons (je_v 3) (ja_cons (je_tup (ja_cons (je_v 3) (ja_cons je_int (ja_cons je_int ja_nil)))) (ja_cons (je_v 1) (ja_cons (je_v 2) (ja_cons (je_v 3) (ja_cons (je_v 2) ja_nil)))))))))))
    (jb_one (js_ret (je_call G__law_same (hr.mono (by decide)) (by rfl) D__law_same.g D__law_same.k D__law_same.b tk (ja_cons (je_v 16) (ja_cons (je_op op_addD sp_add (je_v 18) (je_op op_mulD sp_mul (je_lst (ja_cons (je_v 1) (ja_cons (je_v 4) (ja_cons (je_v 5) ja_nil)))) je_int)) ja_nil))))))))))))))))))))))
theorem ok_law (T : Bt K mg) {a_law : Addr} {fd_law : FuncData} (D_law : Df K mg "law" s_law a_law fd_law P_law) {a__law_same : Addr} {fd__law_same : FuncData} (D__law_same : Df K mg "_law_same" s__law_same a__law_same fd__law_same P__law_same) (G__law_same : FnOk P w K mg base (L2.CX P w) 8 a__law_same fd__law_same P__law_same (spF K (f__law_same 8))) {a__law_draws : Addr} {fd__law_draws : FuncData} (D__law_draws : Df K mg "_law_draws" s__law_draws a__law_draws fd__law_draws P__law_draws) (G__law_draws : FnOk P w K mg base (L2.CX P w) 1 a__law_draws fd__law_draws P__law_draws (spF K f__law_draws)) {a__law_letters : Addr} {fd__law_letters : FuncData} (D__law_letters : Df K mg "_law_letters" s__law_letters a__law_letters fd__law_letters P__law_letters) (G__law_letters : FnOk P w K mg base (L2.CX P w) 4 a__law_letters fd__law_letters P__law_letters (spF K f__law_letters)) {a__law_word : Addr} {fd__law_word : FuncData} (D__law_word : Df K mg "_law_word" s__law_word a__law_word fd__law_word P__law_word) (G__law_word : FnOk P w K mg base (L2.CX P w) 5 a__law_word fd__law_word P__law_word (spF K f__law_word)) {a__law_pick : Addr} {fd__law_pick : FuncData} (D__law_pick : Df K mg "_law_pick" s__law_pick a__law_pick fd__law_pick P__law_pick) (G__law_pick : FnOk P w K mg base (L2.CX P w) 3 a__law_pick fd__law_pick P__law_pick (spF K f__law_pick)) {a_format_word : Addr} {fd_format_word : FuncData} (D_format_word : Df K mg "format_word" s_format_word a_format_word fd_format_word P_format_word) (G_format_word : FnOk P w K mg base (L2.CX P w) 1 a_format_word fd_format_word P_format_word (spF K f_format_word)) {a__law_written : Addr} {fd__law_written : FuncData} (D__law_written : Df K mg "_law_written" s__law_written a__law_written fd__law_written P__law_written) (G__law_written : FnOk P w K mg base (L2.CX P w) 1 a__law_written fd__law_written P__law_written (spF K f__law_written)) {a__law_read : Addr} {fd__law_read : FuncData} (D__law_read : Df K mg "_law_read" s__law_read a__law_read fd__law_read P__law_read) (G__law_read : FnOk P w K mg base (L2.CX P w) 5 a__law_read fd__law_read P__law_read (spF K f__law_read)) {a__law_texts : Addr} {fd__law_texts : FuncData} (D__law_texts : Df K mg "_law_texts" s__law_texts a__law_texts fd__law_texts P__law_texts) (G__law_texts : FnOk P w K mg base (L2.CX P w) 6 a__law_texts fd__law_texts P__law_texts (spF K f__law_texts)) {a__law_right : Addr} {fd__law_right : FuncData} (D__law_right : Df K mg "_law_right" s__law_right a__law_right fd__law_right P__law_right) (G__law_right : FnOk P w K mg base (L2.CX P w) 10 a__law_right fd__law_right P__law_right (spF K f__law_right)) {a__law_alphabets : Addr} {fd__law_alphabets : FuncData} (D__law_alphabets : Df K mg "_law_alphabets" s__law_alphabets a__law_alphabets fd__law_alphabets P__law_alphabets) (G__law_alphabets : FnOk P w K mg base (L2.CX P w) 6 a__law_alphabets fd__law_alphabets P__law_alphabets (spF K f__law_alphabets)) {a__law_bad_word : Addr} {fd__law_bad_word : FuncData} (D__law_bad_word : Df K mg "_law_bad_word" s__law_bad_word a__law_bad_word fd__law_bad_word P__law_bad_word) (G__law_bad_word : FnOk P w K mg base (L2.CX P w) 5 a__law_bad_word fd__law_bad_word P__law_bad_word (spF K f__law_bad_word)) {a__law_rare : Addr} {fd__law_rare : FuncData} (D__law_rare : Df K mg "_law_rare" s__law_rare a__law_rare fd__law_rare P__law_rare) (G__law_rare : FnOk P w K mg base (L2.CX P w) 3 a__law_rare fd__law_rare P__law_rare (spF K f__law_rare)) {a__law_long_right : Addr} {fd__law_long_right : FuncData} (D__law_long_right : Df K mg "_law_long_right" s__law_long_right a__law_long_right fd__law_long_right P__law_long_right) (G__law_long_right : FnOk P w K mg base (L2.CX P w) 11 a__law_long_right fd__law_long_right P__law_long_right (spF K f__law_long_right)) {a__law_errors_right : Addr} {fd__law_errors_right : FuncData} (D__law_errors_right : Df K mg "_law_errors_right" s__law_errors_right a__law_errors_right fd__law_errors_right P__law_errors_right) (G__law_errors_right : FnOk P w K mg base (L2.CX P w) 10 a__law_errors_right fd__law_errors_right P__law_errors_right (spF K f__law_errors_right)) {a__law_line : Addr} {fd__law_line : FuncData} (D__law_line : Df K mg "_law_line" s__law_line a__law_line fd__law_line P__law_line) (G__law_line : FnOk P w K mg base (L2.CX P w) 5 a__law_line fd__law_line P__law_line (spF K f__law_line))  :
    FnOk P w K mg base (L2.CX P w) 12 a_law fd_law P_law (spF K f_law) :=
  fn_ok D_law.F sc_law fun cdv A outer s H E hr => by
    have tk : Takes (cxOf (L2.CX P w) P w K mg base N_law "law" (defScope s_law) a_law cdv A outer s H E) (WD E) := takes_of rfl rfl rfl rfl
    have pw := passes_of (X := cxOf (L2.CX P w) P w K mg base N_law "law" (defScope s_law) a_law cdv A outer s H E) rfl
    exact (jb_cons (js_set (i := 1) sc_law.nd rfl (Or.inl rfl) (je_lst (ja_cons (je_gint (by rfl) T.g_LETTERS) (ja_cons (je_gint (by rfl) T.g_RULES) (ja_cons (je_gint (by rfl) T.g_SIDE) (ja_cons (je_gint (by rfl) T.g_WEIGHT) (ja_cons (je_gint (by rfl) T.g_WORD) (ja_cons (je_gint (by rfl) T.g_WAY) (ja_cons (je_gint (by rfl) T.g_MOVES) (ja_cons (je_gint (by rfl) T.g_SQUARES) (ja_cons (je_gint (by rfl) T.g_OVERLAPS) (ja_cons (je_gint (by rfl) T.g_WORDS) ja_nil))))))))))))
    (jb_cons (js_if (jt_not (jt_val (je_call G__law_same (hr.mono (by decide)) (by rfl) D__law_same.g D__law_same.k D__law_same.b tk (ja_cons (je_v 1) (ja_cons (je_lst (ja_cons je_int (ja_cons je_int (ja_cons je_int (ja_cons je_int (ja_cons je_int (ja_cons je_int (ja_cons je_int (ja_cons je_int (ja_cons je_int (ja_cons je_int ja_nil))))))))))) ja_nil))))) (jb_one (js_ret je_bl)) jb_nil)
    (jb_cons (js_set (i := 2) sc_law.nd rfl (Or.inl rfl) (je_call G__law_draws (hr.mono (by decide)) (by rfl) D__law_draws.g D__law_draws.k D__law_draws.b tk (ja_cons (je_v 0) ja_nil)))
    (jb_cons (js_set (i := 3) sc_law.nd rfl (Or.inl rfl) (je_call G__law_letters (hr.mono (by decide)) (by rfl) D__law_letters.g D__law_letters.k D__law_letters.b tk (ja_cons (je_v 2) (ja_cons je_int (ja_cons je_int ja_nil)))))
    (jb_cons (js_set (i := 4) sc_law.nd rfl (Or.inl rfl) (je_call G__law_letters (hr.mono (by decide)) (by rfl) D__law_letters.g D__law_letters.k D__law_letters.b tk (ja_cons (je_v 2) (ja_cons je_int (ja_cons je_int ja_nil)))))
    (jb_cons (js_for (vs := [5]) pw rfl (piI (pi_range1 (by rfl) T.z_range (ja_cons je_int ja_nil)) t_rng1) (pg_name (i := 5) sc_law.nd rfl (Or.inl rfl)) (gt_name (by decide)) (jb_cons (js_set (i := 6) sc_law.nd rfl (Or.inl rfl) (je_call G__law_word (hr.mono (by decide)) (by rfl) D__law_word.g D__law_word.k D__law_word.b tk (ja_cons (je_v 2) (ja_cons (je_v 3) (ja_cons je_int (ja_cons (je_call G__law_pick (hr.mono (by decide)) (by rfl) D__law_pick.g D__law_pick.k D__law_pick.b tk (ja_cons (je_v 2) (ja_cons (je_lst (ja_cons je_int (ja_cons je_int ja_nil))) ja_nil))) ja_nil))))))
    (jb_cons (js_set (i := 7) sc_law.nd rfl (Or.inl rfl) (je_call G_format_word (hr.mono (by decide)) (by rfl) D_format_word.g D_format_word.k D_format_word.b tk (ja_cons (je_v 6) ja_nil)))
    (jb_cons (js_if (JW.jt (jw_or (jt_not (jt_val (je_call G__law_same (hr.mono (by decide)) (by rfl) D__law_same.g D__law_same.k D__law_same.b tk (ja_cons (je_v 7) (ja_cons (je_call G__law_written (hr.mono (by decide)) (by rfl) D__law_written.g D__law_written.k D__law_written.b tk (ja_cons (je_v 6) ja_nil)) ja_nil))))) (jw_or1 (jt_not (jt_val (je_call G__law_same (hr.mono (by decide)) (by rfl) D__law_same.g D__law_same.k D__law_same.b tk (ja_cons (je_call G__law_read (hr.mono (by decide)) (by rfl) D__law_read.g D__law_read.k D__law_read.b tk (ja_cons (je_v 3) (ja_cons (je_v 7) (ja_cons je_int ja_nil)))) (ja_cons (je_tup (ja_cons je_str (ja_cons (je_v 6) ja_nil))) ja_nil)))))))) (jb_one (js_ret je_bl)) jb_nil)
    (jb_cons (js_set (i := 8) sc_law.nd rfl (Or.inl rfl) (je_op op_addD sp_add (je_v 6) (je_op op_mulD sp_mul (je_rev (je_v 3)) (je_op op_mulD sp_mul (je_v 5) je_int))))
    (jb_cons (js_if (jt_not (jt_val (je_call G__law_same (hr.mono (by decide)) (by rfl) D__law_same.g D__law_same.k D__law_same.b tk (ja_cons (je_callK0 (ks := ["word"]) (ix := [0]) G_format_word (hr.mono (by decide)) (by rfl) D_format_word.g D_format_word.k (KB_format_word_0 D_format_word.F) tk (jk_cons (je_v 8) jk_nil)) (ja_cons (je_call G__law_written (hr.mono (by decide)) (by rfl) D__law_written.g D__law_written.k D__law_written.b tk (ja_cons (je_v 8) ja_nil)) ja_nil))))) (jb_one (js_ret je_bl)) jb_nil)
    (jb_cons (js_for (vs := [9]) pw rfl (ji_any (je_frz (je_call G__law_texts (hr.mono (by decide)) (by rfl) D__law_texts.g D__law_texts.k D__law_texts.b tk (ja_cons (je_v 2) (ja_cons (je_v 3) (ja_cons (je_v 6) ja_nil)))))) (pg_name (i := 9) sc_law.nd rfl (Or.inl rfl)) (gt_name (by decide)) (jb_one (js_if (JW.jt (jw_or (jt_not (jt_val (je_call G__law_right (hr.mono (by decide)) (by rfl) D__law_right.g D__law_right.k D__law_right.b tk (ja_cons (je_v 3) (ja_cons (je_v 9) ja_nil))))) (jw_or1 (jt_not (jt_val (je_call G__law_right (hr.mono (by decide)) (by rfl) D__law_right.g D__law_right.k D__law_right.b tk (ja_cons (je_v 4) (ja_cons (je_v 9) ja_nil)))))))) (jb_one (js_ret je_bl)) jb_nil)))
    (jb_cons (js_for (vs := [10]) pw rfl (ji_any (je_frz (je_call G__law_alphabets (hr.mono (by decide)) (by rfl) D__law_alphabets.g D__law_alphabets.k D__law_alphabets.b tk (ja_cons (je_v 2) (ja_cons (je_v 3) ja_nil))))) (pg_name (i := 10) sc_law.nd rfl (Or.inl rfl)) (gt_name (by decide)) (jb_one (js_if (JW.jt (jw_or (jt_not (jt_val (je_call G__law_right (hr.mono (by decide)) (by rfl) D__law_right.g D__law_right.k D__law_right.b tk (ja_cons (je_v 10) (ja_cons (je_v 7) ja_nil))))) (jw_or1 (jt_not (jt_val (je_call G__law_right (hr.mono (by decide)) (by rfl) D__law_right.g D__law_right.k D__law_right.b tk (ja_cons (je_v 10) (ja_cons (je_ix ix_seq sp_ix (je_call G__law_bad_word (hr.mono (by decide)) (by rfl) D__law_bad_word.g D__law_bad_word.k D__law_bad_word.b tk (ja_cons (je_v 2) (ja_cons (je_v 3) ja_nil))) je_int (fun _ _ => rfl)) ja_nil)))))))) (jb_one (js_ret je_bl)) jb_nil)))
    (jb_one (js_if (JW.jt (jw_or (jt_not (jt_val (je_call G__law_right (hr.mono (by decide)) (by rfl) D__law_right.g D__law_right.k D__law_right.b tk (ja_cons (je_v 3) (ja_cons (je_v 7) ja_nil))))) (jw_or1 (jt_not (jt_val (je_call G__law_right (hr.mono (by decide)) (by rfl) D__law_right.g D__law_right.k D__law_right.b tk (ja_cons (je_v 3) (ja_cons (je_v 6) ja_nil)))))))) (jb_one (js_ret je_bl)) jb_nil))))))))))
    (jb_cons (js_if (JW.jt (jw_and (jt_val (je_call G__law_rare (hr.mono (by decide)) (by rfl) D__law_rare.g D__law_rare.k D__law_rare.b tk (ja_cons (je_v 2) (ja_cons je_int ja_nil)))) (jw_and1 (jt_not (jt_val (je_call G__law_long_right (hr.mono (by decide)) (by rfl) D__law_long_right.g D__law_long_right.k D__law_long_right.b tk (ja_cons (je_v 2) (ja_cons (je_v 3) ja_nil)))))))) (jb_one (js_ret je_bl)) jb_nil)
    (jb_one (js_ret (je_call G__law_errors_right (hr.mono (by decide)) (by rfl) D__law_errors_right.g D__law_errors_right.k D__law_errors_right.b tk (ja_cons (je_v 2) (ja_cons (je_op op_mulD sp_mul (je_call G__law_line (hr.mono (by decide)) (by rfl) D__law_line.g D__law_line.k D__law_line.b tk (ja_cons (je_v 2) (ja_cons je_int ja_nil))) je_int) (ja_cons (je_call G__law_word (hr.mono (by decide)) (by rfl) D__law_word.g D__law_word.k D__law_word.b tk (ja_cons (je_v 2) (ja_cons (je_v 3) (ja_cons je_int (ja_cons je_int ja_nil))))) ja_nil)))))))))))))
end
/-! what the top has left -/
theorem all_mk {l : PySem.W.OpenLaw} {w : World} {K : PySem.W.Frag} {h : Heap} {mg : Str → Option Value} {fa : Addr} (X : K.In h) (G : h.Ns mainGlobals mg) (hfa : mg "law" = some (.ref fa))
    {od_is_alphabet an_is_alphabet : Option Addr} {sl_is_alphabet : Array (Option Value)} {oc_is_alphabet kV_is_alphabet dc_is_alphabet pm_is_alphabet cd_is_alphabet ct_is_alphabet : Value} {a_is_alphabet : Addr}
    (a0 : PySem.W.nsIn K mainGlobals "is_alphabet" = some (some (.ref a_is_alphabet))) (l0 : K.lookup a_is_alphabet = some ⟨oc_is_alphabet, od_is_alphabet, .func (PySem.W.fnOf "is_alphabet" "is_alphabet" (defArgs s_is_alphabet) (defBody s_is_alphabet) (defScope s_is_alphabet) .none kV_is_alphabet dc_is_alphabet pm_is_alphabet an_is_alphabet cd_is_alphabet ct_is_alphabet), sl_is_alphabet⟩) (c0 : PySem.W.codeIn K cd_is_alphabet "is_alphabet" = true) (k0 : PySem.W.keepIn K (.ref a_is_alphabet) = true)
    {od_check_letters an_check_letters : Option Addr} {sl_check_letters : Array (Option Value)} {oc_check_letters kV_check_letters dc_check_letters pm_check_letters cd_check_letters ct_check_letters : Value} {a_check_letters : Addr}
    (a1 : PySem.W.nsIn K mainGlobals "check_letters" = some (some (.ref a_check_letters))) (l1 : K.lookup a_check_letters = some ⟨oc_check_letters, od_check_letters, .func (PySem.W.fnOf "check_letters" "check_letters" (defArgs s_check_letters) (defBody s_check_letters) (defScope s_check_letters) .none kV_check_letters dc_check_letters pm_check_letters an_check_letters cd_check_letters ct_check_letters), sl_check_letters⟩) (c1 : PySem.W.codeIn K cd_check_letters "check_letters" = true) (k1 : PySem.W.keepIn K (.ref a_check_letters) = true)
    {od_has_letters_only an_has_letters_only : Option Addr} {sl_has_letters_only : Array (Option Value)} {oc_has_letters_only kV_has_letters_only dc_has_letters_only pm_has_letters_only cd_has_letters_only ct_has_letters_only : Value} {a_has_letters_only : Addr}
    (a2 : PySem.W.nsIn K mainGlobals "has_letters_only" = some (some (.ref a_has_letters_only))) (l2 : K.lookup a_has_letters_only = some ⟨oc_has_letters_only, od_has_letters_only, .func (PySem.W.fnOf "has_letters_only" "has_letters_only" (defArgs s_has_letters_only) (defBody s_has_letters_only) (defScope s_has_letters_only) .none kV_has_letters_only dc_has_letters_only pm_has_letters_only an_has_letters_only cd_has_letters_only ct_has_letters_only), sl_has_letters_only⟩) (c2 : PySem.W.codeIn K cd_has_letters_only "has_letters_only" = true) (k2 : PySem.W.keepIn K (.ref a_has_letters_only) = true)
    {od_is_word an_is_word : Option Addr} {sl_is_word : Array (Option Value)} {oc_is_word kV_is_word dc_is_word pm_is_word cd_is_word ct_is_word : Value} {a_is_word : Addr}
    (a3 : PySem.W.nsIn K mainGlobals "is_word" = some (some (.ref a_is_word))) (l3 : K.lookup a_is_word = some ⟨oc_is_word, od_is_word, .func (PySem.W.fnOf "is_word" "is_word" (defArgs s_is_word) (defBody s_is_word) (defScope s_is_word) .none kV_is_word dc_is_word pm_is_word an_is_word cd_is_word ct_is_word), sl_is_word⟩) (c3 : PySem.W.codeIn K cd_is_word "is_word" = true) (k3 : PySem.W.keepIn K (.ref a_is_word) = true)
    {od_format_word an_format_word : Option Addr} {sl_format_word : Array (Option Value)} {oc_format_word kV_format_word dc_format_word pm_format_word cd_format_word ct_format_word : Value} {a_format_word : Addr}
    (a4 : PySem.W.nsIn K mainGlobals "format_word" = some (some (.ref a_format_word))) (l4 : K.lookup a_format_word = some ⟨oc_format_word, od_format_word, .func (PySem.W.fnOf "format_word" "format_word" (defArgs s_format_word) (defBody s_format_word) (defScope s_format_word) .none kV_format_word dc_format_word pm_format_word an_format_word cd_format_word ct_format_word), sl_format_word⟩) (c4 : PySem.W.codeIn K cd_format_word "format_word" = true) (k4 : PySem.W.keepIn K (.ref a_format_word) = true)
    {od_read_word an_read_word : Option Addr} {sl_read_word : Array (Option Value)} {oc_read_word kV_read_word dc_read_word pm_read_word cd_read_word ct_read_word : Value} {a_read_word : Addr}
    (a5 : PySem.W.nsIn K mainGlobals "read_word" = some (some (.ref a_read_word))) (l5 : K.lookup a_read_word = some ⟨oc_read_word, od_read_word, .func (PySem.W.fnOf "read_word" "read_word" (defArgs s_read_word) (defBody s_read_word) (defScope s_read_word) .none kV_read_word dc_read_word pm_read_word an_read_word cd_read_word ct_read_word), sl_read_word⟩) (c5 : PySem.W.codeIn K cd_read_word "read_word" = true) (k5 : PySem.W.keepIn K (.ref a_read_word) = true)
    {od_parse_word an_parse_word : Option Addr} {sl_parse_word : Array (Option Value)} {oc_parse_word kV_parse_word dc_parse_word pm_parse_word cd_parse_word ct_parse_word : Value} {a_parse_word : Addr}
    (a6 : PySem.W.nsIn K mainGlobals "parse_word" = some (some (.ref a_parse_word))) (l6 : K.lookup a_parse_word = some ⟨oc_parse_word, od_parse_word, .func (PySem.W.fnOf "parse_word" "parse_word" (defArgs s_parse_word) (defBody s_parse_word) (defScope s_parse_word) .none kV_parse_word dc_parse_word pm_parse_word an_parse_word cd_parse_word ct_parse_word), sl_parse_word⟩) (c6 : PySem.W.codeIn K cd_parse_word "parse_word" = true) (k6 : PySem.W.keepIn K (.ref a_parse_word) = true)
    {od__law_draws an__law_draws : Option Addr} {sl__law_draws : Array (Option Value)} {oc__law_draws kV__law_draws dc__law_draws pm__law_draws cd__law_draws ct__law_draws : Value} {a__law_draws : Addr}
    (a7 : PySem.W.nsIn K mainGlobals "_law_draws" = some (some (.ref a__law_draws))) (l7 : K.lookup a__law_draws = some ⟨oc__law_draws, od__law_draws, .func (PySem.W.fnOf "_law_draws" "_law_draws" (defArgs s__law_draws) (defBody s__law_draws) (defScope s__law_draws) .none kV__law_draws dc__law_draws pm__law_draws an__law_draws cd__law_draws ct__law_draws), sl__law_draws⟩) (c7 : PySem.W.codeIn K cd__law_draws "_law_draws" = true) (k7 : PySem.W.keepIn K (.ref a__law_draws) = true)
    {od__law_mixed an__law_mixed : Option Addr} {sl__law_mixed : Array (Option Value)} {oc__law_mixed kV__law_mixed dc__law_mixed pm__law_mixed cd__law_mixed ct__law_mixed : Value} {a__law_mixed : Addr}
    (a8 : PySem.W.nsIn K mainGlobals "_law_mixed" = some (some (.ref a__law_mixed))) (l8 : K.lookup a__law_mixed = some ⟨oc__law_mixed, od__law_mixed, .func (PySem.W.fnOf "_law_mixed" "_law_mixed" (defArgs s__law_mixed) (defBody s__law_mixed) (defScope s__law_mixed) .none kV__law_mixed dc__law_mixed pm__law_mixed an__law_mixed cd__law_mixed ct__law_mixed), sl__law_mixed⟩) (c8 : PySem.W.codeIn K cd__law_mixed "_law_mixed" = true) (k8 : PySem.W.keepIn K (.ref a__law_mixed) = true)
    {od__law_take an__law_take : Option Addr} {sl__law_take : Array (Option Value)} {oc__law_take kV__law_take dc__law_take pm__law_take cd__law_take ct__law_take : Value} {a__law_take : Addr}
    (a9 : PySem.W.nsIn K mainGlobals "_law_take" = some (some (.ref a__law_take))) (l9 : K.lookup a__law_take = some ⟨oc__law_take, od__law_take, .func (PySem.W.fnOf "_law_take" "_law_take" (defArgs s__law_take) (defBody s__law_take) (defScope s__law_take) .none kV__law_take dc__law_take pm__law_take an__law_take cd__law_take ct__law_take), sl__law_take⟩) (c9 : PySem.W.codeIn K cd__law_take "_law_take" = true) (k9 : PySem.W.keepIn K (.ref a__law_take) = true)
    {od__law_span an__law_span : Option Addr} {sl__law_span : Array (Option Value)} {oc__law_span kV__law_span dc__law_span pm__law_span cd__law_span ct__law_span : Value} {a__law_span : Addr}
    (a10 : PySem.W.nsIn K mainGlobals "_law_span" = some (some (.ref a__law_span))) (l10 : K.lookup a__law_span = some ⟨oc__law_span, od__law_span, .func (PySem.W.fnOf "_law_span" "_law_span" (defArgs s__law_span) (defBody s__law_span) (defScope s__law_span) .none kV__law_span dc__law_span pm__law_span an__law_span cd__law_span ct__law_span), sl__law_span⟩) (c10 : PySem.W.codeIn K cd__law_span "_law_span" = true) (k10 : PySem.W.keepIn K (.ref a__law_span) = true)
    {od__law_rare an__law_rare : Option Addr} {sl__law_rare : Array (Option Value)} {oc__law_rare kV__law_rare dc__law_rare pm__law_rare cd__law_rare ct__law_rare : Value} {a__law_rare : Addr}
    (a11 : PySem.W.nsIn K mainGlobals "_law_rare" = some (some (.ref a__law_rare))) (l11 : K.lookup a__law_rare = some ⟨oc__law_rare, od__law_rare, .func (PySem.W.fnOf "_law_rare" "_law_rare" (defArgs s__law_rare) (defBody s__law_rare) (defScope s__law_rare) .none kV__law_rare dc__law_rare pm__law_rare an__law_rare cd__law_rare ct__law_rare), sl__law_rare⟩) (c11 : PySem.W.codeIn K cd__law_rare "_law_rare" = true) (k11 : PySem.W.keepIn K (.ref a__law_rare) = true)
    {od__law_pick an__law_pick : Option Addr} {sl__law_pick : Array (Option Value)} {oc__law_pick kV__law_pick dc__law_pick pm__law_pick cd__law_pick ct__law_pick : Value} {a__law_pick : Addr}
    (a12 : PySem.W.nsIn K mainGlobals "_law_pick" = some (some (.ref a__law_pick))) (l12 : K.lookup a__law_pick = some ⟨oc__law_pick, od__law_pick, .func (PySem.W.fnOf "_law_pick" "_law_pick" (defArgs s__law_pick) (defBody s__law_pick) (defScope s__law_pick) .none kV__law_pick dc__law_pick pm__law_pick an__law_pick cd__law_pick ct__law_pick), sl__law_pick⟩) (c12 : PySem.W.codeIn K cd__law_pick "_law_pick" = true) (k12 : PySem.W.keepIn K (.ref a__law_pick) = true)
    {od__law_in_range an__law_in_range : Option Addr} {sl__law_in_range : Array (Option Value)} {oc__law_in_range kV__law_in_range dc__law_in_range pm__law_in_range cd__law_in_range ct__law_in_range : Value} {a__law_in_range : Addr}
    (a13 : PySem.W.nsIn K mainGlobals "_law_in_range" = some (some (.ref a__law_in_range))) (l13 : K.lookup a__law_in_range = some ⟨oc__law_in_range, od__law_in_range, .func (PySem.W.fnOf "_law_in_range" "_law_in_range" (defArgs s__law_in_range) (defBody s__law_in_range) (defScope s__law_in_range) .none kV__law_in_range dc__law_in_range pm__law_in_range an__law_in_range cd__law_in_range ct__law_in_range), sl__law_in_range⟩) (c13 : PySem.W.codeIn K cd__law_in_range "_law_in_range" = true) (k13 : PySem.W.keepIn K (.ref a__law_in_range) = true)
    {od__law_letters an__law_letters : Option Addr} {sl__law_letters : Array (Option Value)} {oc__law_letters kV__law_letters dc__law_letters pm__law_letters cd__law_letters ct__law_letters : Value} {a__law_letters : Addr}
    (a14 : PySem.W.nsIn K mainGlobals "_law_letters" = some (some (.ref a__law_letters))) (l14 : K.lookup a__law_letters = some ⟨oc__law_letters, od__law_letters, .func (PySem.W.fnOf "_law_letters" "_law_letters" (defArgs s__law_letters) (defBody s__law_letters) (defScope s__law_letters) .none kV__law_letters dc__law_letters pm__law_letters an__law_letters cd__law_letters ct__law_letters), sl__law_letters⟩) (c14 : PySem.W.codeIn K cd__law_letters "_law_letters" = true) (k14 : PySem.W.keepIn K (.ref a__law_letters) = true)
    {od__law_stranger an__law_stranger : Option Addr} {sl__law_stranger : Array (Option Value)} {oc__law_stranger kV__law_stranger dc__law_stranger pm__law_stranger cd__law_stranger ct__law_stranger : Value} {a__law_stranger : Addr}
    (a15 : PySem.W.nsIn K mainGlobals "_law_stranger" = some (some (.ref a__law_stranger))) (l15 : K.lookup a__law_stranger = some ⟨oc__law_stranger, od__law_stranger, .func (PySem.W.fnOf "_law_stranger" "_law_stranger" (defArgs s__law_stranger) (defBody s__law_stranger) (defScope s__law_stranger) .none kV__law_stranger dc__law_stranger pm__law_stranger an__law_stranger cd__law_stranger ct__law_stranger), sl__law_stranger⟩) (c15 : PySem.W.codeIn K cd__law_stranger "_law_stranger" = true) (k15 : PySem.W.keepIn K (.ref a__law_stranger) = true)
    {od__law_bad_letters an__law_bad_letters : Option Addr} {sl__law_bad_letters : Array (Option Value)} {oc__law_bad_letters kV__law_bad_letters dc__law_bad_letters pm__law_bad_letters cd__law_bad_letters ct__law_bad_letters : Value} {a__law_bad_letters : Addr}
    (a16 : PySem.W.nsIn K mainGlobals "_law_bad_letters" = some (some (.ref a__law_bad_letters))) (l16 : K.lookup a__law_bad_letters = some ⟨oc__law_bad_letters, od__law_bad_letters, .func (PySem.W.fnOf "_law_bad_letters" "_law_bad_letters" (defArgs s__law_bad_letters) (defBody s__law_bad_letters) (defScope s__law_bad_letters) .none kV__law_bad_letters dc__law_bad_letters pm__law_bad_letters an__law_bad_letters cd__law_bad_letters ct__law_bad_letters), sl__law_bad_letters⟩) (c16 : PySem.W.codeIn K cd__law_bad_letters "_law_bad_letters" = true) (k16 : PySem.W.keepIn K (.ref a__law_bad_letters) = true)
    {od__law_word an__law_word : Option Addr} {sl__law_word : Array (Option Value)} {oc__law_word kV__law_word dc__law_word pm__law_word cd__law_word ct__law_word : Value} {a__law_word : Addr}
    (a17 : PySem.W.nsIn K mainGlobals "_law_word" = some (some (.ref a__law_word))) (l17 : K.lookup a__law_word = some ⟨oc__law_word, od__law_word, .func (PySem.W.fnOf "_law_word" "_law_word" (defArgs s__law_word) (defBody s__law_word) (defScope s__law_word) .none kV__law_word dc__law_word pm__law_word an__law_word cd__law_word ct__law_word), sl__law_word⟩) (c17 : PySem.W.codeIn K cd__law_word "_law_word" = true) (k17 : PySem.W.keepIn K (.ref a__law_word) = true)
    {od__law_bad_word an__law_bad_word : Option Addr} {sl__law_bad_word : Array (Option Value)} {oc__law_bad_word kV__law_bad_word dc__law_bad_word pm__law_bad_word cd__law_bad_word ct__law_bad_word : Value} {a__law_bad_word : Addr}
    (a18 : PySem.W.nsIn K mainGlobals "_law_bad_word" = some (some (.ref a__law_bad_word))) (l18 : K.lookup a__law_bad_word = some ⟨oc__law_bad_word, od__law_bad_word, .func (PySem.W.fnOf "_law_bad_word" "_law_bad_word" (defArgs s__law_bad_word) (defBody s__law_bad_word) (defScope s__law_bad_word) .none kV__law_bad_word dc__law_bad_word pm__law_bad_word an__law_bad_word cd__law_bad_word ct__law_bad_word), sl__law_bad_word⟩) (c18 : PySem.W.codeIn K cd__law_bad_word "_law_bad_word" = true) (k18 : PySem.W.keepIn K (.ref a__law_bad_word) = true)
    {od__law_line an__law_line : Option Addr} {sl__law_line : Array (Option Value)} {oc__law_line kV__law_line dc__law_line pm__law_line cd__law_line ct__law_line : Value} {a__law_line : Addr}
    (a19 : PySem.W.nsIn K mainGlobals "_law_line" = some (some (.ref a__law_line))) (l19 : K.lookup a__law_line = some ⟨oc__law_line, od__law_line, .func (PySem.W.fnOf "_law_line" "_law_line" (defArgs s__law_line) (defBody s__law_line) (defScope s__law_line) .none kV__law_line dc__law_line pm__law_line an__law_line cd__law_line ct__law_line), sl__law_line⟩) (c19 : PySem.W.codeIn K cd__law_line "_law_line" = true) (k19 : PySem.W.keepIn K (.ref a__law_line) = true)
    {od__law_spoilt an__law_spoilt : Option Addr} {sl__law_spoilt : Array (Option Value)} {oc__law_spoilt kV__law_spoilt dc__law_spoilt pm__law_spoilt cd__law_spoilt ct__law_spoilt : Value} {a__law_spoilt : Addr}
    (a20 : PySem.W.nsIn K mainGlobals "_law_spoilt" = some (some (.ref a__law_spoilt))) (l20 : K.lookup a__law_spoilt = some ⟨oc__law_spoilt, od__law_spoilt, .func (PySem.W.fnOf "_law_spoilt" "_law_spoilt" (defArgs s__law_spoilt) (defBody s__law_spoilt) (defScope s__law_spoilt) .none kV__law_spoilt dc__law_spoilt pm__law_spoilt an__law_spoilt cd__law_spoilt ct__law_spoilt), sl__law_spoilt⟩) (c20 : PySem.W.codeIn K cd__law_spoilt "_law_spoilt" = true) (k20 : PySem.W.keepIn K (.ref a__law_spoilt) = true)
    {od__law_same an__law_same : Option Addr} {sl__law_same : Array (Option Value)} {oc__law_same kV__law_same dc__law_same pm__law_same cd__law_same ct__law_same : Value} {a__law_same : Addr}
    (a21 : PySem.W.nsIn K mainGlobals "_law_same" = some (some (.ref a__law_same))) (l21 : K.lookup a__law_same = some ⟨oc__law_same, od__law_same, .func (PySem.W.fnOf "_law_same" "_law_same" (defArgs s__law_same) (defBody s__law_same) (defScope s__law_same) .none kV__law_same dc__law_same pm__law_same an__law_same cd__law_same ct__law_same), sl__law_same⟩) (c21 : PySem.W.codeIn K cd__law_same "_law_same" = true) (k21 : PySem.W.keepIn K (.ref a__law_same) = true)
    {od__law_word_fault an__law_word_fault : Option Addr} {sl__law_word_fault : Array (Option Value)} {oc__law_word_fault kV__law_word_fault dc__law_word_fault pm__law_word_fault cd__law_word_fault ct__law_word_fault : Value} {a__law_word_fault : Addr}
    (a22 : PySem.W.nsIn K mainGlobals "_law_word_fault" = some (some (.ref a__law_word_fault))) (l22 : K.lookup a__law_word_fault = some ⟨oc__law_word_fault, od__law_word_fault, .func (PySem.W.fnOf "_law_word_fault" "_law_word_fault" (defArgs s__law_word_fault) (defBody s__law_word_fault) (defScope s__law_word_fault) .none kV__law_word_fault dc__law_word_fault pm__law_word_fault an__law_word_fault cd__law_word_fault ct__law_word_fault), sl__law_word_fault⟩) (c22 : PySem.W.codeIn K cd__law_word_fault "_law_word_fault" = true) (k22 : PySem.W.keepIn K (.ref a__law_word_fault) = true)
    {od__law_written an__law_written : Option Addr} {sl__law_written : Array (Option Value)} {oc__law_written kV__law_written dc__law_written pm__law_written cd__law_written ct__law_written : Value} {a__law_written : Addr}
    (a23 : PySem.W.nsIn K mainGlobals "_law_written" = some (some (.ref a__law_written))) (l23 : K.lookup a__law_written = some ⟨oc__law_written, od__law_written, .func (PySem.W.fnOf "_law_written" "_law_written" (defArgs s__law_written) (defBody s__law_written) (defScope s__law_written) .none kV__law_written dc__law_written pm__law_written an__law_written cd__law_written ct__law_written), sl__law_written⟩) (c23 : PySem.W.codeIn K cd__law_written "_law_written" = true) (k23 : PySem.W.keepIn K (.ref a__law_written) = true)
    {od__law_is_alphabet an__law_is_alphabet : Option Addr} {sl__law_is_alphabet : Array (Option Value)} {oc__law_is_alphabet kV__law_is_alphabet dc__law_is_alphabet pm__law_is_alphabet cd__law_is_alphabet ct__law_is_alphabet : Value} {a__law_is_alphabet : Addr}
    (a24 : PySem.W.nsIn K mainGlobals "_law_is_alphabet" = some (some (.ref a__law_is_alphabet))) (l24 : K.lookup a__law_is_alphabet = some ⟨oc__law_is_alphabet, od__law_is_alphabet, .func (PySem.W.fnOf "_law_is_alphabet" "_law_is_alphabet" (defArgs s__law_is_alphabet) (defBody s__law_is_alphabet) (defScope s__law_is_alphabet) .none kV__law_is_alphabet dc__law_is_alphabet pm__law_is_alphabet an__law_is_alphabet cd__law_is_alphabet ct__law_is_alphabet), sl__law_is_alphabet⟩) (c24 : PySem.W.codeIn K cd__law_is_alphabet "_law_is_alphabet" = true) (k24 : PySem.W.keepIn K (.ref a__law_is_alphabet) = true)
    {od__law_read an__law_read : Option Addr} {sl__law_read : Array (Option Value)} {oc__law_read kV__law_read dc__law_read pm__law_read cd__law_read ct__law_read : Value} {a__law_read : Addr}
    (a25 : PySem.W.nsIn K mainGlobals "_law_read" = some (some (.ref a__law_read))) (l25 : K.lookup a__law_read = some ⟨oc__law_read, od__law_read, .func (PySem.W.fnOf "_law_read" "_law_read" (defArgs s__law_read) (defBody s__law_read) (defScope s__law_read) .none kV__law_read dc__law_read pm__law_read an__law_read cd__law_read ct__law_read), sl__law_read⟩) (c25 : PySem.W.codeIn K cd__law_read "_law_read" = true) (k25 : PySem.W.keepIn K (.ref a__law_read) = true)
    {od__law_due an__law_due : Option Addr} {sl__law_due : Array (Option Value)} {oc__law_due kV__law_due dc__law_due pm__law_due cd__law_due ct__law_due : Value} {a__law_due : Addr}
    (a26 : PySem.W.nsIn K mainGlobals "_law_due" = some (some (.ref a__law_due))) (l26 : K.lookup a__law_due = some ⟨oc__law_due, od__law_due, .func (PySem.W.fnOf "_law_due" "_law_due" (defArgs s__law_due) (defBody s__law_due) (defScope s__law_due) .none kV__law_due dc__law_due pm__law_due an__law_due cd__law_due ct__law_due), sl__law_due⟩) (c26 : PySem.W.codeIn K cd__law_due "_law_due" = true) (k26 : PySem.W.keepIn K (.ref a__law_due) = true)
    {od__law_right an__law_right : Option Addr} {sl__law_right : Array (Option Value)} {oc__law_right kV__law_right dc__law_right pm__law_right cd__law_right ct__law_right : Value} {a__law_right : Addr}
    (a27 : PySem.W.nsIn K mainGlobals "_law_right" = some (some (.ref a__law_right))) (l27 : K.lookup a__law_right = some ⟨oc__law_right, od__law_right, .func (PySem.W.fnOf "_law_right" "_law_right" (defArgs s__law_right) (defBody s__law_right) (defScope s__law_right) .none kV__law_right dc__law_right pm__law_right an__law_right cd__law_right ct__law_right), sl__law_right⟩) (c27 : PySem.W.codeIn K cd__law_right "_law_right" = true) (k27 : PySem.W.keepIn K (.ref a__law_right) = true)
    {od__law_texts an__law_texts : Option Addr} {sl__law_texts : Array (Option Value)} {oc__law_texts kV__law_texts dc__law_texts pm__law_texts cd__law_texts ct__law_texts : Value} {a__law_texts : Addr}
    (a28 : PySem.W.nsIn K mainGlobals "_law_texts" = some (some (.ref a__law_texts))) (l28 : K.lookup a__law_texts = some ⟨oc__law_texts, od__law_texts, .func (PySem.W.fnOf "_law_texts" "_law_texts" (defArgs s__law_texts) (defBody s__law_texts) (defScope s__law_texts) .none kV__law_texts dc__law_texts pm__law_texts an__law_texts cd__law_texts ct__law_texts), sl__law_texts⟩) (c28 : PySem.W.codeIn K cd__law_texts "_law_texts" = true) (k28 : PySem.W.keepIn K (.ref a__law_texts) = true)
    {od__law_alphabets an__law_alphabets : Option Addr} {sl__law_alphabets : Array (Option Value)} {oc__law_alphabets kV__law_alphabets dc__law_alphabets pm__law_alphabets cd__law_alphabets ct__law_alphabets : Value} {a__law_alphabets : Addr}
    (a29 : PySem.W.nsIn K mainGlobals "_law_alphabets" = some (some (.ref a__law_alphabets))) (l29 : K.lookup a__law_alphabets = some ⟨oc__law_alphabets, od__law_alphabets, .func (PySem.W.fnOf "_law_alphabets" "_law_alphabets" (defArgs s__law_alphabets) (defBody s__law_alphabets) (defScope s__law_alphabets) .none kV__law_alphabets dc__law_alphabets pm__law_alphabets an__law_alphabets cd__law_alphabets ct__law_alphabets), sl__law_alphabets⟩) (c29 : PySem.W.codeIn K cd__law_alphabets "_law_alphabets" = true) (k29 : PySem.W.keepIn K (.ref a__law_alphabets) = true)
    {od__law_long_right an__law_long_right : Option Addr} {sl__law_long_right : Array (Option Value)} {oc__law_long_right kV__law_long_right dc__law_long_right pm__law_long_right cd__law_long_right ct__law_long_right : Value} {a__law_long_right : Addr}
    (a30 : PySem.W.nsIn K mainGlobals "_law_long_right" = some (some (.ref a__law_long_right))) (l30 : K.lookup a__law_long_right = some ⟨oc__law_long_right, od__law_long_right, .func (PySem.W.fnOf "_law_long_right" "_law_long_right" (defArgs s__law_long_right) (defBody s__law_long_right) (defScope s__law_long_right) .none kV__law_long_right dc__law_long_right pm__law_long_right an__law_long_right cd__law_long_right ct__law_long_right), sl__law_long_right⟩) (c30 : PySem.W.codeIn K cd__law_long_right "_law_long_right" = true) (k30 : PySem.W.keepIn K (.ref a__law_long_right) = true)
    {od__law_marks an__law_marks : Option Addr} {sl__law_marks : Array (Option Value)} {oc__law_marks kV__law_marks dc__law_marks pm__law_marks cd__law_marks ct__law_marks : Value} {a__law_marks : Addr}
    (a31 : PySem.W.nsIn K mainGlobals "_law_marks" = some (some (.ref a__law_marks))) (l31 : K.lookup a__law_marks = some ⟨oc__law_marks, od__law_marks, .func (PySem.W.fnOf "_law_marks" "_law_marks" (defArgs s__law_marks) (defBody s__law_marks) (defScope s__law_marks) .none kV__law_marks dc__law_marks pm__law_marks an__law_marks cd__law_marks ct__law_marks), sl__law_marks⟩) (c31 : PySem.W.codeIn K cd__law_marks "_law_marks" = true) (k31 : PySem.W.keepIn K (.ref a__law_marks) = true)
    {od__law_errors_right an__law_errors_right : Option Addr} {sl__law_errors_right : Array (Option Value)} {oc__law_errors_right kV__law_errors_right dc__law_errors_right pm__law_errors_right cd__law_errors_right ct__law_errors_right : Value} {a__law_errors_right : Addr}
    (a32 : PySem.W.nsIn K mainGlobals "_law_errors_right" = some (some (.ref a__law_errors_right))) (l32 : K.lookup a__law_errors_right = some ⟨oc__law_errors_right, od__law_errors_right, .func (PySem.W.fnOf "_law_errors_right" "_law_errors_right" (defArgs s__law_errors_right) (defBody s__law_errors_right) (defScope s__law_errors_right) .none kV__law_errors_right dc__law_errors_right pm__law_errors_right an__law_errors_right cd__law_errors_right ct__law_errors_right), sl__law_errors_right⟩) (c32 : PySem.W.codeIn K cd__law_errors_right "_law_errors_right" = true) (k32 : PySem.W.keepIn K (.ref a__law_errors_right) = true)
    {od_law an_law : Option Addr} {sl_law : Array (Option Value)} {oc_law kV_law dc_law pm_law cd_law ct_law : Value} {a_law : Addr}
    (a33 : PySem.W.nsIn K mainGlobals "law" = some (some (.ref a_law))) (l33 : K.lookup a_law = some ⟨oc_law, od_law, .func (PySem.W.fnOf "law" "law" (defArgs s_law) (defBody s_law) (defScope s_law) .none kV_law dc_law pm_law an_law cd_law ct_law), sl_law⟩) (c33 : PySem.W.codeIn K cd_law "law" = true) (k33 : PySem.W.keepIn K (.ref a_law) = true)
    (z_ValueError : PySem.W.nsIn K mainGlobals "ValueError" = some none)
    (z_abs : PySem.W.nsIn K mainGlobals "abs" = some none)
    (z_all : PySem.W.nsIn K mainGlobals "all" = some none)
    (z_bool : PySem.W.nsIn K mainGlobals "bool" = some none)
    (z_int : PySem.W.nsIn K mainGlobals "int" = some none)
    (z_isinstance : PySem.W.nsIn K mainGlobals "isinstance" = some none)
    (z_len : PySem.W.nsIn K mainGlobals "len" = some none)
    (z_list : PySem.W.nsIn K mainGlobals "list" = some none)
    (z_range : PySem.W.nsIn K mainGlobals "range" = some none)
    (z_set : PySem.W.nsIn K mainGlobals "set" = some none)
    (z_str : PySem.W.nsIn K mainGlobals "str" = some none)
    (z_tuple : PySem.W.nsIn K mainGlobals "tuple" = some none)
    {t_LETTERS : Tok} (g_LETTERS : PySem.W.nsIn K mainGlobals "LETTERS" = some (some (.int 6 t_LETTERS)))
    {t_MOVES : Tok} (g_MOVES : PySem.W.nsIn K mainGlobals "MOVES" = some (some (.int 400 t_MOVES)))
    {t_OVERLAPS : Tok} (g_OVERLAPS : PySem.W.nsIn K mainGlobals "OVERLAPS" = some (some (.int 200 t_OVERLAPS)))
    {t_RULES : Tok} (g_RULES : PySem.W.nsIn K mainGlobals "RULES" = some (some (.int 12 t_RULES)))
    {t_SIDE : Tok} (g_SIDE : PySem.W.nsIn K mainGlobals "SIDE" = some (some (.int 8 t_SIDE)))
    {t_SQUARES : Tok} (g_SQUARES : PySem.W.nsIn K mainGlobals "SQUARES" = some (some (.int 40 t_SQUARES)))
    {t_WAY : Tok} (g_WAY : PySem.W.nsIn K mainGlobals "WAY" = some (some (.int 120 t_WAY)))
    {t_WEIGHT : Tok} (g_WEIGHT : PySem.W.nsIn K mainGlobals "WEIGHT" = some (some (.int 99 t_WEIGHT)))
    {t_WORD : Tok} (g_WORD : PySem.W.nsIn K mainGlobals "WORD" = some (some (.int 32 t_WORD)))
    {t_WORDS : Tok} (g_WORDS : PySem.W.nsIn K mainGlobals "WORDS" = some (some (.int 400 t_WORDS)))
    (k_BadChange : PySem.W.nsIn K mainGlobals "BadChange" = some (some (.ref 442)))
    (k_BadEnds : PySem.W.nsIn K mainGlobals "BadEnds" = some (some (.ref 85)))
    (k_BadEntry : PySem.W.nsIn K mainGlobals "BadEntry" = some (some (.ref 537)))
    (k_BadFare : PySem.W.nsIn K mainGlobals "BadFare" = some (some (.ref 97)))
    (k_BadLetters : PySem.W.nsIn K mainGlobals "BadLetters" = some (some (.ref 176)))
    (k_BadLog : PySem.W.nsIn K mainGlobals "BadLog" = some (some (.ref 423)))
    (k_BadMove : PySem.W.nsIn K mainGlobals "BadMove" = some (some (.ref 404)))
    (k_BadName : PySem.W.nsIn K mainGlobals "BadName" = some (some (.ref 214)))
    (k_BadNumber : PySem.W.nsIn K mainGlobals "BadNumber" = some (some (.ref 233)))
    (k_BadOverlap : PySem.W.nsIn K mainGlobals "BadOverlap" = some (some (.ref 145)))
    (k_BadRow : PySem.W.nsIn K mainGlobals "BadRow" = some (some (.ref 252)))
    (k_BadRule : PySem.W.nsIn K mainGlobals "BadRule" = some (some (.ref 271)))
    (k_BadSquare : PySem.W.nsIn K mainGlobals "BadSquare" = some (some (.ref 385)))
    (k_BadStep : PySem.W.nsIn K mainGlobals "BadStep" = some (some (.ref 366)))
    (k_BadSum : PySem.W.nsIn K mainGlobals "BadSum" = some (some (.ref 133)))
    (k_BadTable : PySem.W.nsIn K mainGlobals "BadTable" = some (some (.ref 121)))
    (k_BadText : PySem.W.nsIn K mainGlobals "BadText" = some (some (.ref 347)))
    (k_BadTranslation : PySem.W.nsIn K mainGlobals "BadTranslation" = some (some (.ref 109)))
    (k_BadWeights : PySem.W.nsIn K mainGlobals "BadWeights" = some (some (.ref 73)))
    (k_BadWord : PySem.W.nsIn K mainGlobals "BadWord" = some (some (.ref 195)))
    (k_BoundError : PySem.W.nsIn K mainGlobals "BoundError" = some (some (.ref 37)))
    (k_Lacking : PySem.W.nsIn K mainGlobals "Lacking" = some (some (.ref 499)))
    (k_NothingToUndo : PySem.W.nsIn K mainGlobals "NothingToUndo" = some (some (.ref 157)))
    (k_Open : PySem.W.nsIn K mainGlobals "Open" = some (some (.ref 480)))
    (k_Repeated : PySem.W.nsIn K mainGlobals "Repeated" = some (some (.ref 328)))
    (k_Rising : PySem.W.nsIn K mainGlobals "Rising" = some (some (.ref 290)))
    (k_Stopped : PySem.W.nsIn K mainGlobals "Stopped" = some (some (.ref 518)))
    (k_TooLong : PySem.W.nsIn K mainGlobals "TooLong" = some (some (.ref 49)))
    (k_TooMany : PySem.W.nsIn K mainGlobals "TooMany" = some (some (.ref 61)))
    (k_Unjoined : PySem.W.nsIn K mainGlobals "Unjoined" = some (some (.ref 461)))
    (k_Unknown : PySem.W.nsIn K mainGlobals "Unknown" = some (some (.ref 309)))
    (k_WayfillError : PySem.W.nsIn K mainGlobals "WayfillError" = some (some (.ref 24)))
    (sg : PySem.W.specialIn K (.builtin "object.__class__") "__get__" = some (some (.builtin "getset_descriptor.__get__"))) (tk : PySem.W.takesIn K (.builtin "object.__class__") = some true)
    {nm_WayfillError q_WayfillError : Str} {N_WayfillError : Addr} {bs_WayfillError : List Value} {sn_WayfillError : List Str} {sub_WayfillError : List Value} {ab_WayfillError : Bool} {col_WayfillError : Option Bool} {dd_WayfillError : Option Addr} {k0_WayfillError k1_WayfillError k2_WayfillError k3_WayfillError k5_WayfillError : Option Value} (L_WayfillError : K.lookup 24 = some (excClassObj nm_WayfillError q_WayfillError 24 N_WayfillError bs_WayfillError [.type "ValueError", .type "Exception", .type "BaseException", .type "object"] true sn_WayfillError sub_WayfillError ab_WayfillError col_WayfillError dd_WayfillError k0_WayfillError k1_WayfillError k2_WayfillError k3_WayfillError k5_WayfillError "ValueError.__new__"))
    (ke_WayfillError : PySem.W.keepIn K (.ref 24) = true) (ga_WayfillError : PySem.W.findIn K (.ref 24) "__getattribute__" = some (some (.builtin "BaseException.__getattribute__"))) (gg_WayfillError : PySem.W.findIn K (.ref 24) "__getattr__" = some none) (gc_WayfillError : PySem.W.findIn K (.ref 24) "__class__" = some (some (.builtin "object.__class__"))) (sa_WayfillError : PySem.W.findIn K (.ref 24) "__setattr__" = some (some (.builtin "object.__setattr__")))
    (no_WayfillError_at : PySem.W.findIn K (.ref 24) "at" = some none)
    (no_WayfillError_name : PySem.W.findIn K (.ref 24) "name" = some none)
    (no_WayfillError_number : PySem.W.findIn K (.ref 24) "number" = some none)
    (no_WayfillError_one : PySem.W.findIn K (.ref 24) "one" = some none)
    (no_WayfillError_other : PySem.W.findIn K (.ref 24) "other" = some none)
    (no_WayfillError_path : PySem.W.findIn K (.ref 24) "path" = some none)
    (no_WayfillError_text : PySem.W.findIn K (.ref 24) "text" = some none)
    (no_WayfillError_top : PySem.W.findIn K (.ref 24) "top" = some none)
    {nm_BoundError q_BoundError : Str} {N_BoundError : Addr} {bs_BoundError : List Value} {sn_BoundError : List Str} {sub_BoundError : List Value} {ab_BoundError : Bool} {col_BoundError : Option Bool} {dd_BoundError : Option Addr} {k0_BoundError k1_BoundError k2_BoundError k3_BoundError k5_BoundError : Option Value} (L_BoundError : K.lookup 37 = some (excClassObj nm_BoundError q_BoundError 37 N_BoundError bs_BoundError [.ref 24, .type "ValueError", .type "Exception", .type "BaseException", .type "object"] true sn_BoundError sub_BoundError ab_BoundError col_BoundError dd_BoundError k0_BoundError k1_BoundError k2_BoundError k3_BoundError k5_BoundError "ValueError.__new__"))
    (ke_BoundError : PySem.W.keepIn K (.ref 37) = true) (ga_BoundError : PySem.W.findIn K (.ref 37) "__getattribute__" = some (some (.builtin "BaseException.__getattribute__"))) (gg_BoundError : PySem.W.findIn K (.ref 37) "__getattr__" = some none) (gc_BoundError : PySem.W.findIn K (.ref 37) "__class__" = some (some (.builtin "object.__class__"))) (sa_BoundError : PySem.W.findIn K (.ref 37) "__setattr__" = some (some (.builtin "object.__setattr__")))
    (no_BoundError_at : PySem.W.findIn K (.ref 37) "at" = some none)
    (no_BoundError_name : PySem.W.findIn K (.ref 37) "name" = some none)
    (no_BoundError_number : PySem.W.findIn K (.ref 37) "number" = some none)
    (no_BoundError_one : PySem.W.findIn K (.ref 37) "one" = some none)
    (no_BoundError_other : PySem.W.findIn K (.ref 37) "other" = some none)
    (no_BoundError_path : PySem.W.findIn K (.ref 37) "path" = some none)
    (no_BoundError_text : PySem.W.findIn K (.ref 37) "text" = some none)
    (no_BoundError_top : PySem.W.findIn K (.ref 37) "top" = some none)
    {nm_TooLong q_TooLong : Str} {N_TooLong : Addr} {bs_TooLong : List Value} {sn_TooLong : List Str} {sub_TooLong : List Value} {ab_TooLong : Bool} {col_TooLong : Option Bool} {dd_TooLong : Option Addr} {k0_TooLong k1_TooLong k2_TooLong k3_TooLong k5_TooLong : Option Value} (L_TooLong : K.lookup 49 = some (excClassObj nm_TooLong q_TooLong 49 N_TooLong bs_TooLong [.ref 37, .ref 24, .type "ValueError", .type "Exception", .type "BaseException", .type "object"] true sn_TooLong sub_TooLong ab_TooLong col_TooLong dd_TooLong k0_TooLong k1_TooLong k2_TooLong k3_TooLong k5_TooLong "ValueError.__new__"))
    (ke_TooLong : PySem.W.keepIn K (.ref 49) = true) (ga_TooLong : PySem.W.findIn K (.ref 49) "__getattribute__" = some (some (.builtin "BaseException.__getattribute__"))) (gg_TooLong : PySem.W.findIn K (.ref 49) "__getattr__" = some none) (gc_TooLong : PySem.W.findIn K (.ref 49) "__class__" = some (some (.builtin "object.__class__"))) (sa_TooLong : PySem.W.findIn K (.ref 49) "__setattr__" = some (some (.builtin "object.__setattr__")))
    (no_TooLong_at : PySem.W.findIn K (.ref 49) "at" = some none)
    (no_TooLong_name : PySem.W.findIn K (.ref 49) "name" = some none)
    (no_TooLong_number : PySem.W.findIn K (.ref 49) "number" = some none)
    (no_TooLong_one : PySem.W.findIn K (.ref 49) "one" = some none)
    (no_TooLong_other : PySem.W.findIn K (.ref 49) "other" = some none)
    (no_TooLong_path : PySem.W.findIn K (.ref 49) "path" = some none)
    (no_TooLong_text : PySem.W.findIn K (.ref 49) "text" = some none)
    (no_TooLong_top : PySem.W.findIn K (.ref 49) "top" = some none)
    {nm_TooMany q_TooMany : Str} {N_TooMany : Addr} {bs_TooMany : List Value} {sn_TooMany : List Str} {sub_TooMany : List Value} {ab_TooMany : Bool} {col_TooMany : Option Bool} {dd_TooMany : Option Addr} {k0_TooMany k1_TooMany k2_TooMany k3_TooMany k5_TooMany : Option Value} (L_TooMany : K.lookup 61 = some (excClassObj nm_TooMany q_TooMany 61 N_TooMany bs_TooMany [.ref 37, .ref 24, .type "ValueError", .type "Exception", .type "BaseException", .type "object"] true sn_TooMany sub_TooMany ab_TooMany col_TooMany dd_TooMany k0_TooMany k1_TooMany k2_TooMany k3_TooMany k5_TooMany "ValueError.__new__"))
    (ke_TooMany : PySem.W.keepIn K (.ref 61) = true) (ga_TooMany : PySem.W.findIn K (.ref 61) "__getattribute__" = some (some (.builtin "BaseException.__getattribute__"))) (gg_TooMany : PySem.W.findIn K (.ref 61) "__getattr__" = some none) (gc_TooMany : PySem.W.findIn K (.ref 61) "__class__" = some (some (.builtin "object.__class__"))) (sa_TooMany : PySem.W.findIn K (.ref 61) "__setattr__" = some (some (.builtin "object.__setattr__")))
    (no_TooMany_at : PySem.W.findIn K (.ref 61) "at" = some none)
    (no_TooMany_name : PySem.W.findIn K (.ref 61) "name" = some none)
    (no_TooMany_number : PySem.W.findIn K (.ref 61) "number" = some none)
    (no_TooMany_one : PySem.W.findIn K (.ref 61) "one" = some none)
    (no_TooMany_other : PySem.W.findIn K (.ref 61) "other" = some none)
    (no_TooMany_path : PySem.W.findIn K (.ref 61) "path" = some none)
    (no_TooMany_text : PySem.W.findIn K (.ref 61) "text" = some none)
    (no_TooMany_top : PySem.W.findIn K (.ref 61) "top" = some none)
    {nm_BadWeights q_BadWeights : Str} {N_BadWeights : Addr} {bs_BadWeights : List Value} {sn_BadWeights : List Str} {sub_BadWeights : List Value} {ab_BadWeights : Bool} {col_BadWeights : Option Bool} {dd_BadWeights : Option Addr} {k0_BadWeights k1_BadWeights k2_BadWeights k3_BadWeights k5_BadWeights : Option Value} (L_BadWeights : K.lookup 73 = some (excClassObj nm_BadWeights q_BadWeights 73 N_BadWeights bs_BadWeights [.ref 24, .type "ValueError", .type "Exception", .type "BaseException", .type "object"] true sn_BadWeights sub_BadWeights ab_BadWeights col_BadWeights dd_BadWeights k0_BadWeights k1_BadWeights k2_BadWeights k3_BadWeights k5_BadWeights "ValueError.__new__"))
    (ke_BadWeights : PySem.W.keepIn K (.ref 73) = true) (ga_BadWeights : PySem.W.findIn K (.ref 73) "__getattribute__" = some (some (.builtin "BaseException.__getattribute__"))) (gg_BadWeights : PySem.W.findIn K (.ref 73) "__getattr__" = some none) (gc_BadWeights : PySem.W.findIn K (.ref 73) "__class__" = some (some (.builtin "object.__class__"))) (sa_BadWeights : PySem.W.findIn K (.ref 73) "__setattr__" = some (some (.builtin "object.__setattr__")))
    (no_BadWeights_at : PySem.W.findIn K (.ref 73) "at" = some none)
    (no_BadWeights_name : PySem.W.findIn K (.ref 73) "name" = some none)
    (no_BadWeights_number : PySem.W.findIn K (.ref 73) "number" = some none)
    (no_BadWeights_one : PySem.W.findIn K (.ref 73) "one" = some none)
    (no_BadWeights_other : PySem.W.findIn K (.ref 73) "other" = some none)
    (no_BadWeights_path : PySem.W.findIn K (.ref 73) "path" = some none)
    (no_BadWeights_text : PySem.W.findIn K (.ref 73) "text" = some none)
    (no_BadWeights_top : PySem.W.findIn K (.ref 73) "top" = some none)
    {nm_BadEnds q_BadEnds : Str} {N_BadEnds : Addr} {bs_BadEnds : List Value} {sn_BadEnds : List Str} {sub_BadEnds : List Value} {ab_BadEnds : Bool} {col_BadEnds : Option Bool} {dd_BadEnds : Option Addr} {k0_BadEnds k1_BadEnds k2_BadEnds k3_BadEnds k5_BadEnds : Option Value} (L_BadEnds : K.lookup 85 = some (excClassObj nm_BadEnds q_BadEnds 85 N_BadEnds bs_BadEnds [.ref 24, .type "ValueError", .type "Exception", .type "BaseException", .type "object"] true sn_BadEnds sub_BadEnds ab_BadEnds col_BadEnds dd_BadEnds k0_BadEnds k1_BadEnds k2_BadEnds k3_BadEnds k5_BadEnds "ValueError.__new__"))
    (ke_BadEnds : PySem.W.keepIn K (.ref 85) = true) (ga_BadEnds : PySem.W.findIn K (.ref 85) "__getattribute__" = some (some (.builtin "BaseException.__getattribute__"))) (gg_BadEnds : PySem.W.findIn K (.ref 85) "__getattr__" = some none) (gc_BadEnds : PySem.W.findIn K (.ref 85) "__class__" = some (some (.builtin "object.__class__"))) (sa_BadEnds : PySem.W.findIn K (.ref 85) "__setattr__" = some (some (.builtin "object.__setattr__")))
    (no_BadEnds_at : PySem.W.findIn K (.ref 85) "at" = some none)
    (no_BadEnds_name : PySem.W.findIn K (.ref 85) "name" = some none)
    (no_BadEnds_number : PySem.W.findIn K (.ref 85) "number" = some none)
    (no_BadEnds_one : PySem.W.findIn K (.ref 85) "one" = some none)
    (no_BadEnds_other : PySem.W.findIn K (.ref 85) "other" = some none)
    (no_BadEnds_path : PySem.W.findIn K (.ref 85) "path" = some none)
    (no_BadEnds_text : PySem.W.findIn K (.ref 85) "text" = some none)
    (no_BadEnds_top : PySem.W.findIn K (.ref 85) "top" = some none)
    {nm_BadFare q_BadFare : Str} {N_BadFare : Addr} {bs_BadFare : List Value} {sn_BadFare : List Str} {sub_BadFare : List Value} {ab_BadFare : Bool} {col_BadFare : Option Bool} {dd_BadFare : Option Addr} {k0_BadFare k1_BadFare k2_BadFare k3_BadFare k5_BadFare : Option Value} (L_BadFare : K.lookup 97 = some (excClassObj nm_BadFare q_BadFare 97 N_BadFare bs_BadFare [.ref 24, .type "ValueError", .type "Exception", .type "BaseException", .type "object"] true sn_BadFare sub_BadFare ab_BadFare col_BadFare dd_BadFare k0_BadFare k1_BadFare k2_BadFare k3_BadFare k5_BadFare "ValueError.__new__"))
    (ke_BadFare : PySem.W.keepIn K (.ref 97) = true) (ga_BadFare : PySem.W.findIn K (.ref 97) "__getattribute__" = some (some (.builtin "BaseException.__getattribute__"))) (gg_BadFare : PySem.W.findIn K (.ref 97) "__getattr__" = some none) (gc_BadFare : PySem.W.findIn K (.ref 97) "__class__" = some (some (.builtin "object.__class__"))) (sa_BadFare : PySem.W.findIn K (.ref 97) "__setattr__" = some (some (.builtin "object.__setattr__")))
    (no_BadFare_at : PySem.W.findIn K (.ref 97) "at" = some none)
    (no_BadFare_name : PySem.W.findIn K (.ref 97) "name" = some none)
    (no_BadFare_number : PySem.W.findIn K (.ref 97) "number" = some none)
    (no_BadFare_one : PySem.W.findIn K (.ref 97) "one" = some none)
    (no_BadFare_other : PySem.W.findIn K (.ref 97) "other" = some none)
    (no_BadFare_path : PySem.W.findIn K (.ref 97) "path" = some none)
    (no_BadFare_text : PySem.W.findIn K (.ref 97) "text" = some none)
    (no_BadFare_top : PySem.W.findIn K (.ref 97) "top" = some none)
    {nm_BadTranslation q_BadTranslation : Str} {N_BadTranslation : Addr} {bs_BadTranslation : List Value} {sn_BadTranslation : List Str} {sub_BadTranslation : List Value} {ab_BadTranslation : Bool} {col_BadTranslation : Option Bool} {dd_BadTranslation : Option Addr} {k0_BadTranslation k1_BadTranslation k2_BadTranslation k3_BadTranslation k5_BadTranslation : Option Value} (L_BadTranslation : K.lookup 109 = some (excClassObj nm_BadTranslation q_BadTranslation 109 N_BadTranslation bs_BadTranslation [.ref 24, .type "ValueError", .type "Exception", .type "BaseException", .type "object"] true sn_BadTranslation sub_BadTranslation ab_BadTranslation col_BadTranslation dd_BadTranslation k0_BadTranslation k1_BadTranslation k2_BadTranslation k3_BadTranslation k5_BadTranslation "ValueError.__new__"))
    (ke_BadTranslation : PySem.W.keepIn K (.ref 109) = true) (ga_BadTranslation : PySem.W.findIn K (.ref 109) "__getattribute__" = some (some (.builtin "BaseException.__getattribute__"))) (gg_BadTranslation : PySem.W.findIn K (.ref 109) "__getattr__" = some none) (gc_BadTranslation : PySem.W.findIn K (.ref 109) "__class__" = some (some (.builtin "object.__class__"))) (sa_BadTranslation : PySem.W.findIn K (.ref 109) "__setattr__" = some (some (.builtin "object.__setattr__")))
    (no_BadTranslation_at : PySem.W.findIn K (.ref 109) "at" = some none)
    (no_BadTranslation_name : PySem.W.findIn K (.ref 109) "name" = some none)
    (no_BadTranslation_number : PySem.W.findIn K (.ref 109) "number" = some none)
    (no_BadTranslation_one : PySem.W.findIn K (.ref 109) "one" = some none)
    (no_BadTranslation_other : PySem.W.findIn K (.ref 109) "other" = some none)
    (no_BadTranslation_path : PySem.W.findIn K (.ref 109) "path" = some none)
    (no_BadTranslation_text : PySem.W.findIn K (.ref 109) "text" = some none)
    (no_BadTranslation_top : PySem.W.findIn K (.ref 109) "top" = some none)
    {nm_BadTable q_BadTable : Str} {N_BadTable : Addr} {bs_BadTable : List Value} {sn_BadTable : List Str} {sub_BadTable : List Value} {ab_BadTable : Bool} {col_BadTable : Option Bool} {dd_BadTable : Option Addr} {k0_BadTable k1_BadTable k2_BadTable k3_BadTable k5_BadTable : Option Value} (L_BadTable : K.lookup 121 = some (excClassObj nm_BadTable q_BadTable 121 N_BadTable bs_BadTable [.ref 24, .type "ValueError", .type "Exception", .type "BaseException", .type "object"] true sn_BadTable sub_BadTable ab_BadTable col_BadTable dd_BadTable k0_BadTable k1_BadTable k2_BadTable k3_BadTable k5_BadTable "ValueError.__new__"))
    (ke_BadTable : PySem.W.keepIn K (.ref 121) = true) (ga_BadTable : PySem.W.findIn K (.ref 121) "__getattribute__" = some (some (.builtin "BaseException.__getattribute__"))) (gg_BadTable : PySem.W.findIn K (.ref 121) "__getattr__" = some none) (gc_BadTable : PySem.W.findIn K (.ref 121) "__class__" = some (some (.builtin "object.__class__"))) (sa_BadTable : PySem.W.findIn K (.ref 121) "__setattr__" = some (some (.builtin "object.__setattr__")))
    (no_BadTable_at : PySem.W.findIn K (.ref 121) "at" = some none)
    (no_BadTable_name : PySem.W.findIn K (.ref 121) "name" = some none)
    (no_BadTable_number : PySem.W.findIn K (.ref 121) "number" = some none)
    (no_BadTable_one : PySem.W.findIn K (.ref 121) "one" = some none)
    (no_BadTable_other : PySem.W.findIn K (.ref 121) "other" = some none)
    (no_BadTable_path : PySem.W.findIn K (.ref 121) "path" = some none)
    (no_BadTable_text : PySem.W.findIn K (.ref 121) "text" = some none)
    (no_BadTable_top : PySem.W.findIn K (.ref 121) "top" = some none)
    {nm_BadSum q_BadSum : Str} {N_BadSum : Addr} {bs_BadSum : List Value} {sn_BadSum : List Str} {sub_BadSum : List Value} {ab_BadSum : Bool} {col_BadSum : Option Bool} {dd_BadSum : Option Addr} {k0_BadSum k1_BadSum k2_BadSum k3_BadSum k5_BadSum : Option Value} (L_BadSum : K.lookup 133 = some (excClassObj nm_BadSum q_BadSum 133 N_BadSum bs_BadSum [.ref 24, .type "ValueError", .type "Exception", .type "BaseException", .type "object"] true sn_BadSum sub_BadSum ab_BadSum col_BadSum dd_BadSum k0_BadSum k1_BadSum k2_BadSum k3_BadSum k5_BadSum "ValueError.__new__"))
    (ke_BadSum : PySem.W.keepIn K (.ref 133) = true) (ga_BadSum : PySem.W.findIn K (.ref 133) "__getattribute__" = some (some (.builtin "BaseException.__getattribute__"))) (gg_BadSum : PySem.W.findIn K (.ref 133) "__getattr__" = some none) (gc_BadSum : PySem.W.findIn K (.ref 133) "__class__" = some (some (.builtin "object.__class__"))) (sa_BadSum : PySem.W.findIn K (.ref 133) "__setattr__" = some (some (.builtin "object.__setattr__")))
    (no_BadSum_at : PySem.W.findIn K (.ref 133) "at" = some none)
    (no_BadSum_name : PySem.W.findIn K (.ref 133) "name" = some none)
    (no_BadSum_number : PySem.W.findIn K (.ref 133) "number" = some none)
    (no_BadSum_one : PySem.W.findIn K (.ref 133) "one" = some none)
    (no_BadSum_other : PySem.W.findIn K (.ref 133) "other" = some none)
    (no_BadSum_path : PySem.W.findIn K (.ref 133) "path" = some none)
    (no_BadSum_text : PySem.W.findIn K (.ref 133) "text" = some none)
    (no_BadSum_top : PySem.W.findIn K (.ref 133) "top" = some none)
    {nm_BadOverlap q_BadOverlap : Str} {N_BadOverlap : Addr} {bs_BadOverlap : List Value} {sn_BadOverlap : List Str} {sub_BadOverlap : List Value} {ab_BadOverlap : Bool} {col_BadOverlap : Option Bool} {dd_BadOverlap : Option Addr} {k0_BadOverlap k1_BadOverlap k2_BadOverlap k3_BadOverlap k5_BadOverlap : Option Value} (L_BadOverlap : K.lookup 145 = some (excClassObj nm_BadOverlap q_BadOverlap 145 N_BadOverlap bs_BadOverlap [.ref 24, .type "ValueError", .type "Exception", .type "BaseException", .type "object"] true sn_BadOverlap sub_BadOverlap ab_BadOverlap col_BadOverlap dd_BadOverlap k0_BadOverlap k1_BadOverlap k2_BadOverlap k3_BadOverlap k5_BadOverlap "ValueError.__new__"))
    (ke_BadOverlap : PySem.W.keepIn K (.ref 145) = true) (ga_BadOverlap : PySem.W.findIn K (.ref 145) "__getattribute__" = some (some (.builtin "BaseException.__getattribute__"))) (gg_BadOverlap : PySem.W.findIn K (.ref 145) "__getattr__" = some none) (gc_BadOverlap : PySem.W.findIn K (.ref 145) "__class__" = some (some (.builtin "object.__class__"))) (sa_BadOverlap : PySem.W.findIn K (.ref 145) "__setattr__" = some (some (.builtin "object.__setattr__")))
    (no_BadOverlap_at : PySem.W.findIn K (.ref 145) "at" = some none)
    (no_BadOverlap_name : PySem.W.findIn K (.ref 145) "name" = some none)
    (no_BadOverlap_number : PySem.W.findIn K (.ref 145) "number" = some none)
    (no_BadOverlap_one : PySem.W.findIn K (.ref 145) "one" = some none)
    (no_BadOverlap_other : PySem.W.findIn K (.ref 145) "other" = some none)
    (no_BadOverlap_path : PySem.W.findIn K (.ref 145) "path" = some none)
    (no_BadOverlap_text : PySem.W.findIn K (.ref 145) "text" = some none)
    (no_BadOverlap_top : PySem.W.findIn K (.ref 145) "top" = some none)
    {nm_NothingToUndo q_NothingToUndo : Str} {N_NothingToUndo : Addr} {bs_NothingToUndo : List Value} {sn_NothingToUndo : List Str} {sub_NothingToUndo : List Value} {ab_NothingToUndo : Bool} {col_NothingToUndo : Option Bool} {dd_NothingToUndo : Option Addr} {k0_NothingToUndo k1_NothingToUndo k2_NothingToUndo k3_NothingToUndo k5_NothingToUndo : Option Value} (L_NothingToUndo : K.lookup 157 = some (excClassObj nm_NothingToUndo q_NothingToUndo 157 N_NothingToUndo bs_NothingToUndo [.ref 24, .type "ValueError", .type "Exception", .type "BaseException", .type "object"] true sn_NothingToUndo sub_NothingToUndo ab_NothingToUndo col_NothingToUndo dd_NothingToUndo k0_NothingToUndo k1_NothingToUndo k2_NothingToUndo k3_NothingToUndo k5_NothingToUndo "ValueError.__new__"))
    (ke_NothingToUndo : PySem.W.keepIn K (.ref 157) = true) (ga_NothingToUndo : PySem.W.findIn K (.ref 157) "__getattribute__" = some (some (.builtin "BaseException.__getattribute__"))) (gg_NothingToUndo : PySem.W.findIn K (.ref 157) "__getattr__" = some none) (gc_NothingToUndo : PySem.W.findIn K (.ref 157) "__class__" = some (some (.builtin "object.__class__"))) (sa_NothingToUndo : PySem.W.findIn K (.ref 157) "__setattr__" = some (some (.builtin "object.__setattr__")))
    (no_NothingToUndo_at : PySem.W.findIn K (.ref 157) "at" = some none)
    (no_NothingToUndo_name : PySem.W.findIn K (.ref 157) "name" = some none)
    (no_NothingToUndo_number : PySem.W.findIn K (.ref 157) "number" = some none)
    (no_NothingToUndo_one : PySem.W.findIn K (.ref 157) "one" = some none)
    (no_NothingToUndo_other : PySem.W.findIn K (.ref 157) "other" = some none)
    (no_NothingToUndo_path : PySem.W.findIn K (.ref 157) "path" = some none)
    (no_NothingToUndo_text : PySem.W.findIn K (.ref 157) "text" = some none)
    (no_NothingToUndo_top : PySem.W.findIn K (.ref 157) "top" = some none)
    {nm_BadLetters q_BadLetters : Str} {N_BadLetters : Addr} {bs_BadLetters : List Value} {sn_BadLetters : List Str} {sub_BadLetters : List Value} {ab_BadLetters : Bool} {col_BadLetters : Option Bool} {dd_BadLetters : Option Addr} {k0_BadLetters k1_BadLetters k2_BadLetters k3_BadLetters k5_BadLetters : Option Value} (L_BadLetters : K.lookup 176 = some (excClassObj nm_BadLetters q_BadLetters 176 N_BadLetters bs_BadLetters [.ref 24, .type "ValueError", .type "Exception", .type "BaseException", .type "object"] true sn_BadLetters sub_BadLetters ab_BadLetters col_BadLetters dd_BadLetters k0_BadLetters k1_BadLetters k2_BadLetters k3_BadLetters k5_BadLetters "ValueError.__new__"))
    (ke_BadLetters : PySem.W.keepIn K (.ref 176) = true) (ga_BadLetters : PySem.W.findIn K (.ref 176) "__getattribute__" = some (some (.builtin "BaseException.__getattribute__"))) (gg_BadLetters : PySem.W.findIn K (.ref 176) "__getattr__" = some none) (gc_BadLetters : PySem.W.findIn K (.ref 176) "__class__" = some (some (.builtin "object.__class__"))) (sa_BadLetters : PySem.W.findIn K (.ref 176) "__setattr__" = some (some (.builtin "object.__setattr__")))
    (no_BadLetters_at : PySem.W.findIn K (.ref 176) "at" = some none)
    (no_BadLetters_name : PySem.W.findIn K (.ref 176) "name" = some none)
    (no_BadLetters_number : PySem.W.findIn K (.ref 176) "number" = some none)
    (no_BadLetters_one : PySem.W.findIn K (.ref 176) "one" = some none)
    (no_BadLetters_other : PySem.W.findIn K (.ref 176) "other" = some none)
    (no_BadLetters_path : PySem.W.findIn K (.ref 176) "path" = some none)
    (no_BadLetters_text : PySem.W.findIn K (.ref 176) "text" = some none)
    (no_BadLetters_top : PySem.W.findIn K (.ref 176) "top" = some none)
    {nm_BadWord q_BadWord : Str} {N_BadWord : Addr} {bs_BadWord : List Value} {sn_BadWord : List Str} {sub_BadWord : List Value} {ab_BadWord : Bool} {col_BadWord : Option Bool} {dd_BadWord : Option Addr} {k0_BadWord k1_BadWord k2_BadWord k3_BadWord k5_BadWord : Option Value} (L_BadWord : K.lookup 195 = some (excClassObj nm_BadWord q_BadWord 195 N_BadWord bs_BadWord [.ref 24, .type "ValueError", .type "Exception", .type "BaseException", .type "object"] true sn_BadWord sub_BadWord ab_BadWord col_BadWord dd_BadWord k0_BadWord k1_BadWord k2_BadWord k3_BadWord k5_BadWord "ValueError.__new__"))
    (ke_BadWord : PySem.W.keepIn K (.ref 195) = true) (ga_BadWord : PySem.W.findIn K (.ref 195) "__getattribute__" = some (some (.builtin "BaseException.__getattribute__"))) (gg_BadWord : PySem.W.findIn K (.ref 195) "__getattr__" = some none) (gc_BadWord : PySem.W.findIn K (.ref 195) "__class__" = some (some (.builtin "object.__class__"))) (sa_BadWord : PySem.W.findIn K (.ref 195) "__setattr__" = some (some (.builtin "object.__setattr__")))
    (no_BadWord_at : PySem.W.findIn K (.ref 195) "at" = some none)
    (no_BadWord_name : PySem.W.findIn K (.ref 195) "name" = some none)
    (no_BadWord_number : PySem.W.findIn K (.ref 195) "number" = some none)
    (no_BadWord_one : PySem.W.findIn K (.ref 195) "one" = some none)
    (no_BadWord_other : PySem.W.findIn K (.ref 195) "other" = some none)
    (no_BadWord_path : PySem.W.findIn K (.ref 195) "path" = some none)
    (no_BadWord_text : PySem.W.findIn K (.ref 195) "text" = some none)
    (no_BadWord_top : PySem.W.findIn K (.ref 195) "top" = some none)
    {nm_BadName q_BadName : Str} {N_BadName : Addr} {bs_BadName : List Value} {sn_BadName : List Str} {sub_BadName : List Value} {ab_BadName : Bool} {col_BadName : Option Bool} {dd_BadName : Option Addr} {k0_BadName k1_BadName k2_BadName k3_BadName k5_BadName : Option Value} (L_BadName : K.lookup 214 = some (excClassObj nm_BadName q_BadName 214 N_BadName bs_BadName [.ref 24, .type "ValueError", .type "Exception", .type "BaseException", .type "object"] true sn_BadName sub_BadName ab_BadName col_BadName dd_BadName k0_BadName k1_BadName k2_BadName k3_BadName k5_BadName "ValueError.__new__"))
    (ke_BadName : PySem.W.keepIn K (.ref 214) = true) (ga_BadName : PySem.W.findIn K (.ref 214) "__getattribute__" = some (some (.builtin "BaseException.__getattribute__"))) (gg_BadName : PySem.W.findIn K (.ref 214) "__getattr__" = some none) (gc_BadName : PySem.W.findIn K (.ref 214) "__class__" = some (some (.builtin "object.__class__"))) (sa_BadName : PySem.W.findIn K (.ref 214) "__setattr__" = some (some (.builtin "object.__setattr__")))
    (no_BadName_at : PySem.W.findIn K (.ref 214) "at" = some none)
    (no_BadName_name : PySem.W.findIn K (.ref 214) "name" = some none)
    (no_BadName_number : PySem.W.findIn K (.ref 214) "number" = some none)
    (no_BadName_one : PySem.W.findIn K (.ref 214) "one" = some none)
    (no_BadName_other : PySem.W.findIn K (.ref 214) "other" = some none)
    (no_BadName_path : PySem.W.findIn K (.ref 214) "path" = some none)
    (no_BadName_text : PySem.W.findIn K (.ref 214) "text" = some none)
    (no_BadName_top : PySem.W.findIn K (.ref 214) "top" = some none)
    {nm_BadNumber q_BadNumber : Str} {N_BadNumber : Addr} {bs_BadNumber : List Value} {sn_BadNumber : List Str} {sub_BadNumber : List Value} {ab_BadNumber : Bool} {col_BadNumber : Option Bool} {dd_BadNumber : Option Addr} {k0_BadNumber k1_BadNumber k2_BadNumber k3_BadNumber k5_BadNumber : Option Value} (L_BadNumber : K.lookup 233 = some (excClassObj nm_BadNumber q_BadNumber 233 N_BadNumber bs_BadNumber [.ref 24, .type "ValueError", .type "Exception", .type "BaseException", .type "object"] true sn_BadNumber sub_BadNumber ab_BadNumber col_BadNumber dd_BadNumber k0_BadNumber k1_BadNumber k2_BadNumber k3_BadNumber k5_BadNumber "ValueError.__new__"))
    (ke_BadNumber : PySem.W.keepIn K (.ref 233) = true) (ga_BadNumber : PySem.W.findIn K (.ref 233) "__getattribute__" = some (some (.builtin "BaseException.__getattribute__"))) (gg_BadNumber : PySem.W.findIn K (.ref 233) "__getattr__" = some none) (gc_BadNumber : PySem.W.findIn K (.ref 233) "__class__" = some (some (.builtin "object.__class__"))) (sa_BadNumber : PySem.W.findIn K (.ref 233) "__setattr__" = some (some (.builtin "object.__setattr__")))
    (no_BadNumber_at : PySem.W.findIn K (.ref 233) "at" = some none)
    (no_BadNumber_name : PySem.W.findIn K (.ref 233) "name" = some none)
    (no_BadNumber_number : PySem.W.findIn K (.ref 233) "number" = some none)
    (no_BadNumber_one : PySem.W.findIn K (.ref 233) "one" = some none)
    (no_BadNumber_other : PySem.W.findIn K (.ref 233) "other" = some none)
    (no_BadNumber_path : PySem.W.findIn K (.ref 233) "path" = some none)
    (no_BadNumber_text : PySem.W.findIn K (.ref 233) "text" = some none)
    (no_BadNumber_top : PySem.W.findIn K (.ref 233) "top" = some none)
    {nm_BadRow q_BadRow : Str} {N_BadRow : Addr} {bs_BadRow : List Value} {sn_BadRow : List Str} {sub_BadRow : List Value} {ab_BadRow : Bool} {col_BadRow : Option Bool} {dd_BadRow : Option Addr} {k0_BadRow k1_BadRow k2_BadRow k3_BadRow k5_BadRow : Option Value} (L_BadRow : K.lookup 252 = some (excClassObj nm_BadRow q_BadRow 252 N_BadRow bs_BadRow [.ref 24, .type "ValueError", .type "Exception", .type "BaseException", .type "object"] true sn_BadRow sub_BadRow ab_BadRow col_BadRow dd_BadRow k0_BadRow k1_BadRow k2_BadRow k3_BadRow k5_BadRow "ValueError.__new__"))
    (ke_BadRow : PySem.W.keepIn K (.ref 252) = true) (ga_BadRow : PySem.W.findIn K (.ref 252) "__getattribute__" = some (some (.builtin "BaseException.__getattribute__"))) (gg_BadRow : PySem.W.findIn K (.ref 252) "__getattr__" = some none) (gc_BadRow : PySem.W.findIn K (.ref 252) "__class__" = some (some (.builtin "object.__class__"))) (sa_BadRow : PySem.W.findIn K (.ref 252) "__setattr__" = some (some (.builtin "object.__setattr__")))
    (no_BadRow_at : PySem.W.findIn K (.ref 252) "at" = some none)
    (no_BadRow_name : PySem.W.findIn K (.ref 252) "name" = some none)
    (no_BadRow_number : PySem.W.findIn K (.ref 252) "number" = some none)
    (no_BadRow_one : PySem.W.findIn K (.ref 252) "one" = some none)
    (no_BadRow_other : PySem.W.findIn K (.ref 252) "other" = some none)
    (no_BadRow_path : PySem.W.findIn K (.ref 252) "path" = some none)
    (no_BadRow_text : PySem.W.findIn K (.ref 252) "text" = some none)
    (no_BadRow_top : PySem.W.findIn K (.ref 252) "top" = some none)
    {nm_BadRule q_BadRule : Str} {N_BadRule : Addr} {bs_BadRule : List Value} {sn_BadRule : List Str} {sub_BadRule : List Value} {ab_BadRule : Bool} {col_BadRule : Option Bool} {dd_BadRule : Option Addr} {k0_BadRule k1_BadRule k2_BadRule k3_BadRule k5_BadRule : Option Value} (L_BadRule : K.lookup 271 = some (excClassObj nm_BadRule q_BadRule 271 N_BadRule bs_BadRule [.ref 24, .type "ValueError", .type "Exception", .type "BaseException", .type "object"] true sn_BadRule sub_BadRule ab_BadRule col_BadRule dd_BadRule k0_BadRule k1_BadRule k2_BadRule k3_BadRule k5_BadRule "ValueError.__new__"))
    (ke_BadRule : PySem.W.keepIn K (.ref 271) = true) (ga_BadRule : PySem.W.findIn K (.ref 271) "__getattribute__" = some (some (.builtin "BaseException.__getattribute__"))) (gg_BadRule : PySem.W.findIn K (.ref 271) "__getattr__" = some none) (gc_BadRule : PySem.W.findIn K (.ref 271) "__class__" = some (some (.builtin "object.__class__"))) (sa_BadRule : PySem.W.findIn K (.ref 271) "__setattr__" = some (some (.builtin "object.__setattr__")))
    (no_BadRule_at : PySem.W.findIn K (.ref 271) "at" = some none)
    (no_BadRule_name : PySem.W.findIn K (.ref 271) "name" = some none)
    (no_BadRule_number : PySem.W.findIn K (.ref 271) "number" = some none)
    (no_BadRule_one : PySem.W.findIn K (.ref 271) "one" = some none)
    (no_BadRule_other : PySem.W.findIn K (.ref 271) "other" = some none)
    (no_BadRule_path : PySem.W.findIn K (.ref 271) "path" = some none)
    (no_BadRule_text : PySem.W.findIn K (.ref 271) "text" = some none)
    (no_BadRule_top : PySem.W.findIn K (.ref 271) "top" = some none)
    {nm_Rising q_Rising : Str} {N_Rising : Addr} {bs_Rising : List Value} {sn_Rising : List Str} {sub_Rising : List Value} {ab_Rising : Bool} {col_Rising : Option Bool} {dd_Rising : Option Addr} {k0_Rising k1_Rising k2_Rising k3_Rising k5_Rising : Option Value} (L_Rising : K.lookup 290 = some (excClassObj nm_Rising q_Rising 290 N_Rising bs_Rising [.ref 24, .type "ValueError", .type "Exception", .type "BaseException", .type "object"] true sn_Rising sub_Rising ab_Rising col_Rising dd_Rising k0_Rising k1_Rising k2_Rising k3_Rising k5_Rising "ValueError.__new__"))
    (ke_Rising : PySem.W.keepIn K (.ref 290) = true) (ga_Rising : PySem.W.findIn K (.ref 290) "__getattribute__" = some (some (.builtin "BaseException.__getattribute__"))) (gg_Rising : PySem.W.findIn K (.ref 290) "__getattr__" = some none) (gc_Rising : PySem.W.findIn K (.ref 290) "__class__" = some (some (.builtin "object.__class__"))) (sa_Rising : PySem.W.findIn K (.ref 290) "__setattr__" = some (some (.builtin "object.__setattr__")))
    (no_Rising_at : PySem.W.findIn K (.ref 290) "at" = some none)
    (no_Rising_name : PySem.W.findIn K (.ref 290) "name" = some none)
    (no_Rising_number : PySem.W.findIn K (.ref 290) "number" = some none)
    (no_Rising_one : PySem.W.findIn K (.ref 290) "one" = some none)
    (no_Rising_other : PySem.W.findIn K (.ref 290) "other" = some none)
    (no_Rising_path : PySem.W.findIn K (.ref 290) "path" = some none)
    (no_Rising_text : PySem.W.findIn K (.ref 290) "text" = some none)
    (no_Rising_top : PySem.W.findIn K (.ref 290) "top" = some none)
    {nm_Unknown q_Unknown : Str} {N_Unknown : Addr} {bs_Unknown : List Value} {sn_Unknown : List Str} {sub_Unknown : List Value} {ab_Unknown : Bool} {col_Unknown : Option Bool} {dd_Unknown : Option Addr} {k0_Unknown k1_Unknown k2_Unknown k3_Unknown k5_Unknown : Option Value} (L_Unknown : K.lookup 309 = some (excClassObj nm_Unknown q_Unknown 309 N_Unknown bs_Unknown [.ref 24, .type "ValueError", .type "Exception", .type "BaseException", .type "object"] true sn_Unknown sub_Unknown ab_Unknown col_Unknown dd_Unknown k0_Unknown k1_Unknown k2_Unknown k3_Unknown k5_Unknown "ValueError.__new__"))
    (ke_Unknown : PySem.W.keepIn K (.ref 309) = true) (ga_Unknown : PySem.W.findIn K (.ref 309) "__getattribute__" = some (some (.builtin "BaseException.__getattribute__"))) (gg_Unknown : PySem.W.findIn K (.ref 309) "__getattr__" = some none) (gc_Unknown : PySem.W.findIn K (.ref 309) "__class__" = some (some (.builtin "object.__class__"))) (sa_Unknown : PySem.W.findIn K (.ref 309) "__setattr__" = some (some (.builtin "object.__setattr__")))
    (no_Unknown_at : PySem.W.findIn K (.ref 309) "at" = some none)
    (no_Unknown_name : PySem.W.findIn K (.ref 309) "name" = some none)
    (no_Unknown_number : PySem.W.findIn K (.ref 309) "number" = some none)
    (no_Unknown_one : PySem.W.findIn K (.ref 309) "one" = some none)
    (no_Unknown_other : PySem.W.findIn K (.ref 309) "other" = some none)
    (no_Unknown_path : PySem.W.findIn K (.ref 309) "path" = some none)
    (no_Unknown_text : PySem.W.findIn K (.ref 309) "text" = some none)
    (no_Unknown_top : PySem.W.findIn K (.ref 309) "top" = some none)
    {nm_Repeated q_Repeated : Str} {N_Repeated : Addr} {bs_Repeated : List Value} {sn_Repeated : List Str} {sub_Repeated : List Value} {ab_Repeated : Bool} {col_Repeated : Option Bool} {dd_Repeated : Option Addr} {k0_Repeated k1_Repeated k2_Repeated k3_Repeated k5_Repeated : Option Value} (L_Repeated : K.lookup 328 = some (excClassObj nm_Repeated q_Repeated 328 N_Repeated bs_Repeated [.ref 24, .type "ValueError", .type "Exception", .type "BaseException", .type "object"] true sn_Repeated sub_Repeated ab_Repeated col_Repeated dd_Repeated k0_Repeated k1_Repeated k2_Repeated k3_Repeated k5_Repeated "ValueError.__new__"))
    (ke_Repeated : PySem.W.keepIn K (.ref 328) = true) (ga_Repeated : PySem.W.findIn K (.ref 328) "__getattribute__" = some (some (.builtin "BaseException.__getattribute__"))) (gg_Repeated : PySem.W.findIn K (.ref 328) "__getattr__" = some none) (gc_Repeated : PySem.W.findIn K (.ref 328) "__class__" = some (some (.builtin "object.__class__"))) (sa_Repeated : PySem.W.findIn K (.ref 328) "__setattr__" = some (some (.builtin "object.__setattr__")))
    (no_Repeated_at : PySem.W.findIn K (.ref 328) "at" = some none)
    (no_Repeated_name : PySem.W.findIn K (.ref 328) "name" = some none)
    (no_Repeated_number : PySem.W.findIn K (.ref 328) "number" = some none)
    (no_Repeated_one : PySem.W.findIn K (.ref 328) "one" = some none)
    (no_Repeated_other : PySem.W.findIn K (.ref 328) "other" = some none)
    (no_Repeated_path : PySem.W.findIn K (.ref 328) "path" = some none)
    (no_Repeated_text : PySem.W.findIn K (.ref 328) "text" = some none)
    (no_Repeated_top : PySem.W.findIn K (.ref 328) "top" = some none)
    {nm_BadText q_BadText : Str} {N_BadText : Addr} {bs_BadText : List Value} {sn_BadText : List Str} {sub_BadText : List Value} {ab_BadText : Bool} {col_BadText : Option Bool} {dd_BadText : Option Addr} {k0_BadText k1_BadText k2_BadText k3_BadText k5_BadText : Option Value} (L_BadText : K.lookup 347 = some (excClassObj nm_BadText q_BadText 347 N_BadText bs_BadText [.ref 24, .type "ValueError", .type "Exception", .type "BaseException", .type "object"] true sn_BadText sub_BadText ab_BadText col_BadText dd_BadText k0_BadText k1_BadText k2_BadText k3_BadText k5_BadText "ValueError.__new__"))
    (ke_BadText : PySem.W.keepIn K (.ref 347) = true) (ga_BadText : PySem.W.findIn K (.ref 347) "__getattribute__" = some (some (.builtin "BaseException.__getattribute__"))) (gg_BadText : PySem.W.findIn K (.ref 347) "__getattr__" = some none) (gc_BadText : PySem.W.findIn K (.ref 347) "__class__" = some (some (.builtin "object.__class__"))) (sa_BadText : PySem.W.findIn K (.ref 347) "__setattr__" = some (some (.builtin "object.__setattr__")))
    (no_BadText_at : PySem.W.findIn K (.ref 347) "at" = some none)
    (no_BadText_name : PySem.W.findIn K (.ref 347) "name" = some none)
    (no_BadText_number : PySem.W.findIn K (.ref 347) "number" = some none)
    (no_BadText_one : PySem.W.findIn K (.ref 347) "one" = some none)
    (no_BadText_other : PySem.W.findIn K (.ref 347) "other" = some none)
    (no_BadText_path : PySem.W.findIn K (.ref 347) "path" = some none)
    (no_BadText_text : PySem.W.findIn K (.ref 347) "text" = some none)
    (no_BadText_top : PySem.W.findIn K (.ref 347) "top" = some none)
    {nm_BadStep q_BadStep : Str} {N_BadStep : Addr} {bs_BadStep : List Value} {sn_BadStep : List Str} {sub_BadStep : List Value} {ab_BadStep : Bool} {col_BadStep : Option Bool} {dd_BadStep : Option Addr} {k0_BadStep k1_BadStep k2_BadStep k3_BadStep k5_BadStep : Option Value} (L_BadStep : K.lookup 366 = some (excClassObj nm_BadStep q_BadStep 366 N_BadStep bs_BadStep [.ref 24, .type "ValueError", .type "Exception", .type "BaseException", .type "object"] true sn_BadStep sub_BadStep ab_BadStep col_BadStep dd_BadStep k0_BadStep k1_BadStep k2_BadStep k3_BadStep k5_BadStep "ValueError.__new__"))
    (ke_BadStep : PySem.W.keepIn K (.ref 366) = true) (ga_BadStep : PySem.W.findIn K (.ref 366) "__getattribute__" = some (some (.builtin "BaseException.__getattribute__"))) (gg_BadStep : PySem.W.findIn K (.ref 366) "__getattr__" = some none) (gc_BadStep : PySem.W.findIn K (.ref 366) "__class__" = some (some (.builtin "object.__class__"))) (sa_BadStep : PySem.W.findIn K (.ref 366) "__setattr__" = some (some (.builtin "object.__setattr__")))
    (no_BadStep_at : PySem.W.findIn K (.ref 366) "at" = some none)
    (no_BadStep_name : PySem.W.findIn K (.ref 366) "name" = some none)
    (no_BadStep_number : PySem.W.findIn K (.ref 366) "number" = some none)
    (no_BadStep_one : PySem.W.findIn K (.ref 366) "one" = some none)
    (no_BadStep_other : PySem.W.findIn K (.ref 366) "other" = some none)
    (no_BadStep_path : PySem.W.findIn K (.ref 366) "path" = some none)
    (no_BadStep_text : PySem.W.findIn K (.ref 366) "text" = some none)
    (no_BadStep_top : PySem.W.findIn K (.ref 366) "top" = some none)
    {nm_BadSquare q_BadSquare : Str} {N_BadSquare : Addr} {bs_BadSquare : List Value} {sn_BadSquare : List Str} {sub_BadSquare : List Value} {ab_BadSquare : Bool} {col_BadSquare : Option Bool} {dd_BadSquare : Option Addr} {k0_BadSquare k1_BadSquare k2_BadSquare k3_BadSquare k5_BadSquare : Option Value} (L_BadSquare : K.lookup 385 = some (excClassObj nm_BadSquare q_BadSquare 385 N_BadSquare bs_BadSquare [.ref 24, .type "ValueError", .type "Exception", .type "BaseException", .type "object"] true sn_BadSquare sub_BadSquare ab_BadSquare col_BadSquare dd_BadSquare k0_BadSquare k1_BadSquare k2_BadSquare k3_BadSquare k5_BadSquare "ValueError.__new__"))
    (ke_BadSquare : PySem.W.keepIn K (.ref 385) = true) (ga_BadSquare : PySem.W.findIn K (.ref 385) "__getattribute__" = some (some (.builtin "BaseException.__getattribute__"))) (gg_BadSquare : PySem.W.findIn K (.ref 385) "__getattr__" = some none) (gc_BadSquare : PySem.W.findIn K (.ref 385) "__class__" = some (some (.builtin "object.__class__"))) (sa_BadSquare : PySem.W.findIn K (.ref 385) "__setattr__" = some (some (.builtin "object.__setattr__")))
    (no_BadSquare_at : PySem.W.findIn K (.ref 385) "at" = some none)
    (no_BadSquare_name : PySem.W.findIn K (.ref 385) "name" = some none)
    (no_BadSquare_number : PySem.W.findIn K (.ref 385) "number" = some none)
    (no_BadSquare_one : PySem.W.findIn K (.ref 385) "one" = some none)
    (no_BadSquare_other : PySem.W.findIn K (.ref 385) "other" = some none)
    (no_BadSquare_path : PySem.W.findIn K (.ref 385) "path" = some none)
    (no_BadSquare_text : PySem.W.findIn K (.ref 385) "text" = some none)
    (no_BadSquare_top : PySem.W.findIn K (.ref 385) "top" = some none)
    {nm_BadMove q_BadMove : Str} {N_BadMove : Addr} {bs_BadMove : List Value} {sn_BadMove : List Str} {sub_BadMove : List Value} {ab_BadMove : Bool} {col_BadMove : Option Bool} {dd_BadMove : Option Addr} {k0_BadMove k1_BadMove k2_BadMove k3_BadMove k5_BadMove : Option Value} (L_BadMove : K.lookup 404 = some (excClassObj nm_BadMove q_BadMove 404 N_BadMove bs_BadMove [.ref 24, .type "ValueError", .type "Exception", .type "BaseException", .type "object"] true sn_BadMove sub_BadMove ab_BadMove col_BadMove dd_BadMove k0_BadMove k1_BadMove k2_BadMove k3_BadMove k5_BadMove "ValueError.__new__"))
    (ke_BadMove : PySem.W.keepIn K (.ref 404) = true) (ga_BadMove : PySem.W.findIn K (.ref 404) "__getattribute__" = some (some (.builtin "BaseException.__getattribute__"))) (gg_BadMove : PySem.W.findIn K (.ref 404) "__getattr__" = some none) (gc_BadMove : PySem.W.findIn K (.ref 404) "__class__" = some (some (.builtin "object.__class__"))) (sa_BadMove : PySem.W.findIn K (.ref 404) "__setattr__" = some (some (.builtin "object.__setattr__")))
    (no_BadMove_at : PySem.W.findIn K (.ref 404) "at" = some none)
    (no_BadMove_name : PySem.W.findIn K (.ref 404) "name" = some none)
    (no_BadMove_number : PySem.W.findIn K (.ref 404) "number" = some none)
    (no_BadMove_one : PySem.W.findIn K (.ref 404) "one" = some none)
    (no_BadMove_other : PySem.W.findIn K (.ref 404) "other" = some none)
    (no_BadMove_path : PySem.W.findIn K (.ref 404) "path" = some none)
    (no_BadMove_text : PySem.W.findIn K (.ref 404) "text" = some none)
    (no_BadMove_top : PySem.W.findIn K (.ref 404) "top" = some none)
    {nm_BadLog q_BadLog : Str} {N_BadLog : Addr} {bs_BadLog : List Value} {sn_BadLog : List Str} {sub_BadLog : List Value} {ab_BadLog : Bool} {col_BadLog : Option Bool} {dd_BadLog : Option Addr} {k0_BadLog k1_BadLog k2_BadLog k3_BadLog k5_BadLog : Option Value} (L_BadLog : K.lookup 423 = some (excClassObj nm_BadLog q_BadLog 423 N_BadLog bs_BadLog [.ref 24, .type "ValueError", .type "Exception", .type "BaseException", .type "object"] true sn_BadLog sub_BadLog ab_BadLog col_BadLog dd_BadLog k0_BadLog k1_BadLog k2_BadLog k3_BadLog k5_BadLog "ValueError.__new__"))
    (ke_BadLog : PySem.W.keepIn K (.ref 423) = true) (ga_BadLog : PySem.W.findIn K (.ref 423) "__getattribute__" = some (some (.builtin "BaseException.__getattribute__"))) (gg_BadLog : PySem.W.findIn K (.ref 423) "__getattr__" = some none) (gc_BadLog : PySem.W.findIn K (.ref 423) "__class__" = some (some (.builtin "object.__class__"))) (sa_BadLog : PySem.W.findIn K (.ref 423) "__setattr__" = some (some (.builtin "object.__setattr__")))
    (no_BadLog_at : PySem.W.findIn K (.ref 423) "at" = some none)
    (no_BadLog_name : PySem.W.findIn K (.ref 423) "name" = some none)
    (no_BadLog_number : PySem.W.findIn K (.ref 423) "number" = some none)
    (no_BadLog_one : PySem.W.findIn K (.ref 423) "one" = some none)
    (no_BadLog_other : PySem.W.findIn K (.ref 423) "other" = some none)
    (no_BadLog_path : PySem.W.findIn K (.ref 423) "path" = some none)
    (no_BadLog_text : PySem.W.findIn K (.ref 423) "text" = some none)
    (no_BadLog_top : PySem.W.findIn K (.ref 423) "top" = some none)
    {nm_BadChange q_BadChange : Str} {N_BadChange : Addr} {bs_BadChange : List Value} {sn_BadChange : List Str} {sub_BadChange : List Value} {ab_BadChange : Bool} {col_BadChange : Option Bool} {dd_BadChange : Option Addr} {k0_BadChange k1_BadChange k2_BadChange k3_BadChange k5_BadChange : Option Value} (L_BadChange : K.lookup 442 = some (excClassObj nm_BadChange q_BadChange 442 N_BadChange bs_BadChange [.ref 24, .type "ValueError", .type "Exception", .type "BaseException", .type "object"] true sn_BadChange sub_BadChange ab_BadChange col_BadChange dd_BadChange k0_BadChange k1_BadChange k2_BadChange k3_BadChange k5_BadChange "ValueError.__new__"))
    (ke_BadChange : PySem.W.keepIn K (.ref 442) = true) (ga_BadChange : PySem.W.findIn K (.ref 442) "__getattribute__" = some (some (.builtin "BaseException.__getattribute__"))) (gg_BadChange : PySem.W.findIn K (.ref 442) "__getattr__" = some none) (gc_BadChange : PySem.W.findIn K (.ref 442) "__class__" = some (some (.builtin "object.__class__"))) (sa_BadChange : PySem.W.findIn K (.ref 442) "__setattr__" = some (some (.builtin "object.__setattr__")))
    (no_BadChange_at : PySem.W.findIn K (.ref 442) "at" = some none)
    (no_BadChange_name : PySem.W.findIn K (.ref 442) "name" = some none)
    (no_BadChange_number : PySem.W.findIn K (.ref 442) "number" = some none)
    (no_BadChange_one : PySem.W.findIn K (.ref 442) "one" = some none)
    (no_BadChange_other : PySem.W.findIn K (.ref 442) "other" = some none)
    (no_BadChange_path : PySem.W.findIn K (.ref 442) "path" = some none)
    (no_BadChange_text : PySem.W.findIn K (.ref 442) "text" = some none)
    (no_BadChange_top : PySem.W.findIn K (.ref 442) "top" = some none)
    {nm_Unjoined q_Unjoined : Str} {N_Unjoined : Addr} {bs_Unjoined : List Value} {sn_Unjoined : List Str} {sub_Unjoined : List Value} {ab_Unjoined : Bool} {col_Unjoined : Option Bool} {dd_Unjoined : Option Addr} {k0_Unjoined k1_Unjoined k2_Unjoined k3_Unjoined k5_Unjoined : Option Value} (L_Unjoined : K.lookup 461 = some (excClassObj nm_Unjoined q_Unjoined 461 N_Unjoined bs_Unjoined [.ref 24, .type "ValueError", .type "Exception", .type "BaseException", .type "object"] true sn_Unjoined sub_Unjoined ab_Unjoined col_Unjoined dd_Unjoined k0_Unjoined k1_Unjoined k2_Unjoined k3_Unjoined k5_Unjoined "ValueError.__new__"))
    (ke_Unjoined : PySem.W.keepIn K (.ref 461) = true) (ga_Unjoined : PySem.W.findIn K (.ref 461) "__getattribute__" = some (some (.builtin "BaseException.__getattribute__"))) (gg_Unjoined : PySem.W.findIn K (.ref 461) "__getattr__" = some none) (gc_Unjoined : PySem.W.findIn K (.ref 461) "__class__" = some (some (.builtin "object.__class__"))) (sa_Unjoined : PySem.W.findIn K (.ref 461) "__setattr__" = some (some (.builtin "object.__setattr__")))
    (no_Unjoined_at : PySem.W.findIn K (.ref 461) "at" = some none)
    (no_Unjoined_name : PySem.W.findIn K (.ref 461) "name" = some none)
    (no_Unjoined_number : PySem.W.findIn K (.ref 461) "number" = some none)
    (no_Unjoined_one : PySem.W.findIn K (.ref 461) "one" = some none)
    (no_Unjoined_other : PySem.W.findIn K (.ref 461) "other" = some none)
    (no_Unjoined_path : PySem.W.findIn K (.ref 461) "path" = some none)
    (no_Unjoined_text : PySem.W.findIn K (.ref 461) "text" = some none)
    (no_Unjoined_top : PySem.W.findIn K (.ref 461) "top" = some none)
    {nm_Open q_Open : Str} {N_Open : Addr} {bs_Open : List Value} {sn_Open : List Str} {sub_Open : List Value} {ab_Open : Bool} {col_Open : Option Bool} {dd_Open : Option Addr} {k0_Open k1_Open k2_Open k3_Open k5_Open : Option Value} (L_Open : K.lookup 480 = some (excClassObj nm_Open q_Open 480 N_Open bs_Open [.ref 24, .type "ValueError", .type "Exception", .type "BaseException", .type "object"] true sn_Open sub_Open ab_Open col_Open dd_Open k0_Open k1_Open k2_Open k3_Open k5_Open "ValueError.__new__"))
    (ke_Open : PySem.W.keepIn K (.ref 480) = true) (ga_Open : PySem.W.findIn K (.ref 480) "__getattribute__" = some (some (.builtin "BaseException.__getattribute__"))) (gg_Open : PySem.W.findIn K (.ref 480) "__getattr__" = some none) (gc_Open : PySem.W.findIn K (.ref 480) "__class__" = some (some (.builtin "object.__class__"))) (sa_Open : PySem.W.findIn K (.ref 480) "__setattr__" = some (some (.builtin "object.__setattr__")))
    (no_Open_at : PySem.W.findIn K (.ref 480) "at" = some none)
    (no_Open_name : PySem.W.findIn K (.ref 480) "name" = some none)
    (no_Open_number : PySem.W.findIn K (.ref 480) "number" = some none)
    (no_Open_one : PySem.W.findIn K (.ref 480) "one" = some none)
    (no_Open_other : PySem.W.findIn K (.ref 480) "other" = some none)
    (no_Open_path : PySem.W.findIn K (.ref 480) "path" = some none)
    (no_Open_text : PySem.W.findIn K (.ref 480) "text" = some none)
    (no_Open_top : PySem.W.findIn K (.ref 480) "top" = some none)
    {nm_Lacking q_Lacking : Str} {N_Lacking : Addr} {bs_Lacking : List Value} {sn_Lacking : List Str} {sub_Lacking : List Value} {ab_Lacking : Bool} {col_Lacking : Option Bool} {dd_Lacking : Option Addr} {k0_Lacking k1_Lacking k2_Lacking k3_Lacking k5_Lacking : Option Value} (L_Lacking : K.lookup 499 = some (excClassObj nm_Lacking q_Lacking 499 N_Lacking bs_Lacking [.ref 24, .type "ValueError", .type "Exception", .type "BaseException", .type "object"] true sn_Lacking sub_Lacking ab_Lacking col_Lacking dd_Lacking k0_Lacking k1_Lacking k2_Lacking k3_Lacking k5_Lacking "ValueError.__new__"))
    (ke_Lacking : PySem.W.keepIn K (.ref 499) = true) (ga_Lacking : PySem.W.findIn K (.ref 499) "__getattribute__" = some (some (.builtin "BaseException.__getattribute__"))) (gg_Lacking : PySem.W.findIn K (.ref 499) "__getattr__" = some none) (gc_Lacking : PySem.W.findIn K (.ref 499) "__class__" = some (some (.builtin "object.__class__"))) (sa_Lacking : PySem.W.findIn K (.ref 499) "__setattr__" = some (some (.builtin "object.__setattr__")))
    (no_Lacking_at : PySem.W.findIn K (.ref 499) "at" = some none)
    (no_Lacking_name : PySem.W.findIn K (.ref 499) "name" = some none)
    (no_Lacking_number : PySem.W.findIn K (.ref 499) "number" = some none)
    (no_Lacking_one : PySem.W.findIn K (.ref 499) "one" = some none)
    (no_Lacking_other : PySem.W.findIn K (.ref 499) "other" = some none)
    (no_Lacking_path : PySem.W.findIn K (.ref 499) "path" = some none)
    (no_Lacking_text : PySem.W.findIn K (.ref 499) "text" = some none)
    (no_Lacking_top : PySem.W.findIn K (.ref 499) "top" = some none)
    {nm_Stopped q_Stopped : Str} {N_Stopped : Addr} {bs_Stopped : List Value} {sn_Stopped : List Str} {sub_Stopped : List Value} {ab_Stopped : Bool} {col_Stopped : Option Bool} {dd_Stopped : Option Addr} {k0_Stopped k1_Stopped k2_Stopped k3_Stopped k5_Stopped : Option Value} (L_Stopped : K.lookup 518 = some (excClassObj nm_Stopped q_Stopped 518 N_Stopped bs_Stopped [.ref 24, .type "ValueError", .type "Exception", .type "BaseException", .type "object"] true sn_Stopped sub_Stopped ab_Stopped col_Stopped dd_Stopped k0_Stopped k1_Stopped k2_Stopped k3_Stopped k5_Stopped "ValueError.__new__"))
    (ke_Stopped : PySem.W.keepIn K (.ref 518) = true) (ga_Stopped : PySem.W.findIn K (.ref 518) "__getattribute__" = some (some (.builtin "BaseException.__getattribute__"))) (gg_Stopped : PySem.W.findIn K (.ref 518) "__getattr__" = some none) (gc_Stopped : PySem.W.findIn K (.ref 518) "__class__" = some (some (.builtin "object.__class__"))) (sa_Stopped : PySem.W.findIn K (.ref 518) "__setattr__" = some (some (.builtin "object.__setattr__")))
    (no_Stopped_at : PySem.W.findIn K (.ref 518) "at" = some none)
    (no_Stopped_name : PySem.W.findIn K (.ref 518) "name" = some none)
    (no_Stopped_number : PySem.W.findIn K (.ref 518) "number" = some none)
    (no_Stopped_one : PySem.W.findIn K (.ref 518) "one" = some none)
    (no_Stopped_other : PySem.W.findIn K (.ref 518) "other" = some none)
    (no_Stopped_path : PySem.W.findIn K (.ref 518) "path" = some none)
    (no_Stopped_text : PySem.W.findIn K (.ref 518) "text" = some none)
    (no_Stopped_top : PySem.W.findIn K (.ref 518) "top" = some none)
    {nm_BadEntry q_BadEntry : Str} {N_BadEntry : Addr} {bs_BadEntry : List Value} {sn_BadEntry : List Str} {sub_BadEntry : List Value} {ab_BadEntry : Bool} {col_BadEntry : Option Bool} {dd_BadEntry : Option Addr} {k0_BadEntry k1_BadEntry k2_BadEntry k3_BadEntry k5_BadEntry : Option Value} (L_BadEntry : K.lookup 537 = some (excClassObj nm_BadEntry q_BadEntry 537 N_BadEntry bs_BadEntry [.ref 24, .type "ValueError", .type "Exception", .type "BaseException", .type "object"] true sn_BadEntry sub_BadEntry ab_BadEntry col_BadEntry dd_BadEntry k0_BadEntry k1_BadEntry k2_BadEntry k3_BadEntry k5_BadEntry "ValueError.__new__"))
    (ke_BadEntry : PySem.W.keepIn K (.ref 537) = true) (ga_BadEntry : PySem.W.findIn K (.ref 537) "__getattribute__" = some (some (.builtin "BaseException.__getattribute__"))) (gg_BadEntry : PySem.W.findIn K (.ref 537) "__getattr__" = some none) (gc_BadEntry : PySem.W.findIn K (.ref 537) "__class__" = some (some (.builtin "object.__class__"))) (sa_BadEntry : PySem.W.findIn K (.ref 537) "__setattr__" = some (some (.builtin "object.__setattr__")))
    (no_BadEntry_at : PySem.W.findIn K (.ref 537) "at" = some none)
    (no_BadEntry_name : PySem.W.findIn K (.ref 537) "name" = some none)
    (no_BadEntry_number : PySem.W.findIn K (.ref 537) "number" = some none)
    (no_BadEntry_one : PySem.W.findIn K (.ref 537) "one" = some none)
    (no_BadEntry_other : PySem.W.findIn K (.ref 537) "other" = some none)
    (no_BadEntry_path : PySem.W.findIn K (.ref 537) "path" = some none)
    (no_BadEntry_text : PySem.W.findIn K (.ref 537) "text" = some none)
    (no_BadEntry_top : PySem.W.findIn K (.ref 537) "top" = some none)
    (q_BadEnds : PySem.W.excIn K 85 [.type "ValueError", .type "Exception", .type "BaseException", .type "object"] "ValueError.__new__" = true)
    (q_BadFare : PySem.W.excIn K 97 [.type "ValueError", .type "Exception", .type "BaseException", .type "object"] "ValueError.__new__" = true)
    (q_BadOverlap : PySem.W.excIn K 145 [.type "ValueError", .type "Exception", .type "BaseException", .type "object"] "ValueError.__new__" = true)
    (q_BadSum : PySem.W.excIn K 133 [.type "ValueError", .type "Exception", .type "BaseException", .type "object"] "ValueError.__new__" = true)
    (q_BadTable : PySem.W.excIn K 121 [.type "ValueError", .type "Exception", .type "BaseException", .type "object"] "ValueError.__new__" = true)
    (q_BadTranslation : PySem.W.excIn K 109 [.type "ValueError", .type "Exception", .type "BaseException", .type "object"] "ValueError.__new__" = true)
    (q_BadWeights : PySem.W.excIn K 73 [.type "ValueError", .type "Exception", .type "BaseException", .type "object"] "ValueError.__new__" = true)
    (q_NothingToUndo : PySem.W.excIn K 157 [.type "ValueError", .type "Exception", .type "BaseException", .type "object"] "ValueError.__new__" = true)
    (q_TooLong : PySem.W.excIn K 49 [.type "ValueError", .type "Exception", .type "BaseException", .type "object"] "ValueError.__new__" = true)
    (q_TooMany : PySem.W.excIn K 61 [.type "ValueError", .type "Exception", .type "BaseException", .type "object"] "ValueError.__new__" = true)
    {od_BadLetters_i an_BadLetters_i : Option Addr} {sl_BadLetters_i : Array (Option Value)} {oc_BadLetters_i kV_BadLetters_i dc_BadLetters_i pm_BadLetters_i cd_BadLetters_i ct_BadLetters_i : Value} {a_BadLetters_i : Addr}
    (i_BadLetters : PySem.W.findIn K (.ref 176) "__init__" = some (some (.ref a_BadLetters_i))) (t_BadLetters_i : PySem.W.typeIn K (.ref a_BadLetters_i) = some (.type "function")) (l_BadLetters_i : K.lookup a_BadLetters_i = some ⟨oc_BadLetters_i, od_BadLetters_i, .func (PySem.W.fnOf "__init__" "BadLetters.__init__" (defArgs s_BadLetters_i) (defBody s_BadLetters_i) (defScope s_BadLetters_i) .none kV_BadLetters_i dc_BadLetters_i pm_BadLetters_i an_BadLetters_i cd_BadLetters_i ct_BadLetters_i), sl_BadLetters_i⟩) (c_BadLetters_i : PySem.W.codeIn K cd_BadLetters_i "BadLetters.__init__" = true) (ki_BadLetters_i : PySem.W.keepIn K (.ref a_BadLetters_i) = true)
    {od_BadWord_i an_BadWord_i : Option Addr} {sl_BadWord_i : Array (Option Value)} {oc_BadWord_i kV_BadWord_i dc_BadWord_i pm_BadWord_i cd_BadWord_i ct_BadWord_i : Value} {a_BadWord_i : Addr}
    (i_BadWord : PySem.W.findIn K (.ref 195) "__init__" = some (some (.ref a_BadWord_i))) (t_BadWord_i : PySem.W.typeIn K (.ref a_BadWord_i) = some (.type "function")) (l_BadWord_i : K.lookup a_BadWord_i = some ⟨oc_BadWord_i, od_BadWord_i, .func (PySem.W.fnOf "__init__" "BadWord.__init__" (defArgs s_BadWord_i) (defBody s_BadWord_i) (defScope s_BadWord_i) .none kV_BadWord_i dc_BadWord_i pm_BadWord_i an_BadWord_i cd_BadWord_i ct_BadWord_i), sl_BadWord_i⟩) (c_BadWord_i : PySem.W.codeIn K cd_BadWord_i "BadWord.__init__" = true) (ki_BadWord_i : PySem.W.keepIn K (.ref a_BadWord_i) = true)
    {od_BadName_i an_BadName_i : Option Addr} {sl_BadName_i : Array (Option Value)} {oc_BadName_i kV_BadName_i dc_BadName_i pm_BadName_i cd_BadName_i ct_BadName_i : Value} {a_BadName_i : Addr}
    (i_BadName : PySem.W.findIn K (.ref 214) "__init__" = some (some (.ref a_BadName_i))) (t_BadName_i : PySem.W.typeIn K (.ref a_BadName_i) = some (.type "function")) (l_BadName_i : K.lookup a_BadName_i = some ⟨oc_BadName_i, od_BadName_i, .func (PySem.W.fnOf "__init__" "BadName.__init__" (defArgs s_BadName_i) (defBody s_BadName_i) (defScope s_BadName_i) .none kV_BadName_i dc_BadName_i pm_BadName_i an_BadName_i cd_BadName_i ct_BadName_i), sl_BadName_i⟩) (c_BadName_i : PySem.W.codeIn K cd_BadName_i "BadName.__init__" = true) (ki_BadName_i : PySem.W.keepIn K (.ref a_BadName_i) = true)
    {od_BadNumber_i an_BadNumber_i : Option Addr} {sl_BadNumber_i : Array (Option Value)} {oc_BadNumber_i kV_BadNumber_i dc_BadNumber_i pm_BadNumber_i cd_BadNumber_i ct_BadNumber_i : Value} {a_BadNumber_i : Addr}
    (i_BadNumber : PySem.W.findIn K (.ref 233) "__init__" = some (some (.ref a_BadNumber_i))) (t_BadNumber_i : PySem.W.typeIn K (.ref a_BadNumber_i) = some (.type "function")) (l_BadNumber_i : K.lookup a_BadNumber_i = some ⟨oc_BadNumber_i, od_BadNumber_i, .func (PySem.W.fnOf "__init__" "BadNumber.__init__" (defArgs s_BadNumber_i) (defBody s_BadNumber_i) (defScope s_BadNumber_i) .none kV_BadNumber_i dc_BadNumber_i pm_BadNumber_i an_BadNumber_i cd_BadNumber_i ct_BadNumber_i), sl_BadNumber_i⟩) (c_BadNumber_i : PySem.W.codeIn K cd_BadNumber_i "BadNumber.__init__" = true) (ki_BadNumber_i : PySem.W.keepIn K (.ref a_BadNumber_i) = true)
    {od_BadRow_i an_BadRow_i : Option Addr} {sl_BadRow_i : Array (Option Value)} {oc_BadRow_i kV_BadRow_i dc_BadRow_i pm_BadRow_i cd_BadRow_i ct_BadRow_i : Value} {a_BadRow_i : Addr}
    (i_BadRow : PySem.W.findIn K (.ref 252) "__init__" = some (some (.ref a_BadRow_i))) (t_BadRow_i : PySem.W.typeIn K (.ref a_BadRow_i) = some (.type "function")) (l_BadRow_i : K.lookup a_BadRow_i = some ⟨oc_BadRow_i, od_BadRow_i, .func (PySem.W.fnOf "__init__" "BadRow.__init__" (defArgs s_BadRow_i) (defBody s_BadRow_i) (defScope s_BadRow_i) .none kV_BadRow_i dc_BadRow_i pm_BadRow_i an_BadRow_i cd_BadRow_i ct_BadRow_i), sl_BadRow_i⟩) (c_BadRow_i : PySem.W.codeIn K cd_BadRow_i "BadRow.__init__" = true) (ki_BadRow_i : PySem.W.keepIn K (.ref a_BadRow_i) = true)
    {od_BadRule_i an_BadRule_i : Option Addr} {sl_BadRule_i : Array (Option Value)} {oc_BadRule_i kV_BadRule_i dc_BadRule_i pm_BadRule_i cd_BadRule_i ct_BadRule_i : Value} {a_BadRule_i : Addr}
    (i_BadRule : PySem.W.findIn K (.ref 271) "__init__" = some (some (.ref a_BadRule_i))) (t_BadRule_i : PySem.W.typeIn K (.ref a_BadRule_i) = some (.type "function")) (l_BadRule_i : K.lookup a_BadRule_i = some ⟨oc_BadRule_i, od_BadRule_i, .func (PySem.W.fnOf "__init__" "BadRule.__init__" (defArgs s_BadRule_i) (defBody s_BadRule_i) (defScope s_BadRule_i) .none kV_BadRule_i dc_BadRule_i pm_BadRule_i an_BadRule_i cd_BadRule_i ct_BadRule_i), sl_BadRule_i⟩) (c_BadRule_i : PySem.W.codeIn K cd_BadRule_i "BadRule.__init__" = true) (ki_BadRule_i : PySem.W.keepIn K (.ref a_BadRule_i) = true)
    {od_Rising_i an_Rising_i : Option Addr} {sl_Rising_i : Array (Option Value)} {oc_Rising_i kV_Rising_i dc_Rising_i pm_Rising_i cd_Rising_i ct_Rising_i : Value} {a_Rising_i : Addr}
    (i_Rising : PySem.W.findIn K (.ref 290) "__init__" = some (some (.ref a_Rising_i))) (t_Rising_i : PySem.W.typeIn K (.ref a_Rising_i) = some (.type "function")) (l_Rising_i : K.lookup a_Rising_i = some ⟨oc_Rising_i, od_Rising_i, .func (PySem.W.fnOf "__init__" "Rising.__init__" (defArgs s_Rising_i) (defBody s_Rising_i) (defScope s_Rising_i) .none kV_Rising_i dc_Rising_i pm_Rising_i an_Rising_i cd_Rising_i ct_Rising_i), sl_Rising_i⟩) (c_Rising_i : PySem.W.codeIn K cd_Rising_i "Rising.__init__" = true) (ki_Rising_i : PySem.W.keepIn K (.ref a_Rising_i) = true)
    {od_Unknown_i an_Unknown_i : Option Addr} {sl_Unknown_i : Array (Option Value)} {oc_Unknown_i kV_Unknown_i dc_Unknown_i pm_Unknown_i cd_Unknown_i ct_Unknown_i : Value} {a_Unknown_i : Addr}
    (i_Unknown : PySem.W.findIn K (.ref 309) "__init__" = some (some (.ref a_Unknown_i))) (t_Unknown_i : PySem.W.typeIn K (.ref a_Unknown_i) = some (.type "function")) (l_Unknown_i : K.lookup a_Unknown_i = some ⟨oc_Unknown_i, od_Unknown_i, .func (PySem.W.fnOf "__init__" "Unknown.__init__" (defArgs s_Unknown_i) (defBody s_Unknown_i) (defScope s_Unknown_i) .none kV_Unknown_i dc_Unknown_i pm_Unknown_i an_Unknown_i cd_Unknown_i ct_Unknown_i), sl_Unknown_i⟩) (c_Unknown_i : PySem.W.codeIn K cd_Unknown_i "Unknown.__init__" = true) (ki_Unknown_i : PySem.W.keepIn K (.ref a_Unknown_i) = true)
    {od_Repeated_i an_Repeated_i : Option Addr} {sl_Repeated_i : Array (Option Value)} {oc_Repeated_i kV_Repeated_i dc_Repeated_i pm_Repeated_i cd_Repeated_i ct_Repeated_i : Value} {a_Repeated_i : Addr}
    (i_Repeated : PySem.W.findIn K (.ref 328) "__init__" = some (some (.ref a_Repeated_i))) (t_Repeated_i : PySem.W.typeIn K (.ref a_Repeated_i) = some (.type "function")) (l_Repeated_i : K.lookup a_Repeated_i = some ⟨oc_Repeated_i, od_Repeated_i, .func (PySem.W.fnOf "__init__" "Repeated.__init__" (defArgs s_Repeated_i) (defBody s_Repeated_i) (defScope s_Repeated_i) .none kV_Repeated_i dc_Repeated_i pm_Repeated_i an_Repeated_i cd_Repeated_i ct_Repeated_i), sl_Repeated_i⟩) (c_Repeated_i : PySem.W.codeIn K cd_Repeated_i "Repeated.__init__" = true) (ki_Repeated_i : PySem.W.keepIn K (.ref a_Repeated_i) = true)
    {od_BadText_i an_BadText_i : Option Addr} {sl_BadText_i : Array (Option Value)} {oc_BadText_i kV_BadText_i dc_BadText_i pm_BadText_i cd_BadText_i ct_BadText_i : Value} {a_BadText_i : Addr}
    (i_BadText : PySem.W.findIn K (.ref 347) "__init__" = some (some (.ref a_BadText_i))) (t_BadText_i : PySem.W.typeIn K (.ref a_BadText_i) = some (.type "function")) (l_BadText_i : K.lookup a_BadText_i = some ⟨oc_BadText_i, od_BadText_i, .func (PySem.W.fnOf "__init__" "BadText.__init__" (defArgs s_BadText_i) (defBody s_BadText_i) (defScope s_BadText_i) .none kV_BadText_i dc_BadText_i pm_BadText_i an_BadText_i cd_BadText_i ct_BadText_i), sl_BadText_i⟩) (c_BadText_i : PySem.W.codeIn K cd_BadText_i "BadText.__init__" = true) (ki_BadText_i : PySem.W.keepIn K (.ref a_BadText_i) = true)
    {od_BadStep_i an_BadStep_i : Option Addr} {sl_BadStep_i : Array (Option Value)} {oc_BadStep_i kV_BadStep_i dc_BadStep_i pm_BadStep_i cd_BadStep_i ct_BadStep_i : Value} {a_BadStep_i : Addr}
    (i_BadStep : PySem.W.findIn K (.ref 366) "__init__" = some (some (.ref a_BadStep_i))) (t_BadStep_i : PySem.W.typeIn K (.ref a_BadStep_i) = some (.type "function")) (l_BadStep_i : K.lookup a_BadStep_i = some ⟨oc_BadStep_i, od_BadStep_i, .func (PySem.W.fnOf "__init__" "BadStep.__init__" (defArgs s_BadStep_i) (defBody s_BadStep_i) (defScope s_BadStep_i) .none kV_BadStep_i dc_BadStep_i pm_BadStep_i an_BadStep_i cd_BadStep_i ct_BadStep_i), sl_BadStep_i⟩) (c_BadStep_i : PySem.W.codeIn K cd_BadStep_i "BadStep.__init__" = true) (ki_BadStep_i : PySem.W.keepIn K (.ref a_BadStep_i) = true)
    {od_BadSquare_i an_BadSquare_i : Option Addr} {sl_BadSquare_i : Array (Option Value)} {oc_BadSquare_i kV_BadSquare_i dc_BadSquare_i pm_BadSquare_i cd_BadSquare_i ct_BadSquare_i : Value} {a_BadSquare_i : Addr}
    (i_BadSquare : PySem.W.findIn K (.ref 385) "__init__" = some (some (.ref a_BadSquare_i))) (t_BadSquare_i : PySem.W.typeIn K (.ref a_BadSquare_i) = some (.type "function")) (l_BadSquare_i : K.lookup a_BadSquare_i = some ⟨oc_BadSquare_i, od_BadSquare_i, .func (PySem.W.fnOf "__init__" "BadSquare.__init__" (defArgs s_BadSquare_i) (defBody s_BadSquare_i) (defScope s_BadSquare_i) .none kV_BadSquare_i dc_BadSquare_i pm_BadSquare_i an_BadSquare_i cd_BadSquare_i ct_BadSquare_i), sl_BadSquare_i⟩) (c_BadSquare_i : PySem.W.codeIn K cd_BadSquare_i "BadSquare.__init__" = true) (ki_BadSquare_i : PySem.W.keepIn K (.ref a_BadSquare_i) = true)
    {od_BadMove_i an_BadMove_i : Option Addr} {sl_BadMove_i : Array (Option Value)} {oc_BadMove_i kV_BadMove_i dc_BadMove_i pm_BadMove_i cd_BadMove_i ct_BadMove_i : Value} {a_BadMove_i : Addr}
    (i_BadMove : PySem.W.findIn K (.ref 404) "__init__" = some (some (.ref a_BadMove_i))) (t_BadMove_i : PySem.W.typeIn K (.ref a_BadMove_i) = some (.type "function")) (l_BadMove_i : K.lookup a_BadMove_i = some ⟨oc_BadMove_i, od_BadMove_i, .func (PySem.W.fnOf "__init__" "BadMove.__init__" (defArgs s_BadMove_i) (defBody s_BadMove_i) (defScope s_BadMove_i) .none kV_BadMove_i dc_BadMove_i pm_BadMove_i an_BadMove_i cd_BadMove_i ct_BadMove_i), sl_BadMove_i⟩) (c_BadMove_i : PySem.W.codeIn K cd_BadMove_i "BadMove.__init__" = true) (ki_BadMove_i : PySem.W.keepIn K (.ref a_BadMove_i) = true)
    {od_BadLog_i an_BadLog_i : Option Addr} {sl_BadLog_i : Array (Option Value)} {oc_BadLog_i kV_BadLog_i dc_BadLog_i pm_BadLog_i cd_BadLog_i ct_BadLog_i : Value} {a_BadLog_i : Addr}
    (i_BadLog : PySem.W.findIn K (.ref 423) "__init__" = some (some (.ref a_BadLog_i))) (t_BadLog_i : PySem.W.typeIn K (.ref a_BadLog_i) = some (.type "function")) (l_BadLog_i : K.lookup a_BadLog_i = some ⟨oc_BadLog_i, od_BadLog_i, .func (PySem.W.fnOf "__init__" "BadLog.__init__" (defArgs s_BadLog_i) (defBody s_BadLog_i) (defScope s_BadLog_i) .none kV_BadLog_i dc_BadLog_i pm_BadLog_i an_BadLog_i cd_BadLog_i ct_BadLog_i), sl_BadLog_i⟩) (c_BadLog_i : PySem.W.codeIn K cd_BadLog_i "BadLog.__init__" = true) (ki_BadLog_i : PySem.W.keepIn K (.ref a_BadLog_i) = true)
    {od_BadChange_i an_BadChange_i : Option Addr} {sl_BadChange_i : Array (Option Value)} {oc_BadChange_i kV_BadChange_i dc_BadChange_i pm_BadChange_i cd_BadChange_i ct_BadChange_i : Value} {a_BadChange_i : Addr}
    (i_BadChange : PySem.W.findIn K (.ref 442) "__init__" = some (some (.ref a_BadChange_i))) (t_BadChange_i : PySem.W.typeIn K (.ref a_BadChange_i) = some (.type "function")) (l_BadChange_i : K.lookup a_BadChange_i = some ⟨oc_BadChange_i, od_BadChange_i, .func (PySem.W.fnOf "__init__" "BadChange.__init__" (defArgs s_BadChange_i) (defBody s_BadChange_i) (defScope s_BadChange_i) .none kV_BadChange_i dc_BadChange_i pm_BadChange_i an_BadChange_i cd_BadChange_i ct_BadChange_i), sl_BadChange_i⟩) (c_BadChange_i : PySem.W.codeIn K cd_BadChange_i "BadChange.__init__" = true) (ki_BadChange_i : PySem.W.keepIn K (.ref a_BadChange_i) = true)
    {od_Unjoined_i an_Unjoined_i : Option Addr} {sl_Unjoined_i : Array (Option Value)} {oc_Unjoined_i kV_Unjoined_i dc_Unjoined_i pm_Unjoined_i cd_Unjoined_i ct_Unjoined_i : Value} {a_Unjoined_i : Addr}
    (i_Unjoined : PySem.W.findIn K (.ref 461) "__init__" = some (some (.ref a_Unjoined_i))) (t_Unjoined_i : PySem.W.typeIn K (.ref a_Unjoined_i) = some (.type "function")) (l_Unjoined_i : K.lookup a_Unjoined_i = some ⟨oc_Unjoined_i, od_Unjoined_i, .func (PySem.W.fnOf "__init__" "Unjoined.__init__" (defArgs s_Unjoined_i) (defBody s_Unjoined_i) (defScope s_Unjoined_i) .none kV_Unjoined_i dc_Unjoined_i pm_Unjoined_i an_Unjoined_i cd_Unjoined_i ct_Unjoined_i), sl_Unjoined_i⟩) (c_Unjoined_i : PySem.W.codeIn K cd_Unjoined_i "Unjoined.__init__" = true) (ki_Unjoined_i : PySem.W.keepIn K (.ref a_Unjoined_i) = true)
    {od_Open_i an_Open_i : Option Addr} {sl_Open_i : Array (Option Value)} {oc_Open_i kV_Open_i dc_Open_i pm_Open_i cd_Open_i ct_Open_i : Value} {a_Open_i : Addr}
    (i_Open : PySem.W.findIn K (.ref 480) "__init__" = some (some (.ref a_Open_i))) (t_Open_i : PySem.W.typeIn K (.ref a_Open_i) = some (.type "function")) (l_Open_i : K.lookup a_Open_i = some ⟨oc_Open_i, od_Open_i, .func (PySem.W.fnOf "__init__" "Open.__init__" (defArgs s_Open_i) (defBody s_Open_i) (defScope s_Open_i) .none kV_Open_i dc_Open_i pm_Open_i an_Open_i cd_Open_i ct_Open_i), sl_Open_i⟩) (c_Open_i : PySem.W.codeIn K cd_Open_i "Open.__init__" = true) (ki_Open_i : PySem.W.keepIn K (.ref a_Open_i) = true)
    {od_Lacking_i an_Lacking_i : Option Addr} {sl_Lacking_i : Array (Option Value)} {oc_Lacking_i kV_Lacking_i dc_Lacking_i pm_Lacking_i cd_Lacking_i ct_Lacking_i : Value} {a_Lacking_i : Addr}
    (i_Lacking : PySem.W.findIn K (.ref 499) "__init__" = some (some (.ref a_Lacking_i))) (t_Lacking_i : PySem.W.typeIn K (.ref a_Lacking_i) = some (.type "function")) (l_Lacking_i : K.lookup a_Lacking_i = some ⟨oc_Lacking_i, od_Lacking_i, .func (PySem.W.fnOf "__init__" "Lacking.__init__" (defArgs s_Lacking_i) (defBody s_Lacking_i) (defScope s_Lacking_i) .none kV_Lacking_i dc_Lacking_i pm_Lacking_i an_Lacking_i cd_Lacking_i ct_Lacking_i), sl_Lacking_i⟩) (c_Lacking_i : PySem.W.codeIn K cd_Lacking_i "Lacking.__init__" = true) (ki_Lacking_i : PySem.W.keepIn K (.ref a_Lacking_i) = true)
    {od_Stopped_i an_Stopped_i : Option Addr} {sl_Stopped_i : Array (Option Value)} {oc_Stopped_i kV_Stopped_i dc_Stopped_i pm_Stopped_i cd_Stopped_i ct_Stopped_i : Value} {a_Stopped_i : Addr}
    (i_Stopped : PySem.W.findIn K (.ref 518) "__init__" = some (some (.ref a_Stopped_i))) (t_Stopped_i : PySem.W.typeIn K (.ref a_Stopped_i) = some (.type "function")) (l_Stopped_i : K.lookup a_Stopped_i = some ⟨oc_Stopped_i, od_Stopped_i, .func (PySem.W.fnOf "__init__" "Stopped.__init__" (defArgs s_Stopped_i) (defBody s_Stopped_i) (defScope s_Stopped_i) .none kV_Stopped_i dc_Stopped_i pm_Stopped_i an_Stopped_i cd_Stopped_i ct_Stopped_i), sl_Stopped_i⟩) (c_Stopped_i : PySem.W.codeIn K cd_Stopped_i "Stopped.__init__" = true) (ki_Stopped_i : PySem.W.keepIn K (.ref a_Stopped_i) = true)
    {od_BadEntry_i an_BadEntry_i : Option Addr} {sl_BadEntry_i : Array (Option Value)} {oc_BadEntry_i kV_BadEntry_i dc_BadEntry_i pm_BadEntry_i cd_BadEntry_i ct_BadEntry_i : Value} {a_BadEntry_i : Addr}
    (i_BadEntry : PySem.W.findIn K (.ref 537) "__init__" = some (some (.ref a_BadEntry_i))) (t_BadEntry_i : PySem.W.typeIn K (.ref a_BadEntry_i) = some (.type "function")) (l_BadEntry_i : K.lookup a_BadEntry_i = some ⟨oc_BadEntry_i, od_BadEntry_i, .func (PySem.W.fnOf "__init__" "BadEntry.__init__" (defArgs s_BadEntry_i) (defBody s_BadEntry_i) (defScope s_BadEntry_i) .none kV_BadEntry_i dc_BadEntry_i pm_BadEntry_i an_BadEntry_i cd_BadEntry_i ct_BadEntry_i), sl_BadEntry_i⟩) (c_BadEntry_i : PySem.W.codeIn K cd_BadEntry_i "BadEntry.__init__" = true) (ki_BadEntry_i : PySem.W.keepIn K (.ref a_BadEntry_i) = true) :
    ∃ fd : FuncData, (∀ (s : Shared) (v : Value), BindsTo s fd ⟨[v], []⟩ [("script", v)]) ∧ ∀ base : Heap, K.In base → base.Ns mainGlobals mg → FnOk l.prog w K mg base (L2.CX l.prog w) 12 fa fd ["script"] (spF K f_law) := by
  have e := hfa.symm.trans (PySem.W.mg_of X G a33)
  obtain rfl : fa = a_law := by
    cases e
    rfl
  have X_WayfillError : Xk K 24 [] := ⟨⟨_, _, _, _, _, _, _, _, _, _, _, _, _, _, _, L_WayfillError, rfl⟩, ke_WayfillError, ga_WayfillError, gg_WayfillError, gc_WayfillError, sa_WayfillError, sg, tk⟩
  have X_BoundError : Xk K 37 [24] := ⟨⟨_, _, _, _, _, _, _, _, _, _, _, _, _, _, _, L_BoundError, rfl⟩, ke_BoundError, ga_BoundError, gg_BoundError, gc_BoundError, sa_BoundError, sg, tk⟩
  have X_TooLong : Xk K 49 [37, 24] := ⟨⟨_, _, _, _, _, _, _, _, _, _, _, _, _, _, _, L_TooLong, rfl⟩, ke_TooLong, ga_TooLong, gg_TooLong, gc_TooLong, sa_TooLong, sg, tk⟩
  have X_TooMany : Xk K 61 [37, 24] := ⟨⟨_, _, _, _, _, _, _, _, _, _, _, _, _, _, _, L_TooMany, rfl⟩, ke_TooMany, ga_TooMany, gg_TooMany, gc_TooMany, sa_TooMany, sg, tk⟩
  have X_BadWeights : Xk K 73 [24] := ⟨⟨_, _, _, _, _, _, _, _, _, _, _, _, _, _, _, L_BadWeights, rfl⟩, ke_BadWeights, ga_BadWeights, gg_BadWeights, gc_BadWeights, sa_BadWeights, sg, tk⟩
  have X_BadEnds : Xk K 85 [24] := ⟨⟨_, _, _, _, _, _, _, _, _, _, _, _, _, _, _, L_BadEnds, rfl⟩, ke_BadEnds, ga_BadEnds, gg_BadEnds, gc_BadEnds, sa_BadEnds, sg, tk⟩
  have X_BadFare : Xk K 97 [24] := ⟨⟨_, _, _, _, _, _, _, _, _, _, _, _, _, _, _, L_BadFare, rfl⟩, ke_BadFare, ga_BadFare, gg_BadFare, gc_BadFare, sa_BadFare, sg, tk⟩
  have X_BadTranslation : Xk K 109 [24] := ⟨⟨_, _, _, _, _, _, _, _, _, _, _, _, _, _, _, L_BadTranslation, rfl⟩, ke_BadTranslation, ga_BadTranslation, gg_BadTranslation, gc_BadTranslation, sa_BadTranslation, sg, tk⟩
  have X_BadTable : Xk K 121 [24] := ⟨⟨_, _, _, _, _, _, _, _, _, _, _, _, _, _, _, L_BadTable, rfl⟩, ke_BadTable, ga_BadTable, gg_BadTable, gc_BadTable, sa_BadTable, sg, tk⟩
  have X_BadSum : Xk K 133 [24] := ⟨⟨_, _, _, _, _, _, _, _, _, _, _, _, _, _, _, L_BadSum, rfl⟩, ke_BadSum, ga_BadSum, gg_BadSum, gc_BadSum, sa_BadSum, sg, tk⟩
  have X_BadOverlap : Xk K 145 [24] := ⟨⟨_, _, _, _, _, _, _, _, _, _, _, _, _, _, _, L_BadOverlap, rfl⟩, ke_BadOverlap, ga_BadOverlap, gg_BadOverlap, gc_BadOverlap, sa_BadOverlap, sg, tk⟩
  have X_NothingToUndo : Xk K 157 [24] := ⟨⟨_, _, _, _, _, _, _, _, _, _, _, _, _, _, _, L_NothingToUndo, rfl⟩, ke_NothingToUndo, ga_NothingToUndo, gg_NothingToUndo, gc_NothingToUndo, sa_NothingToUndo, sg, tk⟩
  have X_BadLetters : Xk K 176 [24] := ⟨⟨_, _, _, _, _, _, _, _, _, _, _, _, _, _, _, L_BadLetters, rfl⟩, ke_BadLetters, ga_BadLetters, gg_BadLetters, gc_BadLetters, sa_BadLetters, sg, tk⟩
  have X_BadWord : Xk K 195 [24] := ⟨⟨_, _, _, _, _, _, _, _, _, _, _, _, _, _, _, L_BadWord, rfl⟩, ke_BadWord, ga_BadWord, gg_BadWord, gc_BadWord, sa_BadWord, sg, tk⟩
  have X_BadName : Xk K 214 [24] := ⟨⟨_, _, _, _, _, _, _, _, _, _, _, _, _, _, _, L_BadName, rfl⟩, ke_BadName, ga_BadName, gg_BadName, gc_BadName, sa_BadName, sg, tk⟩
  have X_BadNumber : Xk K 233 [24] := ⟨⟨_, _, _, _, _, _, _, _, _, _, _, _, _, _, _, L_BadNumber, rfl⟩, ke_BadNumber, ga_BadNumber, gg_BadNumber, gc_BadNumber, sa_BadNumber, sg, tk⟩
  have X_BadRow : Xk K 252 [24] := ⟨⟨_, _, _, _, _, _, _, _, _, _, _, _, _, _, _, L_BadRow, rfl⟩, ke_BadRow, ga_BadRow, gg_BadRow, gc_BadRow, sa_BadRow, sg, tk⟩
  have X_BadRule : Xk K 271 [24] := ⟨⟨_, _, _, _, _, _, _, _, _, _, _, _, _, _, _, L_BadRule, rfl⟩, ke_BadRule, ga_BadRule, gg_BadRule, gc_BadRule, sa_BadRule, sg, tk⟩
  have X_Rising : Xk K 290 [24] := ⟨⟨_, _, _, _, _, _, _, _, _, _, _, _, _, _, _, L_Rising, rfl⟩, ke_Rising, ga_Rising, gg_Rising, gc_Rising, sa_Rising, sg, tk⟩
  have X_Unknown : Xk K 309 [24] := ⟨⟨_, _, _, _, _, _, _, _, _, _, _, _, _, _, _, L_Unknown, rfl⟩, ke_Unknown, ga_Unknown, gg_Unknown, gc_Unknown, sa_Unknown, sg, tk⟩
  have X_Repeated : Xk K 328 [24] := ⟨⟨_, _, _, _, _, _, _, _, _, _, _, _, _, _, _, L_Repeated, rfl⟩, ke_Repeated, ga_Repeated, gg_Repeated, gc_Repeated, sa_Repeated, sg, tk⟩
  have X_BadText : Xk K 347 [24] := ⟨⟨_, _, _, _, _, _, _, _, _, _, _, _, _, _, _, L_BadText, rfl⟩, ke_BadText, ga_BadText, gg_BadText, gc_BadText, sa_BadText, sg, tk⟩
  have X_BadStep : Xk K 366 [24] := ⟨⟨_, _, _, _, _, _, _, _, _, _, _, _, _, _, _, L_BadStep, rfl⟩, ke_BadStep, ga_BadStep, gg_BadStep, gc_BadStep, sa_BadStep, sg, tk⟩
  have X_BadSquare : Xk K 385 [24] := ⟨⟨_, _, _, _, _, _, _, _, _, _, _, _, _, _, _, L_BadSquare, rfl⟩, ke_BadSquare, ga_BadSquare, gg_BadSquare, gc_BadSquare, sa_BadSquare, sg, tk⟩
  have X_BadMove : Xk K 404 [24] := ⟨⟨_, _, _, _, _, _, _, _, _, _, _, _, _, _, _, L_BadMove, rfl⟩, ke_BadMove, ga_BadMove, gg_BadMove, gc_BadMove, sa_BadMove, sg, tk⟩
  have X_BadLog : Xk K 423 [24] := ⟨⟨_, _, _, _, _, _, _, _, _, _, _, _, _, _, _, L_BadLog, rfl⟩, ke_BadLog, ga_BadLog, gg_BadLog, gc_BadLog, sa_BadLog, sg, tk⟩
  have X_BadChange : Xk K 442 [24] := ⟨⟨_, _, _, _, _, _, _, _, _, _, _, _, _, _, _, L_BadChange, rfl⟩, ke_BadChange, ga_BadChange, gg_BadChange, gc_BadChange, sa_BadChange, sg, tk⟩
  have X_Unjoined : Xk K 461 [24] := ⟨⟨_, _, _, _, _, _, _, _, _, _, _, _, _, _, _, L_Unjoined, rfl⟩, ke_Unjoined, ga_Unjoined, gg_Unjoined, gc_Unjoined, sa_Unjoined, sg, tk⟩
  have X_Open : Xk K 480 [24] := ⟨⟨_, _, _, _, _, _, _, _, _, _, _, _, _, _, _, L_Open, rfl⟩, ke_Open, ga_Open, gg_Open, gc_Open, sa_Open, sg, tk⟩
  have X_Lacking : Xk K 499 [24] := ⟨⟨_, _, _, _, _, _, _, _, _, _, _, _, _, _, _, L_Lacking, rfl⟩, ke_Lacking, ga_Lacking, gg_Lacking, gc_Lacking, sa_Lacking, sg, tk⟩
  have X_Stopped : Xk K 518 [24] := ⟨⟨_, _, _, _, _, _, _, _, _, _, _, _, _, _, _, L_Stopped, rfl⟩, ke_Stopped, ga_Stopped, gg_Stopped, gc_Stopped, sa_Stopped, sg, tk⟩
  have X_BadEntry : Xk K 537 [24] := ⟨⟨_, _, _, _, _, _, _, _, _, _, _, _, _, _, _, L_BadEntry, rfl⟩, ke_BadEntry, ga_BadEntry, gg_BadEntry, gc_BadEntry, sa_BadEntry, sg, tk⟩
  have xt : tX.Ok K := xall_of (.cons X_WayfillError (.cons X_BoundError (.cons X_TooLong (.cons X_TooMany (.cons X_BadWeights (.cons X_BadEnds (.cons X_BadFare (.cons X_BadTranslation (.cons X_BadTable (.cons X_BadSum (.cons X_BadOverlap (.cons X_NothingToUndo (.cons X_BadLetters (.cons X_BadWord (.cons X_BadName (.cons X_BadNumber (.cons X_BadRow (.cons X_BadRule (.cons X_Rising (.cons X_Unknown (.cons X_Repeated (.cons X_BadText (.cons X_BadStep (.cons X_BadSquare (.cons X_BadMove (.cons X_BadLog (.cons X_BadChange (.cons X_Unjoined (.cons X_Open (.cons X_Lacking (.cons X_Stopped (.cons X_BadEntry .nil))))))))))))))))))))))))))))))))
  have T : Bt K mg := ⟨PySem.W.mg_none_of X G z_ValueError, PySem.W.mg_none_of X G z_abs, PySem.W.mg_none_of X G z_all, PySem.W.mg_none_of X G z_bool, PySem.W.mg_none_of X G z_int, PySem.W.mg_none_of X G z_isinstance, PySem.W.mg_none_of X G z_len, PySem.W.mg_none_of X G z_list, PySem.W.mg_none_of X G z_range, PySem.W.mg_none_of X G z_set, PySem.W.mg_none_of X G z_str, PySem.W.mg_none_of X G z_tuple, ⟨_, PySem.W.mg_of X G g_LETTERS⟩, ⟨_, PySem.W.mg_of X G g_MOVES⟩, ⟨_, PySem.W.mg_of X G g_OVERLAPS⟩, ⟨_, PySem.W.mg_of X G g_RULES⟩, ⟨_, PySem.W.mg_of X G g_SIDE⟩, ⟨_, PySem.W.mg_of X G g_SQUARES⟩, ⟨_, PySem.W.mg_of X G g_WAY⟩, ⟨_, PySem.W.mg_of X G g_WEIGHT⟩, ⟨_, PySem.W.mg_of X G g_WORD⟩, ⟨_, PySem.W.mg_of X G g_WORDS⟩, PySem.W.mg_of X G k_BadChange, PySem.W.mg_of X G k_BadEnds, PySem.W.mg_of X G k_BadEntry, PySem.W.mg_of X G k_BadFare, PySem.W.mg_of X G k_BadLetters, PySem.W.mg_of X G k_BadLog, PySem.W.mg_of X G k_BadMove, PySem.W.mg_of X G k_BadName, PySem.W.mg_of X G k_BadNumber, PySem.W.mg_of X G k_BadOverlap, PySem.W.mg_of X G k_BadRow, PySem.W.mg_of X G k_BadRule, PySem.W.mg_of X G k_BadSquare, PySem.W.mg_of X G k_BadStep, PySem.W.mg_of X G k_BadSum, PySem.W.mg_of X G k_BadTable, PySem.W.mg_of X G k_BadText, PySem.W.mg_of X G k_BadTranslation, PySem.W.mg_of X G k_BadWeights, PySem.W.mg_of X G k_BadWord, PySem.W.mg_of X G k_BoundError, PySem.W.mg_of X G k_Lacking, PySem.W.mg_of X G k_NothingToUndo, PySem.W.mg_of X G k_Open, PySem.W.mg_of X G k_Repeated, PySem.W.mg_of X G k_Rising, PySem.W.mg_of X G k_Stopped, PySem.W.mg_of X G k_TooLong, PySem.W.mg_of X G k_TooMany, PySem.W.mg_of X G k_Unjoined, PySem.W.mg_of X G k_Unknown, PySem.W.mg_of X G k_WayfillError, xt, q_BadEnds, q_BadFare, q_BadOverlap, q_BadSum, q_BadTable, q_BadTranslation, q_BadWeights, q_NothingToUndo, q_TooLong, q_TooMany, fun C {l} hC => nall_of (P := fun C => PySem.W.findIn K (.ref C) "at" = some none) (t := tX) (.cons no_WayfillError_at (.cons no_BoundError_at (.cons no_TooLong_at (.cons no_TooMany_at (.cons no_BadWeights_at (.cons no_BadEnds_at (.cons no_BadFare_at (.cons no_BadTranslation_at (.cons no_BadTable_at (.cons no_BadSum_at (.cons no_BadOverlap_at (.cons no_NothingToUndo_at (.cons no_BadLetters_at (.cons no_BadWord_at (.cons no_BadName_at (.cons no_BadNumber_at (.cons no_BadRow_at (.cons no_BadRule_at (.cons no_Rising_at (.cons no_Unknown_at (.cons no_Repeated_at (.cons no_BadText_at (.cons no_BadStep_at (.cons no_BadSquare_at (.cons no_BadMove_at (.cons no_BadLog_at (.cons no_BadChange_at (.cons no_Unjoined_at (.cons no_Open_at (.cons no_Lacking_at (.cons no_Stopped_at (.cons no_BadEntry_at .nil)))))))))))))))))))))))))))))))) hC, fun C {l} hC => nall_of (P := fun C => PySem.W.findIn K (.ref C) "name" = some none) (t := tX) (.cons no_WayfillError_name (.cons no_BoundError_name (.cons no_TooLong_name (.cons no_TooMany_name (.cons no_BadWeights_name (.cons no_BadEnds_name (.cons no_BadFare_name (.cons no_BadTranslation_name (.cons no_BadTable_name (.cons no_BadSum_name (.cons no_BadOverlap_name (.cons no_NothingToUndo_name (.cons no_BadLetters_name (.cons no_BadWord_name (.cons no_BadName_name (.cons no_BadNumber_name (.cons no_BadRow_name (.cons no_BadRule_name (.cons no_Rising_name (.cons no_Unknown_name (.cons no_Repeated_name (.cons no_BadText_name (.cons no_BadStep_name (.cons no_BadSquare_name (.cons no_BadMove_name (.cons no_BadLog_name (.cons no_BadChange_name (.cons no_Unjoined_name (.cons no_Open_name (.cons no_Lacking_name (.cons no_Stopped_name (.cons no_BadEntry_name .nil)))))))))))))))))))))))))))))))) hC, fun C {l} hC => nall_of (P := fun C => PySem.W.findIn K (.ref C) "number" = some none) (t := tX) (.cons no_WayfillError_number (.cons no_BoundError_number (.cons no_TooLong_number (.cons no_TooMany_number (.cons no_BadWeights_number (.cons no_BadEnds_number (.cons no_BadFare_number (.cons no_BadTranslation_number (.cons no_BadTable_number (.cons no_BadSum_number (.cons no_BadOverlap_number (.cons no_NothingToUndo_number (.cons no_BadLetters_number (.cons no_BadWord_number (.cons no_BadName_number (.cons no_BadNumber_number (.cons no_BadRow_number (.cons no_BadRule_number (.cons no_Rising_number (.cons no_Unknown_number (.cons no_Repeated_number (.cons no_BadText_number (.cons no_BadStep_number (.cons no_BadSquare_number (.cons no_BadMove_number (.cons no_BadLog_number (.cons no_BadChange_number (.cons no_Unjoined_number (.cons no_Open_number (.cons no_Lacking_number (.cons no_Stopped_number (.cons no_BadEntry_number .nil)))))))))))))))))))))))))))))))) hC, fun C {l} hC => nall_of (P := fun C => PySem.W.findIn K (.ref C) "one" = some none) (t := tX) (.cons no_WayfillError_one (.cons no_BoundError_one (.cons no_TooLong_one (.cons no_TooMany_one (.cons no_BadWeights_one (.cons no_BadEnds_one (.cons no_BadFare_one (.cons no_BadTranslation_one (.cons no_BadTable_one (.cons no_BadSum_one (.cons no_BadOverlap_one (.cons no_NothingToUndo_one (.cons no_BadLetters_one (.cons no_BadWord_one (.cons no_BadName_one (.cons no_BadNumber_one (.cons no_BadRow_one (.cons no_BadRule_one (.cons no_Rising_one (.cons no_Unknown_one (.cons no_Repeated_one (.cons no_BadText_one (.cons no_BadStep_one (.cons no_BadSquare_one (.cons no_BadMove_one (.cons no_BadLog_one (.cons no_BadChange_one (.cons no_Unjoined_one (.cons no_Open_one (.cons no_Lacking_one (.cons no_Stopped_one (.cons no_BadEntry_one .nil)))))))))))))))))))))))))))))))) hC, fun C {l} hC => nall_of (P := fun C => PySem.W.findIn K (.ref C) "other" = some none) (t := tX) (.cons no_WayfillError_other (.cons no_BoundError_other (.cons no_TooLong_other (.cons no_TooMany_other (.cons no_BadWeights_other (.cons no_BadEnds_other (.cons no_BadFare_other (.cons no_BadTranslation_other (.cons no_BadTable_other (.cons no_BadSum_other (.cons no_BadOverlap_other (.cons no_NothingToUndo_other (.cons no_BadLetters_other (.cons no_BadWord_other (.cons no_BadName_other (.cons no_BadNumber_other (.cons no_BadRow_other (.cons no_BadRule_other (.cons no_Rising_other (.cons no_Unknown_other (.cons no_Repeated_other (.cons no_BadText_other (.cons no_BadStep_other (.cons no_BadSquare_other (.cons no_BadMove_other (.cons no_BadLog_other (.cons no_BadChange_other (.cons no_Unjoined_other (.cons no_Open_other (.cons no_Lacking_other (.cons no_Stopped_other (.cons no_BadEntry_other .nil)))))))))))))))))))))))))))))))) hC, fun C {l} hC => nall_of (P := fun C => PySem.W.findIn K (.ref C) "path" = some none) (t := tX) (.cons no_WayfillError_path (.cons no_BoundError_path (.cons no_TooLong_path (.cons no_TooMany_path (.cons no_BadWeights_path (.cons no_BadEnds_path (.cons no_BadFare_path (.cons no_BadTranslation_path (.cons no_BadTable_path (.cons no_BadSum_path (.cons no_BadOverlap_path (.cons no_NothingToUndo_path (.cons no_BadLetters_path (.cons no_BadWord_path (.cons no_BadName_path (.cons no_BadNumber_path (.cons no_BadRow_path (.cons no_BadRule_path (.cons no_Rising_path (.cons no_Unknown_path (.cons no_Repeated_path (.cons no_BadText_path (.cons no_BadStep_path (.cons no_BadSquare_path (.cons no_BadMove_path (.cons no_BadLog_path (.cons no_BadChange_path (.cons no_Unjoined_path (.cons no_Open_path (.cons no_Lacking_path (.cons no_Stopped_path (.cons no_BadEntry_path .nil)))))))))))))))))))))))))))))))) hC, fun C {l} hC => nall_of (P := fun C => PySem.W.findIn K (.ref C) "text" = some none) (t := tX) (.cons no_WayfillError_text (.cons no_BoundError_text (.cons no_TooLong_text (.cons no_TooMany_text (.cons no_BadWeights_text (.cons no_BadEnds_text (.cons no_BadFare_text (.cons no_BadTranslation_text (.cons no_BadTable_text (.cons no_BadSum_text (.cons no_BadOverlap_text (.cons no_NothingToUndo_text (.cons no_BadLetters_text (.cons no_BadWord_text (.cons no_BadName_text (.cons no_BadNumber_text (.cons no_BadRow_text (.cons no_BadRule_text (.cons no_Rising_text (.cons no_Unknown_text (.cons no_Repeated_text (.cons no_BadText_text (.cons no_BadStep_text (.cons no_BadSquare_text (.cons no_BadMove_text (.cons no_BadLog_text (.cons no_BadChange_text (.cons no_Unjoined_text (.cons no_Open_text (.cons no_Lacking_text (.cons no_Stopped_text (.cons no_BadEntry_text .nil)))))))))))))))))))))))))))))))) hC, fun C {l} hC => nall_of (P := fun C => PySem.W.findIn K (.ref C) "top" = some none) (t := tX) (.cons no_WayfillError_top (.cons no_BoundError_top (.cons no_TooLong_top (.cons no_TooMany_top (.cons no_BadWeights_top (.cons no_BadEnds_top (.cons no_BadFare_top (.cons no_BadTranslation_top (.cons no_BadTable_top (.cons no_BadSum_top (.cons no_BadOverlap_top (.cons no_NothingToUndo_top (.cons no_BadLetters_top (.cons no_BadWord_top (.cons no_BadName_top (.cons no_BadNumber_top (.cons no_BadRow_top (.cons no_BadRule_top (.cons no_Rising_top (.cons no_Unknown_top (.cons no_Repeated_top (.cons no_BadText_top (.cons no_BadStep_top (.cons no_BadSquare_top (.cons no_BadMove_top (.cons no_BadLog_top (.cons no_BadChange_top (.cons no_Unjoined_top (.cons no_Open_top (.cons no_Lacking_top (.cons no_Stopped_top (.cons no_BadEntry_top .nil)))))))))))))))))))))))))))))))) hC⟩
  have Fi_BadLetters := fun_mk (st := s_BadLetters_i) l_BadLetters_i c_BadLetters_i ki_BadLetters_i
  have Di_BadLetters : Dfi K 176 "BadLetters.__init__" s_BadLetters_i a_BadLetters_i _ P_BadLetters_i := ⟨Fi_BadLetters, i_BadLetters, t_BadLetters_i, Fi_BadLetters.binds (ps := P_BadLetters_i) fun _ _ _ _ _ _ us hl => by obtain ⟨_, _, rfl⟩ := lenOf2 hl; rfl⟩
  have Fi_BadWord := fun_mk (st := s_BadWord_i) l_BadWord_i c_BadWord_i ki_BadWord_i
  have Di_BadWord : Dfi K 195 "BadWord.__init__" s_BadWord_i a_BadWord_i _ P_BadWord_i := ⟨Fi_BadWord, i_BadWord, t_BadWord_i, Fi_BadWord.binds (ps := P_BadWord_i) fun _ _ _ _ _ _ us hl => by obtain ⟨_, _, rfl⟩ := lenOf2 hl; rfl⟩
  have Fi_BadName := fun_mk (st := s_BadName_i) l_BadName_i c_BadName_i ki_BadName_i
  have Di_BadName : Dfi K 214 "BadName.__init__" s_BadName_i a_BadName_i _ P_BadName_i := ⟨Fi_BadName, i_BadName, t_BadName_i, Fi_BadName.binds (ps := P_BadName_i) fun _ _ _ _ _ _ us hl => by obtain ⟨_, _, rfl⟩ := lenOf2 hl; rfl⟩
  have Fi_BadNumber := fun_mk (st := s_BadNumber_i) l_BadNumber_i c_BadNumber_i ki_BadNumber_i
  have Di_BadNumber : Dfi K 233 "BadNumber.__init__" s_BadNumber_i a_BadNumber_i _ P_BadNumber_i := ⟨Fi_BadNumber, i_BadNumber, t_BadNumber_i, Fi_BadNumber.binds (ps := P_BadNumber_i) fun _ _ _ _ _ _ us hl => by obtain ⟨_, _, rfl⟩ := lenOf2 hl; rfl⟩
  have Fi_BadRow := fun_mk (st := s_BadRow_i) l_BadRow_i c_BadRow_i ki_BadRow_i
  have Di_BadRow : Dfi K 252 "BadRow.__init__" s_BadRow_i a_BadRow_i _ P_BadRow_i := ⟨Fi_BadRow, i_BadRow, t_BadRow_i, Fi_BadRow.binds (ps := P_BadRow_i) fun _ _ _ _ _ _ us hl => by obtain ⟨_, _, rfl⟩ := lenOf2 hl; rfl⟩
  have Fi_BadRule := fun_mk (st := s_BadRule_i) l_BadRule_i c_BadRule_i ki_BadRule_i
  have Di_BadRule : Dfi K 271 "BadRule.__init__" s_BadRule_i a_BadRule_i _ P_BadRule_i := ⟨Fi_BadRule, i_BadRule, t_BadRule_i, Fi_BadRule.binds (ps := P_BadRule_i) fun _ _ _ _ _ _ us hl => by obtain ⟨_, _, rfl⟩ := lenOf2 hl; rfl⟩
  have Fi_Rising := fun_mk (st := s_Rising_i) l_Rising_i c_Rising_i ki_Rising_i
  have Di_Rising : Dfi K 290 "Rising.__init__" s_Rising_i a_Rising_i _ P_Rising_i := ⟨Fi_Rising, i_Rising, t_Rising_i, Fi_Rising.binds (ps := P_Rising_i) fun _ _ _ _ _ _ us hl => by obtain ⟨_, _, rfl⟩ := lenOf2 hl; rfl⟩
  have Fi_Unknown := fun_mk (st := s_Unknown_i) l_Unknown_i c_Unknown_i ki_Unknown_i
  have Di_Unknown : Dfi K 309 "Unknown.__init__" s_Unknown_i a_Unknown_i _ P_Unknown_i := ⟨Fi_Unknown, i_Unknown, t_Unknown_i, Fi_Unknown.binds (ps := P_Unknown_i) fun _ _ _ _ _ _ us hl => by obtain ⟨_, _, rfl⟩ := lenOf2 hl; rfl⟩
  have Fi_Repeated := fun_mk (st := s_Repeated_i) l_Repeated_i c_Repeated_i ki_Repeated_i
  have Di_Repeated : Dfi K 328 "Repeated.__init__" s_Repeated_i a_Repeated_i _ P_Repeated_i := ⟨Fi_Repeated, i_Repeated, t_Repeated_i, Fi_Repeated.binds (ps := P_Repeated_i) fun _ _ _ _ _ _ us hl => by obtain ⟨_, _, rfl⟩ := lenOf2 hl; rfl⟩
  have Fi_BadText := fun_mk (st := s_BadText_i) l_BadText_i c_BadText_i ki_BadText_i
  have Di_BadText : Dfi K 347 "BadText.__init__" s_BadText_i a_BadText_i _ P_BadText_i := ⟨Fi_BadText, i_BadText, t_BadText_i, Fi_BadText.binds (ps := P_BadText_i) fun _ _ _ _ _ _ us hl => by obtain ⟨_, _, rfl⟩ := lenOf2 hl; rfl⟩
  have Fi_BadStep := fun_mk (st := s_BadStep_i) l_BadStep_i c_BadStep_i ki_BadStep_i
  have Di_BadStep : Dfi K 366 "BadStep.__init__" s_BadStep_i a_BadStep_i _ P_BadStep_i := ⟨Fi_BadStep, i_BadStep, t_BadStep_i, Fi_BadStep.binds (ps := P_BadStep_i) fun _ _ _ _ _ _ us hl => by obtain ⟨_, _, rfl⟩ := lenOf2 hl; rfl⟩
  have Fi_BadSquare := fun_mk (st := s_BadSquare_i) l_BadSquare_i c_BadSquare_i ki_BadSquare_i
  have Di_BadSquare : Dfi K 385 "BadSquare.__init__" s_BadSquare_i a_BadSquare_i _ P_BadSquare_i := ⟨Fi_BadSquare, i_BadSquare, t_BadSquare_i, Fi_BadSquare.binds (ps := P_BadSquare_i) fun _ _ _ _ _ _ us hl => by obtain ⟨_, _, rfl⟩ := lenOf2 hl; rfl⟩
  have Fi_BadMove := fun_mk (st := s_BadMove_i) l_BadMove_i c_BadMove_i ki_BadMove_i
  have Di_BadMove : Dfi K 404 "BadMove.__init__" s_BadMove_i a_BadMove_i _ P_BadMove_i := ⟨Fi_BadMove, i_BadMove, t_BadMove_i, Fi_BadMove.binds (ps := P_BadMove_i) fun _ _ _ _ _ _ us hl => by obtain ⟨_, _, rfl⟩ := lenOf2 hl; rfl⟩
  have Fi_BadLog := fun_mk (st := s_BadLog_i) l_BadLog_i c_BadLog_i ki_BadLog_i
  have Di_BadLog : Dfi K 423 "BadLog.__init__" s_BadLog_i a_BadLog_i _ P_BadLog_i := ⟨Fi_BadLog, i_BadLog, t_BadLog_i, Fi_BadLog.binds (ps := P_BadLog_i) fun _ _ _ _ _ _ us hl => by obtain ⟨_, _, rfl⟩ := lenOf2 hl; rfl⟩
  have Fi_BadChange := fun_mk (st := s_BadChange_i) l_BadChange_i c_BadChange_i ki_BadChange_i
  have Di_BadChange : Dfi K 442 "BadChange.__init__" s_BadChange_i a_BadChange_i _ P_BadChange_i := ⟨Fi_BadChange, i_BadChange, t_BadChange_i, Fi_BadChange.binds (ps := P_BadChange_i) fun _ _ _ _ _ _ us hl => by obtain ⟨_, _, rfl⟩ := lenOf2 hl; rfl⟩
  have Fi_Unjoined := fun_mk (st := s_Unjoined_i) l_Unjoined_i c_Unjoined_i ki_Unjoined_i
  have Di_Unjoined : Dfi K 461 "Unjoined.__init__" s_Unjoined_i a_Unjoined_i _ P_Unjoined_i := ⟨Fi_Unjoined, i_Unjoined, t_Unjoined_i, Fi_Unjoined.binds (ps := P_Unjoined_i) fun _ _ _ _ _ _ us hl => by obtain ⟨_, _, _, rfl⟩ := lenOf3 hl; rfl⟩
  have Fi_Open := fun_mk (st := s_Open_i) l_Open_i c_Open_i ki_Open_i
  have Di_Open : Dfi K 480 "Open.__init__" s_Open_i a_Open_i _ P_Open_i := ⟨Fi_Open, i_Open, t_Open_i, Fi_Open.binds (ps := P_Open_i) fun _ _ _ _ _ _ us hl => by obtain ⟨_, _, _, _, rfl⟩ := lenOf4 hl; rfl⟩
  have Fi_Lacking := fun_mk (st := s_Lacking_i) l_Lacking_i c_Lacking_i ki_Lacking_i
  have Di_Lacking : Dfi K 499 "Lacking.__init__" s_Lacking_i a_Lacking_i _ P_Lacking_i := ⟨Fi_Lacking, i_Lacking, t_Lacking_i, Fi_Lacking.binds (ps := P_Lacking_i) fun _ _ _ _ _ _ us hl => by obtain ⟨_, _, _, _, rfl⟩ := lenOf4 hl; rfl⟩
  have Fi_Stopped := fun_mk (st := s_Stopped_i) l_Stopped_i c_Stopped_i ki_Stopped_i
  have Di_Stopped : Dfi K 518 "Stopped.__init__" s_Stopped_i a_Stopped_i _ P_Stopped_i := ⟨Fi_Stopped, i_Stopped, t_Stopped_i, Fi_Stopped.binds (ps := P_Stopped_i) fun _ _ _ _ _ _ us hl => by obtain ⟨_, _, rfl⟩ := lenOf2 hl; rfl⟩
  have Fi_BadEntry := fun_mk (st := s_BadEntry_i) l_BadEntry_i c_BadEntry_i ki_BadEntry_i
  have Di_BadEntry : Dfi K 537 "BadEntry.__init__" s_BadEntry_i a_BadEntry_i _ P_BadEntry_i := ⟨Fi_BadEntry, i_BadEntry, t_BadEntry_i, Fi_BadEntry.binds (ps := P_BadEntry_i) fun _ _ _ _ _ _ us hl => by obtain ⟨_, _, _, rfl⟩ := lenOf3 hl; rfl⟩
  have F0 := fun_mk (st := s_is_alphabet) l0 c0 k0
  have D_is_alphabet : Df K mg "is_alphabet" s_is_alphabet a_is_alphabet _ P_is_alphabet := ⟨F0, PySem.W.mg_of X G a0, k0, F0.binds (ps := P_is_alphabet) fun _ _ _ _ _ _ us hl => by obtain ⟨_, rfl⟩ := lenOf1 hl; rfl⟩
  have F1 := fun_mk (st := s_check_letters) l1 c1 k1
  have D_check_letters : Df K mg "check_letters" s_check_letters a_check_letters _ P_check_letters := ⟨F1, PySem.W.mg_of X G a1, k1, F1.binds (ps := P_check_letters) fun _ _ _ _ _ _ us hl => by obtain ⟨_, rfl⟩ := lenOf1 hl; rfl⟩
  have F2 := fun_mk (st := s_has_letters_only) l2 c2 k2
  have D_has_letters_only : Df K mg "has_letters_only" s_has_letters_only a_has_letters_only _ P_has_letters_only := ⟨F2, PySem.W.mg_of X G a2, k2, F2.binds (ps := P_has_letters_only) fun _ _ _ _ _ _ us hl => by obtain ⟨_, _, rfl⟩ := lenOf2 hl; rfl⟩
  have F3 := fun_mk (st := s_is_word) l3 c3 k3
  have D_is_word : Df K mg "is_word" s_is_word a_is_word _ P_is_word := ⟨F3, PySem.W.mg_of X G a3, k3, F3.binds (ps := P_is_word) fun _ _ _ _ _ _ us hl => by obtain ⟨_, _, rfl⟩ := lenOf2 hl; rfl⟩
  have F4 := fun_mk (st := s_format_word) l4 c4 k4
  have D_format_word : Df K mg "format_word" s_format_word a_format_word _ P_format_word := ⟨F4, PySem.W.mg_of X G a4, k4, F4.binds (ps := P_format_word) fun _ _ _ _ _ _ us hl => by obtain ⟨_, rfl⟩ := lenOf1 hl; rfl⟩
  have F5 := fun_mk (st := s_read_word) l5 c5 k5
  have D_read_word : Df K mg "read_word" s_read_word a_read_word _ P_read_word := ⟨F5, PySem.W.mg_of X G a5, k5, F5.binds (ps := P_read_word) fun _ _ _ _ _ _ us hl => by obtain ⟨_, _, _, rfl⟩ := lenOf3 hl; rfl⟩
  have F6 := fun_mk (st := s_parse_word) l6 c6 k6
  have D_parse_word : Df K mg "parse_word" s_parse_word a_parse_word _ P_parse_word := ⟨F6, PySem.W.mg_of X G a6, k6, F6.binds (ps := P_parse_word) fun _ _ _ _ _ _ us hl => by obtain ⟨_, _, rfl⟩ := lenOf2 hl; rfl⟩
  have F7 := fun_mk (st := s__law_draws) l7 c7 k7
  have D__law_draws : Df K mg "_law_draws" s__law_draws a__law_draws _ P__law_draws := ⟨F7, PySem.W.mg_of X G a7, k7, F7.binds (ps := P__law_draws) fun _ _ _ _ _ _ us hl => by obtain ⟨_, rfl⟩ := lenOf1 hl; rfl⟩
  have F8 := fun_mk (st := s__law_mixed) l8 c8 k8
  have D__law_mixed : Df K mg "_law_mixed" s__law_mixed a__law_mixed _ P__law_mixed := ⟨F8, PySem.W.mg_of X G a8, k8, F8.binds (ps := P__law_mixed) fun _ _ _ _ _ _ us hl => by obtain ⟨_, _, rfl⟩ := lenOf2 hl; rfl⟩
  have F9 := fun_mk (st := s__law_take) l9 c9 k9
  have D__law_take : Df K mg "_law_take" s__law_take a__law_take _ P__law_take := ⟨F9, PySem.W.mg_of X G a9, k9, F9.binds (ps := P__law_take) fun _ _ _ _ _ _ us hl => by obtain ⟨_, _, rfl⟩ := lenOf2 hl; rfl⟩
  have F10 := fun_mk (st := s__law_span) l10 c10 k10
  have D__law_span : Df K mg "_law_span" s__law_span a__law_span _ P__law_span := ⟨F10, PySem.W.mg_of X G a10, k10, F10.binds (ps := P__law_span) fun _ _ _ _ _ _ us hl => by obtain ⟨_, _, _, rfl⟩ := lenOf3 hl; rfl⟩
  have F11 := fun_mk (st := s__law_rare) l11 c11 k11
  have D__law_rare : Df K mg "_law_rare" s__law_rare a__law_rare _ P__law_rare := ⟨F11, PySem.W.mg_of X G a11, k11, F11.binds (ps := P__law_rare) fun _ _ _ _ _ _ us hl => by obtain ⟨_, _, rfl⟩ := lenOf2 hl; rfl⟩
  have F12 := fun_mk (st := s__law_pick) l12 c12 k12
  have D__law_pick : Df K mg "_law_pick" s__law_pick a__law_pick _ P__law_pick := ⟨F12, PySem.W.mg_of X G a12, k12, F12.binds (ps := P__law_pick) fun _ _ _ _ _ _ us hl => by obtain ⟨_, _, rfl⟩ := lenOf2 hl; rfl⟩
  have F13 := fun_mk (st := s__law_in_range) l13 c13 k13
  have D__law_in_range : Df K mg "_law_in_range" s__law_in_range a__law_in_range _ P__law_in_range := ⟨F13, PySem.W.mg_of X G a13, k13, F13.binds (ps := P__law_in_range) fun _ _ _ _ _ _ us hl => by obtain ⟨_, _, _, rfl⟩ := lenOf3 hl; rfl⟩
  have F14 := fun_mk (st := s__law_letters) l14 c14 k14
  have D__law_letters : Df K mg "_law_letters" s__law_letters a__law_letters _ P__law_letters := ⟨F14, PySem.W.mg_of X G a14, k14, F14.binds (ps := P__law_letters) fun _ _ _ _ _ _ us hl => by obtain ⟨_, _, _, rfl⟩ := lenOf3 hl; rfl⟩
  have F15 := fun_mk (st := s__law_stranger) l15 c15 k15
  have D__law_stranger : Df K mg "_law_stranger" s__law_stranger a__law_stranger _ P__law_stranger := ⟨F15, PySem.W.mg_of X G a15, k15, F15.binds (ps := P__law_stranger) fun _ _ _ _ _ _ us hl => by obtain ⟨_, _, rfl⟩ := lenOf2 hl; rfl⟩
  have F16 := fun_mk (st := s__law_bad_letters) l16 c16 k16
  have D__law_bad_letters : Df K mg "_law_bad_letters" s__law_bad_letters a__law_bad_letters _ P__law_bad_letters := ⟨F16, PySem.W.mg_of X G a16, k16, F16.binds (ps := P__law_bad_letters) fun _ _ _ _ _ _ us hl => by obtain ⟨_, rfl⟩ := lenOf1 hl; rfl⟩
  have F17 := fun_mk (st := s__law_word) l17 c17 k17
  have D__law_word : Df K mg "_law_word" s__law_word a__law_word _ P__law_word := ⟨F17, PySem.W.mg_of X G a17, k17, F17.binds (ps := P__law_word) fun _ _ _ _ _ _ us hl => by obtain ⟨_, _, _, _, rfl⟩ := lenOf4 hl; rfl⟩
  have F18 := fun_mk (st := s__law_bad_word) l18 c18 k18
  have D__law_bad_word : Df K mg "_law_bad_word" s__law_bad_word a__law_bad_word _ P__law_bad_word := ⟨F18, PySem.W.mg_of X G a18, k18, F18.binds (ps := P__law_bad_word) fun _ _ _ _ _ _ us hl => by obtain ⟨_, _, rfl⟩ := lenOf2 hl; rfl⟩
  have F19 := fun_mk (st := s__law_line) l19 c19 k19
  have D__law_line : Df K mg "_law_line" s__law_line a__law_line _ P__law_line := ⟨F19, PySem.W.mg_of X G a19, k19, F19.binds (ps := P__law_line) fun _ _ _ _ _ _ us hl => by obtain ⟨_, _, rfl⟩ := lenOf2 hl; rfl⟩
  have F20 := fun_mk (st := s__law_spoilt) l20 c20 k20
  have D__law_spoilt : Df K mg "_law_spoilt" s__law_spoilt a__law_spoilt _ P__law_spoilt := ⟨F20, PySem.W.mg_of X G a20, k20, F20.binds (ps := P__law_spoilt) fun _ _ _ _ _ _ us hl => by obtain ⟨_, _, rfl⟩ := lenOf2 hl; rfl⟩
  have F21 := fun_mk (st := s__law_same) l21 c21 k21
  have D__law_same : Df K mg "_law_same" s__law_same a__law_same _ P__law_same := ⟨F21, PySem.W.mg_of X G a21, k21, F21.binds (ps := P__law_same) fun _ _ _ _ _ _ us hl => by obtain ⟨_, _, rfl⟩ := lenOf2 hl; rfl⟩
  have F22 := fun_mk (st := s__law_word_fault) l22 c22 k22
  have D__law_word_fault : Df K mg "_law_word_fault" s__law_word_fault a__law_word_fault _ P__law_word_fault := ⟨F22, PySem.W.mg_of X G a22, k22, F22.binds (ps := P__law_word_fault) fun _ _ _ _ _ _ us hl => by obtain ⟨_, _, _, rfl⟩ := lenOf3 hl; rfl⟩
  have F23 := fun_mk (st := s__law_written) l23 c23 k23
  have D__law_written : Df K mg "_law_written" s__law_written a__law_written _ P__law_written := ⟨F23, PySem.W.mg_of X G a23, k23, F23.binds (ps := P__law_written) fun _ _ _ _ _ _ us hl => by obtain ⟨_, rfl⟩ := lenOf1 hl; rfl⟩
  have F24 := fun_mk (st := s__law_is_alphabet) l24 c24 k24
  have D__law_is_alphabet : Df K mg "_law_is_alphabet" s__law_is_alphabet a__law_is_alphabet _ P__law_is_alphabet := ⟨F24, PySem.W.mg_of X G a24, k24, F24.binds (ps := P__law_is_alphabet) fun _ _ _ _ _ _ us hl => by obtain ⟨_, rfl⟩ := lenOf1 hl; rfl⟩
  have F25 := fun_mk (st := s__law_read) l25 c25 k25
  have D__law_read : Df K mg "_law_read" s__law_read a__law_read _ P__law_read := ⟨F25, PySem.W.mg_of X G a25, k25, F25.binds (ps := P__law_read) fun _ _ _ _ _ _ us hl => by obtain ⟨_, _, _, rfl⟩ := lenOf3 hl; rfl⟩
  have F26 := fun_mk (st := s__law_due) l26 c26 k26
  have D__law_due : Df K mg "_law_due" s__law_due a__law_due _ P__law_due := ⟨F26, PySem.W.mg_of X G a26, k26, F26.binds (ps := P__law_due) fun _ _ _ _ _ _ us hl => by obtain ⟨_, _, rfl⟩ := lenOf2 hl; rfl⟩
  have F27 := fun_mk (st := s__law_right) l27 c27 k27
  have D__law_right : Df K mg "_law_right" s__law_right a__law_right _ P__law_right := ⟨F27, PySem.W.mg_of X G a27, k27, F27.binds (ps := P__law_right) fun _ _ _ _ _ _ us hl => by obtain ⟨_, _, rfl⟩ := lenOf2 hl; rfl⟩
  have F28 := fun_mk (st := s__law_texts) l28 c28 k28
  have D__law_texts : Df K mg "_law_texts" s__law_texts a__law_texts _ P__law_texts := ⟨F28, PySem.W.mg_of X G a28, k28, F28.binds (ps := P__law_texts) fun _ _ _ _ _ _ us hl => by obtain ⟨_, _, _, rfl⟩ := lenOf3 hl; rfl⟩
  have F29 := fun_mk (st := s__law_alphabets) l29 c29 k29
  have D__law_alphabets : Df K mg "_law_alphabets" s__law_alphabets a__law_alphabets _ P__law_alphabets := ⟨F29, PySem.W.mg_of X G a29, k29, F29.binds (ps := P__law_alphabets) fun _ _ _ _ _ _ us hl => by obtain ⟨_, _, rfl⟩ := lenOf2 hl; rfl⟩
  have F30 := fun_mk (st := s__law_long_right) l30 c30 k30
  have D__law_long_right : Df K mg "_law_long_right" s__law_long_right a__law_long_right _ P__law_long_right := ⟨F30, PySem.W.mg_of X G a30, k30, F30.binds (ps := P__law_long_right) fun _ _ _ _ _ _ us hl => by obtain ⟨_, _, rfl⟩ := lenOf2 hl; rfl⟩
  have F31 := fun_mk (st := s__law_marks) l31 c31 k31
  have D__law_marks : Df K mg "_law_marks" s__law_marks a__law_marks _ P__law_marks := ⟨F31, PySem.W.mg_of X G a31, k31, F31.binds (ps := P__law_marks) fun _ _ _ _ _ _ us hl => by obtain ⟨_, rfl⟩ := lenOf1 hl; rfl⟩
  have F32 := fun_mk (st := s__law_errors_right) l32 c32 k32
  have D__law_errors_right : Df K mg "_law_errors_right" s__law_errors_right a__law_errors_right _ P__law_errors_right := ⟨F32, PySem.W.mg_of X G a32, k32, F32.binds (ps := P__law_errors_right) fun _ _ _ _ _ _ us hl => by obtain ⟨_, _, _, rfl⟩ := lenOf3 hl; rfl⟩
  have F33 := fun_mk (st := s_law) l33 c33 k33
  have D_law : Df K mg "law" s_law fa _ P_law := ⟨F33, PySem.W.mg_of X G a33, k33, F33.binds (ps := P_law) fun _ _ _ _ _ _ us hl => by obtain ⟨_, rfl⟩ := lenOf1 hl; rfl⟩
  refine ⟨PySem.W.fnOf "law" "law" (defArgs s_law) (defBody s_law) (defScope s_law) .none kV_law dc_law pm_law an_law cd_law ct_law, fun s v => .of_eq rfl, fun base _ _ => ?_⟩
  have Gi_BadLetters := oki_BadLetters (P := l.prog) (w := w) (mg := mg) (base := base) X_BadLetters (fun f hf => by
    rcases List.mem_cons.mp hf with rfl | hf
    · exact no_BadLetters_text
    cases hf) Di_BadLetters
  have Gi_BadWord := oki_BadWord (P := l.prog) (w := w) (mg := mg) (base := base) X_BadWord (fun f hf => by
    rcases List.mem_cons.mp hf with rfl | hf
    · exact no_BadWord_text
    cases hf) Di_BadWord
  have Gi_BadName := oki_BadName (P := l.prog) (w := w) (mg := mg) (base := base) X_BadName (fun f hf => by
    rcases List.mem_cons.mp hf with rfl | hf
    · exact no_BadName_name
    cases hf) Di_BadName
  have Gi_BadNumber := oki_BadNumber (P := l.prog) (w := w) (mg := mg) (base := base) X_BadNumber (fun f hf => by
    rcases List.mem_cons.mp hf with rfl | hf
    · exact no_BadNumber_number
    cases hf) Di_BadNumber
  have Gi_BadRow := oki_BadRow (P := l.prog) (w := w) (mg := mg) (base := base) X_BadRow (fun f hf => by
    rcases List.mem_cons.mp hf with rfl | hf
    · exact no_BadRow_at
    cases hf) Di_BadRow
  have Gi_BadRule := oki_BadRule (P := l.prog) (w := w) (mg := mg) (base := base) X_BadRule (fun f hf => by
    rcases List.mem_cons.mp hf with rfl | hf
    · exact no_BadRule_name
    cases hf) Di_BadRule
  have Gi_Rising := oki_Rising (P := l.prog) (w := w) (mg := mg) (base := base) X_Rising (fun f hf => by
    rcases List.mem_cons.mp hf with rfl | hf
    · exact no_Rising_name
    cases hf) Di_Rising
  have Gi_Unknown := oki_Unknown (P := l.prog) (w := w) (mg := mg) (base := base) X_Unknown (fun f hf => by
    rcases List.mem_cons.mp hf with rfl | hf
    · exact no_Unknown_name
    cases hf) Di_Unknown
  have Gi_Repeated := oki_Repeated (P := l.prog) (w := w) (mg := mg) (base := base) X_Repeated (fun f hf => by
    rcases List.mem_cons.mp hf with rfl | hf
    · exact no_Repeated_name
    cases hf) Di_Repeated
  have Gi_BadText := oki_BadText (P := l.prog) (w := w) (mg := mg) (base := base) X_BadText (fun f hf => by
    rcases List.mem_cons.mp hf with rfl | hf
    · exact no_BadText_at
    cases hf) Di_BadText
  have Gi_BadStep := oki_BadStep (P := l.prog) (w := w) (mg := mg) (base := base) X_BadStep (fun f hf => by
    rcases List.mem_cons.mp hf with rfl | hf
    · exact no_BadStep_at
    cases hf) Di_BadStep
  have Gi_BadSquare := oki_BadSquare (P := l.prog) (w := w) (mg := mg) (base := base) X_BadSquare (fun f hf => by
    rcases List.mem_cons.mp hf with rfl | hf
    · exact no_BadSquare_name
    cases hf) Di_BadSquare
  have Gi_BadMove := oki_BadMove (P := l.prog) (w := w) (mg := mg) (base := base) X_BadMove (fun f hf => by
    rcases List.mem_cons.mp hf with rfl | hf
    · exact no_BadMove_at
    cases hf) Di_BadMove
  have Gi_BadLog := oki_BadLog (P := l.prog) (w := w) (mg := mg) (base := base) X_BadLog (fun f hf => by
    rcases List.mem_cons.mp hf with rfl | hf
    · exact no_BadLog_at
    cases hf) Di_BadLog
  have Gi_BadChange := oki_BadChange (P := l.prog) (w := w) (mg := mg) (base := base) X_BadChange (fun f hf => by
    rcases List.mem_cons.mp hf with rfl | hf
    · exact no_BadChange_at
    cases hf) Di_BadChange
  have Gi_Unjoined := oki_Unjoined (P := l.prog) (w := w) (mg := mg) (base := base) X_Unjoined (fun f hf => by
    rcases List.mem_cons.mp hf with rfl | hf
    · exact no_Unjoined_one
    rcases List.mem_cons.mp hf with rfl | hf
    · exact no_Unjoined_other
    cases hf) Di_Unjoined
  have Gi_Open := oki_Open (P := l.prog) (w := w) (mg := mg) (base := base) X_Open (fun f hf => by
    rcases List.mem_cons.mp hf with rfl | hf
    · exact no_Open_top
    rcases List.mem_cons.mp hf with rfl | hf
    · exact no_Open_one
    rcases List.mem_cons.mp hf with rfl | hf
    · exact no_Open_other
    cases hf) Di_Open
  have Gi_Lacking := oki_Lacking (P := l.prog) (w := w) (mg := mg) (base := base) X_Lacking (fun f hf => by
    rcases List.mem_cons.mp hf with rfl | hf
    · exact no_Lacking_top
    rcases List.mem_cons.mp hf with rfl | hf
    · exact no_Lacking_one
    rcases List.mem_cons.mp hf with rfl | hf
    · exact no_Lacking_other
    cases hf) Di_Lacking
  have Gi_Stopped := oki_Stopped (P := l.prog) (w := w) (mg := mg) (base := base) X_Stopped (fun f hf => by
    rcases List.mem_cons.mp hf with rfl | hf
    · exact no_Stopped_path
    cases hf) Di_Stopped
  have Gi_BadEntry := oki_BadEntry (P := l.prog) (w := w) (mg := mg) (base := base) X_BadEntry (fun f hf => by
    rcases List.mem_cons.mp hf with rfl | hf
    · exact no_BadEntry_at
    rcases List.mem_cons.mp hf with rfl | hf
    · exact no_BadEntry_name
    cases hf) Di_BadEntry
  have G_is_alphabet := ok_is_alphabet (P := l.prog) (w := w) (base := base) T D_is_alphabet  
  have G_check_letters := ok_check_letters (P := l.prog) (w := w) (base := base) T D_check_letters D_is_alphabet G_is_alphabet Di_BadLetters Gi_BadLetters
  have G_has_letters_only := ok_has_letters_only (P := l.prog) (w := w) (base := base) T D_has_letters_only  
  have G_is_word := ok_is_word (P := l.prog) (w := w) (base := base) T D_is_word D_is_alphabet G_is_alphabet D_has_letters_only G_has_letters_only 
  have G_format_word := ok_format_word (P := l.prog) (w := w) (base := base) T D_format_word  
  have G_read_word := ok_read_word (P := l.prog) (w := w) (base := base) T D_read_word D_is_word G_is_word Di_BadText Gi_BadText
  have G_parse_word := ok_parse_word (P := l.prog) (w := w) (base := base) T D_parse_word D_check_letters G_check_letters D_read_word G_read_word 
  have G__law_draws := ok__law_draws (P := l.prog) (w := w) (base := base) T D__law_draws  
  have G__law_mixed := ok__law_mixed (P := l.prog) (w := w) (base := base) T D__law_mixed  
  have G__law_take := ok__law_take (P := l.prog) (w := w) (base := base) T D__law_take D__law_mixed G__law_mixed 
  have G__law_span := ok__law_span (P := l.prog) (w := w) (base := base) T D__law_span D__law_take G__law_take 
  have G__law_rare := ok__law_rare (P := l.prog) (w := w) (base := base) T D__law_rare D__law_take G__law_take 
  have G__law_pick := ok__law_pick (P := l.prog) (w := w) (base := base) T D__law_pick D__law_take G__law_take 
  have G__law_in_range := ok__law_in_range (P := l.prog) (w := w) (base := base) T D__law_in_range D__law_take G__law_take D__law_pick G__law_pick D__law_span G__law_span 
  have G__law_letters := ok__law_letters (P := l.prog) (w := w) (base := base) T D__law_letters D__law_span G__law_span D__law_take G__law_take 
  have G__law_stranger := ok__law_stranger (P := l.prog) (w := w) (base := base) T D__law_stranger D__law_pick G__law_pick 
  have G__law_bad_letters := ok__law_bad_letters (P := l.prog) (w := w) (base := base) T D__law_bad_letters D__law_take G__law_take D__law_letters G__law_letters D__law_pick G__law_pick 
  have G__law_word := ok__law_word (P := l.prog) (w := w) (base := base) T D__law_word D__law_in_range G__law_in_range D__law_take G__law_take D__law_pick G__law_pick 
  have G__law_bad_word := ok__law_bad_word (P := l.prog) (w := w) (base := base) T D__law_bad_word D__law_take G__law_take D__law_pick G__law_pick D__law_stranger G__law_stranger 
  have G__law_line := ok__law_line (P := l.prog) (w := w) (base := base) T D__law_line D__law_in_range G__law_in_range D__law_pick G__law_pick 
  have G__law_spoilt := ok__law_spoilt (P := l.prog) (w := w) (base := base) T D__law_spoilt D__law_take G__law_take D__law_pick G__law_pick 
  have G__law_same := ok__law_same (P := l.prog) (w := w) (base := base) T D__law_same   8
  have G__law_word_fault := ok__law_word_fault (P := l.prog) (w := w) (base := base) T D__law_word_fault  
  have G__law_written := ok__law_written (P := l.prog) (w := w) (base := base) T D__law_written  
  have G__law_is_alphabet := ok__law_is_alphabet (P := l.prog) (w := w) (base := base) T D__law_is_alphabet  
  have G__law_read := ok__law_read (P := l.prog) (w := w) (base := base) T D__law_read D_parse_word G_parse_word 
  have G__law_due := ok__law_due (P := l.prog) (w := w) (base := base) T D__law_due D__law_is_alphabet G__law_is_alphabet D__law_word_fault G__law_word_fault 
  have G__law_right := ok__law_right (P := l.prog) (w := w) (base := base) T D__law_right D__law_is_alphabet G__law_is_alphabet D__law_same G__law_same D_is_alphabet G_is_alphabet D__law_word_fault G__law_word_fault D_is_word G_is_word D__law_due G__law_due D__law_read G__law_read 
  have G__law_texts := ok__law_texts (P := l.prog) (w := w) (base := base) T D__law_texts D__law_written G__law_written D__law_pick G__law_pick D__law_word G__law_word D__law_bad_word G__law_bad_word D__law_spoilt G__law_spoilt D__law_line G__law_line 
  have G__law_alphabets := ok__law_alphabets (P := l.prog) (w := w) (base := base) T D__law_alphabets D__law_bad_letters G__law_bad_letters D__law_line G__law_line D__law_spoilt G__law_spoilt D__law_take G__law_take 
  have G__law_long_right := ok__law_long_right (P := l.prog) (w := w) (base := base) T D__law_long_right D__law_in_range G__law_in_range D__law_pick G__law_pick D__law_take G__law_take D__law_right G__law_right D__law_same G__law_same D_format_word G_format_word 
  have G__law_marks := ok__law_marks (P := l.prog) (w := w) (base := base) T D__law_marks  
  have G__law_errors_right := ok__law_errors_right (P := l.prog) (w := w) (base := base) T D__law_errors_right D__law_pick G__law_pick D__law_span G__law_span D__law_marks G__law_marks D__law_same G__law_same Di_BadChange Gi_BadChange Di_BadEntry Gi_BadEntry Di_BadLetters Gi_BadLetters Di_BadLog Gi_BadLog Di_BadMove Gi_BadMove Di_BadName Gi_BadName Di_BadNumber Gi_BadNumber Di_BadRow Gi_BadRow Di_BadRule Gi_BadRule Di_BadSquare Gi_BadSquare Di_BadStep Gi_BadStep Di_BadText Gi_BadText Di_BadWord Gi_BadWord Di_Lacking Gi_Lacking Di_Open Gi_Open Di_Repeated Gi_Repeated Di_Rising Gi_Rising Di_Stopped Gi_Stopped Di_Unjoined Gi_Unjoined Di_Unknown Gi_Unknown
  have G_law := ok_law (P := l.prog) (w := w) (base := base) T D_law D__law_same G__law_same D__law_draws G__law_draws D__law_letters G__law_letters D__law_word G__law_word D__law_pick G__law_pick D_format_word G_format_word D__law_written G__law_written D__law_read G__law_read D__law_texts G__law_texts D__law_right G__law_right D__law_alphabets G__law_alphabets D__law_bad_word G__law_bad_word D__law_rare G__law_rare D__law_long_right G__law_long_right D__law_errors_right G__law_errors_right D__law_line G__law_line 
  exact G_law
end K02
set_option Elab.async false
set_option linter.all false
set_option maxRecDepth 100000
set_option maxHeartbeats 1000000
namespace K02
open PySem Wf L2
local macro_rules | `(tactic| walk_at $s:str) => do
  let t ← `(tactic| simp only [e_seq, k_seqN, k_seqR, k_seqB, k_seqC, e_skip, e_brk, e_ct, e_if, k_ifT, k_ifF, e_ifE, k_ifET, k_ifEF, e_op, k_op, e_un, e_B, k_B, e_chain, k_ch1, k_ch2, k_ch3T, k_ch3F, e_not, k_not, e_and, k_andT, k_andF, e_or, k_orT, k_orF, e_andV, k_andVT, k_andVF, e_orV, k_orVT, k_orVF, e_notV, k_notV, e_nil, e_cons, k_cons, k_cons2, e_tup, e_lst, e_lstL, k_tup, k_lst, k_lstL, e_sl, k_sl1, k_sl2, k_sl3, e_noP, e_P, k_P, e_CB, e_BM, k_BM, e_call, k_call, e_callK, k_callK, e_asg, k_asgN, e_sub, k_sub1, k_sub2, k_sub3, e_expr, k_expr, e_ret, k_ret, b_for, e_for, k_for, e_while, e_it, k_itL, k_itT, k_itW, k_itS, e_rng1, e_rng2, k_rng1, k_rng2, k_lcTT, k_lcTF, k_lcE, e_lcF, e_yes, e_lc, e_lcL, k_lc1, k_lc2, k_done, k_doneL, e_frz, k_frz, k_frzL, e_C, e_V0, e_V1, e_V2, e_V3, e_V4, e_V5, e_V6, e_V7, e_V8, e_V9,
  o_addI, o_addS, o_addL, o_sub, o_mulI, o_mulS, o_mod, o_fdiv, o_pow, o_neg, o_ltI, o_ltS, o_leI, o_leS, o_gt, o_ge, o_eqI, o_eqS, o_eqB, o_neI, o_neS, o_isN, o_notN, o_slS, o_slL, o_lenS, o_lenL, o_lenT, o_int, o_abs, o_min, o_max, o_list, o_find3, t_str,
  R.bind_ok, Ok_ok, Ok_bind, Ok_note, Ok_calm, env0, List.length_cons, List.length_nil, List.map_cons, List.map_nil, List.replicate, List.cons_append, List.nil_append, List.set_cons_zero, List.set_cons_succ, Nat.reduceAdd, Nat.reduceSub, Nat.reduceLeDiff, Nat.reduceLT, Nat.zero_add, sz, wipeD, Bool.not_true, Bool.not_false, decide_true, decide_false, true_and, and_true, if_true, if_false, Wf.isNon, f_int, f_bl, f_str, f_non, f_nx, f_new, take_self, n_ok, c_ok, f_new0, take_lft, len_one, n_cons, n_nil, n_str, n_int, n_bl, n_lst, n_tup, of_empty, pick01, pick10, len_empty, s_setA1, Bool.and_self, Bool.true_and, Bool.and_true, len_app, t_last1, o_appendA1, o_lenA1, f_new1, k_frz1, t_last2, o_appendA2, o_lenA2, f_new2, k_frz2, k_frzS, k_frzI, k_frzT, List.length_map, ne_eq, not_false_eq_true, List.take_succ_cons, List.take_length, st_get0, st_get1, st_sub1, st_get2, st_sub2, st_get3, st_sub3, st_get4, st_sub4, st_get5, st_sub5, i_non_bool, i_non_int, i_non_str, i_non_tuple, i_non_list, i_bl_bool, i_bl_int, i_bl_str, i_bl_tuple, i_bl_list, i_int_bool, i_int_int, i_int_str, i_int_tuple, i_int_list, i_str_bool, i_str_int, i_str_str, i_str_tuple, i_str_list, i_lst_bool, i_lst_int, i_lst_str, i_lst_tuple, i_lst_list, i_tup_bool, i_tup_int, i_tup_str, i_tup_tuple, i_tup_list, t_last, o_appendA, o_lenA, Ok_finB, Ok_finF, Ok_finW, Int.toNat_natCast, e_lenSet, o_all, o_any, o_sum, o_find, e_rev, k_revL, e_raise0, e_raiseO, k_raiseO, f_err, List.reverse_cons, List.reverse_nil, b_err, n_err, Ok_finE, n_ins, e_tryAs, k_tryOk, e_suite, k_wipeR, k_wipeN, o_isx, k_isx, e_xf, e_frzT, Bool.or_self, Bool.true_or, Bool.or_true, Bool.false_or, Bool.or_false, Bool.false_and, Bool.and_false, e_fld, e_stF, k_stF1, k_stFA, e_meth, k_meth2, e_prop, e_dnew, b_for2, b_for3, f_lc2, f_lc3, k_asgT2, k_asgT3, e_enum, k_enum, e_dc, k_dc1, e_make, k_mk1, k_mk3, e_frzA, k_frzA, e_enumA, k_enumAL, k_enumAT, e_BM0, o_tupT, o_tupL, e_makeD, e_tryO, k_tryOok, o_addTI, e_forR, e_lcR, e_dcE, k_lcRL, k_forRL, e_revA, k_revAL, k_revAT, e_tr, k_trL, k_trT, k_trI, k_trN, e_revT, k_revT, e_par, k_par, o_mulN, o_mulNL, o_mulNI, e_lcX, x_ok, x_err, e_lc2, k_lc2x, e_star, k_star, k_starR, e_callK0D, k_callK0D, e_tryN, k_tryNok, k_tryNerr])
  if s.getString == "ev" then return t
  match t with
  | `(tactic| simp only [$xs,*]) => `(tactic| simp only [$xs,*, *])
  | _ => Lean.Macro.throwUnsupported
theorem same_items {n : Nat} {told due : D} {l : List D} {cs : List D} {o : Option D} (h2 : l.length < 16777216) (ht : ∀ k d, l[k]? = some d → ixD told (.int (k : Nat)) cs = .ok d cs) (hd : ∀ k d, l[k]? = some d → ixD due (.int (k : Nat)) cs = .ok d cs)
    (ih : ∀ d ∈ l, f__law_same n [d, d] cs = .ok (.bl true) cs) (P : Fl → List D → Prop) (hP : ∀ o, P (.nx [some told, some due, o]) cs) :
    Ok (forR (bFor (gtN 2) (mIf (mNot (mB (mCall (f__law_same n) (mCons (mOp ixD (mV 0) (mV 2)) (mCons (mOp ixD (mV 1) (mV 2)) mNil))))) (mRet (mC (.bl false))) mSkip)) (rng 0 l.length) [some told, some due, o] cs) P := by
  refine Ok_for (fun ds r cs' => ∃ (k : Nat) (o : Option D), r = [some told, some due, o] ∧ cs' = cs ∧ k + ds.length = l.length ∧ ds = (List.range' k ds.length).map fun k => D.int (k : Nat)) ?_ ?_ _ _ _ ⟨0, o, rfl, rfl, by simp [rng], ?_⟩
  · rintro r cs' ⟨k, o, rfl, rfl, h3, h4⟩
    exact hP o
  · rintro d ds r cs' ⟨k, o, rfl, rfl, h3, h4⟩
    rw [List.length_cons] at h3 h4
    rw [List.range'_succ, List.map_cons] at h4
    obtain ⟨e1, e2⟩ := List.cons.inj h4
    subst e1
    obtain ⟨x, hx⟩ : ∃ x, l[k]? = some x := ⟨l[k]'(by omega), List.getElem?_eq_getElem (by omega)⟩
    have h5 := ht k x hx
    have h6 := hd k x hx
    have h7 := ih x (List.mem_of_getElem? hx)
    clear h4 ih ht hd hP
    revert e2
    walk_at "eva"
    intro e2
    refine ⟨k + 1, _, rfl, by omega, e2⟩
  · unfold rng
    rw [List.length_map, List.length_range, List.range_eq_range']
    simp
theorem same_eq : ∀ (n : Nat) (d : D) (cs : List D), deep n d → f__law_same n [d, d] cs = .ok (.bl true) cs
  | 0, d, cs, h => h.elim
  | n + 1, d, cs, h => by
    suffices hh : Ok (f__law_same (n + 1) [d, d] cs) (fun d cs' => d = .bl true ∧ cs' = cs) by
      obtain ⟨d, cs', e, h1, h2⟩ := Ok_get hh
      rw [e, h1, h2]
    unfold f__law_same mDef m__law_same
    cases d with
    | non => walk_at "ev"
    | bl b => walk_at "ev"
    | int i => walk_at "ev"
    | str z => walk_at "ev"
    | lst l =>
      obtain ⟨h2, h3⟩ := h
      have h5 : -1000000000 ≤ ((l.length : Int)) ∧ ((l.length : Int)) < 1000000000 := by omega
      walk_at "eva"
      refine same_items h2 (fun k d hk => o_ixL (Wf.atI_nat hk)) (fun k d hk => o_ixL (Wf.atI_nat hk)) (fun d hd => same_eq n d cs (h3 d hd)) _ fun o => ?_
      walk_at "ev"
    | tup l =>
      obtain ⟨h2, h3⟩ := h
      have h5 : -1000000000 ≤ ((l.length : Int)) ∧ ((l.length : Int)) < 1000000000 := by omega
      walk_at "eva"
      refine same_items h2 (fun k d hk => o_ixT (Wf.atI_nat hk)) (fun k d hk => o_ixT (Wf.atI_nat hk)) (fun d hd => same_eq n d cs (h3 d hd)) _ fun o => ?_
      walk_at "ev"
    | _ => exact h.elim
theorem mixed_ok (a b : Int) (cs : List D) : ∃ v, f__law_mixed [.int a, .int b] cs = .ok (.int v) cs ∧ 0 ≤ v := by
  unfold f__law_mixed mDef m__law_mixed
  have h1 : mulI a 48271 := mulI_r (by decide)
  have h2 : mulI b 69621 := mulI_r (by decide)
  have h3 : mulI b 40014 := mulI_r (by decide)
  have n1 : (2147483647 : Int) ≠ 0 := by decide
  have n2 : (2147483399 : Int) ≠ 0 := by decide
  have n3 : (2147483629 : Int) ≠ 0 := by decide
  obtain ⟨p1, p2⟩ := fmod_in (i := a * 48271 + b * 69621 + 11) (j := 2147483647) (by decide)
  generalize e1 : (a * 48271 + b * 69621 + 11).fmod 2147483647 = x at p1 p2
  have h4 : mulI x x := mulI_r (by omega)
  obtain ⟨q1, q2⟩ := fmod_in (i := x * x + b * 40014 + 7) (j := 2147483399) (by decide)
  generalize e2 : (x * x + b * 40014 + 7).fmod 2147483399 = y at q1 q2
  have h5 : mulI y y := mulI_r (by omega)
  refine ⟨(y * y + x).fmod 2147483629, ?_, (fmod_in (by decide)).1⟩
  walk_at "eva"
noncomputable def takeTail : MS := (mSeq (mIf (mB (mOp gtD (mOp ixD (mV 0) (mC (.int 2))) (mC (.int 0)))) (mSeq (mAsg (gtN 3) (mOp modD (mCB intD (mCons (mOp ixD (mV 0) (mC (.int 2))) mNil)) (mV 1)))
  (mSeq (mSub setD (mOp fdivD (mOp ixD (mV 0) (mC (.int 2))) (mV 1)) (mV 0) (mC (.int 2)))
  (mRet (mV 3)))) mSkip)
  (mSeq (mIf (mB (mOp gtD (mOp ixD (mV 0) (mC (.int 3))) (mC (.int 0)))) (mSub setD (mOp subD (mOp ixD (mV 0) (mC (.int 3))) (mC (.int 1))) (mV 0) (mC (.int 3))) mSkip)
  (mSeq (mSub setD (mOp addD (mOp ixD (mV 0) (mC (.int 5))) (mC (.int 1))) (mV 0) (mC (.int 5)))
  (mRet (mOp modD (mCB intD (mCons (mCall f__law_mixed (mCons (mOp ixD (mV 0) (mC (.int 4))) (mCons (mOp ixD (mV 0) (mC (.int 5))) mNil))) mNil)) (mV 1))))))
theorem tail_ok {ns : List Int} {p : Nat} {a b sd t size : Int} {o : Option D} {rest : List D} (hp : p ≤ ns.length) (hn : ns.length ≤ 1000) (ha : 0 ≤ a) (h2 : ¬ size < 2) (hs : size < 1073741824) :
    ∃ v c', takeTail [some (.ref 0), some (.int size), o, none] (.lst [.lst (ns.map .int), .int p, .int a, .int b, .int sd, .int t] :: rest) = .ok (.ret (.int v)) (c' :: rest) ∧ StOk c' ∧ 0 ≤ v ∧ v < size := by
  have hz : size ≠ 0 := by omega
  have hzd : size ≠ 0 ∧ size.natAbs < 1073741824 := by omega
  unfold takeTail
  by_cases h3 : 0 < a
  · have e2 : decide (0 < a) = true := decide_eq_true h3
    refine ⟨a.fmod size, _, ?_, ⟨ns, p, a.fdiv size, b, sd, t, rfl, hp, hn, fdiv_nn ha (by omega)⟩, (fmod_in (by omega)).1, (fmod_in (by omega)).2⟩
    walk_at "eva"
  · have e2 : decide (0 < a) = false := decide_eq_false h3
    obtain ⟨m, hm, hm0⟩ := mixed_ok sd (t + 1) (.lst [.lst (ns.map .int), .int p, .int a, .int (if 0 < b then b - 1 else b), .int sd, .int (t + 1)] :: rest)
    refine ⟨m.fmod size, _, ?_, ⟨ns, p, a, if 0 < b then b - 1 else b, sd, t + 1, rfl, hp, hn, ha⟩, (fmod_in (by omega)).1, (fmod_in (by omega)).2⟩
    by_cases h4 : 0 < b
    · have e3 : decide (0 < b) = true := decide_eq_true h4
      rw [if_pos h4] at hm ⊢
      walk_at "eva"
    · have e3 : decide (0 < b) = false := decide_eq_false h4
      rw [if_neg h4] at hm ⊢
      walk_at "eva"
theorem take_ok (c : D) (hc : StOk c) (rest : List D) (size : Int) (hs : size < 1073741824) :
    ∃ v c', f__law_take [.ref 0, .int size] (c :: rest) = .ok (.int v) (c' :: rest) ∧ StOk c' ∧ 0 ≤ v ∧ (2 ≤ size → v < size) ∧ (size < 2 → v = 0) := by
  obtain ⟨ns, p, a, b, sd, t, rfl, hp, hn, ha⟩ := hc
  by_cases h2 : size < 2
  · refine ⟨0, _, ?_, ⟨ns, p, a, b, sd, t, rfl, hp, hn, ha⟩, by omega, by omega, fun _ => rfl⟩
    have e1 : decide (size < 2) = true := decide_eq_true h2
    unfold f__law_take mDef m__law_take
    walk_at "eva"
  · have e1 : decide (size < 2) = false := decide_eq_false h2
    have hm : f__law_take = mDef 2 4 (mSeq (mIf (mB (mOp ltD (mV 1) (mC (.int 2)))) (mRet (mC (.int 0))) mSkip)
  (mSeq (mIf (mAnd (mB (mOp eqD (mOp ixD (mV 0) (mC (.int 2))) (mC (.int 0)))) (mAnd (mB (mOp eqD (mOp ixD (mV 0) (mC (.int 3))) (mC (.int 0)))) (mB (mOp ltD (mOp ixD (mV 0) (mC (.int 1))) (mCB lenD (mCons (mOp ixD (mV 0) (mC (.int 0))) mNil)))))) (mSeq (mAsg (gtN 2) (mOp ixD (mOp ixD (mV 0) (mC (.int 0))) (mOp ixD (mV 0) (mC (.int 1)))))
  (mSeq (mSub setD (mOp addD (mOp ixD (mV 0) (mC (.int 1))) (mC (.int 1))) (mV 0) (mC (.int 1)))
  (mSeq (mSub setD (mOp modD (mCB intD (mCons (mOp addD (mOp mulD (mOp ixD (mV 0) (mC (.int 4))) (mC (.int 16807))) (mV 2)) mNil)) (mC (.int 2147483647))) (mV 0) (mC (.int 4)))
  (mIf (mOr (mB (mOp geD (mV 2) (mOp powD (mC (.int 10)) (mC (.int 18))))) (mB (mOp geD (mUn negD (mV 2)) (mOp powD (mC (.int 10)) (mC (.int 18)))))) (mSub setD (mCB absD (mCons (mV 2) mNil)) (mV 0) (mC (.int 2))) (mSub setD (mC (.int 3)) (mV 0) (mC (.int 3))))))) mSkip)
  takeTail)) := rfl
    have fin : ∀ (p : Nat) (a b sd : Int) (o : Option D), p ≤ ns.length → 0 ≤ a → ∃ v c', finR (rest.length + 1) (takeTail [some (.ref 0), some (.int size), o, none] (.lst [.lst (ns.map .int), .int p, .int a, .int b, .int sd, .int t] :: rest)) = .ok (.int v) (c' :: rest) ∧ StOk c' ∧ 0 ≤ v ∧ (2 ≤ size → v < size) ∧ (size < 2 → v = 0) := by
      intro p a b sd o hp ha
      obtain ⟨v, c', e, h3, h4, h5⟩ := tail_ok (b := b) (sd := sd) (t := t) (o := o) (rest := rest) hp hn ha h2 hs
      refine ⟨v, c', ?_, h3, h4, fun _ => h5, fun h => absurd h h2⟩
      rw [e]
      walk_at "ev"
    rw [hm]
    unfold mDef
    by_cases h3 : a = 0
    · subst h3
      by_cases h4 : b = 0
      · subst h4
        have z0 : decide ((0 : Int) = 0) = true := by decide
        by_cases h5 : p < ns.length
        · have e4 : decide ((p : Int) < (ns.length : Int)) = true := decide_eq_true (by omega)
          obtain ⟨x, hx⟩ : ∃ x, ns[p]? = some x := ⟨ns[p], List.getElem?_eq_getElem h5⟩
          have e5 : atI (ns.map D.int) (p : Int) = some (.int x) := Wf.atI_nat (by rw [List.getElem?_map, hx]; rfl)
          have e6 := o_ixL (cs := .lst [.lst (ns.map .int), .int p, .int 0, .int 0, .int sd, .int t] :: rest) e5
          have e7 : mulI sd 16807 := mulI_r (by decide)
          have n1 : (2147483647 : Int) ≠ 0 := by decide
          have pw := o_pow (i := 10) (j := 18) (cs := .lst [.lst (ns.map .int), .int ((p + 1 : Nat) : Int), .int 0, .int 0, .int ((sd * 16807 + x).fmod 2147483647), .int t] :: rest) (by decide)
          have pw2 : (10 : Int) ^ (18 : Int).toNat = 1000000000000000000 := by decide +kernel
          rw [pw2] at pw
          have e8 : (p : Int) + 1 = ((p + 1 : Nat) : Int) := by omega
          by_cases h6 : 1000000000000000000 ≤ x ∨ 1000000000000000000 ≤ -x
          · have f2 := fin (p + 1) (if x < 0 then -x else x) 0 ((sd * 16807 + x).fmod 2147483647) (some (.int x)) h5 (by split <;> omega)
            by_cases h7 : 1000000000000000000 ≤ x
            · have e9 : decide (1000000000000000000 ≤ x) = true := decide_eq_true h7
              clear h6
              revert f2
              walk_at "eva"
              exact fun h => h
            · have e9 : decide (1000000000000000000 ≤ x) = false := decide_eq_false h7
              have e10 : decide (1000000000000000000 ≤ -x) = true := decide_eq_true (by omega)
              clear h6
              revert f2
              walk_at "eva"
              exact fun h => h
          · have f2 := fin (p + 1) 0 3 ((sd * 16807 + x).fmod 2147483647) (some (.int x)) h5 (by decide)
            have e9 : decide (1000000000000000000 ≤ x) = false := decide_eq_false (by omega)
            have e10 : decide (1000000000000000000 ≤ -x) = false := decide_eq_false (by omega)
            clear h6
            revert f2
            walk_at "eva"
            exact fun h => h
        · have e4 : decide ((p : Int) < (ns.length : Int)) = false := decide_eq_false (by omega)
          have f2 := fin p 0 0 sd none hp (by decide)
          revert f2
          walk_at "eva"
          exact fun h => h
      · have e3 : decide (b = 0) = false := decide_eq_false h4
        have z0 : decide ((0 : Int) = 0) = true := by decide
        have f2 := fin p 0 b sd none hp (by decide)
        revert f2
        walk_at "eva"
        exact fun h => h
    · have e2 : decide (a = 0) = false := decide_eq_false h3
      have f2 := fin p a b sd none hp ha
      revert f2
      walk_at "eva"
      exact fun h => h
theorem span_ok (c : D) (hc : StOk c) (rest : List D) (lo hi : Int) (h : lo ≤ hi) (hs : hi - lo < 1000000000) :
    ∃ v c', f__law_span [.ref 0, .int lo, .int hi] (c :: rest) = .ok (.int v) (c' :: rest) ∧ StOk c' ∧ lo ≤ v ∧ v ≤ hi := by
  obtain ⟨v, c', e, h1, h2, h3, h4⟩ := take_ok c hc rest (hi - lo + 1) (by omega)
  refine ⟨lo + v, c', ?_, h1, by omega, ?_⟩
  · unfold f__law_span mDef m__law_span
    walk_at "eva"
  · by_cases h5 : hi - lo + 1 < 2
    · have := h4 h5
      omega
    · have := h3 (by omega)
      omega
theorem pick_l (c : D) (hc : StOk c) (rest : List D) (l : List D) (h : l ≠ []) (hl : l.length < 1000000000) (hn : nrs l = true) :
    ∃ d c', f__law_pick [.ref 0, .lst l] (c :: rest) = .ok d (c' :: rest) ∧ StOk c' ∧ d ∈ l := by
  obtain ⟨v, c', e, h1, h2, h3, h4⟩ := take_ok c hc rest (l.length : Int) (by omega)
  have hp : 0 < l.length := List.length_pos_iff.mpr h
  have hv : v.toNat < l.length := by
    by_cases h5 : (l.length : Int) < 2
    · have := h4 h5
      omega
    · have := h3 (by omega)
      omega
  obtain ⟨n, rfl⟩ : ∃ n : Nat, v = (n : Int) := ⟨v.toNat, by omega⟩
  rw [Int.toNat_natCast] at hv
  have e2 : atI l (n : Int) = some l[n] := Wf.atI_nat (List.getElem?_eq_getElem hv)
  have e3 := o_ixL (cs := c' :: rest) e2
  have hd : nr l[n] = true := by
    rw [nrs_all, List.all_eq_true] at hn
    exact hn _ (List.getElem_mem hv)
  refine ⟨l[n], c', ?_, h1, List.getElem_mem hv⟩
  unfold f__law_pick mDef m__law_pick
  walk_at "eva"
  rw [f_nr hd]
  walk_at "ev"
theorem pick_s (c : D) (hc : StOk c) (rest : List D) (z : Str) (h : 0 < z.length) (hl : z.length ≤ 16777216) :
    ∃ y c', f__law_pick [.ref 0, .str z] (c :: rest) = .ok (.str y) (c' :: rest) ∧ StOk c' ∧ y.length = 1 := by
  obtain ⟨v, c', e, h1, h2, h3, h4⟩ := take_ok c hc rest (z.length : Int) (by omega)
  have hv : v.toNat < z.cps.toList.length := by
    have := str_len z
    by_cases h5 : (z.length : Int) < 2
    · have := h4 h5
      omega
    · have := h3 (by omega)
      omega
  obtain ⟨n, rfl⟩ : ∃ n : Nat, v = (n : Int) := ⟨v.toNat, by omega⟩
  rw [Int.toNat_natCast] at hv
  have e2 : atI z.cps.toList (n : Int) = some z.cps.toList[n] := Wf.atI_nat (List.getElem?_eq_getElem hv)
  have e3 := o_ixS (cs := c' :: rest) hl e2
  refine ⟨⟨#[z.cps.toList[n]]⟩, c', ?_, h1, rfl⟩
  unfold f__law_pick mDef m__law_pick
  walk_at "eva"
theorem in_range_ok (c : D) (hc : StOk c) (rest : List D) (lo hi : Int) (h : lo ≤ hi) (hs : hi - lo < 1000000000) :
    ∃ v c', f__law_in_range [.ref 0, .int lo, .int hi] (c :: rest) = .ok (.int v) (c' :: rest) ∧ StOk c' ∧ lo ≤ v ∧ v ≤ hi := by
  obtain ⟨v, c1, e, h1, h2, h3, h4⟩ := take_ok c hc rest 3 (by decide)
  by_cases h5 : v = 2
  · obtain ⟨d, c2, e2, h6, h7⟩ := pick_l c1 h1 rest [.int lo, .int hi] (by simp) (by simp) (by rfl)
    have e3 : decide (v = 2) = true := decide_eq_true h5
    have : ∃ x, d = .int x ∧ lo ≤ x ∧ x ≤ hi := by
      simp at h7
      rcases h7 with h7 | h7
      · exact ⟨lo, h7, by omega, h⟩
      · exact ⟨hi, h7, h, by omega⟩
    obtain ⟨x, rfl, hx⟩ := this
    refine ⟨x, c2, ?_, h6, hx⟩
    unfold f__law_in_range mDef m__law_in_range
    walk_at "eva"
  · obtain ⟨x, c2, e2, h6, h7⟩ := span_ok c1 h1 rest lo hi h hs
    have e3 : decide (v = 2) = false := decide_eq_false h5
    refine ⟨x, c2, ?_, h6, h7⟩
    unfold f__law_in_range mDef m__law_in_range
    walk_at "eva"
theorem letters {i : Nat} {env : Wf.Env} {z : Str} {rest : List D} (hz : 0 < z.length) (hz2 : z.length ≤ 16777216) (h0 : ∀ d, (env.set i (some d))[0]? = some (some (.ref 0))) (h1 : ∀ d, (env.set i (some d))[1]? = some (some (.str z))) (n : Nat) (hn : n < 100000) (c : D) (hc : StOk c) :
    ∃ ss c', mapR (lcF (gtN i) mYes (mCall f__law_pick (mCons (mV 0) (mCons (mV 1) mNil))) env) (rng 0 n) (c :: rest) = .ok (ss.map D.str) (c' :: rest) ∧ StOk c' ∧ ss.length < 16777216 ∧ (Txt.join Str.empty ss).length = n ∧
      joinD (.str Str.empty) [.lst (ss.map D.str)] (c' :: rest) = .ok (.str (Txt.join Str.empty ss)) (c' :: rest) := by
  obtain ⟨ys, c', e, h2, h3, h4⟩ := map_draws (f := lcF (gtN i) mYes (mCall f__law_pick (mCons (mV 0) (mCons (mV 1) mNil))) env) (rest := rest) (fun d => ∃ y, d = .str y ∧ y.length = 1) (ds := rng 0 n) (fun d _ c hc => by
    obtain ⟨y, c', e, h5, h6⟩ := pick_s c hc rest z hz hz2
    refine ⟨.str y, c', ?_, h5, y, rfl, h6⟩
    have e0 := e_V (cs := c :: rest) (h0 d)
    have e1 := e_V (cs := c :: rest) (h1 d)
    clear h0 h1
    walk_at "eva") c hc
  obtain ⟨ss, rfl, hs⟩ := strs_of (fun z => z.length = 1) h4
  have hl : ss.length = n := by
    rw [List.length_map] at h3
    rw [h3]
    unfold rng
    simp
  have hj : (Txt.join Str.empty ss).length = n := by rw [join_len, sum_ones hs, hl]
  refine ⟨ss, c', e, h2, by omega, hj, o_join ?_⟩
  rw [sum_ones hs, len_empty]
  omega
theorem draws_ok (ns : List Int) (h : ns.length ≤ 63) : ∃ c, f__law_draws [.wl ns] [] = .ok (.ref 0) [c] ∧ StOk c := by
  refine ⟨.lst [.lst (ns.map .int), .int (0 : Nat), .int 0, .int 0, .int 1, .int 0], ?_, ns, 0, 0, 0, 1, 0, rfl, Nat.zero_le _, by omega, Int.le_refl _⟩
  have hm : mapR (lcF (gtN 1) mYes (mCB intD (mCons (mV 1) mNil)) [some (.wl ns), none]) (ns.map D.int) [] = .ok ((ns.map D.int).map id) [] := map_pure fun d hd => by
    obtain ⟨i, _, rfl⟩ := List.mem_map.mp hd
    walk_at "ev"
    rfl
  rw [List.map_id] at hm
  have hl : ns.length < 16777216 := by omega
  have hn : nrs (ns.map D.int) = true := nrs_map fun _ => rfl
  unfold f__law_draws mDef m__law_draws
  walk_at "eva"
  rfl
/-! ### the program's own functions -/
noncomputable abbrev L (z : Str) : List Nat := z.cps.toList
noncomputable def lowB (c : Nat) : Bool := decide (97 ≤ c) && decide (c ≤ 122)
noncomputable def alphaB (z : Str) : Bool := (decide (1 ≤ z.length) && decide (z.length ≤ 6)) && (decide (L z).Nodup && (L z).all lowB)
noncomputable def wB (z : Str) (hs : List Int) : Bool := decide (hs.length = z.length) && hs.all fun x => decide (1 ≤ x) && decide (x ≤ 99)
noncomputable def lettersB (z w : Str) : Bool := (L w).all fun c => decide (c ∈ L z)
theorem sgl_lt (a b : Nat) : (([a] : List Nat) < [b]) ↔ a < b := by
  rw [List.cons_lt_cons_iff]
  constructor
  · rintro (h | ⟨_, h⟩)
    · exact h
    · exact absurd h (List.lt_irrefl _)
  · exact fun h => .inl h
theorem le_a (c : Nat) : (!decide ((sgn c).cps.toList < (Str.ofString "a").cps.toList)) = decide (97 ≤ c) := by
  rw [show (Str.ofString "a").cps.toList = [97] by decide +kernel]
  show (!decide (([c] : List Nat) < [97])) = _
  rw [decide_eq_decide.mpr (sgl_lt c 97)]
  by_cases h : c < 97
  · rw [decide_eq_true h, decide_eq_false (by omega)]
    rfl
  · rw [decide_eq_false h, decide_eq_true (by omega)]
    rfl
theorem le_z (c : Nat) : (!decide ((Str.ofString "z").cps.toList < (sgn c).cps.toList)) = decide (c ≤ 122) := by
  rw [show (Str.ofString "z").cps.toList = [122] by decide +kernel]
  show (!decide (([122] : List Nat) < [c])) = _
  rw [decide_eq_decide.mpr (sgl_lt 122 c)]
  by_cases h : 122 < c
  · rw [decide_eq_true h, decide_eq_false (by omega)]
    rfl
  · rw [decide_eq_false h, decide_eq_true (by omega)]
    rfl
theorem map_bl {α : Type} (l : List α) (p : α → Bool) : (l.map fun a => D.bl (p a)) = (l.map p).map D.bl := by
  rw [List.map_map]
  rfl
theorem all_map {α : Type} (l : List α) (p : α → Bool) : (l.map p).all id = l.all p := by
  rw [List.all_map]
  rfl
theorem is_alphabet_eq (z : Str) (cs : List D) (hz : z.length ≤ 30000) : f_is_alphabet [.str z] cs = .ok (.bl (alphaB z)) cs := by
  have h2 : z.length ≤ 16777216 := by omega
  unfold f_is_alphabet mDef m_is_alphabet
  by_cases h1 : (1 : Int) ≤ (z.length : Int)
  · have e1 : decide ((1 : Int) ≤ (z.length : Int)) = true := decide_eq_true h1
    by_cases h3 : (z.length : Int) ≤ 6
    · have e3 : decide ((z.length : Int) ≤ 6) = true := decide_eq_true h3
      have h4 : z.length ≤ 1000 := by omega
      have e4 := k_lenSet (cs := cs) h4
      have e6 : decide ((((metC (L z)).length : Nat) : Int) = (z.length : Int)) = decide (L z).Nodup := by
        rw [← metC_all]
        have : z.length = (L z).length := str_len z
        rw [decide_eq_decide]
        omega
      have ea : alphaB z = (decide (L z).Nodup && (L z).all lowB) := by
        unfold alphaB
        rw [decide_eq_true (show 1 ≤ z.length by omega), decide_eq_true (show z.length ≤ 6 by omega)]
        rfl
      by_cases h5 : (L z).Nodup
      · have e5 : decide (L z).Nodup = true := decide_eq_true h5
        rw [e5] at e6
        walk_at "eva"
        rw [chrs_eq, map_pureT (g := fun c => D.bl (lowB c))]
        · have l1 : ((L z).map fun c => D.bl (lowB c)).length < 16777216 := by
            rw [List.length_map]
            have : z.length = (L z).length := str_len z
            omega
          have q := k_lc2 (k := kDone) (cs := cs) l1
          walk_at "eva"
          rw [map_bl, o_all, all_map]
          walk_at "ev"
        · intro c _
          have q1 := le_a c
          have q2 := le_z c
          unfold lowB
          by_cases h7 : 97 ≤ c
          · rw [decide_eq_true h7] at q1
            walk_at "eva"
          · rw [decide_eq_false h7] at q1
            walk_at "eva"
      · have e5 : decide (L z).Nodup = false := decide_eq_false h5
        rw [e5] at e6
        walk_at "eva"
    · have e3 : decide ((z.length : Int) ≤ 6) = false := decide_eq_false h3
      have ea : alphaB z = false := by
        unfold alphaB
        rw [decide_eq_false (show ¬ z.length ≤ 6 by omega)]
        simp
      walk_at "eva"
  · have e1 : decide ((1 : Int) ≤ (z.length : Int)) = false := decide_eq_false h1
    have ea : alphaB z = false := by
      unfold alphaB
      rw [decide_eq_false (show ¬ 1 ≤ z.length by omega)]
      rfl
    walk_at "eva"
noncomputable abbrev exL (z : Str) : D := .ins 176 ["text"] [.str z]
noncomputable abbrev exW : D := .ins 73 [] []
noncomputable abbrev exB (w : Str) : D := .ins 195 ["text"] [.str w]
noncomputable abbrev exT : D := .ins 49 [] []
theorem check_letters_eq (z : Str) (cs : List D) (hz : z.length ≤ 30000) : f_check_letters [.str z] cs = if alphaB z then .ok .non cs else .err (exL z) [] cs := by
  have e := is_alphabet_eq z cs hz
  unfold f_check_letters mDef m_check_letters
  cases h : alphaB z with
  | true =>
    rw [h] at e
    walk_at "eva"
  | false =>
    rw [h] at e
    walk_at "eva"
    simp
theorem o_inS' (z : Str) (c : Nat) (cs : List D) : inD (.str (sgn c)) (.str z) cs = .ok (.bl (decide (c ∈ L z))) cs := by
  show (match inB cs (.str (sgn c)) (.str z) with
    | some b => R.ok (D.bl b) cs
    | none => .bad) = _
  show R.ok (D.bl (inS (sgn c) z)) cs = _
  rw [in_sgn]
theorem has_letters_eq (z w : Str) (cs : List D) (hw : w.length ≤ 30000) : f_has_letters_only [.str z, .str w] cs = .ok (.bl (lettersB z w)) cs := by
  unfold f_has_letters_only mDef m_has_letters_only
  walk_at "eva"
  rw [chrs_eq, map_pureT (g := fun c => D.bl (decide (c ∈ L z)))]
  · have l1 : ((L w).map fun c => D.bl (decide (c ∈ L z))).length < 16777216 := by
      rw [List.length_map]
      have : w.length = (L w).length := str_len w
      omega
    have q := k_lc2 (k := kDone) (cs := cs) l1
    walk_at "eva"
    rw [map_bl, o_all, all_map]
    walk_at "ev"
    rfl
  · intro c _
    have q := o_inS' z c cs
    walk_at "eva"
noncomputable def rk (z : Str) (c : Nat) : Int := ((L z).idxOf c : Nat)
noncomputable def ranks (z w : Str) : List Int := (L w).map (rk z)
noncomputable def hv (z : Str) (hs : List Int) (c : Nat) : Int := hs.getD ((L z).idxOf c) 0
noncomputable def weigh (z : Str) (hs : List Int) (w : Str) : Int := ((L w).map (hv z hs)).sum
theorem lettersB_mem {z w : Str} (h : lettersB z w = true) : ∀ c ∈ L w, c ∈ L z := fun c hc => of_decide_eq_true (List.all_eq_true.mp h c hc)
/-! ### the order of keys -/
noncomputable def kD (a : Int) (ra : List Int) : PyData := .tuple [.int a, .list (ra.map .int)]
noncomputable def ltK (a b : Int) (ra rb : List Int) : Bool := decide (a < b ∨ (a = b ∧ ra < rb))
noncomputable def ltW (z : Str) (hs : List Int) (w v : Str) : Bool := ltK (weigh z hs w) (weigh z hs v) (ranks z w) (ranks z v)
noncomputable def cmpI (z : Str) (hs : List Int) (w v : Str) : Int := if w = v then 0 else if ltW z hs w v then -1 else 1
/-! ### what is due -/
inductive Ft where
  | no | l | w | b (x : Str) | t
noncomputable def wordF (z w : Str) : Ft := if lettersB z w then (if 32 < w.length then .t else .no) else .b w
noncomputable def wordsF (z : Str) : List Str → Ft
  | [] => .no
  | w :: ws => match wordF z w with
    | .no => wordsF z ws
    | f => f
noncomputable def faultF (z : Str) (hs : List Int) (ws : List Str) : Ft := if alphaB z then (if wB z hs then wordsF z ws else .w) else .l
noncomputable def exF (z : Str) : Ft → D
  | .no => .non
  | .l => exL z
  | .w => exW
  | .b x => exB x
  | .t => exT
noncomputable def rF {α : Type} (z : Str) (cs : List D) : Ft → R α → R α
  | .no, r => r
  | f, _ => .err (exF z f) [] cs
/-! ### the law's own order -/
/-! letters that are there: the weight grows, ranks tell letters apart -/
theorem o_notS (z : Str) (c : Nat) (cs : List D) : notInD (.str (sgn c)) (.str z) cs = .ok (.bl (!decide (c ∈ L z))) cs := by
  show R.ok (D.bl (!inS (sgn c) z)) cs = _
  rw [in_sgn]
theorem cutS_take (z : Str) (k : Nat) : L (cutS z none (some (k : Int))) = (L z).take k := by
  show (cutS z none (some (k : Int))).cps.toList = _
  rw [cutS_list]
  have q1 : HT.sIx z.length 0 none = 0 := rfl
  have q2 : HT.sIx z.length z.length (some (k : Int)) = min k z.length := by
    unfold HT.sIx
    simp only
    rw [if_neg (by omega)]
    omega
  rw [q1, q2, List.drop_zero, Nat.sub_zero]
  have hz : z.length = (L z).length := str_len z
  by_cases h : k ≤ z.length
  · rw [Nat.min_eq_left h]
  · rw [Nat.min_eq_right (by omega), hz, List.take_length, List.take_of_length_le (by omega)]
theorem low_mem (c : Nat) : decide (c ∈ L (Str.ofString "abcdefghijklmnopqrstuvwxyz")) = lowB c := by
  rw [show L (Str.ofString "abcdefghijklmnopqrstuvwxyz") = List.range' 97 26 by decide +kernel]
  unfold lowB
  rw [Bool.eq_iff_iff, decide_eq_true_eq, Bool.and_eq_true, decide_eq_true_eq, decide_eq_true_eq, List.mem_range'_1]
  omega
theorem alpha_iff (z : Str) (h1 : 1 ≤ z.length) (h2 : z.length ≤ 6) : alphaB z = true ↔ ∀ k c, (L z)[k]? = some c → lowB c = true ∧ c ∉ (L z).take k := by
  unfold alphaB
  rw [decide_eq_true h1, decide_eq_true h2, Bool.and_self, Bool.true_and, Bool.and_eq_true, decide_eq_true_eq, nodup_take, List.all_eq_true]
  constructor
  · rintro ⟨a, b⟩ k c hc
    exact ⟨b c (List.mem_of_getElem? hc), a k c hc⟩
  · intro h
    refine ⟨fun k c hc => (h k c hc).2, fun c hc => ?_⟩
    obtain ⟨k, hk⟩ := List.mem_iff_getElem?.mp hc
    exact (h k c hk).1
noncomputable def tupF (z : Str) : Ft → D
  | .no => .tup []
  | .l => .tup [.str "BadLetters", .str z]
  | .w => .tup [.str "BadWeights"]
  | .b x => .tup [.str "BadWord", .str x]
  | .t => .tup [.str "TooLong"]
section
/-! ### signs of what is drawn -/
noncomputable def AllC (P : Nat → Prop) (w : Str) : Prop := ∀ c ∈ L w, P c
section
variable {P : Nat → Prop} {x y z : Str}
theorem L_app (x y : Str) : L (x ++ y) = L x ++ L y := by
  show (x.cps ++ y.cps).toList = _
  rw [Array.toList_append]
theorem all_app (hx : AllC P x) (hy : AllC P y) : AllC P (x ++ y) := fun c hc => by
  rw [L_app] at hc
  rcases List.mem_append.mp hc with h | h
  · exact hx c h
  · exact hy c h
theorem all_cut (hx : AllC P x) (lo hi : Option Int) : AllC P (cutS x lo hi) := fun c hc => by
  have : L (cutS x lo hi) = _ := cutS_list x lo hi
  rw [this] at hc
  exact hx c (List.mem_of_mem_drop (List.mem_of_mem_take hc))
theorem all_sgn {c : Nat} (h : P c) : AllC P (Str.mk #[c]) := fun d hd => by
  have : L (Str.mk #[c]) = [c] := rfl
  rw [this] at hd
  rw [List.mem_singleton.mp hd]
  exact h
theorem all_empty : AllC P Str.empty := fun c hc => by cases hc
theorem all_mul (hx : AllC P x) (n : Int) : AllC P (strMul x n) := by
  unfold strMul Txt.mul
  by_cases h : n < 1
  · rw [if_pos h]
    exact all_empty
  · rw [if_neg h]
    by_cases h2 : (n == 1 || x.length == 0) = true
    · rw [if_pos h2]
      exact hx
    · rw [if_neg h2]
      intro c hc
      have aux : ∀ (k : Nat) (a : Array Nat), (∀ c ∈ a.toList, P c) → ∀ c ∈ ((List.replicate k x.cps).foldl (· ++ ·) a).toList, P c := by
        intro k
        induction k with
        | zero => intro a ha; exact ha
        | succ k ih =>
          intro a ha
          rw [List.replicate_succ, List.foldl_cons]
          refine ih _ fun d hd => ?_
          rw [Array.toList_append] at hd
          rcases List.mem_append.mp hd with h | h
          · exact ha d h
          · exact hx d h
      exact aux _ #[] (fun d hd => by cases hd) c hc
theorem all_join {ss : List Str} (h : ∀ s ∈ ss, AllC P s) : AllC P (Txt.join Str.empty ss) := by
  rw [TL.join_eq]
  induction ss with
  | nil => exact all_empty
  | cons a ss ih =>
    cases ss with
    | nil => exact h a (by simp)
    | cons b ss =>
      show AllC P (a ++ Str.empty ++ Str.join Str.empty (b :: ss))
      exact all_app (all_app (h a (by simp)) all_empty) (ih fun s hs => h s (List.mem_cons_of_mem _ hs))
end
theorem pick_c {P : Nat → Prop} (c : D) (hc : StOk c) (rest : List D) (z : Str) (h : 0 < z.length) (hl : z.length ≤ 16777216) (hP : AllC P z) :
    ∃ y c', f__law_pick [.ref 0, .str z] (c :: rest) = .ok (.str y) (c' :: rest) ∧ StOk c' ∧ y.length = 1 ∧ AllC P y := by
  obtain ⟨v, c', e, h1, h2, h3, h4⟩ := take_ok c hc rest (z.length : Int) (by omega)
  have hv : v.toNat < z.cps.toList.length := by
    have := str_len z
    by_cases h5 : (z.length : Int) < 2
    · have := h4 h5
      omega
    · have := h3 (by omega)
      omega
  obtain ⟨n, rfl⟩ : ∃ n : Nat, v = (n : Int) := ⟨v.toNat, by omega⟩
  rw [Int.toNat_natCast] at hv
  have e2 : atI z.cps.toList (n : Int) = some z.cps.toList[n] := Wf.atI_nat (List.getElem?_eq_getElem hv)
  have e3 := o_ixS (cs := c' :: rest) hl e2
  have hp := hP _ (List.getElem_mem hv)
  refine ⟨⟨#[z.cps.toList[n]]⟩, c', ?_, h1, rfl, all_sgn hp⟩
  clear hP hp
  unfold f__law_pick mDef m__law_pick
  walk_at "eva"
theorem picks_ok {P : Nat → Prop} {i : Nat} {env : Wf.Env} {z : Str} {rest : List D} (hz : 0 < z.length) (hz2 : z.length ≤ 16777216) (hP : AllC P z) (h0 : ∀ d, (env.set i (some d))[0]? = some (some (.ref 0))) (h1 : ∀ d, (env.set i (some d))[1]? = some (some (.str z))) (n : Nat) (hn : n < 100000) (c : D) (hc : StOk c) :
    ∃ ss c', mapR (lcF (gtN i) mYes (mCall f__law_pick (mCons (mV 0) (mCons (mV 1) mNil))) env) (rng 0 n) (c :: rest) = .ok (ss.map D.str) (c' :: rest) ∧ StOk c' ∧ ss.length < 16777216 ∧ (Txt.join Str.empty ss).length = n ∧ AllC P (Txt.join Str.empty ss) ∧
      joinD (.str Str.empty) [.lst (ss.map D.str)] (c' :: rest) = .ok (.str (Txt.join Str.empty ss)) (c' :: rest) := by
  obtain ⟨ys, c', e, h2, h3, h4⟩ := map_draws (f := lcF (gtN i) mYes (mCall f__law_pick (mCons (mV 0) (mCons (mV 1) mNil))) env) (rest := rest) (fun d => ∃ y, d = .str y ∧ (y.length = 1 ∧ AllC P y)) (ds := rng 0 n) (fun d _ c hc => by
    obtain ⟨y, c', e, h5, h6, h7⟩ := pick_c c hc rest z hz hz2 hP
    refine ⟨.str y, c', ?_, h5, y, rfl, h6, h7⟩
    have e0 := e_V (cs := c :: rest) (h0 d)
    have e1 := e_V (cs := c :: rest) (h1 d)
    clear h0 h1 hP h7
    walk_at "eva") c hc
  obtain ⟨ss, rfl, hs⟩ := strs_of (fun z => z.length = 1 ∧ AllC P z) h4
  have hl : ss.length = n := by
    rw [List.length_map] at h3
    rw [h3]
    unfold rng
    simp
  have hj : (Txt.join Str.empty ss).length = n := by rw [join_len, sum_ones fun z hz => (hs z hz).1, hl]
  refine ⟨ss, c', e, h2, by omega, hj, all_join fun s h => (hs s h).2, o_join ?_⟩
  rw [sum_ones fun z hz => (hs z hz).1, len_empty]
  omega
end
theorem cutS_drop (z : Str) (k : Nat) : L (cutS z (some (k : Int)) none) = (L z).drop k := by
  show (cutS z (some (k : Int)) none).cps.toList = _
  rw [cutS_list]
  have q1 : HT.sIx z.length z.length none = z.length := rfl
  have q2 : HT.sIx z.length 0 (some (k : Int)) = min k z.length := by
    unfold HT.sIx
    simp only
    rw [if_neg (by omega)]
    omega
  rw [q1, q2]
  have hz : z.length = (L z).length := str_len z
  by_cases h : k ≤ z.length
  · rw [Nat.min_eq_left h, List.take_of_length_le]
    rw [List.length_drop, hz]
    exact Nat.le_refl _
  · rw [Nat.min_eq_right (by omega), List.drop_of_length_le (show (L z).length ≤ k by omega), List.drop_of_length_le (show z.cps.toList.length ≤ z.length by rw [hz]; exact Nat.le_refl _)]
    simp
noncomputable def abc : Str := Str.ofString "abcdefghijklmnopqrstuvwxyz"
theorem abc_L : L abc = List.range' 97 26 := by decide +kernel
theorem abc_len : abc.length = 26 := by decide +kernel
theorem abc_nodup : (L abc).Nodup := by
  rw [abc_L]
  exact List.nodup_range'
theorem abc_low : AllC (fun c => lowB c = true) abc := fun c hc => by
  have := low_mem c
  show lowB c = true
  rw [← this]
  exact decide_eq_true hc
structure GoodL (y : Str) : Prop where
  nd : (L y).Nodup
  lo : AllC (fun c => lowB c = true) y
theorem GoodL.alpha {y : Str} (h : GoodL y) (h1 : 1 ≤ y.length) (h2 : y.length ≤ 6) : alphaB y = true := by
  unfold alphaB
  rw [decide_eq_true h1, decide_eq_true h2, decide_eq_true h.nd]
  simp only [Bool.and_self, Bool.true_and]
  exact List.all_eq_true.mpr h.lo
theorem abc_cut {n : Nat} (hn : n ≤ 26) : GoodL (cutS abc none (some (n : Int))) ∧ (cutS abc none (some (n : Int))).length = n := by
  have e := cutS_take abc n
  have hl : (cutS abc none (some (n : Int))).length = (L (cutS abc none (some (n : Int)))).length := str_len _
  refine ⟨⟨?_, all_cut abc_low _ _⟩, ?_⟩
  · rw [e]
    exact abc_nodup.sublist (List.take_sublist _ _)
  · rw [hl, e, List.length_take, abc_L, List.length_range']
    omega
theorem letters_ok (c : D) (hc : StOk c) (rest : List D) (lo hi : Int) (h1 : 1 ≤ lo) (h2 : lo ≤ hi) (h3 : hi ≤ 8) :
    ∃ y c', f__law_letters [.ref 0, .int lo, .int hi] (c :: rest) = .ok (.str y) (c' :: rest) ∧ StOk c' ∧ lo ≤ (y.length : Int) ∧ (y.length : Int) ≤ hi ∧ GoodL y := by
  obtain ⟨v, c1, e1, g1, v1, v2⟩ := span_ok c hc rest lo hi h2 (by omega)
  obtain ⟨n, rfl⟩ : ∃ n : Nat, v = (n : Int) := ⟨v.toNat, by omega⟩
  obtain ⟨t, c2, e2, g2, t1, t2, t3⟩ := take_ok c1 g1 rest 3 (by decide)
  clear t1 t2 t3
  have habc : (Str.ofString "abcdefghijklmnopqrstuvwxyz") = abc := rfl
  have al : abc.length ≤ 16777216 := by rw [abc_len]; decide
  suffices hh : Ok (f__law_letters [.ref 0, .int lo, .int hi] (c :: rest)) (fun d cs' => ∃ y c', d = .str y ∧ cs' = c' :: rest ∧ StOk c' ∧ lo ≤ (y.length : Int) ∧ (y.length : Int) ≤ hi ∧ GoodL y) by
    obtain ⟨d, cs', e, y, c', q1, q2, q3⟩ := Ok_get hh
    exact ⟨y, c', by rw [e, q1, q2], q3⟩
  unfold f__law_letters mDef m__law_letters
  rw [habc]
  by_cases ht : t = 0
  · have x0 : decide (t = 0) = true := decide_eq_true ht
    have x1 := o_slS (cs := c2 :: rest) (lo := none) (hi := some (n : Int)) al
    obtain ⟨w1, w2⟩ := abc_cut (n := n) (by omega)
    clear ht
    repeat (first | simp only [e1, e2, x0, x1, n_ok, R.bind_ok] | walk_at "ev")
    exact ⟨_, c2, rfl, rfl, g2, by omega, by omega, w1⟩
  · have x0 : decide (t = 0) = false := decide_eq_false ht
    have q4 : -1000000000 ≤ ((n : Int)) ∧ ((n : Int)) < 1000000000 := by omega
    have x1 := k_rng1 (cs := c2 :: rest) q4
    clear ht
    repeat (first | simp only [e1, e2, x0, x1, n_ok, R.bind_ok] | walk_at "ev")
    refine Ok_for (fun ds r cs => ∃ (left out : Str) (c' : D) (o6 o7 : Option D), r = [some (.ref 0), some (.int lo), some (.int hi), some (.int (n : Int)), some (.str left), some (.str out), o6, o7] ∧ cs = c' :: rest ∧ StOk c' ∧ left.length + n = ds.length + 26 ∧ out.length + ds.length = n ∧ (L out ++ L left).Nodup ∧ ∀ x ∈ L out ++ L left, lowB x = true) ?_ ?_ _ _ _ ⟨abc, Str.empty, c2, none, none, ?_, rfl, g2, ?_, ?_, ?_, ?_⟩
    · rintro r cs ⟨left, out, c', o6, o7, rfl, rfl, g3, i1, i2, i3, i4⟩
      rw [List.length_nil] at i2
      repeat walk_at "ev"
      refine ⟨out, c', rfl, rfl, g3, by omega, by omega, ⟨(List.nodup_append.mp i3).1, fun x hx => i4 x (List.mem_append_left _ hx)⟩⟩
    · rintro d ds r cs ⟨left, out, c', o6, o7, rfl, rfl, g3, i1, i2, i3, i4⟩
      rw [List.length_cons] at i1 i2
      have ll : left.length ≤ 16777216 := by omega
      have lll : left.length = (L left).length := str_len left
      obtain ⟨s, c3, e3, g4, s1, s2, s3⟩ := take_ok c' g3 rest (left.length : Int) (by omega)
      have hs : s < (left.length : Int) := s2 (by omega)
      obtain ⟨m, rfl⟩ : ∃ m : Nat, s = (m : Int) := ⟨s.toNat, by omega⟩
      have hm : m < (L left).length := by omega
      have e4 := o_ixS (cs := c3 :: rest) ll (Wf.atI_nat (List.getElem?_eq_getElem hm))
      have hmem := List.getElem_mem hm
      have hdec : L left = (L left).take m ++ (L left)[m] :: (L left).drop (m + 1) := by
        rw [← List.drop_eq_getElem_cons hm, List.take_append_drop]
      generalize hx : (L left)[m] = x at e4 hmem hdec
      have e5 := o_addS (z := out) (y := Str.mk #[x]) (cs := c3 :: rest) (by rw [len_one]; omega)
      have e6 := o_slS (cs := c3 :: rest) (lo := none) (hi := some (m : Int)) ll
      have e7 := o_slS (cs := c3 :: rest) (lo := some ((m : Int) + 1)) (hi := none) ll
      have a1 := cutS_to left m
      have a2 := cutS_from left (m + 1)
      have e9 : (m : Int) + 1 = ((m + 1 : Nat) : Int) := by omega
      have e8 := o_addS (z := cutS left none (some (m : Int))) (y := cutS left (some ((m : Int) + 1)) none) (cs := c3 :: rest) (by rw [e9]; omega)
      have lenS := o_lenS (cs := c' :: rest) ll
      have L1 : L (out ++ Str.mk #[x]) = L out ++ [x] := L_app out (Str.mk #[x])
      have L2' : L (cutS left none (some (m : Int)) ++ cutS left (some ((m : Int) + 1)) none) = (L left).take m ++ (L left).drop (m + 1) := by
        rw [L_app, cutS_take, e9, cutS_drop]
      have hperm : (L (out ++ Str.mk #[x]) ++ L (cutS left none (some (m : Int)) ++ cutS left (some ((m : Int) + 1)) none)).Perm (L out ++ L left) := by
        rw [L1, L2']
        conv => rhs; rw [hdec]
        rw [List.append_assoc]
        refine List.Perm.append_left _ ?_
        exact (List.perm_middle (a := x) (l₁ := (L left).take m) (l₂ := (L left).drop (m + 1))).symm
      have ln : (cutS left none (some (m : Int)) ++ cutS left (some ((m : Int) + 1)) none).length + 1 = left.length := by
        have q1 : (cutS left none (some (m : Int)) ++ cutS left (some ((m : Int) + 1)) none).length = (L (cutS left none (some (m : Int)) ++ cutS left (some ((m : Int) + 1)) none)).length := str_len _
        rw [q1, L2', List.length_append, List.length_take, List.length_drop]
        omega
      have lo1 : (out ++ Str.mk #[x]).length = out.length + 1 := by rw [len_app, len_one]
      clear a1 a2 hdec hmem hx
      repeat (first | simp only [lenS, e3, e4, e5, e6, e7, e8, n_ok, R.bind_ok] | walk_at "ev")
      refine ⟨_, _, c3, _, _, rfl, rfl, g4, ?_, ?_, hperm.nodup_iff.mpr i3, fun y hy => i4 y (hperm.mem_iff.mp hy)⟩
      · omega
      · omega
    · rfl
    · rw [abc_len]
      unfold rng
      rw [List.length_map, List.length_range]
      omega
    · unfold rng
      rw [List.length_map, List.length_range, len_empty]
      omega
    · show (([] : List Nat) ++ L abc).Nodup
      exact abc_nodup
    · exact fun x hx => abc_low x hx
theorem word_ok {P : Nat → Prop} (c : D) (hc : StOk c) (rest : List D) (z : Str) (hz : 0 < z.length) (hz2 : z.length ≤ 16777216) (hP : AllC P z) (lo hi : Int) (h0 : 0 ≤ lo) (h1 : lo ≤ hi) (h2 : hi ≤ 40) :
    ∃ y c', f__law_word [.ref 0, .str z, .int lo, .int hi] (c :: rest) = .ok (.str y) (c' :: rest) ∧ StOk c' ∧ (y.length : Int) ≤ hi ∧ AllC P y := by
  obtain ⟨v, c1, e1, g1, v1, v2⟩ := in_range_ok c hc rest lo hi h1 (by omega)
  obtain ⟨n, rfl⟩ : ∃ n : Nat, v = (n : Int) := ⟨v.toNat, by omega⟩
  obtain ⟨t, c2, e2, g2, t1, t2, t3⟩ := take_ok c1 g1 rest 4 (by decide)
  clear t1 t2 t3
  have hn : n ≤ 40 := by omega
  unfold f__law_word mDef m__law_word
  by_cases ht : t = 0
  · have x0 : decide (t = 0) = true := decide_eq_true ht
    obtain ⟨y, c3, e3, g3, ly, py⟩ := pick_c c2 g2 rest z hz hz2 hP
    have e4 := o_mulS (z := y) (i := (n : Int)) (cs := c3 :: rest) ⟨by omega, by omega, by rw [ly, Int.toNat_natCast]; omega⟩
    refine ⟨strMul y (n : Int), c3, ?_, g3, by rw [mul_len, ly]; omega, all_mul py _⟩
    clear hP py ht
    repeat (first | simp only [e1, e2, e3, e4, x0, n_ok, R.bind_ok] | walk_at "ev")
  · have x0 : decide (t = 0) = false := decide_eq_false ht
    by_cases ht1 : t = 1
    · have x1 : decide (t = 1) = true := decide_eq_true ht1
      obtain ⟨y, c3, e3, g3, ly, py⟩ := pick_c c2 g2 rest z hz hz2 hP
      obtain ⟨y2, c4, e4, g4, ly2, py2⟩ := pick_c c3 g3 rest z hz hz2 hP
      have e5 := o_addS (z := y) (y := y2) (cs := c4 :: rest) (by omega)
      have l2 : (y ++ y2).length = 2 := by rw [len_app, ly, ly2]
      have e6 := o_mulS (z := y ++ y2) (i := (n : Int)) (cs := c4 :: rest) ⟨by omega, by omega, by rw [l2, Int.toNat_natCast]; omega⟩
      have l3 : (strMul (y ++ y2) (n : Int)).length ≤ 16777216 := by rw [mul_len, l2]; omega
      have e7 := o_slS (cs := c4 :: rest) (lo := none) (hi := some (n : Int)) l3
      have l4 := cutS_to (strMul (y ++ y2) (n : Int)) n
      refine ⟨cutS (strMul (y ++ y2) (n : Int)) none (some (n : Int)), c4, ?_, g4, by omega, all_cut (all_mul (all_app py py2) _) _ _⟩
      clear hP py py2 ht ht1 l4
      repeat (first | simp only [e1, e2, e3, e4, e5, e6, e7, x0, x1, n_ok, R.bind_ok] | walk_at "ev")
    · have x1 : decide (t = 1) = false := decide_eq_false ht1
      have q4 : -1000000000 ≤ ((n : Int)) ∧ ((n : Int)) < 1000000000 := by omega
      have x2 := k_rng1 (cs := c2 :: rest) q4
      obtain ⟨ss, c3, e3, g3, s1, s2, s3, s4⟩ := picks_ok (i := 7) (env := [some (.ref 0), some (.str z), some (.int lo), some (.int hi), some (.int (n : Int)), some (.int t), none, none]) (rest := rest) hz hz2 hP (fun _ => rfl) (fun _ => rfl) n (by omega) c2 g2
      have x3 := k_lc2 (k := kDone) (cs := c3 :: rest) (show (ss.map D.str).length < 16777216 by rw [List.length_map]; exact s1)
      refine ⟨Txt.join Str.empty ss, c3, ?_, g3, by omega, s3⟩
      clear hP s3 ht ht1 s2
      repeat (first | simp only [e1, e2, e3, s4, x0, x1, x2, x3, c_ok, n_ok, R.bind_ok] | walk_at "ev")
theorem kind_ok (c : D) (hc : StOk c) (rest : List D) (n : Int) (hn : 2 ≤ n) (hn2 : n < 1000000) : ∃ (t : Int) (c' : D), f__law_take [.ref 0, .int n] (c :: rest) = .ok (.int t) (c' :: rest) ∧ StOk c' ∧ 0 ≤ t ∧ t < n := by
  obtain ⟨s, c2, e2, g2, s1, s2, s3⟩ := take_ok c hc rest n (by omega)
  exact ⟨s, c2, e2, g2, s1, s2 hn⟩
theorem map_part {α : Type} {f : D → List D → R (Option D)} {g : α → D} {cs : List D} {p : α → Bool} : ∀ {l : List α}, (∀ a ∈ l, f (g a) cs = .ok (if p a then some (g a) else none) cs) → mapR f (l.map g) cs = .ok ((l.filter p).map g) cs
  | [], _ => rfl
  | a :: l, h => by
    rw [List.map_cons]
    unfold mapR
    rw [h a (List.mem_cons_self ..), R.bind_ok, map_part (l := l) fun e he => h e (List.mem_cons_of_mem _ he), R.bind_ok]
    cases hp : p a with
    | true => rw [List.filter_cons_of_pos hp]; rfl
    | false => rw [List.filter_cons_of_neg (by rw [hp]; exact Bool.false_ne_true)]; rfl
theorem nodup_le : ∀ {l m : List Nat}, l.Nodup → (∀ x ∈ l, x ∈ m) → l.length ≤ m.length
  | [], m, _, _ => Nat.zero_le _
  | a :: l, m, h, hs => by
    have ha : a ∈ m := hs a (List.mem_cons_self ..)
    have h1 := List.nodup_cons.mp h
    have h2 := nodup_le (l := l) (m := m.erase a) h1.2 fun x hx => (List.mem_erase_of_ne (fun e => h1.1 (by rw [← e]; exact hx))).mpr (hs x (List.mem_cons_of_mem _ hx))
    rw [List.length_erase_of_mem ha] at h2
    have := List.length_pos_of_mem ha
    rw [List.length_cons]
    omega
noncomputable def lowP (c : Nat) : Prop := c < 1114112
theorem low_P {c : Nat} (h : lowB c = true) : lowP c := by
  unfold lowB at h
  unfold lowP
  have := (Bool.and_eq_true _ _ ▸ h)
  have h2 := of_decide_eq_true this.2
  omega
noncomputable def outs (z : Str) : List Nat := (L abc).filter fun c => !decide (c ∈ L z)
theorem outs_ne {z : Str} (h : z.length ≤ 8) : outs z ≠ [] := fun e => by
  have h1 : ∀ x ∈ L abc, x ∈ L z := fun x hx => by
    by_cases hz : x ∈ L z
    · exact hz
    · have : x ∈ outs z := List.mem_filter.mpr ⟨hx, by rw [decide_eq_false hz]; rfl⟩
      rw [e] at this
      cases this
  have h2 := nodup_le abc_nodup h1
  have h3 : z.length = (L z).length := str_len z
  rw [abc_L, List.length_range'] at h2
  omega
/-! ### what is drawn -/
noncomputable def okT (w : Str) : Prop := w.length ≤ 6000 ∧ AllC lowP w
theorem low_of {w : Str} (h : ((L w).all fun c => decide (c < 1114112)) = true) : AllC lowP w := fun c hc => show c < 1114112 from of_decide_eq_true (p := c < 1114112) (List.all_eq_true.mp h c hc)
theorem stranger_ok (c : D) (hc : StOk c) (rest : List D) (z : Str) (hz : z.length ≤ 8) : ∃ y c', f__law_stranger [.ref 0, .str z] (c :: rest) = .ok (.str y) (c' :: rest) ∧ StOk c' ∧ y.length = 1 ∧ AllC lowP y := by
  have hm : mapR (lcF (gtN 2) (mB (mOp notInD (mV 2) (mV 1))) (mV 2) [some (.ref 0), some (.str z), none]) (chrs abc) (c :: rest) = .ok ((outs z).map fun c => D.str (sgn c)) (c :: rest) := by
    rw [chrs_eq]
    refine map_part fun a ha => ?_
    have := o_notS z a (c :: rest)
    by_cases h : a ∈ L z
    · have q := decide_eq_true h
      rw [q] at this
      rw [q]
      clear h q ha
      walk_at "eva"
      rfl
    · have q := decide_eq_false h
      rw [q] at this
      rw [q]
      clear h q ha
      walk_at "eva"
  have hl : ((outs z).map fun c => D.str (sgn c)).length < 16777216 := by
    rw [List.length_map]
    have h1 : (outs z).length ≤ (L abc).length := List.length_filter_le ..
    have h2 : (L abc).length = 26 := by rw [abc_L, List.length_range']
    omega
  have hn : nrs ((outs z).map fun c => D.str (sgn c)) = true := nrs_map fun _ => rfl
  obtain ⟨d, c1, e1, g1, hd⟩ := pick_l c hc rest _ (by intro h; exact outs_ne hz (List.map_eq_nil_iff.mp h)) (by omega) hn
  obtain ⟨a, ha, rfl⟩ := List.mem_map.mp hd
  have ha2 := (List.mem_filter.mp ha).1
  refine ⟨sgn a, c1, ?_, g1, rfl, all_sgn (low_P (abc_low a ha2))⟩
  have x2 := k_lc2 (k := kDone) (cs := c :: rest) hl
  have habc : (Str.ofString "abcdefghijklmnopqrstuvwxyz") = abc := rfl
  clear hd ha ha2
  unfold f__law_stranger mDef m__law_stranger
  rw [habc]
  repeat (first | simp only [hm, x2, e1, c_ok, n_ok, R.bind_ok] | walk_at "ev")

theorem put_low {w y : Str} (i j : Option Int) (hw : AllC lowP w) (hy : AllC lowP y) : AllC lowP (cutS w none i ++ y ++ cutS w j none) := all_app (all_app (all_cut hw _ _) hy) (all_cut hw _ _)
noncomputable abbrev ltMenu : Str := "AZ059 -_:~"
noncomputable abbrev ltMenu2 : Str := "AQZ1 ."
theorem bad_letters_ok (c : D) (hc : StOk c) (rest : List D) : ∃ y c', f__law_bad_letters [.ref 0] (c :: rest) = .ok (.str y) (c' :: rest) ∧ StOk c' ∧ y.length ≤ 40 := by
  obtain ⟨v, c1, e1, g1, v1, v2, v3⟩ := take_ok c hc rest 5 (by decide)
  unfold f__law_bad_letters mDef m__law_bad_letters
  by_cases h0 : v = 0
  · have x0 : decide (v = 0) = true := decide_eq_true h0
    refine ⟨Str.empty, c1, ?_, g1, by decide⟩
    clear v1 v2 v3 h0
    repeat (first | simp only [e1, x0, n_ok, c_ok, R.bind_ok] | walk_at "ev")
    (try rfl)
  · have x0 : decide (v = 0) = false := decide_eq_false h0
    by_cases h1 : v = 1
    · have x1 : decide (v = 1) = true := decide_eq_true h1
      obtain ⟨y, c2, e2, g2, y1, y2, y3⟩ := letters_ok c1 g1 rest 7 8 (by decide) (by decide) (by decide)
      refine ⟨y, c2, ?_, g2, by omega⟩
      clear v1 v2 v3 h0 h1 y1 y2 y3
      repeat (first | simp only [e1, e2, x0, x1, n_ok, c_ok, R.bind_ok] | walk_at "ev")
    · have x1 : decide (v = 1) = false := decide_eq_false h1
      obtain ⟨w, c2, e2, g2, w1, w2, w3⟩ := letters_ok c1 g1 rest 1 6 (by decide) (by decide) (by decide)
      have lw := fun cs => o_lenS (z := w) (cs := cs) (by omega)
      have sl := fun (lo hi : Option Int) cs => o_slS (cs := cs) (z := w) (lo := lo) (hi := hi) (by omega)
      obtain ⟨k, c3, e3, g3, _, _, _⟩ := take_ok c2 g2 rest ((w.length : Int) + 1) (by omega)
      have c1' := cutS_le w none (some k)
      by_cases h2 : v = 2
      · have x2 : decide (v = 2) = true := decide_eq_true h2
        obtain ⟨y, c4, e4, g4, y1, _⟩ := pick_c (P := fun _ => True) c3 g3 rest w (by omega) (by omega) (fun _ _ => trivial)
        have c2' := cutS_le w (some k) none
        have a1 := fun cs => o_addS (z := cutS w none (some k)) (y := y) (cs := cs) (by omega)
        have a2 := fun cs => o_addS (z := cutS w none (some k) ++ y) (y := cutS w (some k) none) (cs := cs) (by rw [Wf.len_app]; omega)
        refine ⟨cutS w none (some k) ++ y ++ cutS w (some k) none, c4, ?_, g4, by rw [Wf.len_app, Wf.len_app]; omega⟩
        clear v1 v2 v3 h0 h1 h2 w1 w2 w3 c1' c2' y1
        repeat (first | simp only [e1, e2, e3, e4, x0, x1, x2, lw, sl, a1, a2, n_ok, c_ok, R.bind_ok] | walk_at "ev")
      · have x2 : decide (v = 2) = false := decide_eq_false h2
        by_cases h3 : v = 3
        · have x3 : decide (v = 3) = true := decide_eq_true h3
          obtain ⟨y, c4, e4, g4, y1, _⟩ := pick_c (P := fun _ => True) c3 g3 rest ltMenu (by decide +kernel) (by decide +kernel) (fun _ _ => trivial)
          have c2' := cutS_le w (some k) none
          have a1 := fun cs => o_addS (z := cutS w none (some k)) (y := y) (cs := cs) (by omega)
          have a2 := fun cs => o_addS (z := cutS w none (some k) ++ y) (y := cutS w (some k) none) (cs := cs) (by rw [Wf.len_app]; omega)
          refine ⟨cutS w none (some k) ++ y ++ cutS w (some k) none, c4, ?_, g4, by rw [Wf.len_app, Wf.len_app]; omega⟩
          unfold ltMenu at e4
          clear v1 v2 v3 h0 h1 h2 h3 w1 w2 w3 c1' c2' y1
          repeat (first | simp only [e1, e2, e3, e4, x0, x1, x2, x3, lw, sl, a1, a2, n_ok, c_ok, R.bind_ok] | walk_at "ev")
        · have x3 : decide (v = 3) = false := decide_eq_false h3
          obtain ⟨j, c4, e4, g4, _, _, _⟩ := take_ok c3 g3 rest (w.length : Int) (by omega)
          obtain ⟨y, c5, e5, g5, y1, _⟩ := pick_c (P := fun _ => True) c4 g4 rest ltMenu2 (by decide +kernel) (by decide +kernel) (fun _ _ => trivial)
          have c0' := cutS_le w none (some j)
          have c2' := cutS_le w (some (j + 1)) none
          have a1 := fun cs => o_addS (z := cutS w none (some j)) (y := y) (cs := cs) (by omega)
          have a2 := fun cs => o_addS (z := cutS w none (some j) ++ y) (y := cutS w (some (j + 1)) none) (cs := cs) (by rw [Wf.len_app]; omega)
          refine ⟨cutS w none (some j) ++ y ++ cutS w (some (j + 1)) none, c5, ?_, g5, by rw [Wf.len_app, Wf.len_app]; omega⟩
          unfold ltMenu2 at e5
          clear v1 v2 v3 h0 h1 h2 h3 w1 w2 w3 c1' c2' c0' y1
          repeat (first | simp only [e1, e2, e3, e4, e5, x0, x1, x2, x3, lw, sl, a1, a2, n_ok, c_ok, R.bind_ok] | walk_at "ev")
noncomputable abbrev tgMenu : Str := "0123456789"
noncomputable abbrev tgMenu2 : Str := " !\"#$%&'()*+,-./:;<=>?\x40[\\]^_`{|}~az"
noncomputable abbrev tgMenu3 : Str := " !\"#$&'()*+,-./:;<=>?\x40[\\]^_`{|}~az"
noncomputable abbrev wdMenu : Str := " !\"#$&'()*+,-./0123456789:;<=>?@AMZ[\\]^_`{|}~"
noncomputable abbrev eight : Str := "ABCDEFGH"
noncomputable def bwTail : MS := (mSeq (mAsg (gtN 4) (mBM "str" joinD (mC (.str "")) (mCons (mLc [5] (mRng1 (mCons (mV 3) mNil)) (gtN 5) mYes (mCall f__law_pick (mCons (mV 0) (mCons (mV 1) mNil)))) mNil)))
  (mSeq (mIf (mB (mOp eqD (mV 2) (mC (.int 2)))) (mRet (mTup (mCons (mV 4) (mCons (mTup (mCons (mC (.str "TooLong")) mNil)) mNil)))) mSkip)
  (mSeq (mAsg (gtN 6) (mCall f__law_take (mCons (mV 0) (mCons (mOp addD (mV 3) (mC (.int 1))) mNil))))
  (mSeq (mAsg (gtN 7) (mCall f__law_pick (mCons (mV 0) (mCons (mC (.str " !\"#$&'()*+,-./0123456789:;<=>?@AMZ[\\]^_`{|}~")) mNil))))
  (mSeq (mAsg (gtN 4) (mOp addD (mOp addD (mSl slD (mV 4) mNoP (mP (mV 6))) (mCall f__law_pick (mCons (mV 0) (mCons (mLst (mCons (mCall f__law_stranger (mCons (mV 0) (mCons (mV 1) mNil))) (mCons (mV 7) mNil))) mNil)))) (mSl slD (mV 4) (mP (mV 6)) mNoP)))
  (mRet (mTup (mCons (mV 4) (mCons (mTup (mCons (mC (.str "BadWord")) (mCons (mV 4) mNil))) mNil)))))))))
theorem bw_is : f__law_bad_word = mDef 2 8 (mSeq (mAsg (gtN 2) (mCall f__law_take (mCons (mV 0) (mCons (mC (.int 4)) mNil))))
  (mSeq (mAsg (gtN 3) (mCall f__law_take (mCons (mV 0) (mCons (mC (.int 7)) mNil))))
  (mSeq (mIf (mB (mOp gtD (mV 2) (mC (.int 1)))) (mAsg (gtN 3) (mOp addD (mC (.int 33)) (mCall f__law_take (mCons (mV 0) (mCons (mC (.int 8)) mNil))))) mSkip)
  bwTail))) := rfl
theorem bw_tail (c : D) (hc : StOk c) (rest : List D) (z : Str) (hz0 : 0 < z.length) (hz : z.length ≤ 8) (hP : AllC lowP z) (n : Nat) (hn : n ≤ 40) (t : Int) :
    ∃ w X c', finR (rest.length + 1) (bwTail [some (.ref 0), some (.str z), some (.int t), some (.int (n : Nat)), none, none, none, none] (c :: rest)) = .ok (.tup [.str w, X]) (c' :: rest) ∧ StOk c' ∧ okT w ∧ nr X = true := by
  have q4 : -1000000000 ≤ ((n : Int)) ∧ ((n : Int)) < 1000000000 := by omega
  have x2 := k_rng1 (cs := c :: rest) q4
  obtain ⟨ss, c3, e3, g3, s1, s2, s3, s4⟩ := picks_ok (i := 5) (env := [some (.ref 0), some (.str z), some (.int t), some (.int (n : Int)), none, none, none, none]) (rest := rest) hz0 (by omega) hP (fun _ => rfl) (fun _ => rfl) n (by omega) c hc
  have x3 := k_lc2 (k := kDone) (cs := c3 :: rest) (show (ss.map D.str).length < 16777216 by rw [List.length_map]; exact s1)
  generalize Txt.join Str.empty ss = y at s2 s3 s4
  have em : (Str.ofString "") = Str.empty := rfl
  rw [Int.toNat_natCast] at x2
  unfold bwTail
  by_cases h2 : t = 2
  · have y2 : decide (t = 2) = true := decide_eq_true h2
    have fr := f_nr (d := .tup [.str y, .tup [.str "TooLong"]]) (n := rest.length + 1) (cs := c3 :: rest) rfl
    refine ⟨y, .tup [.str "TooLong"], c3, ?_, g3, ⟨by omega, s3⟩, rfl⟩
    clear h2 s1 s2 s3 hz0 hz hP hn q4
    rw [em]
    repeat (first | simp only [x2, e3, x3, s4, y2, fr, n_ok, c_ok, R.bind_ok] | walk_at "ev")
    (try simp)
  · have y2 : decide (t = 2) = false := decide_eq_false h2
    obtain ⟨k, c4, e4, g4, _, _, _⟩ := take_ok c3 g3 rest ((n : Int) + 1) (by omega)
    obtain ⟨o, c5, e5, g5, o1, ow⟩ := pick_c (P := lowP) c4 g4 rest wdMenu (by decide +kernel) (by decide +kernel) (low_of (by decide +kernel))
    obtain ⟨s, c6, e6, g6, l6, sw⟩ := stranger_ok c5 g5 rest z hz
    obtain ⟨d, c7, e7, g7, hd⟩ := pick_l c6 g6 rest [.str s, .str o] (by simp) (by simp) (by rfl)
    obtain ⟨p, rfl, p1, pw⟩ : ∃ p : Str, d = .str p ∧ p.length ≤ 1 ∧ AllC lowP p := by
      simp only [List.mem_cons, List.not_mem_nil, or_false] at hd
      rcases hd with rfl | rfl
      · exact ⟨s, rfl, by omega, sw⟩
      · exact ⟨o, rfl, by omega, ow⟩
    have sl := fun (lo hi : Option Int) cs => o_slS (cs := cs) (z := y) (lo := lo) (hi := hi) (by omega)
    have l1 := cutS_le y none (some k)
    have l2 := cutS_le y (some k) none
    have a1 := fun cs => o_addS (z := cutS y none (some k)) (y := p) (cs := cs) (by omega)
    have a2 := fun cs => o_addS (z := cutS y none (some k) ++ p) (y := cutS y (some k) none) (cs := cs) (by rw [Wf.len_app]; omega)
    have hw : okT (cutS y none (some k) ++ p ++ cutS y (some k) none) := ⟨by rw [Wf.len_app, Wf.len_app]; omega, put_low _ _ s3 pw⟩
    generalize cutS y none (some k) ++ p ++ cutS y (some k) none = w at *
    have fr := f_nr (d := .tup [.str w, .tup [.str "BadWord", .str w]]) (n := rest.length + 1) (cs := c7 :: rest) rfl
    refine ⟨w, .tup [.str "BadWord", .str w], c7, ?_, g7, hw, rfl⟩
    unfold wdMenu at e5
    clear h2 s1 s2 s3 hz0 hz hP hn q4 l1 l2 hw hd p1 pw o1 ow l6 sw
    rw [em]
    repeat (first | simp only [x2, e3, x3, s4, y2, e4, e5, e6, e7, sl, a1, a2, fr, n_ok, c_ok, R.bind_ok] | walk_at "ev")
    (try simp)
theorem bad_word_ok (c : D) (hc : StOk c) (rest : List D) (z : Str) (hz0 : 0 < z.length) (hz : z.length ≤ 8) (hP : AllC lowP z) :
    ∃ w X c', f__law_bad_word [.ref 0, .str z] (c :: rest) = .ok (.tup [.str w, X]) (c' :: rest) ∧ StOk c' ∧ okT w ∧ nr X = true := by
  obtain ⟨t, c1, e1, g1, t1, t2⟩ := kind_ok c hc rest 4 (by decide) (by decide)
  obtain ⟨s, c2, e2, g2, s1, s2⟩ := kind_ok c1 g1 rest 7 (by decide) (by decide)
  obtain ⟨m, rfl⟩ : ∃ m : Nat, s = (m : Int) := ⟨s.toNat, by omega⟩
  rw [bw_is]
  unfold mDef
  by_cases h1 : 1 < t
  · have x1 : decide ((1 : Int) < t) = true := decide_eq_true h1
    obtain ⟨r, c3, e3, g3, r1, r2⟩ := kind_ok c2 g2 rest 8 (by decide) (by decide)
    obtain ⟨j, rfl⟩ : ∃ j : Nat, r = (j : Int) := ⟨r.toNat, by omega⟩
    obtain ⟨w, X, c4, e4, g4, h4, h5⟩ := bw_tail c3 g3 rest z hz0 hz hP (33 + j) (by omega) t
    have ec : (33 : Int) + (j : Int) = ((33 + j : Nat) : Int) := by omega
    refine ⟨w, X, c4, ?_, g4, h4, h5⟩
    clear h1 t1 t2 s1 s2 r1 r2 hz0 hz hP h4 h5
    repeat (first | simp only [e1, e2, e3, x1, ec, n_ok, c_ok, R.bind_ok] | walk_at "ev")
    (try exact e4)
  · have x1 : decide ((1 : Int) < t) = false := decide_eq_false h1
    obtain ⟨w, X, c4, e4, g4, h4, h5⟩ := bw_tail c2 g2 rest z hz0 hz hP m (by omega) t
    refine ⟨w, X, c4, ?_, g4, h4, h5⟩
    clear h1 t1 t2 s1 s2 hz0 hz hP h4 h5
    repeat (first | simp only [e1, e2, x1, n_ok, c_ok, R.bind_ok] | walk_at "ev")
    (try exact e4)
theorem word_fault_eq (z w : Str) (cs : List D) (hw : w.length ≤ 30000) : f__law_word_fault [.str z, .str w, .int 32] cs = .ok (tupF z (wordF z w)) cs := by
  suffices hh : Ok (f__law_word_fault [.str z, .str w, .int 32] cs) (fun d cs' => d = tupF z (wordF z w) ∧ cs' = cs) by
    obtain ⟨d, cs', e, q1, q2⟩ := Ok_get hh
    rw [e, q1, q2]
  have h2 : w.length ≤ 16777216 := by omega
  unfold f__law_word_fault mDef m__law_word_fault
  walk_at "ev"
  refine Ok_for (fun ds r cs' => ∃ (rest : List Nat) (o : Option D), r = [some (.str z), some (.str w), some (.int 32), o] ∧ cs' = cs ∧ ds = rest.map (fun c => D.str (sgn c)) ∧ ∃ done, L w = done ++ rest ∧ ∀ c ∈ done, c ∈ L z) ?_ ?_ _ _ _ ⟨L w, none, rfl, rfl, chrs_eq w, [], rfl, fun c hc => by cases hc⟩
  · rintro r cs' ⟨rest, o, rfl, rfl, h1, done, h3, h4⟩
    have hr : rest = [] := by
      cases rest with
      | nil => rfl
      | cons _ _ => cases h1
    subst hr
    rw [List.append_nil] at h3
    have hl : lettersB z w = true := List.all_eq_true.mpr fun c hc => decide_eq_true (h4 c (h3 ▸ hc))
    unfold wordF
    rw [hl, if_pos rfl]
    by_cases h5 : 32 < w.length
    · have e5 : decide ((32 : Int) < (w.length : Int)) = true := decide_eq_true (by omega)
      rw [if_pos h5]
      have hn := f_nr (n := cs'.length) (cs := cs') (d := .tup [.str (Str.ofString "TooLong")]) rfl
      walk_at "ev"
      rw [o_lenS h2]
      walk_at "ev"
      rw [e5]
      walk_at "ev"
      rw [hn]
      walk_at "ev"
      rfl
    · have e5 : decide ((32 : Int) < (w.length : Int)) = false := decide_eq_false (by omega)
      rw [if_neg h5]
      have hn := f_nr (n := cs'.length) (cs := cs') (d := .tup []) rfl
      walk_at "ev"
      rw [o_lenS h2]
      walk_at "ev"
      rw [e5]
      walk_at "ev"
      rw [hn]
      walk_at "ev"
      rfl
  · rintro d ds r cs' ⟨rest, o, rfl, rfl, h1, done, h3, h4⟩
    cases rest with
    | nil => cases h1
    | cons c rest =>
    rw [List.map_cons] at h1
    obtain ⟨e1, e2⟩ := List.cons.inj h1
    subst e1 e2
    have x1 := o_notS z c cs'
    by_cases hc : c ∈ L z
    · rw [decide_eq_true hc] at x1
      walk_at "ev"
      rw [x1]
      walk_at "ev"
      refine ⟨rest, _, rfl, rfl, done ++ [c], ?_, ?_⟩
      · rw [h3, List.append_assoc]
        rfl
      · intro d hd
        rcases List.mem_append.mp hd with hd | hd
        · exact h4 d hd
        · rw [List.mem_singleton.mp hd]
          exact hc
    · rw [decide_eq_false hc] at x1
      have hl : lettersB z w = false := by
        cases h : lettersB z w with
        | false => rfl
        | true =>
          refine absurd (lettersB_mem h c ?_) hc
          rw [h3]
          exact List.mem_append_right _ List.mem_cons_self
      have hn := f_nr (n := cs'.length) (cs := cs') (d := .tup [.str (Str.ofString "BadWord"), .str w]) rfl
      unfold wordF
      rw [hl, if_neg Bool.false_ne_true]
      walk_at "ev"
      rw [x1]
      walk_at "ev"
      rw [hn]
      walk_at "ev"
      rfl
theorem law_is_alphabet_eq (z : Str) (cs : List D) (hz : z.length ≤ 30000) : f__law_is_alphabet [.str z] cs = .ok (.bl (alphaB z)) cs := by
  suffices hh : Ok (f__law_is_alphabet [.str z] cs) (fun d cs' => d = .bl (alphaB z) ∧ cs' = cs) by
    obtain ⟨d, cs', e, q1, q2⟩ := Ok_get hh
    rw [e, q1, q2]
  have h2 : z.length ≤ 16777216 := by omega
  unfold f__law_is_alphabet mDef m__law_is_alphabet
  by_cases h1 : z.length < 1
  · have e1 : decide ((z.length : Int) < 1) = true := decide_eq_true (by omega)
    have ea : alphaB z = false := by
      unfold alphaB
      rw [decide_eq_false (show ¬ 1 ≤ z.length by omega)]
      rfl
    clear h1
    walk_at "eva"
  · by_cases h3 : 6 < z.length
    · have e1 : decide ((z.length : Int) < 1) = false := decide_eq_false (by omega)
      have e3 : decide ((6 : Int) < (z.length : Int)) = true := decide_eq_true (by omega)
      have ea : alphaB z = false := by
        unfold alphaB
        rw [decide_eq_false (show ¬ z.length ≤ 6 by omega)]
        simp
      clear h1 h3
      walk_at "eva"
    · have e1 : decide ((z.length : Int) < 1) = false := decide_eq_false (by omega)
      have e3 : decide ((6 : Int) < (z.length : Int)) = false := decide_eq_false (by omega)
      have q4 : -1000000000 ≤ ((z.length : Int)) ∧ ((z.length : Int)) < 1000000000 := by omega
      have ai := alpha_iff z (by omega) (by omega)
      have hzl : (rng 0 z.length).length = (L z).length := by
        unfold rng
        rw [List.length_map, List.length_range]
        exact str_len z
      clear h1 h3 hz
      walk_at "ev"
      rw [o_lenS h2]
      walk_at "ev"
      simp only [e1, e3, Bool.false_eq_true, if_false]
      (try walk_at "ev")
      rw [o_lenS h2]
      walk_at "ev"
      simp only [e1, e3]
      (try walk_at "ev")
      rw [o_lenS h2]
      walk_at "ev"
      rw [k_rng1 q4]
      walk_at "ev"
      refine Ok_for (fun ds r cs' => ∃ (k : Nat) (o : Option D), r = [some (.str z), o] ∧ cs' = cs ∧ k + ds.length = (L z).length ∧ ds = (List.range' k ds.length).map (fun k => D.int (k : Nat)) ∧ ∀ j c, j < k → (L z)[j]? = some c → lowB c = true ∧ c ∉ (L z).take j) ?_ ?_ _ _ _ ⟨0, none, rfl, rfl, ?_, ?_, fun j c hj => by omega⟩
      · rintro r cs' ⟨k, o, rfl, rfl, g1, g2, g3⟩
        have ea : alphaB z = true := ai.mpr fun j c hc => g3 j c (by
          have := (List.getElem?_eq_some_iff.mp hc).1
          have : k = (L z).length := by simpa using g1
          omega) hc
        walk_at "ev"
        rw [ea]
      · rintro d ds r cs' ⟨k, o, rfl, rfl, g1, g2, g3⟩
        rw [List.length_cons] at g1 g2
        rw [List.range'_succ, List.map_cons] at g2
        obtain ⟨e4, e5⟩ := List.cons.inj g2
        subst e4
        have a1 : (L z)[k]? = some ((L z)[k]'(by omega)) := List.getElem?_eq_getElem (by omega)
        generalize (L z)[k]'(by omega) = a at a1
        have x1 := o_ixS (z := z) (cs := cs') h2 (Wf.atI_nat a1)
        rw [show (Str.mk #[a]) = sgn a from rfl] at x1
        have x2 := o_notS (Str.ofString "abcdefghijklmnopqrstuvwxyz") a cs'
        rw [low_mem] at x2
        have x3 := o_inS' (cutS z none (some (k : Int))) a cs'
        rw [cutS_take] at x3
        have x4 := o_slS (cs := cs') (lo := none) (hi := some (k : Int)) h2
        walk_at "ev"
        rw [x1]
        walk_at "ev"
        rw [x2]
        cases hlow : lowB a with
        | false =>
          have ea : alphaB z = false := by
            cases h : alphaB z with
            | false => rfl
            | true =>
              have := (ai.mp h k a a1).1
              rw [hlow] at this
              cases this
          walk_at "ev"
          rw [ea]
        | true =>
          walk_at "ev"
          rw [x1]
          walk_at "ev"
          rw [x4]
          walk_at "ev"
          rw [x3]
          by_cases hm : a ∈ (L z).take k
          · have ea : alphaB z = false := by
              cases h : alphaB z with
              | false => rfl
              | true => exact absurd hm (ai.mp h k a a1).2
            rw [decide_eq_true hm]
            walk_at "ev"
            rw [ea]
          · rw [decide_eq_false hm]
            walk_at "ev"
            refine ⟨k + 1, _, rfl, by omega, e5, fun j c hj hc => ?_⟩
            by_cases hjk : j = k
            · rw [hjk, a1] at hc
              cases hc
              rw [hjk]
              exact ⟨hlow, hm⟩
            · exact g3 j c (by omega) hc
      · rw [Nat.zero_add]
        exact hzl
      · unfold rng
        rw [List.length_map, List.length_range, List.range_eq_range']
        simp
noncomputable def fw (w : Str) : Str := if w = Str.empty then sgn 45 else w
noncomputable def wdR (k : Nat) (z p : Str) : Option Str := if p = sgn 45 then some Str.empty else if p = Str.empty then none else if (lettersB z p && decide (p.length ≤ k)) = true then some p else none
theorem fw_len {w : Str} : (fw w).length ≤ w.length + 1 := by
  unfold fw
  split
  · show 1 ≤ _
    omega
  · omega
theorem format_word_eq (w : Str) (hw : w.length ≤ 30000) (cs : List D) : f_format_word [.str w] cs = .ok (.str (fw w)) cs := by
  have pm : (Str.ofString "-") = sgn 45 := rfl
  unfold f_format_word mDef m_format_word fw
  rw [pm]
  by_cases h : w = Str.empty
  · have k1 := fun r => k_orSN (n := mC (.str (sgn 45))) (r := r) (cs := cs) (z := w) (by rw [h]; rfl)
    rw [if_pos h]
    clear h
    repeat (first | simp only [e_orS, k1, n_ok, c_ok, R.bind_ok] | walk_at "ev")
  · have k1 := fun r => k_orSY (n := mC (.str (sgn 45))) (r := r) (cs := cs) (z := w) (by rw [sizeLine_eq]; omega) (fun e => h (str_ext (by
      show L w = []
      exact List.eq_nil_of_length_eq_zero (by rw [← str_len w]; exact e))))
    rw [if_neg h]
    clear h
    repeat (first | simp only [e_orS, k1, n_ok, c_ok, R.bind_ok] | walk_at "ev")
theorem alpha_len {z : Str} (h : alphaB z = true) : 1 ≤ z.length ∧ z.length ≤ 6 := by
  unfold alphaB at h
  rw [Bool.and_eq_true, Bool.and_eq_true] at h
  exact ⟨of_decide_eq_true h.1.1, of_decide_eq_true h.1.2⟩
noncomputable abbrev exA (k : Int) : D := .ins 347 ["at"] [.int k]
theorem is_word_eq (z w : Str) (cs : List D) (ha : alphaB z = true) (hz : z.length ≤ 6) (hw : w.length ≤ 30000) : f_is_word [.str z, .str w] cs = .ok (.bl (lettersB z w && decide (w.length ≤ 32))) cs := by
  have e1 := is_alphabet_eq z cs (by omega)
  rw [ha] at e1
  have e2 := has_letters_eq z w cs hw
  have lw := o_lenS (cs := cs) (z := w) (by omega)
  have x1 : decide ((w.length : Int) ≤ 32) = decide (w.length ≤ 32) := by rw [decide_eq_decide]; omega
  unfold f_is_word mDef m_is_word
  clear hz hw ha
  cases h : lettersB z w with
  | true =>
    rw [h] at e2
    rw [Bool.true_and]
    repeat (first | simp only [e1, e2, lw, x1, n_ok, R.bind_ok] | walk_at "ev")
  | false =>
    rw [h] at e2
    rw [Bool.false_and]
    repeat (first | simp only [e1, e2, lw, x1, n_ok, R.bind_ok] | walk_at "ev")
theorem read_word_eq (z p0 : Str) (k : Int) (ha : alphaB z = true) (hp : p0.length ≤ 30000) (cs : List D) : f_read_word [.str z, .str p0, .int k] cs = match wdR 32 z p0 with
    | some b => .ok (.str b) cs
    | none => .err (exA k) [] cs := by
  have pm : (Str.ofString "-") = sgn 45 := rfl
  have e1 := is_word_eq z p0 cs ha (alpha_len ha).2 hp
  have ro := fun r => k_raiseO (C := 347) (ns := ["at"]) (ds := [.int k]) (r := r) (cs := cs) rfl
  have fe := fun e => f_err (x := exA k) (n := cs.length) (e := e) (cs := cs) rfl
  unfold f_read_word mDef m_read_word wdR
  rw [pm]
  clear hp ha
  by_cases h1 : p0 = sgn 45
  · have d1 : decide (p0 = sgn 45) = true := decide_eq_true h1
    rw [if_pos h1]
    clear h1
    show _ = R.ok (D.str Str.empty) cs
    repeat (first | simp only [d1, n_ok, c_ok, R.bind_ok] | walk_at "ev")
  · have d1 : decide (p0 = sgn 45) = false := decide_eq_false h1
    rw [if_neg h1]
    clear h1
    by_cases h2 : p0 = Str.empty
    · have d2 : decide (p0 = Str.empty) = true := decide_eq_true h2
      rw [if_pos h2]
      clear h2
      show _ = R.err (exA k) [] cs
      repeat (first | simp only [d1, d2, ro, fe, n_ok, n_err, b_err, c_ok, R.bind_ok] | walk_at "ev")
    · have d2 : decide (p0 = Str.empty) = false := decide_eq_false h2
      rw [if_neg h2]
      clear h2
      cases h3 : (lettersB z p0 && decide (p0.length ≤ 32)) with
      | true =>
        rw [h3] at e1
        show _ = R.ok (D.str p0) cs
        repeat (first | simp only [d1, d2, e1, n_ok, n_err, b_err, c_ok, R.bind_ok] | walk_at "ev")
      | false =>
        rw [h3] at e1
        show _ = R.err (exA k) [] cs
        repeat (first | simp only [d1, d2, e1, ro, fe, n_ok, n_err, b_err, c_ok, R.bind_ok] | walk_at "ev")
theorem is_word_any (z w : Str) (cs : List D) (hz : z.length ≤ 30000) (hw : w.length ≤ 30000) : f_is_word [.str z, .str w] cs = .ok (.bl (alphaB z && (lettersB z w && decide (w.length ≤ 32)))) cs := by
  cases ha : alphaB z with
  | true =>
    rw [is_word_eq z w cs ha (alpha_len ha).2 hw, Bool.true_and]
  | false =>
    have e1 := is_alphabet_eq z cs hz
    rw [ha] at e1
    rw [Bool.false_and]
    unfold f_is_word mDef m_is_word
    clear hz hw ha
    repeat (first | simp only [e1, n_ok, R.bind_ok] | walk_at "ev")
/-- what is read -/
theorem parse_word_eq (z p0 : Str) (hz : z.length ≤ 30000) (hp : p0.length ≤ 30000) (cs : List D) : f_parse_word [.str z, .str p0] cs = if alphaB z = true then (match wdR 32 z p0 with
    | some b => .ok (.str b) cs
    | none => .err (exA 1) [] cs) else .err (exL z) [] cs := by
  have e1 := check_letters_eq z cs hz
  unfold f_parse_word mDef m_parse_word
  cases ha : alphaB z with
  | false =>
    rw [ha, if_neg Bool.false_ne_true] at e1
    rw [if_neg Bool.false_ne_true]
    have fe := fun e => f_err (x := exL z) (n := cs.length) (e := e) (cs := cs) rfl
    clear hz hp ha
    repeat (first | simp only [e1, fe, n_ok, n_err, b_err, c_ok, R.bind_ok] | walk_at "ev")
    (try simp)
  | true =>
    rw [ha, if_pos rfl] at e1
    rw [if_pos rfl]
    have e2 := read_word_eq z p0 1 ha hp cs
    have fe := fun e => f_err (x := exA 1) (n := cs.length) (e := e) (cs := cs) rfl
    clear hz hp ha
    cases hq : wdR 32 z p0 with
    | some b =>
      rw [hq] at e2
      dsimp only at e2 ⊢
      clear hq
      repeat (first | simp only [e1, e2, n_ok, n_err, b_err, c_ok, R.bind_ok] | walk_at "ev")
      (try simp)
    | none =>
      rw [hq] at e2
      dsimp only at e2 ⊢
      clear hq
      repeat (first | simp only [e1, e2, fe, n_ok, n_err, b_err, c_ok, R.bind_ok] | walk_at "ev")
      (try simp)
theorem o_fldT {a : Addr} {q : Option Addr} {x : D} {cs : List D} : fldD a q "text" (.exn a q ["text"] [x]) cs = .ok x cs := o_fld (by
  show List.lookup (Str.ofString "text") [(Str.ofString "text", x)] = some x
  simp [List.lookup])
theorem c_cls {C : Addr} {ns : List Str} {l : List D} : clsA (.ins C ns l) = C := (rfl)
theorem d_n {C : Addr} {ns : List Str} {l : List D} : fldN (.ins C ns l) = ns := (rfl)
theorem d_v {C : Addr} {ns : List Str} {l : List D} : fldV (.ins C ns l) = l := (rfl)
theorem meta_ve : PySem.W.kitMeta "ValueError" = true := by decide +kernel
theorem isx_ve (C : Addr) (l : List Addr) (h : tX.at C = some l) : tX.isx C (.ty "ValueError") = some true := by
  show (match tX.at C with
    | some _ => if PySem.W.kitMeta "ValueError" = true then some (([.type "ValueError", .type "Exception", .type "BaseException", .type "object"] : List Value).contains (.type "ValueError")) else none
    | none => none) = _
  rw [h]
  show (if PySem.W.kitMeta "ValueError" = true then some (([.type "ValueError", .type "Exception", .type "BaseException", .type "object"] : List Value).contains (.type "ValueError")) else none) = _
  rw [if_pos meta_ve]
  rfl
theorem o_fldA {a : Addr} {q : Option Addr} {x : D} {cs : List D} : fldD a q "at" (.exn a q ["at"] [x]) cs = .ok x cs := o_fld (by
  show List.lookup (Str.ofString "at") [(Str.ofString "at", x)] = some x
  simp [List.lookup])
theorem k_isxT {a : Addr} {q : Option Addr} {tab : D → Option Bool} {ns : List Str} {l ts : List D} {bs : List Bool} {cs : List D} (h : ts.mapM tab = some bs) : isxTD a q tab [.exn a q ns l, .tup ts] cs = .ok (.bl (bs.any id)) cs := by
  unfold isxTD
  simp only [and_self, if_true, h]
theorem x176_176 : tX.isx 176 (.rf 176) = some true := (rfl)
theorem x176_347 : tX.isx 176 (.rf 347) = some false := (rfl)
theorem x176_ve : tX.isx 176 (.ty "ValueError") = some true := isx_ve 176 _ rfl
theorem x176_t : ([.rf 37, .rf 195] : List D).mapM (tX.isx 176) = some [false, false] := (rfl)
theorem x347_176 : tX.isx 347 (.rf 176) = some false := (rfl)
theorem x347_347 : tX.isx 347 (.rf 347) = some true := (rfl)
theorem x347_ve : tX.isx 347 (.ty "ValueError") = some true := isx_ve 347 _ rfl
theorem x347_t : ([.rf 37, .rf 195] : List D).mapM (tX.isx 347) = some [false, false] := (rfl)
noncomputable def rdB : MS := (mSeq (mIf (mB (mOp eqD (mV 2) (mC (.int 1)))) (mRet (mTup (mCons (mC (.str "told")) (mCons (mCallK0 f_parse_word 2 [1, 0] (mCons (mV 1) (mCons (mV 0) mNil))) mNil)))) mSkip)
  (mRet (mTup (mCons (mC (.str "told")) (mCons (mCall f_parse_word (mCons (mV 0) (mCons (mV 1) mNil))) mNil)))))
noncomputable def rdS : Addr → Option Addr → D → MS := (fun a d y => (mSeq (mAsg (gtN 4) (mAndV (mCB (isxD a d (tX.isx (clsA y))) (mCons (mV 3) (mCons (mC (.ty "ValueError")) mNil))) (mNotV (mCB (isxTD a d (tX.isx (clsA y))) (mCons (mV 3) (mCons (mTup (mCons (mC (.rf 37)) (mCons (mC (.rf 195)) mNil))) mNil))))))
  (mSeq (mIf (mAnd (mB (mV 4)) (mAnd (mB (mCB (isxD a d (tX.isx (clsA y))) (mCons (mV 3) (mCons (mC (.rf 176)) mNil)))) (mNot (mB (mCB (isxD a d (tX.isx (clsA y))) (mCons (mV 3) (mCons (mC (.rf 347)) mNil))))))) (mRet (mTup (mCons (mC (.str "BadLetters")) (mCons (mXf a d "text" (mV 3)) mNil)))) mSkip)
  (mIf (mAnd (mB (mV 4)) (mAnd (mB (mCB (isxD a d (tX.isx (clsA y))) (mCons (mV 3) (mCons (mC (.rf 347)) mNil)))) (mNot (mB (mCB (isxD a d (tX.isx (clsA y))) (mCons (mV 3) (mCons (mC (.rf 176)) mNil))))))) (mRet (mTup (mCons (mC (.str "BadText")) (mCons (mXf a d "at" (mV 3)) mNil)))) mSkip))))
theorem read_is : f__law_read = mDef 3 5 (mSeq (mTryAs 3 (tX.exm 24) rdB rdS)
  (mRet (mTup (mCons (mC (.str "other")) mNil)))) := rfl
theorem rt176 (x : Str) (a0 a1 a2 : Option D) (cs : List D) : kTry 3 (tX.exm 24) rdS (.err (exL x) [a0, a1, a2, none, none] cs) = .ok (.ret (.tup [.str "BadLetters", .str x])) cs := by
  refine k_tryErr rfl fun a q => ?_
  have t1 := fun (ns : List Str) (l : List D) => k_isxT (a := a) (q := q) (ns := ns) (l := l) (cs := cs) x176_t
  unfold rdS
  simp only [e_suite, d_n, d_v, c_cls]
  repeat (first
    | simp only [t1, x176_176, x176_347, x176_ve, List.any, id, k_isx, R.bind_ok, o_fldT, Bool.not_true, Bool.not_false]
    | walk_at "ev")
theorem rt347 (x : Int) (a0 a1 a2 : Option D) (cs : List D) : kTry 3 (tX.exm 24) rdS (.err (exA x) [a0, a1, a2, none, none] cs) = .ok (.ret (.tup [.str "BadText", .int x])) cs := by
  refine k_tryErr rfl fun a q => ?_
  have t1 := fun (ns : List Str) (l : List D) => k_isxT (a := a) (q := q) (ns := ns) (l := l) (cs := cs) x347_t
  unfold rdS
  simp only [e_suite, d_n, d_v, c_cls]
  repeat (first
    | simp only [t1, x347_176, x347_347, x347_ve, List.any, id, k_isx, R.bind_ok, o_fldA, Bool.not_true, Bool.not_false]
    | walk_at "ev")
noncomputable def dueV (z t : Str) : D := if alphaB z = true then (match wdR 32 z t with
    | some b => .tup [.str "told", .str b]
    | none => .tup [.str "BadText", .int 1]) else .tup [.str "BadLetters", .str z]
theorem read_eq (z t : Str) (k : Int) (hk : k = 0 ∨ k = 1) (hz : z.length ≤ 30000) (ht : t.length ≤ 30000) (cs : List D) : f__law_read [.str z, .str t, .int k] cs = .ok (dueV z t) cs := by
  have e1 := parse_word_eq z t hz ht cs
  rw [read_is]
  unfold mDef rdB dueV
  have p2 : pick [1, 0] [D.str t, D.str z] = [D.str z, D.str t] := rfl
  have dk : decide (k = 1) = true ∨ decide (k = 1) = false := by cases decide (k = 1) <;> simp
  cases ha : alphaB z with
  | false =>
    rw [ha, if_neg Bool.false_ne_true] at e1
    rw [if_neg Bool.false_ne_true]
    have jt := rt176 z (some (.str z)) (some (.str t)) (some (.int k)) cs
    have fr := f_nr (d := .tup [.str "BadLetters", .str z]) (n := cs.length) (cs := cs) rfl
    clear hk hz ht ha
    rcases dk with dk | dk <;> repeat (first | simp only [e1, dk, p2, jt, fr, take_self, n_ok, n_err, b_err, c_ok, R.bind_ok] | walk_at "ev")
  | true =>
    rw [ha, if_pos rfl] at e1
    rw [if_pos rfl]
    cases hw : wdR 32 z t with
    | none =>
      rw [hw] at e1
      dsimp only at e1 ⊢
      have jt := rt347 1 (some (.str z)) (some (.str t)) (some (.int k)) cs
      have fr := f_nr (d := .tup [.str "BadText", .int 1]) (n := cs.length) (cs := cs) rfl
      clear hk hz ht ha hw
      rcases dk with dk | dk <;> repeat (first | simp only [e1, dk, p2, jt, fr, take_self, n_ok, n_err, b_err, c_ok, R.bind_ok] | walk_at "ev")
    | some b =>
      rw [hw] at e1
      dsimp only at e1 ⊢
      have fr := f_nr (d := .tup [.str "told", .str b]) (n := cs.length) (cs := cs) rfl
      clear hk hz ht ha hw
      rcases dk with dk | dk <;> repeat (first | simp only [e1, dk, p2, fr, take_self, n_ok, n_err, b_err, c_ok, R.bind_ok] | walk_at "ev")
theorem due_eq (z t : Str) (hz : z.length ≤ 30000) (ht : t.length ≤ 30000) (cs : List D) : f__law_due [.str z, .str t] cs = .ok (dueV z t) cs := by
  have e1 := law_is_alphabet_eq z cs hz
  have e2 := word_fault_eq z t cs ht
  have pm : (Str.ofString "-") = sgn 45 := rfl
  unfold f__law_due mDef m__law_due dueV wdR
  rw [pm]
  cases ha : alphaB z with
  | false =>
    rw [ha] at e1
    rw [if_neg Bool.false_ne_true]
    have fr := f_nr (d := .tup [.str "BadLetters", .str z]) (n := cs.length) (cs := cs) rfl
    clear hz ht ha
    repeat (first | simp only [e1, fr, take_self, n_ok, n_err, b_err, c_ok, R.bind_ok] | walk_at "ev")
  | true =>
    rw [ha] at e1
    rw [if_pos rfl]
    by_cases h1 : t = sgn 45
    · have d1 : decide (t = sgn 45) = true := decide_eq_true h1
      rw [if_pos h1]
      have fr := f_nr (d := .tup [.str "told", .str Str.empty]) (n := cs.length) (cs := cs) rfl
      clear h1 hz ht ha
      repeat (first | simp only [e1, d1, fr, take_self, n_ok, n_err, b_err, c_ok, R.bind_ok] | walk_at "ev")
    · have d1 : decide (t = sgn 45) = false := decide_eq_false h1
      rw [if_neg h1]
      by_cases h2 : t = Str.empty
      · have d2 : decide (t = Str.empty) = true := decide_eq_true h2
        rw [if_pos h2]
        have fr := f_nr (d := .tup [.str "BadText", .int 1]) (n := cs.length) (cs := cs) rfl
        clear h1 h2 hz ht ha
        repeat (first | simp only [e1, d1, d2, fr, take_self, n_ok, n_err, b_err, c_ok, R.bind_ok] | walk_at "ev")
      · have d2 : decide (t = Str.empty) = false := decide_eq_false h2
        rw [if_neg h2]
        clear h1 h2
        by_cases h3 : lettersB z t = true
        · by_cases h4 : 32 < t.length
          · have e3 : wordF z t = .t := by unfold wordF; rw [if_pos h3, if_pos h4]
            rw [e3] at e2
            have e2 : f__law_word_fault [.str z, .str t, .int 32] cs = .ok (.tup [.str "TooLong"]) cs := e2
            have q : ¬ ((lettersB z t && decide (t.length ≤ 32)) = true) := by
              rw [h3, decide_eq_false (show ¬ t.length ≤ 32 by omega)]
              decide
            rw [if_neg q]
            have fr := f_nr (d := .tup [.str "BadText", .int 1]) (n := cs.length) (cs := cs) rfl
            clear h3 h4 hz ht ha q e3
            repeat (first | simp only [e1, e2, d1, d2, fr, take_self, n_ok, n_err, b_err, c_ok, R.bind_ok] | walk_at "ev")
            (try simp)
            repeat (first | simp only [e1, e2, d1, d2, fr, take_self, n_ok, n_err, b_err, c_ok, R.bind_ok] | walk_at "ev")
          · have e3 : wordF z t = .no := by unfold wordF; rw [if_pos h3, if_neg h4]
            rw [e3] at e2
            have e2 : f__law_word_fault [.str z, .str t, .int 32] cs = .ok (.tup []) cs := e2
            have q : (lettersB z t && decide (t.length ≤ 32)) = true := by
              rw [h3, decide_eq_true (show t.length ≤ 32 by omega)]
              rfl
            rw [if_pos q]
            have fr := f_nr (d := .tup [.str "told", .str t]) (n := cs.length) (cs := cs) rfl
            clear h3 h4 hz ht ha q e3
            repeat (first | simp only [e1, e2, d1, d2, fr, take_self, n_ok, n_err, b_err, c_ok, R.bind_ok] | walk_at "ev")
            (try simp)
            repeat (first | simp only [e1, e2, d1, d2, fr, take_self, n_ok, n_err, b_err, c_ok, R.bind_ok] | walk_at "ev")
        · have h3 : lettersB z t = false := by
            cases h : lettersB z t with
            | false => rfl
            | true => exact absurd h h3
          have e3 : wordF z t = .b t := by unfold wordF; rw [h3]; rfl
          rw [e3] at e2
          have e2 : f__law_word_fault [.str z, .str t, .int 32] cs = .ok (.tup [.str "BadWord", .str t]) cs := e2
          have q : ¬ ((lettersB z t && decide (t.length ≤ 32)) = true) := by
            rw [h3]
            simp
          rw [if_neg q]
          have fr := f_nr (d := .tup [.str "BadText", .int 1]) (n := cs.length) (cs := cs) rfl
          clear h3 hz ht ha q e3
          repeat (first | simp only [e1, e2, d1, d2, fr, take_self, n_ok, n_err, b_err, c_ok, R.bind_ok] | walk_at "ev")
          (try simp)
          repeat (first | simp only [e1, e2, d1, d2, fr, take_self, n_ok, n_err, b_err, c_ok, R.bind_ok] | walk_at "ev")
theorem due_deep (z t : Str) : deep 8 (dueV z t) := by
  unfold dueV
  split
  · split <;> exact ⟨by simp, by simp [deep]⟩
  · exact ⟨by simp, by simp [deep]⟩
theorem fault_len (z t : Str) (cs : List D) : lenD [tupF z (wordF z t)] cs = .ok (.int (if lettersB z t = true then (if 32 < t.length then 1 else 0) else 2)) cs := by
  unfold wordF
  split
  · split
    · exact o_lenT
    · exact o_lenT
  · exact o_lenT
theorem right_ok (z t : Str) (hz : z.length ≤ 30000) (ht : t.length ≤ 30000) (cs : List D) : f__law_right [.str z, .str t] cs = .ok (.bl true) cs := by
  have e1 := law_is_alphabet_eq z cs hz
  have e2 := is_alphabet_eq z cs hz
  have s1 := same_eq 8 (.bl (alphaB z)) cs trivial
  have e3 := is_word_any z t cs hz ht
  have s2 := same_eq 8 (.bl (alphaB z && (lettersB z t && decide (t.length ≤ 32)))) cs trivial
  have e4 := word_fault_eq z t cs ht
  have e5 := due_eq z t hz ht cs
  have e6 := read_eq z t 0 (.inl rfl) hz ht cs
  have e7 := read_eq z t 1 (.inr rfl) hz ht cs
  have s3 := same_eq 8 (dueV z t) cs (due_deep z t)
  have fl := fault_len z t cs
  have p1 : pick [0] [D.str z] = [D.str z] := rfl
  have p2 : pick [1, 0] [D.str t, D.str z] = [D.str z, D.str t] := rfl
  have q0 : decide ((if lettersB z t = true then (if 32 < t.length then (1 : Int) else 0) else 2) = 0) = (lettersB z t && decide (t.length ≤ 32)) := by
    cases lettersB z t with
    | false => rfl
    | true =>
      by_cases h : 32 < t.length
      · rw [if_pos rfl, if_pos h, decide_eq_false (show ¬ t.length ≤ 32 by omega)]
        rfl
      · rw [if_pos rfl, if_neg h, decide_eq_true (show t.length ≤ 32 by omega)]
        rfl
  unfold f__law_right mDef m__law_right
  clear hz ht
  generalize tupF z (wordF z t) = T at *
  generalize (if lettersB z t = true then (if 32 < t.length then (1 : Int) else 0) else 2) = N at *
  generalize dueV z t = V at *
  cases ha : alphaB z with
  | false =>
    rw [ha] at e1 e2 s1 e3 s2
    rw [Bool.false_and] at e3 s2
    clear ha
    repeat (first | simp only [e1, e2, e3, e4, e5, e6, e7, s1, s2, s3, p1, p2, n_ok, c_ok, R.bind_ok] | walk_at "ev")
    (try rfl)
  | true =>
    rw [ha] at e1 e2 s1 e3 s2
    rw [Bool.true_and] at e3 s2
    clear ha
    generalize (lettersB z t && decide (t.length ≤ 32)) = G at *
    repeat (first | simp only [e1, e2, e3, e4, e5, e6, e7, s1, s2, s3, p1, p2, fl, q0, n_ok, c_ok, R.bind_ok] | walk_at "ev")
    (try rfl)
noncomputable abbrev bl : Str := sgn 32
theorem pick_str {P : Nat → Prop} {k : Nat} (c : D) (hc : StOk c) (rest : List D) (ss : List Str) (h : ss ≠ []) (hl : ss.length < 1000000000) (hs : ∀ y ∈ ss, y.length ≤ k ∧ AllC P y) :
    ∃ y c', f__law_pick [.ref 0, .lst (ss.map .str)] (c :: rest) = .ok (.str y) (c' :: rest) ∧ StOk c' ∧ y.length ≤ k ∧ AllC P y := by
  obtain ⟨d, c', e, g, hd⟩ := pick_l c hc rest (ss.map .str) (by simpa using h) (by simpa using hl) (nrs_map fun _ => rfl)
  obtain ⟨y, hy, rfl⟩ := List.mem_map.mp hd
  exact ⟨y, c', e, g, hs y hy⟩
theorem cut_to_len (t : Str) (n : Nat) : (cutS t none (some (n : Int))).length ≤ n := by
  rw [str_len, show (cutS t none (some (n : Int))).cps.toList = L (cutS t none (some (n : Int))) from rfl, cutS_take, List.length_take]
  omega
theorem cut_from_len (t : Str) (n : Nat) : (cutS t (some (n : Int)) none).length = t.length - n := by
  rw [str_len, show (cutS t (some (n : Int)) none).cps.toList = L (cutS t (some (n : Int)) none) from rfl, cutS_drop, List.length_drop, str_len t]
theorem cut_mid_len (t : Str) (n k : Nat) (h : n ≤ t.length) : (cutS t (some (n : Int)) (some ((n : Int) + (k : Int)))).length ≤ k := by
  rw [str_len, cutS_list, show ((n : Int) + (k : Int)) = ((n + k : Nat) : Int) by omega, HT.sIx_nat, HT.sIx_nat, List.length_take, Nat.min_eq_left h]
  omega
theorem menu_len : ∀ s ∈ [bl, Str.ofString " -", Str.ofString " R1", Str.ofString "0", Str.ofString " +"], s.length ≤ 3 := by decide +kernel
theorem spoilt_ok (c : D) (hc : StOk c) (rest : List D) (t : Str) (ht : t.length ≤ 9000) : ∃ y c', f__law_spoilt [.ref 0, .str t] (c :: rest) = .ok (.str y) (c' :: rest) ∧ StOk c' ∧ y.length ≤ t.length + 3 := by
  obtain ⟨v, c1, e1, g1, v1, v2, v3⟩ := take_ok c hc rest ((t.length : Int) + 1) (by omega)
  obtain ⟨n, rfl⟩ : ∃ n : Nat, v = (n : Int) := ⟨v.toNat, by omega⟩
  have hn : n ≤ t.length := by
    by_cases h : 2 ≤ (t.length : Int) + 1
    · have := v2 h
      omega
    · have := v3 (by omega)
      omega
  obtain ⟨k, c2, e2, g2, k1, k2, _⟩ := take_ok c1 g1 rest 6 (by decide)
  have hk := k2 (by decide)
  obtain ⟨ch, c3, e3, g3, lch, _⟩ := pick_c (P := fun _ => True) c2 g2 rest (Str.ofString " -+0129abzAZR:={}~") (by decide +kernel) (by decide +kernel) (fun _ _ => trivial)
  have lt := fun cs => o_lenS (z := t) (cs := cs) (by omega)
  have sl := fun (lo hi : Option Int) cs => o_slS (z := t) (cs := cs) (lo := lo) (hi := hi) (by omega)
  have l0 := cut_to_len t n
  have l1 := cut_from_len t n
  have l2 := cut_from_len t (n + 1)
  have l3 := cut_from_len t (n + 2)
  have l4 := cut_mid_len t n 1 hn
  have l5 := cut_mid_len t n 2 hn
  rw [show ((n + 1 : Nat) : Int) = (n : Int) + 1 by omega] at l2
  rw [show ((n + 2 : Nat) : Int) = (n : Int) + 2 by omega] at l3
  rw [show ((1 : Nat) : Int) = 1 from rfl] at l4
  rw [show ((2 : Nat) : Int) = 2 from rfl] at l5
  unfold f__law_spoilt mDef m__law_spoilt
  by_cases h0 : k = 0 ∨ t = Str.empty
  · have ad1 : ∀ cs, addD (.str (cutS t none (some (n : Int)))) (.str ch) cs = .ok (.str (cutS t none (some (n : Int)) ++ ch)) cs := fun cs => o_addS (by omega)
    have ad2 : ∀ cs, addD (.str (cutS t none (some (n : Int)) ++ ch)) (.str (cutS t (some (n : Int)) none)) cs = .ok (.str (cutS t none (some (n : Int)) ++ ch ++ cutS t (some (n : Int)) none)) cs := fun cs => o_addS (by rw [Wf.len_app]; omega)
    refine ⟨cutS t none (some (n : Int)) ++ ch ++ cutS t (some (n : Int)) none, c3, ?_, g3, by rw [Wf.len_app, Wf.len_app]; omega⟩
    have fr := f_nr (d := .str (cutS t none (some (n : Int)) ++ ch ++ cutS t (some (n : Int)) none)) (n := rest.length + 1) (cs := c3 :: rest) rfl
    have tk : (c3 :: rest).take (rest.length + 1) = c3 :: rest := by simp
    rw [tk] at fr
    rcases h0 with h0 | h0
    · have d0 : decide (k = 0) = true := decide_eq_true h0
      clear h0 hk k1 v1 v2 v3 l0 l1 l2 l3 l4 l5 hn lch
      generalize cutS t none (some (n : Int)) ++ ch ++ cutS t (some (n : Int)) none = Y at *
      repeat (first | simp only [e1, e2, e3, lt, sl, ad1, ad2, d0, fr, n_ok, c_ok, R.bind_ok] | walk_at "ev")
    · by_cases h00 : k = 0
      · have d0 : decide (k = 0) = true := decide_eq_true h00
        clear h00 h0 hk k1 v1 v2 v3 l0 l1 l2 l3 l4 l5 hn lch
        generalize cutS t none (some (n : Int)) ++ ch ++ cutS t (some (n : Int)) none = Y at *
        repeat (first | simp only [e1, e2, e3, lt, sl, ad1, ad2, d0, fr, n_ok, c_ok, R.bind_ok] | walk_at "ev")
      · have d0 : decide (k = 0) = false := decide_eq_false h00
        have d1 : decide (t = Str.empty) = true := decide_eq_true h0
        clear h00 h0 hk k1 v1 v2 v3 l0 l1 l2 l3 l4 l5 hn lch
        generalize cutS t none (some (n : Int)) ++ ch ++ cutS t (some (n : Int)) none = Y at *
        repeat (first | simp only [e1, e2, e3, lt, sl, ad1, ad2, d0, d1, fr, n_ok, c_ok, R.bind_ok] | walk_at "ev")
  · have d0 : decide (k = 0) = false := decide_eq_false fun e => h0 (.inl e)
    have d1 : decide (t = Str.empty) = false := decide_eq_false fun e => h0 (.inr e)
    have hk6 : k = 1 ∨ k = 2 ∨ k = 3 ∨ k = 4 ∨ k = 5 := by
      have : k ≠ 0 := fun e => h0 (.inl e)
      omega
    have tk : ∀ c3 : D, (c3 :: rest).take (rest.length + 1) = c3 :: rest := fun c3 => by simp
    clear h0
    rcases hk6 with rfl | rfl | rfl | rfl | rfl
    · have ad1 : ∀ cs, addD (.str (cutS t none (some (n : Int)))) (.str (cutS t (some ((n : Int) + 1)) none)) cs = .ok (.str (cutS t none (some (n : Int)) ++ cutS t (some ((n : Int) + 1)) none)) cs := fun cs => o_addS (by omega)
      refine ⟨cutS t none (some (n : Int)) ++ cutS t (some ((n : Int) + 1)) none, c3, ?_, g3, by rw [Wf.len_app]; omega⟩
      have fr := f_nr (d := .str (cutS t none (some (n : Int)) ++ cutS t (some ((n : Int) + 1)) none)) (n := rest.length + 1) (cs := c3 :: rest) rfl
      rw [tk] at fr
      have q1 : decide ((1 : Int) = 1) = true := rfl
      clear hk k1 v1 v2 v3 l0 l1 l2 l3 l4 l5 hn lch
      generalize cutS t none (some (n : Int)) ++ cutS t (some ((n : Int) + 1)) none = Y at *
      repeat (first | simp only [e1, e2, e3, lt, sl, ad1, d0, d1, q1, fr, n_ok, c_ok, R.bind_ok] | walk_at "ev")
    · have ad1 : ∀ cs, addD (.str (cutS t none (some (n : Int)))) (.str ch) cs = .ok (.str (cutS t none (some (n : Int)) ++ ch)) cs := fun cs => o_addS (by omega)
      have ad2 : ∀ cs, addD (.str (cutS t none (some (n : Int)) ++ ch)) (.str (cutS t (some ((n : Int) + 1)) none)) cs = .ok (.str (cutS t none (some (n : Int)) ++ ch ++ cutS t (some ((n : Int) + 1)) none)) cs := fun cs => o_addS (by rw [Wf.len_app]; omega)
      refine ⟨cutS t none (some (n : Int)) ++ ch ++ cutS t (some ((n : Int) + 1)) none, c3, ?_, g3, by rw [Wf.len_app, Wf.len_app]; omega⟩
      have fr := f_nr (d := .str (cutS t none (some (n : Int)) ++ ch ++ cutS t (some ((n : Int) + 1)) none)) (n := rest.length + 1) (cs := c3 :: rest) rfl
      rw [tk] at fr
      have q1 : decide ((2 : Int) = 1) = false := rfl
      have q2 : decide ((2 : Int) = 2) = true := rfl
      clear hk k1 v1 v2 v3 l0 l1 l2 l3 l4 l5 hn lch
      generalize cutS t none (some (n : Int)) ++ ch ++ cutS t (some ((n : Int) + 1)) none = Y at *
      repeat (first | simp only [e1, e2, e3, lt, sl, ad1, ad2, d0, d1, q1, q2, fr, n_ok, c_ok, R.bind_ok] | walk_at "ev")
    · have ad1 : ∀ cs, addD (.str (cutS t none (some (n : Int)))) (.str (cutS t (some (n : Int)) (some ((n : Int) + 1)))) cs = .ok (.str (cutS t none (some (n : Int)) ++ cutS t (some (n : Int)) (some ((n : Int) + 1)))) cs := fun cs => o_addS (by omega)
      have ad2 : ∀ cs, addD (.str (cutS t none (some (n : Int)) ++ cutS t (some (n : Int)) (some ((n : Int) + 1)))) (.str (cutS t (some (n : Int)) none)) cs = .ok (.str (cutS t none (some (n : Int)) ++ cutS t (some (n : Int)) (some ((n : Int) + 1)) ++ cutS t (some (n : Int)) none)) cs := fun cs => o_addS (by rw [Wf.len_app]; omega)
      refine ⟨cutS t none (some (n : Int)) ++ cutS t (some (n : Int)) (some ((n : Int) + 1)) ++ cutS t (some (n : Int)) none, c3, ?_, g3, by rw [Wf.len_app, Wf.len_app]; omega⟩
      have fr := f_nr (d := .str (cutS t none (some (n : Int)) ++ cutS t (some (n : Int)) (some ((n : Int) + 1)) ++ cutS t (some (n : Int)) none)) (n := rest.length + 1) (cs := c3 :: rest) rfl
      rw [tk] at fr
      have q1 : decide ((3 : Int) = 1) = false := rfl
      have q2 : decide ((3 : Int) = 2) = false := rfl
      have q3 : decide ((3 : Int) = 3) = true := rfl
      clear hk k1 v1 v2 v3 l0 l1 l2 l3 l4 l5 hn lch
      generalize cutS t none (some (n : Int)) ++ cutS t (some (n : Int)) (some ((n : Int) + 1)) ++ cutS t (some (n : Int)) none = Y at *
      repeat (first | simp only [e1, e2, e3, lt, sl, ad1, ad2, d0, d1, q1, q2, q3, fr, n_ok, c_ok, R.bind_ok] | walk_at "ev")
    · have rv : ∀ cs, kRev (.str (cutS t (some (n : Int)) (some ((n : Int) + 2)))) cs = .ok (.str (revS (cutS t (some (n : Int)) (some ((n : Int) + 2))))) cs := fun cs => k_revS (by omega)
      have lr := revS_len (z := cutS t (some (n : Int)) (some ((n : Int) + 2)))
      have ad1 : ∀ cs, addD (.str (cutS t none (some (n : Int)))) (.str (revS (cutS t (some (n : Int)) (some ((n : Int) + 2))))) cs = .ok (.str (cutS t none (some (n : Int)) ++ revS (cutS t (some (n : Int)) (some ((n : Int) + 2))))) cs := fun cs => o_addS (by omega)
      have ad2 : ∀ cs, addD (.str (cutS t none (some (n : Int)) ++ revS (cutS t (some (n : Int)) (some ((n : Int) + 2))))) (.str (cutS t (some ((n : Int) + 2)) none)) cs = .ok (.str (cutS t none (some (n : Int)) ++ revS (cutS t (some (n : Int)) (some ((n : Int) + 2))) ++ cutS t (some ((n : Int) + 2)) none)) cs := fun cs => o_addS (by rw [Wf.len_app]; omega)
      refine ⟨cutS t none (some (n : Int)) ++ revS (cutS t (some (n : Int)) (some ((n : Int) + 2))) ++ cutS t (some ((n : Int) + 2)) none, c3, ?_, g3, by rw [Wf.len_app, Wf.len_app]; omega⟩
      have fr := f_nr (d := .str (cutS t none (some (n : Int)) ++ revS (cutS t (some (n : Int)) (some ((n : Int) + 2))) ++ cutS t (some ((n : Int) + 2)) none)) (n := rest.length + 1) (cs := c3 :: rest) rfl
      rw [tk] at fr
      have q1 : decide ((4 : Int) = 1) = false := rfl
      have q2 : decide ((4 : Int) = 2) = false := rfl
      have q3 : decide ((4 : Int) = 3) = false := rfl
      have q4 : decide ((4 : Int) = 4) = true := rfl
      clear hk k1 v1 v2 v3 l0 l1 l2 l3 l4 l5 hn lch lr
      generalize cutS t none (some (n : Int)) ++ revS (cutS t (some (n : Int)) (some ((n : Int) + 2))) ++ cutS t (some ((n : Int) + 2)) none = Y at *
      repeat (first | simp only [e1, e2, e3, lt, sl, rv, ad1, ad2, d0, d1, q1, q2, q3, q4, fr, n_ok, c_ok, R.bind_ok] | walk_at "ev")
    · obtain ⟨m, c4, e4, g4, hm, _⟩ := pick_str (P := fun _ => True) (k := 3) c3 g3 rest [bl, Str.ofString " -", Str.ofString " R1", Str.ofString "0", Str.ofString " +"] (by simp) (by decide) (fun y hy => ⟨menu_len y hy, fun _ _ => trivial⟩)
      have e4 : f__law_pick [.ref 0, .lst [.str bl, .str " -", .str " R1", .str "0", .str " +"]] (c3 :: rest) = .ok (.str m) (c4 :: rest) := e4
      have bb : (Str.ofString " ") = bl := rfl
      rw [← bb] at e4
      have ad1 : ∀ cs, addD (.str t) (.str m) cs = .ok (.str (t ++ m)) cs := fun cs => o_addS (by omega)
      refine ⟨t ++ m, c4, ?_, g4, by rw [Wf.len_app]; omega⟩
      have fr := f_nr (d := .str (t ++ m)) (n := rest.length + 1) (cs := c4 :: rest) rfl
      rw [tk] at fr
      have q1 : decide ((5 : Int) = 1) = false := rfl
      have q2 : decide ((5 : Int) = 2) = false := rfl
      have q3 : decide ((5 : Int) = 3) = false := rfl
      have q4 : decide ((5 : Int) = 4) = false := rfl
      clear hk k1 v1 v2 v3 l0 l1 l2 l3 l4 l5 hn lch hm
      generalize t ++ m = Y at *
      repeat (first | simp only [e1, e2, e3, e4, lt, sl, ad1, d0, d1, q1, q2, q3, q4, fr, n_ok, c_ok, R.bind_ok] | walk_at "ev")
theorem written_eq (w : Str) (cs : List D) : f__law_written [.str w] cs = .ok (.str (fw w)) cs := by
  have pm : (Str.ofString "-") = sgn 45 := rfl
  unfold f__law_written mDef m__law_written fw
  rw [pm]
  by_cases h : w = Str.empty
  · have d : decide (w = Str.empty) = true := decide_eq_true h
    rw [if_pos h]
    clear h
    repeat (first | simp only [d, n_ok, c_ok, R.bind_ok] | walk_at "ev")
  · have d : decide (w = Str.empty) = false := decide_eq_false h
    rw [if_neg h]
    clear h
    repeat (first | simp only [d, n_ok, c_ok, R.bind_ok] | walk_at "ev")
/-- characters drawn from the variable 2 -/
theorem picks2_ok {i : Nat} {env : Wf.Env} {z : Str} {rest : List D} (hz : 0 < z.length) (hz2 : z.length ≤ 16777216) (h0 : ∀ d, (env.set i (some d))[0]? = some (some (.ref 0))) (h1 : ∀ d, (env.set i (some d))[2]? = some (some (.str z))) (n : Nat) (hn : n < 100000) (c : D) (hc : StOk c) :
    ∃ ss c', mapR (lcF (gtN i) mYes (mCall f__law_pick (mCons (mV 0) (mCons (mV 2) mNil))) env) (rng 0 n) (c :: rest) = .ok (ss.map D.str) (c' :: rest) ∧ StOk c' ∧ ss.length < 16777216 ∧ (Txt.join Str.empty ss).length = n ∧
      joinD (.str Str.empty) [.lst (ss.map D.str)] (c' :: rest) = .ok (.str (Txt.join Str.empty ss)) (c' :: rest) := by
  obtain ⟨ys, c', e, h2, h3, h4⟩ := map_draws (f := lcF (gtN i) mYes (mCall f__law_pick (mCons (mV 0) (mCons (mV 2) mNil))) env) (rest := rest) (fun d => ∃ y, d = .str y ∧ (y.length = 1)) (ds := rng 0 n) (fun d _ c hc => by
    obtain ⟨y, c', e, h5, h6, h7⟩ := pick_c (P := fun _ => True) c hc rest z hz hz2 (fun _ _ => trivial)
    refine ⟨.str y, c', ?_, h5, y, rfl, h6⟩
    have e0 := e_V (cs := c :: rest) (h0 d)
    have e1 := e_V (cs := c :: rest) (h1 d)
    clear h0 h1 h7
    walk_at "eva") c hc
  obtain ⟨ss, rfl, hs⟩ := strs_of (fun z => z.length = 1) h4
  have hl : ss.length = n := by
    rw [List.length_map] at h3
    rw [h3]
    unfold rng
    simp
  have hj : (Txt.join Str.empty ss).length = n := by rw [join_len, sum_ones fun z hz => hs z hz, hl]
  refine ⟨ss, c', e, h2, by omega, hj, o_join ?_⟩
  rw [sum_ones fun z hz => hs z hz, len_empty]
  omega
noncomputable abbrev lnA : Str := Str.ofString " !\"#$&'()*+,-./0123456789:;<=>?@ABCDEFGHIJKLMNOPQRSTUVWXYZ[\\]^_`"
noncomputable abbrev lnB : Str := Str.ofString "abcdefghijklmnopqrstuvwxyz{|}~"
theorem ln_len : lnA.length = 64 ∧ lnB.length = 30 := by decide +kernel
theorem line_ok (c : D) (hc : StOk c) (rest : List D) (k : Nat) (hk : k ≤ 20) : ∃ y c', f__law_line [.ref 0, .int (k : Nat)] (c :: rest) = .ok (.str y) (c' :: rest) ∧ StOk c' ∧ y.length ≤ 20 := by
  obtain ⟨v, c1, e1, g1, v1, v2⟩ := in_range_ok c hc rest 0 (k : Int) (by omega) (by omega)
  obtain ⟨n, rfl⟩ : ∃ n : Nat, v = (n : Int) := ⟨v.toNat, by omega⟩
  have q4 : -1000000000 ≤ ((n : Int)) ∧ ((n : Int)) < 1000000000 := by omega
  have x2 := k_rng1 (cs := c1 :: rest) q4
  rw [Int.toNat_natCast] at x2
  have hl : (lnA ++ lnB).length = 94 := by rw [Wf.len_app, ln_len.1, ln_len.2]
  have ad := o_addS (z := lnA) (y := lnB) (cs := c :: rest) (by rw [ln_len.1, ln_len.2]; decide)
  obtain ⟨ss, c3, e3, g3, s1, s2, s4⟩ := picks2_ok (i := 3) (env := [some (.ref 0), some (.int (k : Nat)), some (.str (lnA ++ lnB)), none]) (rest := rest) (by omega) (by omega) (fun _ => rfl) (fun _ => rfl) n (by omega) c1 g1
  have x3 := k_lc2 (k := kDone) (cs := c3 :: rest) (show (ss.map D.str).length < 16777216 by rw [List.length_map]; exact s1)
  have em : (Str.ofString "") = Str.empty := rfl
  have fr := f_nr (d := .str (Txt.join Str.empty ss)) (n := rest.length + 1) (cs := c3 :: rest) rfl
  have tk : (c3 :: rest).take (rest.length + 1) = c3 :: rest := by simp
  rw [tk] at fr
  refine ⟨Txt.join Str.empty ss, c3, ?_, g3, by omega⟩
  unfold f__law_line mDef m__law_line
  rw [em]
  clear hl s1 s2 hk v1 v2 q4
  generalize lnA ++ lnB = Z at *
  repeat (first | simp only [e1, ad, x2, e3, x3, s4, fr, n_ok, c_ok, R.bind_ok] | walk_at "ev")
noncomputable abbrev stsS (P : List Str) : D := .lst (P.map D.str)
theorem ap_t {r : Wf.Env} {m : M} {c c' : D} {T : List Str} {t : Str} {i : Nat} (hi : r[i]? = some (some (.ref 1))) (hm : m r [c, stsS T] = .ok (.str t) [c', stsS T]) (hl : T.length < 1000) :
    mExpr (mBM "list" appendD (mV i) (mCons m mNil)) r [c, stsS T] = .ok (.nx r) [c', stsS (T ++ [t])] := by
  have v4 : mV i r [c, stsS T] = .ok (.ref 1) [c, stsS T] := e_V hi
  have ap : appendD (.ref 1) [.str t] [c', .lst (T.map D.str)] = .ok .non [c', .lst (T.map D.str ++ [.str t])] := o_appendA2 ⟨by rw [List.length_map]; omega, rfl, nrs_map fun _ => rfl⟩
  have ty : tyD "list" (.ref 1) [c, .lst (T.map D.str)] = true := t_last2
  rw [show T.map D.str ++ [.str t] = (T ++ [t]).map D.str by rw [List.map_append]; rfl] at ap
  clear hi hl
  unfold stsS at *
  generalize (T ++ [t]).map D.str = F2 at *
  generalize T.map D.str = F at *
  repeat (first | simp only [v4, hm, ap, ty, k_BM, n_ok, c_ok, R.bind_ok] | walk_at "ev")
noncomputable def TxOk (T : List Str) : Prop := ∀ t ∈ T, t.length ≤ 20000
theorem TxOk.add {T : List Str} (h : TxOk T) {t : Str} (ht : t.length ≤ 20000) : TxOk (T ++ [t]) := fun x hx => by
  rcases List.mem_append.mp hx with hx | hx
  · exact h x hx
  · rw [List.mem_singleton.mp hx]
    exact ht
theorem TxOk.nil : TxOk [] := fun _ h => by cases h
theorem TxOk.cons {T : List Str} {t : Str} (ht : t.length ≤ 20000) (h : TxOk T) : TxOk (t :: T) := fun x hx => by
  rcases List.mem_cons.mp hx with hx | hx
  · rw [hx]
    exact ht
  · exact h x hx
noncomputable abbrev eT (z w : Str) : Wf.Env := [some (.ref 0), some (.str z), some (.str w), some (.ref 1)]
theorem texts_ok (c : D) (hc : StOk c) (z w : Str) (hz0 : 0 < z.length) (hz : z.length ≤ 8) (hP : AllC lowP z) (hw : w.length ≤ 100) :
    ∃ T c', f__law_texts [.ref 0, .str z, .str w] [c] = .ok (.ref 1) [c', stsS T] ∧ StOk c' ∧ TxOk T := by
  have w1 := written_eq w
  have lf := fw_len (w := w)
  obtain ⟨p1, c1, e1, g1, l1, _⟩ := pick_c (P := fun _ => True) c hc [] z hz0 (by omega) (fun _ _ => trivial)
  obtain ⟨p2, c2, e2, g2, l2, _⟩ := pick_c (P := fun _ => True) c1 g1 [] z hz0 (by omega) (fun _ _ => trivial)
  have pm : (Str.ofString "-") = sgn 45 := rfl
  have pb : (Str.ofString " ") = bl := rfl
  have lm : (sgn 45).length = 1 := rfl
  have lb : bl.length = 1 := rfl
  have a1 := fun cs => o_addS (z := sgn 45) (y := p1) (cs := cs) (by omega)
  have a2 := fun cs => o_addS (z := p2) (y := sgn 45) (cs := cs) (by omega)
  have b1 := fun cs => o_addS (z := bl) (y := fw w) (cs := cs) (by omega)
  have b2 := fun cs => o_addS (z := w) (y := bl) (cs := cs) (by omega)
  let T0 : List Str := [Str.ofString "", sgn 45, Str.ofString "--", fw w, sgn 45 ++ p1, p2 ++ sgn 45]
  have s0 : mAsg (gtN 3) (mLstL (mCons (mC (.str "")) (mCons (mC (.str (sgn 45))) (mCons (mC (.str "--")) (mCons (mCall f__law_written (mCons (mV 2) mNil)) (mCons (mOp addD (mC (.str (sgn 45))) (mCall f__law_pick (mCons (mV 0) (mCons (mV 1) mNil)))) (mCons (mOp addD (mCall f__law_pick (mCons (mV 0) (mCons (mV 1) mNil))) (mC (.str (sgn 45)))) mNil))))))) [some (.ref 0), some (.str z), some (.str w), none] [c] = .ok (.nx (eT z w)) [c2, stsS T0] := by
    unfold stsS eT
    simp only [T0, List.map_cons, List.map_nil]
    clear hc hz0 hz hP hw g1 g2 l1 l2 lf b1 b2
    repeat (first | simp only [w1, e1, e2, a1, a2, n_ok, c_ok, R.bind_ok] | walk_at "ev")
  have t0 : TxOk T0 := .cons (by decide) (.cons (by decide) (.cons (by decide) (.cons (by omega) (.cons (by rw [Wf.len_app]; omega) (.cons (by rw [Wf.len_app]; omega) .nil)))))
  have n0 : T0.length = 6 := rfl
  clear_value T0
  have h1 : mOp addD (mC (.str bl)) (mCall f__law_written (mCons (mV 2) mNil)) (eT z w) [c2, stsS T0] = .ok (.str (bl ++ fw w)) [c2, stsS T0] := by
    clear hc hz0 hz hP hw g1 g2 l1 l2 lf
    generalize stsS T0 = X
    unfold eT
    repeat (first | simp only [w1, b1, n_ok, c_ok, R.bind_ok] | walk_at "ev")
  have s1 := ap_t (i := 3) rfl h1 (by omega)
  have t1 := t0.add (t := bl ++ fw w) (by rw [Wf.len_app]; omega)
  have n1 : (T0 ++ [bl ++ fw w]).length = 7 := by rw [List.length_append, n0]; rfl
  generalize T0 ++ [bl ++ fw w] = T1 at s1 t1 n1
  have h2 : mOp addD (mV 2) (mC (.str bl)) (eT z w) [c2, stsS T1] = .ok (.str (w ++ bl)) [c2, stsS T1] := by
    clear hc hz0 hz hP hw g1 g2 l1 l2 lf
    generalize stsS T1 = X
    unfold eT
    repeat (first | simp only [b2, n_ok, c_ok, R.bind_ok] | walk_at "ev")
  have s2 := ap_t (i := 3) rfl h2 (by omega)
  have t2 := t1.add (t := w ++ bl) (by rw [Wf.len_app]; omega)
  have n2 : (T1 ++ [w ++ bl]).length = 8 := by rw [List.length_append, n1]; rfl
  generalize T1 ++ [w ++ bl] = T2 at s2 t2 n2
  obtain ⟨y3, c3, e3, g3, l3, _⟩ := word_ok (P := lowP) c2 g2 [stsS T2] z hz0 (by omega) hP 31 33 (by decide) (by decide) (by decide)
  have h3 : mCall f__law_word (mCons (mV 0) (mCons (mV 1) (mCons (mC (.int 31)) (mCons (mC (.int 33)) mNil)))) (eT z w) [c2, stsS T2] = .ok (.str y3) [c3, stsS T2] := by
    clear hc hz0 hz hP hw g1 g2 l1 l2 lf s1 s2 h1 h2
    generalize stsS T2 = X at *
    unfold eT
    repeat (first | simp only [e3, n_ok, c_ok, R.bind_ok] | walk_at "ev")
  have s3 := ap_t (i := 3) rfl h3 (by omega)
  have t3 := t2.add (t := y3) (by omega)
  have n3 : (T2 ++ [y3]).length = 9 := by rw [List.length_append, n2]; rfl
  generalize T2 ++ [y3] = T3 at s3 t3 n3
  obtain ⟨y4, X4, c4, e4, g4, l4, nX⟩ := bad_word_ok c3 g3 [stsS T3] z hz0 hz hP
  have i4 : ∀ cs, ixD (.tup [.str y4, X4]) (.int 0) cs = .ok (.str y4) cs := fun cs => o_ixT rfl
  have h4 : mOp ixD (mCall f__law_bad_word (mCons (mV 0) (mCons (mV 1) mNil))) (mC (.int 0)) (eT z w) [c3, stsS T3] = .ok (.str y4) [c4, stsS T3] := by
    clear hc hz0 hz hP hw g1 g2 l1 l2 lf s1 s2 h1 h2 s3 h3 e3
    generalize stsS T3 = X at *
    unfold eT
    repeat (first | simp only [e4, i4, n_ok, c_ok, R.bind_ok] | walk_at "ev")
  have s4 := ap_t (i := 3) rfl h4 (by omega)
  have t4 := t3.add (t := y4) (by have := l4.1; omega)
  have n4 : (T3 ++ [y4]).length = 10 := by rw [List.length_append, n3]; rfl
  generalize T3 ++ [y4] = T4 at s4 t4 n4
  obtain ⟨y5, c5, e5, g5, l5⟩ := spoilt_ok c4 g4 [stsS T4] (fw w) (by omega)
  have h5 : mCall f__law_spoilt (mCons (mV 0) (mCons (mCall f__law_written (mCons (mV 2) mNil)) mNil)) (eT z w) [c4, stsS T4] = .ok (.str y5) [c5, stsS T4] := by
    clear hc hz0 hz hP hw g1 g2 l1 l2 lf s1 s2 h1 h2 s3 h3 e3 s4 h4 e4
    generalize stsS T4 = X at *
    unfold eT
    repeat (first | simp only [w1, e5, n_ok, c_ok, R.bind_ok] | walk_at "ev")
  have s5 := ap_t (i := 3) rfl h5 (by omega)
  have t5 := t4.add (t := y5) (by omega)
  have n5 : (T4 ++ [y5]).length = 11 := by rw [List.length_append, n4]; rfl
  generalize T4 ++ [y5] = T5 at s5 t5 n5
  obtain ⟨y6, c6, e6, g6, l6⟩ := line_ok c5 g5 [stsS T5] 6 (by decide)
  have h6 : mCall f__law_line (mCons (mV 0) (mCons (mC (.int 6)) mNil)) (eT z w) [c5, stsS T5] = .ok (.str y6) [c6, stsS T5] := by
    have e6 : f__law_line [.ref 0, .int 6] [c5, stsS T5] = .ok (.str y6) [c6, stsS T5] := e6
    clear hc hz0 hz hP hw g1 g2 l1 l2 lf s1 s2 h1 h2 s3 h3 e3 s4 h4 e4 s5 h5 e5
    generalize stsS T5 = X at *
    unfold eT
    repeat (first | simp only [e6, n_ok, c_ok, R.bind_ok] | walk_at "ev")
  have s6 := ap_t (i := 3) rfl h6 (by omega)
  have t6 := t5.add (t := y6) (by omega)
  generalize T5 ++ [y6] = T6 at s6 t6
  refine ⟨T6, c6, ?_, g6, t6⟩
  unfold f__law_texts mDef m__law_texts
  rw [pm, pb]
  clear hc hz0 hz hP hw g1 g2 l1 l2 lf h1 h2 h3 e3 h4 e4 h5 e5 h6 e6 w1 e1 e2 a1 a2 b1 b2
  generalize stsS T6 = X6 at *
  have fr : finR 1 (.ok (.ret (.ref 1)) [c6, X6]) = .ok (.ref 1) [c6, X6] := rfl
  generalize mLstL _ = m0 at *
  have ev : env0 4 [D.ref 0, D.str z, D.str w] = [some (.ref 0), some (.str z), some (.str w), none] := rfl
  have v3 : mV 3 (eT z w) [c6, X6] = .ok (.ref 1) [c6, X6] := e_V rfl
  simp only [e_seq, ev, s0, s1, s2, s3, s4, s5, s6, k_seqN, R.bind_ok, e_ret, v3, k_ret, n_ok]
  exact fr
theorem forR_nx {f : Wf.Env → D → List D → R Fl} {d : D} {ds : List D} {r r' : Wf.Env} {cs cs' : List D} (h : f r d cs = .ok (.nx r') cs') : forR f (d :: ds) r cs = forR f ds r' cs' := by
  show (f r d cs).bind _ = _
  rw [h]
  rfl
theorem forR_nil {f : Wf.Env → D → List D → R Fl} {r : Wf.Env} {cs : List D} : forR f [] r cs = .ok (.nx r) cs := rfl
theorem upper_len (z : Str) : (Txt.upper z).length ≤ 3 * z.length := PyProof.Rows.len_upper z
noncomputable abbrev eA (z : Str) : Wf.Env := [some (.ref 0), some (.str z), some (.ref 1)]
theorem alphabets_ok (c : D) (hc : StOk c) (z : Str) (hz0 : 0 < z.length) (hz : z.length ≤ 8) :
    ∃ T c', f__law_alphabets [.ref 0, .str z] [c] = .ok (.ref 1) [c', stsS T] ∧ StOk c' ∧ TxOk T := by
  obtain ⟨b1, c1, e1, g1, l1⟩ := bad_letters_ok c hc []
  have sl := fun (lo hi : Option Int) cs => o_slS (z := z) (cs := cs) (lo := lo) (hi := hi) (by omega)
  have lc := cutS_le z none (some 1)
  have ad := fun cs => o_addS (z := z) (y := cutS z none (some 1)) (cs := cs) (by omega)
  have rv := fun cs => k_revS (z := z) (cs := cs) (by omega)
  have lr := revS_len (z := z)
  obtain ⟨y2, c2, e2, g2, l2⟩ := line_ok c1 g1 [] 7 (by decide)
  have e2 : f__law_line [.ref 0, .int 7] [c1] = .ok (.str y2) [c2] := e2
  let T0 : List Str := [b1, z ++ cutS z none (some 1), revS z, y2]
  have s0 : mAsg (gtN 2) (mLstL (mCons (mCall f__law_bad_letters (mCons (mV 0) mNil)) (mCons (mOp addD (mV 1) (mSl slD (mV 1) mNoP (mP (mC (.int 1))))) (mCons (mRev (mV 1)) (mCons (mCall f__law_line (mCons (mV 0) (mCons (mC (.int 7)) mNil))) mNil))))) [some (.ref 0), some (.str z), none] [c] = .ok (.nx (eA z)) [c2, stsS T0] := by
    unfold stsS eA
    simp only [T0, List.map_cons, List.map_nil]
    clear hc hz0 hz g1 g2 l1 l2 lc lr
    repeat (first | simp only [e1, e2, sl, ad, rv, n_ok, c_ok, R.bind_ok] | walk_at "ev")
  have t0 : TxOk T0 := .cons (by omega) (.cons (by rw [Wf.len_app]; omega) (.cons (by omega) (.cons (by omega) .nil)))
  have n0 : T0.length = 4 := rfl
  clear_value T0
  obtain ⟨y3, c3, e3, g3, l3⟩ := spoilt_ok c2 g2 [stsS T0] z (by omega)
  have h3 : mCall f__law_spoilt (mCons (mV 0) (mCons (mV 1) mNil)) (eA z) [c2, stsS T0] = .ok (.str y3) [c3, stsS T0] := by
    clear hc hz0 hz g1 g2 l1 l2 lc lr s0
    generalize stsS T0 = X at *
    unfold eA
    repeat (first | simp only [e3, n_ok, c_ok, R.bind_ok] | walk_at "ev")
  have s1 := ap_t (i := 2) rfl h3 (by omega)
  have t1 := t0.add (t := y3) (by omega)
  have n1 : (T0 ++ [y3]).length = 5 := by rw [List.length_append, n0]; rfl
  generalize T0 ++ [y3] = T1 at s1 t1 n1
  have up := fun cs => o_upper (a := z) (cs := cs) (by omega)
  have lu := upper_len z
  have h4 : mBM0 "str" upperD (mV 1) (eA z) [c3, stsS T1] = .ok (.str (Txt.upper z)) [c3, stsS T1] := by
    have ty : tyD "str" (.str z) [c3, stsS T1] = true := rfl
    clear hc hz0 hz g1 g2 l1 l2 lc lr s0 lu h3 s1
    generalize stsS T1 = X at *
    unfold eA
    repeat (first | simp only [up, ty, e_BM0, k_BM0, n_ok, c_ok, R.bind_ok] | walk_at "ev")
  have s2 := ap_t (i := 2) rfl h4 (by omega)
  have t2 := t1.add (t := Txt.upper z) (by omega)
  have n2 : (T1 ++ [Txt.upper z]).length = 6 := by rw [List.length_append, n1]; rfl
  generalize T1 ++ [Txt.upper z] = T2 at s2 t2 n2
  obtain ⟨v, c5, e5, g5, _, _, _⟩ := take_ok c3 g3 [stsS T2] 27 (by decide)
  have l5 := cutS_le abc none (some v)
  rw [abc_len] at l5
  have sa := fun cs => o_slS (z := abc) (cs := cs) (lo := none) (hi := some v) (by rw [abc_len]; decide)
  have h5 : mSl slD (mC (.str abc)) mNoP (mP (mCall f__law_take (mCons (mV 0) (mCons (mC (.int 27)) mNil)))) (eA z) [c3, stsS T2] = .ok (.str (cutS abc none (some v))) [c5, stsS T2] := by
    clear hc hz0 hz g1 g2 l1 l2 lc lr s0 lu h3 s1 h4 s2 l5
    generalize stsS T2 = X at *
    generalize abc = A at *
    unfold eA
    repeat (first | simp only [e5, sa, n_ok, c_ok, R.bind_ok] | walk_at "ev")
  have s3 := ap_t (i := 2) rfl h5 (by omega)
  have t3 := t2.add (t := cutS abc none (some v)) (by omega)
  generalize T2 ++ [cutS abc none (some v)] = T3 at s3 t3
  refine ⟨T3, c5, ?_, g5, t3⟩
  have ab : Str.ofString "abcdefghijklmnopqrstuvwxyz" = abc := rfl
  unfold f__law_alphabets mDef m__law_alphabets
  rw [ab]
  clear hc hz0 hz g1 g2 l1 l2 lc lr lu h3 h4 l5 h5 sa up rv ad sl e1 e2 e3 e5
  generalize stsS T3 = X6 at *
  have fr : finR 1 (.ok (.ret (.ref 1)) [c5, X6]) = .ok (.ref 1) [c5, X6] := rfl
  generalize mLstL _ = m0 at *
  have ev : env0 3 [D.ref 0, D.str z] = [some (.ref 0), some (.str z), none] := rfl
  have v3 : mV 2 (eA z) [c5, X6] = .ok (.ref 1) [c5, X6] := e_V rfl
  simp only [e_seq, ev, s0, s1, s2, s3, k_seqN, R.bind_ok, e_ret, v3, k_ret, n_ok]
  exact fr
/-! ### long texts -/
theorem long_ok (c : D) (hc : StOk c) (z : Str) (hz0 : 0 < z.length) (hz : z.length ≤ 8) : ∃ c', f__law_long_right [.ref 0, .str z] [c] = .ok (.bl true) [c'] ∧ StOk c' := by
  obtain ⟨v, c1, e1, g1, v1, v2⟩ := in_range_ok c hc [] 60 4990 (by decide) (by decide)
  obtain ⟨n, rfl⟩ : ∃ n : Nat, v = (n : Int) := ⟨v.toNat, by omega⟩
  obtain ⟨p, c2, e2, g2, l2, _⟩ := pick_c (P := fun _ => True) c1 g1 [] z hz0 (by omega) (fun _ _ => trivial)
  have mu := fun cs => o_mulS (z := p) (i := (n : Int)) (cs := cs) ⟨by omega, by omega, by rw [l2, Int.toNat_natCast]; omega⟩
  have lm : (strMul p (n : Int)).length = n := by rw [mul_len, l2]; omega
  generalize strMul p (n : Int) = F at *
  obtain ⟨s, c3, e3, g3, _, _, _⟩ := take_ok c2 g2 [] ((n : Int) + 1) (by omega)
  obtain ⟨q, c4, e4, g4, l4, _⟩ := pick_c (P := fun _ => True) c3 g3 [] (Str.ofString "-?A 0") (by decide +kernel) (by decide +kernel) (fun _ _ => trivial)
  have sl := fun (lo hi : Option Int) cs => o_slS (z := F) (cs := cs) (lo := lo) (hi := hi) (by omega)
  have k1 := cutS_le F none (some s)
  have k2 := cutS_le F (some s) none
  have a1 := fun cs => o_addS (z := cutS F none (some s)) (y := q) (cs := cs) (by omega)
  have a2 := fun cs => o_addS (z := cutS F none (some s) ++ q) (y := cutS F (some s) none) (cs := cs) (by rw [Wf.len_app]; omega)
  have lb : (cutS F none (some s) ++ q ++ cutS F (some s) none).length ≤ 20000 := by rw [Wf.len_app, Wf.len_app]; omega
  generalize cutS F none (some s) ++ q ++ cutS F (some s) none = B at *
  have r1 := right_ok z F (by omega) (by omega)
  have r2 := right_ok F z (by omega) (by omega)
  have r3 := right_ok z B (by omega) (by omega)
  have r4 := right_ok B z (by omega) (by omega)
  have fe := format_word_eq F (by omega)
  have ff : fw F = F := by
    unfold fw
    rw [if_neg]
    intro e
    rw [e] at lm
    have : Str.empty.length = 0 := rfl
    omega
  rw [ff] at fe
  have sm := fun cs => same_eq 8 (.str F) cs trivial
  refine ⟨c4, ?_, g4⟩
  unfold f__law_long_right mDef m__law_long_right
  clear hc hz0 hz g1 g2 g3 g4 l2 l4 lm v1 v2 k1 k2 lb ff
  repeat (first | simp only [e1, e2, mu, e3, e4, sl, a1, a2, n_ok, c_ok, R.bind_ok] | walk_at "ev")
  rw [forR_nx (r' := [some (.ref 0), some (.str z), some (.int (n : Int)), some (.str F), some (.int s), some (.str B), some (.str F)]) (cs' := [c4])]
  · rw [forR_nx (r' := [some (.ref 0), some (.str z), some (.int (n : Int)), some (.str F), some (.int s), some (.str B), some (.str B)]) (cs' := [c4])]
    · rw [forR_nil]
      repeat (first | simp only [fe, sm, n_ok, c_ok, R.bind_ok] | walk_at "ev")
      (try rfl)
    · repeat (first | simp only [r3, r4, n_ok, c_ok, R.bind_ok] | walk_at "ev")
      (try rfl)
  · repeat (first | simp only [r1, r2, n_ok, c_ok, R.bind_ok] | walk_at "ev")
    (try rfl)
/-! ### exceptions held as values: what isinstance says of them -/
noncomputable def cX : List Addr := [49, 61, 73, 85, 97, 109, 121, 133, 145, 157, 176, 195, 214, 271, 290, 309, 328, 385, 252, 347, 366, 404, 423, 442, 233, 461, 480, 499, 518, 537]
theorem isx_rf {C B : Addr} {m k : List Addr} (h : tX.at C = some m) (hb : tX.at B = some k) : tX.isx C (.rf B) = some ((C :: m).contains B) := by
  show (match tX.at C, tX.at B with
    | some l, some _ => some ((C :: l).contains B)
    | _, _ => none) = _
  rw [h, hb]
noncomputable def mkL (C : Addr) (m : List Addr) : List Bool := cX.map fun B => (C :: m).contains B
theorem marks_eq {C : Addr} {m : List Addr} (h : tX.at C = some m) (ns : List Str) (l : List D) (cs : List D) : f__law_marks [.xob C ns l] cs = .ok (.lst ((mkL C m).map .bl)) cs := by
  have q0 := isx_rf (B := 49) h rfl
  have q1 := isx_rf (B := 61) h rfl
  have q2 := isx_rf (B := 73) h rfl
  have q3 := isx_rf (B := 85) h rfl
  have q4 := isx_rf (B := 97) h rfl
  have q5 := isx_rf (B := 109) h rfl
  have q6 := isx_rf (B := 121) h rfl
  have q7 := isx_rf (B := 133) h rfl
  have q8 := isx_rf (B := 145) h rfl
  have q9 := isx_rf (B := 157) h rfl
  have q10 := isx_rf (B := 176) h rfl
  have q11 := isx_rf (B := 195) h rfl
  have q12 := isx_rf (B := 214) h rfl
  have q13 := isx_rf (B := 271) h rfl
  have q14 := isx_rf (B := 290) h rfl
  have q15 := isx_rf (B := 309) h rfl
  have q16 := isx_rf (B := 328) h rfl
  have q17 := isx_rf (B := 385) h rfl
  have q18 := isx_rf (B := 252) h rfl
  have q19 := isx_rf (B := 347) h rfl
  have q20 := isx_rf (B := 366) h rfl
  have q21 := isx_rf (B := 404) h rfl
  have q22 := isx_rf (B := 423) h rfl
  have q23 := isx_rf (B := 442) h rfl
  have q24 := isx_rf (B := 233) h rfl
  have q25 := isx_rf (B := 461) h rfl
  have q26 := isx_rf (B := 480) h rfl
  have q27 := isx_rf (B := 499) h rfl
  have q28 := isx_rf (B := 518) h rfl
  have q29 := isx_rf (B := 537) h rfl
  unfold mkL cX
  simp only [List.map_cons, List.map_nil]
  clear h
  generalize (C :: m).contains 49 = b0 at *
  generalize (C :: m).contains 61 = b1 at *
  generalize (C :: m).contains 73 = b2 at *
  generalize (C :: m).contains 85 = b3 at *
  generalize (C :: m).contains 97 = b4 at *
  generalize (C :: m).contains 109 = b5 at *
  generalize (C :: m).contains 121 = b6 at *
  generalize (C :: m).contains 133 = b7 at *
  generalize (C :: m).contains 145 = b8 at *
  generalize (C :: m).contains 157 = b9 at *
  generalize (C :: m).contains 176 = b10 at *
  generalize (C :: m).contains 195 = b11 at *
  generalize (C :: m).contains 214 = b12 at *
  generalize (C :: m).contains 271 = b13 at *
  generalize (C :: m).contains 290 = b14 at *
  generalize (C :: m).contains 309 = b15 at *
  generalize (C :: m).contains 328 = b16 at *
  generalize (C :: m).contains 385 = b17 at *
  generalize (C :: m).contains 252 = b18 at *
  generalize (C :: m).contains 347 = b19 at *
  generalize (C :: m).contains 366 = b20 at *
  generalize (C :: m).contains 404 = b21 at *
  generalize (C :: m).contains 423 = b22 at *
  generalize (C :: m).contains 442 = b23 at *
  generalize (C :: m).contains 233 = b24 at *
  generalize (C :: m).contains 461 = b25 at *
  generalize (C :: m).contains 480 = b26 at *
  generalize (C :: m).contains 499 = b27 at *
  generalize (C :: m).contains 518 = b28 at *
  generalize (C :: m).contains 537 = b29 at *
  have r0 := fun cs => o_isv (ns := ns) (l := l) (cs := cs) q0
  have r1 := fun cs => o_isv (ns := ns) (l := l) (cs := cs) q1
  have r2 := fun cs => o_isv (ns := ns) (l := l) (cs := cs) q2
  have r3 := fun cs => o_isv (ns := ns) (l := l) (cs := cs) q3
  have r4 := fun cs => o_isv (ns := ns) (l := l) (cs := cs) q4
  have r5 := fun cs => o_isv (ns := ns) (l := l) (cs := cs) q5
  have r6 := fun cs => o_isv (ns := ns) (l := l) (cs := cs) q6
  have r7 := fun cs => o_isv (ns := ns) (l := l) (cs := cs) q7
  have r8 := fun cs => o_isv (ns := ns) (l := l) (cs := cs) q8
  have r9 := fun cs => o_isv (ns := ns) (l := l) (cs := cs) q9
  have r10 := fun cs => o_isv (ns := ns) (l := l) (cs := cs) q10
  have r11 := fun cs => o_isv (ns := ns) (l := l) (cs := cs) q11
  have r12 := fun cs => o_isv (ns := ns) (l := l) (cs := cs) q12
  have r13 := fun cs => o_isv (ns := ns) (l := l) (cs := cs) q13
  have r14 := fun cs => o_isv (ns := ns) (l := l) (cs := cs) q14
  have r15 := fun cs => o_isv (ns := ns) (l := l) (cs := cs) q15
  have r16 := fun cs => o_isv (ns := ns) (l := l) (cs := cs) q16
  have r17 := fun cs => o_isv (ns := ns) (l := l) (cs := cs) q17
  have r18 := fun cs => o_isv (ns := ns) (l := l) (cs := cs) q18
  have r19 := fun cs => o_isv (ns := ns) (l := l) (cs := cs) q19
  have r20 := fun cs => o_isv (ns := ns) (l := l) (cs := cs) q20
  have r21 := fun cs => o_isv (ns := ns) (l := l) (cs := cs) q21
  have r22 := fun cs => o_isv (ns := ns) (l := l) (cs := cs) q22
  have r23 := fun cs => o_isv (ns := ns) (l := l) (cs := cs) q23
  have r24 := fun cs => o_isv (ns := ns) (l := l) (cs := cs) q24
  have r25 := fun cs => o_isv (ns := ns) (l := l) (cs := cs) q25
  have r26 := fun cs => o_isv (ns := ns) (l := l) (cs := cs) q26
  have r27 := fun cs => o_isv (ns := ns) (l := l) (cs := cs) q27
  have r28 := fun cs => o_isv (ns := ns) (l := l) (cs := cs) q28
  have r29 := fun cs => o_isv (ns := ns) (l := l) (cs := cs) q29
  clear q0 q1 q2 q3 q4 q5 q6 q7 q8 q9 q10 q11 q12 q13 q14 q15 q16 q17 q18 q19 q20 q21 q22 q23 q24 q25 q26 q27 q28 q29
  unfold f__law_marks mDef m__law_marks
  generalize D.xob C ns l = XX at *
  repeat (first | simp only [r0, r1, r2, r3, r4, r5, r6, r7, r8, r9, r10, r11, r12, r13, r14, r15, r16, r17, r18, r19, r20, r21, r22, r23, r24, r25, r26, r27, r28, r29, n_ok, c_ok, R.bind_ok] | walk_at "ev")
  rw [f_nr (by rfl), take_self]
/-- lists of truth values -/
theorem pys_bls : ∀ bs : List Bool, pysOf (bs.map D.bl) = some (bs.map .bool)
  | [] => rfl
  | b :: bs => by
    show (match pyOf (.bl b), pysOf (bs.map D.bl) with
      | some x, some y => some (x :: y)
      | _, _ => none) = _
    rw [pys_bls bs]
    rfl
theorem lay_bls : ∀ bs : List Bool, PyData.canLayAll0 (bs.map .bool) = true
  | [] => by simp [PyData.canLayAll0]
  | b :: bs => by simp [PyData.canLayAll0, PyData.canLay0, lay_bls bs]
theorem dep_bls : ∀ bs : List Bool, PyData.depthAll (bs.map .bool) = 0
  | [] => by simp [PyData.depthAll]
  | b :: bs => by simp [PyData.depthAll, PyData.depth, dep_bls bs]
theorem eqv_bls : ∀ bs : List Bool, PyData.eqvAll (bs.map .bool) (bs.map .bool) = true
  | [] => by simp [PyData.eqvAll]
  | b :: bs => by simp [PyData.eqvAll, PyData.eqv, eqv_bls bs]
theorem ne_bls (bs : List Bool) (cs : List D) : neD (.lst (bs.map .bl)) (.lst (bs.map .bl)) cs = .ok (.bl false) cs := by
  have h1 : pyTop cs (.lst (bs.map .bl)) = some (.list (bs.map .bool)) := by
    unfold pyTop
    simp [pyOf, pys_bls]
  have h3 : SeqAt.shaped (.list (bs.map .bool)) = true := by
    simp [SeqAt.shaped, PyData.canLay0, PyData.depth, lay_bls, dep_bls]
  have h4 : PyData.eqv (.list (bs.map .bool)) (.list (bs.map .bool)) = true := by
    simp [PyData.eqv, eqv_bls]
  unfold neD eqB
  rw [h1]
  simp [eqS, h3, h4]
/-- a comprehension that only reads -/
theorem mapR_all {α : Type} {f : D → List D → R (Option D)} {g h : α → D} {cs : List D} : ∀ {l : List α}, (∀ a ∈ l, f (g a) cs = .ok (some (h a)) cs) → mapR f (l.map g) cs = .ok (l.map h) cs
  | [], _ => rfl
  | a :: l, hh => by
    show (f (g a) cs).bind _ = _
    rw [hh a (List.mem_cons_self ..), R.bind_ok]
    show (mapR f (l.map g) cs).bind _ = _
    rw [mapR_all fun x hx => hh x (List.mem_cons_of_mem _ hx)]
    rfl
section
/-! ### exceptions held as values: what isinstance says of them -/
section
variable (x y : Str) (s : Int)
noncomputable abbrev oN : D := .tup [.int 1, .str x, .int s]
noncomputable abbrev oT : D := .tup [.int (-1), .str y, .int 0]
noncomputable abbrev lZ : List D := [.xob 49 [] [], .xob 61 [] [], .xob 73 [] [], .xob 85 [] [], .xob 97 [] [], .xob 109 [] [], .xob 121 [] [], .xob 133 [] [], .xob 145 [] [], .xob 157 [] []]
noncomputable abbrev lZ8 : List D := [.xob 49 [] [], .xob 61 [] [], .xob 73 [] [], .xob 85 [] [], .xob 97 [] [], .xob 109 [] [], .xob 121 [] [], .xob 133 [] []]
noncomputable abbrev lT : List D := [.xob 176 ["text"] [.str x], .xob 195 ["text"] [.str x]]
noncomputable abbrev lN : List D := [.xob 214 ["name"] [.str x], .xob 271 ["name"] [.str x], .xob 290 ["name"] [.str x], .xob 309 ["name"] [.str x], .xob 328 ["name"] [.str x], .xob 385 ["name"] [.str x]]
noncomputable abbrev lS : List D := [.xob 252 ["at"] [.int s], .xob 347 ["at"] [.int s], .xob 366 ["at"] [.int s], .xob 404 ["at"] [.int s], .xob 423 ["at"] [.int s], .xob 442 ["at"] [.int s]]
noncomputable abbrev pr : D := .xob 461 ["other", "one"] [.str y, .str x]
noncomputable abbrev lO : List D := [.xob 480 ["other", "one", "top"] [oT y, oN x s, .str x], .xob 499 ["other", "one", "top"] [oT y, oN x s, .str x]]
noncomputable abbrev l0 : D := .xob 233 ["number"] [.int s]
noncomputable abbrev l1 : D := .xob 518 ["path"] [.tup [.int s, .int 0, .int 3]]
noncomputable abbrev l2 : D := .xob 537 ["name", "at"] [.str y, .int s]
noncomputable abbrev lM : List D := [.xob 49 [] [], .xob 61 [] [], .xob 73 [] [], .xob 85 [] [], .xob 97 [] [], .xob 109 [] [], .xob 121 [] [], .xob 133 [] [], .xob 145 [] [], .xob 157 [] [], .xob 176 ["text"] [.str x], .xob 195 ["text"] [.str x], .xob 214 ["name"] [.str x], .xob 271 ["name"] [.str x], .xob 290 ["name"] [.str x], .xob 309 ["name"] [.str x], .xob 328 ["name"] [.str x], .xob 385 ["name"] [.str x], .xob 252 ["at"] [.int s], .xob 347 ["at"] [.int s], .xob 366 ["at"] [.int s], .xob 404 ["at"] [.int s], .xob 423 ["at"] [.int s], .xob 442 ["at"] [.int s], l0 s, pr x y, .xob 480 ["other", "one", "top"] [oT y, oN x s, .str x], .xob 499 ["other", "one", "top"] [oT y, oN x s, .str x], l1 s, l2 y s]
noncomputable abbrev eE (o3 o4 o5 o6 o7 o8 o9 o10 o11 o12 o13 o14 o15 o16 o17 o18 : Option D) : Wf.Env := [some (.ref 0), some (.str x), some (.str y), o3, o4, o5, o6, o7, o8, o9, o10, o11, o12, o13, o14, o15, o16, o17, o18]
end
section
variable {x y : Str} {s : Int} {cs : List D}
theorem kx1 {C : Addr} {f : Str} {v : D} : kXobO C [f] [v] cs = .ok (.xob C [f] [v]) cs := k_xobO rfl
theorem kx2 {C : Addr} {f g : Str} {v w : D} : kXobO C [f, g] [v, w] cs = .ok (.xob C [g, f] [w, v]) cs := k_xobO rfl
theorem kx3 {C : Addr} {f g h : Str} {v w u : D} : kXobO C [f, g, h] [v, w, u] cs = .ok (.xob C [h, g, f] [u, w, v]) cs := k_xobO rfl
theorem e_V10 {a0 a1 a2 a3 a4 a5 a6 a7 a8 a9 : Option D} {d : D} {l : List (Option D)} : mV 10 (a0 :: a1 :: a2 :: a3 :: a4 :: a5 :: a6 :: a7 :: a8 :: a9 :: some d :: l) cs = .ok d cs := (rfl)
theorem e_V11 {a0 a1 a2 a3 a4 a5 a6 a7 a8 a9 a10 : Option D} {d : D} {l : List (Option D)} : mV 11 (a0 :: a1 :: a2 :: a3 :: a4 :: a5 :: a6 :: a7 :: a8 :: a9 :: a10 :: some d :: l) cs = .ok d cs := (rfl)
theorem e_V12 {a0 a1 a2 a3 a4 a5 a6 a7 a8 a9 a10 a11 : Option D} {d : D} {l : List (Option D)} : mV 12 (a0 :: a1 :: a2 :: a3 :: a4 :: a5 :: a6 :: a7 :: a8 :: a9 :: a10 :: a11 :: some d :: l) cs = .ok d cs := (rfl)
theorem e_V13 {a0 a1 a2 a3 a4 a5 a6 a7 a8 a9 a10 a11 a12 : Option D} {d : D} {l : List (Option D)} : mV 13 (a0 :: a1 :: a2 :: a3 :: a4 :: a5 :: a6 :: a7 :: a8 :: a9 :: a10 :: a11 :: a12 :: some d :: l) cs = .ok d cs := (rfl)
theorem e_V14 {a0 a1 a2 a3 a4 a5 a6 a7 a8 a9 a10 a11 a12 a13 : Option D} {d : D} {l : List (Option D)} : mV 14 (a0 :: a1 :: a2 :: a3 :: a4 :: a5 :: a6 :: a7 :: a8 :: a9 :: a10 :: a11 :: a12 :: a13 :: some d :: l) cs = .ok d cs := (rfl)
theorem e_V15 {a0 a1 a2 a3 a4 a5 a6 a7 a8 a9 a10 a11 a12 a13 a14 : Option D} {d : D} {l : List (Option D)} : mV 15 (a0 :: a1 :: a2 :: a3 :: a4 :: a5 :: a6 :: a7 :: a8 :: a9 :: a10 :: a11 :: a12 :: a13 :: a14 :: some d :: l) cs = .ok d cs := (rfl)
theorem e_V16 {a0 a1 a2 a3 a4 a5 a6 a7 a8 a9 a10 a11 a12 a13 a14 a15 : Option D} {d : D} {l : List (Option D)} : mV 16 (a0 :: a1 :: a2 :: a3 :: a4 :: a5 :: a6 :: a7 :: a8 :: a9 :: a10 :: a11 :: a12 :: a13 :: a14 :: a15 :: some d :: l) cs = .ok d cs := (rfl)
theorem e_V17 {a0 a1 a2 a3 a4 a5 a6 a7 a8 a9 a10 a11 a12 a13 a14 a15 a16 : Option D} {d : D} {l : List (Option D)} : mV 17 (a0 :: a1 :: a2 :: a3 :: a4 :: a5 :: a6 :: a7 :: a8 :: a9 :: a10 :: a11 :: a12 :: a13 :: a14 :: a15 :: a16 :: some d :: l) cs = .ok d cs := (rfl)
theorem e_V18 {a0 a1 a2 a3 a4 a5 a6 a7 a8 a9 a10 a11 a12 a13 a14 a15 a16 a17 : Option D} {d : D} {l : List (Option D)} : mV 18 (a0 :: a1 :: a2 :: a3 :: a4 :: a5 :: a6 :: a7 :: a8 :: a9 :: a10 :: a11 :: a12 :: a13 :: a14 :: a15 :: a16 :: a17 :: some d :: l) cs = .ok d cs := (rfl)
theorem es1 {o4 o5 o6 o7 o8 o9 o10 o11 o12 o13 o14 o15 o16 o17 o18 : Option D} : (mAsg (gtN 4) (mTup (mCons (mC (.int 1)) (mCons (mV 1) (mCons (mV 3) mNil))))) (eE x y (some (.int s)) o4 o5 o6 o7 o8 o9 o10 o11 o12 o13 o14 o15 o16 o17 o18) cs = .ok (.nx (eE x y (some (.int s)) (some (oN x s)) o5 o6 o7 o8 o9 o10 o11 o12 o13 o14 o15 o16 o17 o18)) cs := by
  repeat (first | simp only [e_xob0, e_xobO, kx1, kx2, kx3, e_V10, e_V11, e_V12, e_V13, e_V14, e_V15, e_V16, e_V17, e_V18, n_ok, c_ok, R.bind_ok] | walk_at "ev")
  (try rfl)
theorem es2 {o5 o6 o7 o8 o9 o10 o11 o12 o13 o14 o15 o16 o17 o18 : Option D} : (mAsg (gtN 5) (mTup (mCons (mUn negD (mC (.int 1))) (mCons (mV 2) (mCons (mC (.int 0)) mNil))))) (eE x y (some (.int s)) (some (oN x s)) o5 o6 o7 o8 o9 o10 o11 o12 o13 o14 o15 o16 o17 o18) cs = .ok (.nx (eE x y (some (.int s)) (some (oN x s)) (some (oT y)) o6 o7 o8 o9 o10 o11 o12 o13 o14 o15 o16 o17 o18)) cs := by
  repeat (first | simp only [e_xob0, e_xobO, kx1, kx2, kx3, e_V10, e_V11, e_V12, e_V13, e_V14, e_V15, e_V16, e_V17, e_V18, n_ok, c_ok, R.bind_ok] | walk_at "ev")
  (try rfl)
theorem es3 {o6 o7 o8 o9 o10 o11 o12 o13 o14 o15 o16 o17 o18 : Option D} : (mAsg (gtN 6) (mLst (mCons (mXob0 49) (mCons (mXob0 61) (mCons (mXob0 73) (mCons (mXob0 85) (mCons (mXob0 97) (mCons (mXob0 109) (mCons (mXob0 121) (mCons (mXob0 133) mNil)))))))))) (eE x y (some (.int s)) (some (oN x s)) (some (oT y)) o6 o7 o8 o9 o10 o11 o12 o13 o14 o15 o16 o17 o18) cs = .ok (.nx (eE x y (some (.int s)) (some (oN x s)) (some (oT y)) (some (.lst lZ8)) o7 o8 o9 o10 o11 o12 o13 o14 o15 o16 o17 o18)) cs := by
  repeat (first | simp only [e_xob0, e_xobO, kx1, kx2, kx3, e_V10, e_V11, e_V12, e_V13, e_V14, e_V15, e_V16, e_V17, e_V18, n_ok, c_ok, R.bind_ok] | walk_at "ev")
  (try rfl)
theorem es4 {o7 o8 o9 o10 o11 o12 o13 o14 o15 o16 o17 o18 : Option D} : (mAsg (gtN 6) (mOp addD (mV 6) (mLst (mCons (mXob0 145) (mCons (mXob0 157) mNil))))) (eE x y (some (.int s)) (some (oN x s)) (some (oT y)) (some (.lst lZ8)) o7 o8 o9 o10 o11 o12 o13 o14 o15 o16 o17 o18) cs = .ok (.nx (eE x y (some (.int s)) (some (oN x s)) (some (oT y)) (some (.lst lZ)) o7 o8 o9 o10 o11 o12 o13 o14 o15 o16 o17 o18)) cs := by
  repeat (first | simp only [e_xob0, e_xobO, kx1, kx2, kx3, e_V10, e_V11, e_V12, e_V13, e_V14, e_V15, e_V16, e_V17, e_V18, n_ok, c_ok, R.bind_ok] | walk_at "ev")
  (try rfl)
theorem es5 {o7 o8 o9 o10 o11 o12 o13 o14 o15 o16 o17 o18 : Option D} : (mAsg (gtN 7) (mLst (mCons (mXobO 176 ["text"] (mCons (mV 1) mNil)) (mCons (mXobO 195 ["text"] (mCons (mV 1) mNil)) mNil)))) (eE x y (some (.int s)) (some (oN x s)) (some (oT y)) (some (.lst lZ)) o7 o8 o9 o10 o11 o12 o13 o14 o15 o16 o17 o18) cs = .ok (.nx (eE x y (some (.int s)) (some (oN x s)) (some (oT y)) (some (.lst lZ)) (some (.lst (lT x))) o8 o9 o10 o11 o12 o13 o14 o15 o16 o17 o18)) cs := by
  repeat (first | simp only [e_xob0, e_xobO, kx1, kx2, kx3, e_V10, e_V11, e_V12, e_V13, e_V14, e_V15, e_V16, e_V17, e_V18, n_ok, c_ok, R.bind_ok] | walk_at "ev")
  (try rfl)
theorem es6 {o8 o9 o10 o11 o12 o13 o14 o15 o16 o17 o18 : Option D} : (mAsg (gtN 8) (mLst (mCons (mXobO 214 ["name"] (mCons (mV 1) mNil)) (mCons (mXobO 271 ["name"] (mCons (mV 1) mNil)) (mCons (mXobO 290 ["name"] (mCons (mV 1) mNil)) (mCons (mXobO 309 ["name"] (mCons (mV 1) mNil)) (mCons (mXobO 328 ["name"] (mCons (mV 1) mNil)) (mCons (mXobO 385 ["name"] (mCons (mV 1) mNil)) mNil)))))))) (eE x y (some (.int s)) (some (oN x s)) (some (oT y)) (some (.lst lZ)) (some (.lst (lT x))) o8 o9 o10 o11 o12 o13 o14 o15 o16 o17 o18) cs = .ok (.nx (eE x y (some (.int s)) (some (oN x s)) (some (oT y)) (some (.lst lZ)) (some (.lst (lT x))) (some (.lst (lN x))) o9 o10 o11 o12 o13 o14 o15 o16 o17 o18)) cs := by
  repeat (first | simp only [e_xob0, e_xobO, kx1, kx2, kx3, e_V10, e_V11, e_V12, e_V13, e_V14, e_V15, e_V16, e_V17, e_V18, n_ok, c_ok, R.bind_ok] | walk_at "ev")
  (try rfl)
theorem es7 {o9 o10 o11 o12 o13 o14 o15 o16 o17 o18 : Option D} : (mAsg (gtN 9) (mLst (mCons (mXobO 252 ["at"] (mCons (mV 3) mNil)) (mCons (mXobO 347 ["at"] (mCons (mV 3) mNil)) (mCons (mXobO 366 ["at"] (mCons (mV 3) mNil)) (mCons (mXobO 404 ["at"] (mCons (mV 3) mNil)) (mCons (mXobO 423 ["at"] (mCons (mV 3) mNil)) (mCons (mXobO 442 ["at"] (mCons (mV 3) mNil)) mNil)))))))) (eE x y (some (.int s)) (some (oN x s)) (some (oT y)) (some (.lst lZ)) (some (.lst (lT x))) (some (.lst (lN x))) o9 o10 o11 o12 o13 o14 o15 o16 o17 o18) cs = .ok (.nx (eE x y (some (.int s)) (some (oN x s)) (some (oT y)) (some (.lst lZ)) (some (.lst (lT x))) (some (.lst (lN x))) (some (.lst (lS s))) o10 o11 o12 o13 o14 o15 o16 o17 o18)) cs := by
  repeat (first | simp only [e_xob0, e_xobO, kx1, kx2, kx3, e_V10, e_V11, e_V12, e_V13, e_V14, e_V15, e_V16, e_V17, e_V18, n_ok, c_ok, R.bind_ok] | walk_at "ev")
  (try rfl)
theorem es8 {o10 o11 o12 o13 o14 o15 o16 o17 o18 : Option D} : (mAsg (gtN 10) (mXobO 461 ["one", "other"] (mCons (mV 1) (mCons (mV 2) mNil)))) (eE x y (some (.int s)) (some (oN x s)) (some (oT y)) (some (.lst lZ)) (some (.lst (lT x))) (some (.lst (lN x))) (some (.lst (lS s))) o10 o11 o12 o13 o14 o15 o16 o17 o18) cs = .ok (.nx (eE x y (some (.int s)) (some (oN x s)) (some (oT y)) (some (.lst lZ)) (some (.lst (lT x))) (some (.lst (lN x))) (some (.lst (lS s))) (some (pr x y)) o11 o12 o13 o14 o15 o16 o17 o18)) cs := by
  repeat (first | simp only [e_xob0, e_xobO, kx1, kx2, kx3, e_V10, e_V11, e_V12, e_V13, e_V14, e_V15, e_V16, e_V17, e_V18, n_ok, c_ok, R.bind_ok] | walk_at "ev")
  (try rfl)
theorem es9 {o11 o12 o13 o14 o15 o16 o17 o18 : Option D} : (mAsg (gtN 11) (mLst (mCons (mXobO 480 ["top", "one", "other"] (mCons (mV 1) (mCons (mV 4) (mCons (mV 5) mNil)))) (mCons (mXobO 499 ["top", "one", "other"] (mCons (mV 1) (mCons (mV 4) (mCons (mV 5) mNil)))) mNil)))) (eE x y (some (.int s)) (some (oN x s)) (some (oT y)) (some (.lst lZ)) (some (.lst (lT x))) (some (.lst (lN x))) (some (.lst (lS s))) (some (pr x y)) o11 o12 o13 o14 o15 o16 o17 o18) cs = .ok (.nx (eE x y (some (.int s)) (some (oN x s)) (some (oT y)) (some (.lst lZ)) (some (.lst (lT x))) (some (.lst (lN x))) (some (.lst (lS s))) (some (pr x y)) (some (.lst (lO x y s))) o12 o13 o14 o15 o16 o17 o18)) cs := by
  repeat (first | simp only [e_xob0, e_xobO, kx1, kx2, kx3, e_V10, e_V11, e_V12, e_V13, e_V14, e_V15, e_V16, e_V17, e_V18, n_ok, c_ok, R.bind_ok] | walk_at "ev")
  (try rfl)
theorem es10 {o12 o13 o14 o15 o16 o17 o18 : Option D} : (mAsg (gtN 12) (mLst (mCons (mXobO 233 ["number"] (mCons (mV 3) mNil)) (mCons (mXobO 518 ["path"] (mCons (mTup (mCons (mV 3) (mCons (mC (.int 0)) (mCons (mC (.int 3)) mNil)))) mNil)) (mCons (mXobO 537 ["at", "name"] (mCons (mV 3) (mCons (mV 2) mNil))) mNil))))) (eE x y (some (.int s)) (some (oN x s)) (some (oT y)) (some (.lst lZ)) (some (.lst (lT x))) (some (.lst (lN x))) (some (.lst (lS s))) (some (pr x y)) (some (.lst (lO x y s))) o12 o13 o14 o15 o16 o17 o18) cs = .ok (.nx (eE x y (some (.int s)) (some (oN x s)) (some (oT y)) (some (.lst lZ)) (some (.lst (lT x))) (some (.lst (lN x))) (some (.lst (lS s))) (some (pr x y)) (some (.lst (lO x y s))) (some (.lst [l0 s, l1 s, l2 y s])) o13 o14 o15 o16 o17 o18)) cs := by
  repeat (first | simp only [e_xob0, e_xobO, kx1, kx2, kx3, e_V10, e_V11, e_V12, e_V13, e_V14, e_V15, e_V16, e_V17, e_V18, n_ok, c_ok, R.bind_ok] | walk_at "ev")
  (try rfl)
theorem es11 {o13 o14 o15 o16 o17 o18 : Option D} : (mAsg (gtN 6) (mOp addD (mOp addD (mOp addD (mOp addD (mOp addD (mOp addD (mV 6) (mV 7)) (mV 8)) (mV 9)) (mLst (mCons (mOp ixD (mV 12) (mC (.int 0))) (mCons (mV 10) mNil)))) (mV 11)) (mSl slD (mV 12) (mP (mC (.int 1))) mNoP))) (eE x y (some (.int s)) (some (oN x s)) (some (oT y)) (some (.lst lZ)) (some (.lst (lT x))) (some (.lst (lN x))) (some (.lst (lS s))) (some (pr x y)) (some (.lst (lO x y s))) (some (.lst [l0 s, l1 s, l2 y s])) o13 o14 o15 o16 o17 o18) cs = .ok (.nx (eE x y (some (.int s)) (some (oN x s)) (some (oT y)) (some (.lst (lM x y s))) (some (.lst (lT x))) (some (.lst (lN x))) (some (.lst (lS s))) (some (pr x y)) (some (.lst (lO x y s))) (some (.lst [l0 s, l1 s, l2 y s])) o13 o14 o15 o16 o17 o18)) cs := by
  have i0 : ixD (.lst [l0 s, l1 s, l2 y s]) (.int 0) cs = .ok (l0 s) cs := o_ixL rfl
  have ct : cutD [l0 s, l1 s, l2 y s] (some 1) none = [l1 s, l2 y s] := rfl
  repeat (first | simp only [e_xob0, e_xobO, kx1, kx2, kx3, e_V10, e_V11, e_V12, e_V13, e_V14, e_V15, e_V16, e_V17, e_V18, i0, ct, n_ok, c_ok, R.bind_ok] | walk_at "ev")
  (try rfl)
end
end
section
/-! ### exceptions held as values: what isinstance says of them -/
/-! ### the thirty objects, one after another -/
noncomputable def jk (k : Nat) : List Bool := (List.range 30).map fun (j : Nat) => decide ((j : Int) = (k : Int))
structure At (l : List D) (k : Nat) : Prop where
  ex : ∃ (C : Addr) (m : List Addr) (ns : List Str) (vs : List D), l[k]? = some (.xob C ns vs) ∧ tX.at C = some m ∧ tX.isx C (.rf 37) = some (decide ((k : Int) < 2)) ∧ tX.isx C (.rf 24) = some true ∧ tX.isx C (.ty "ValueError") = some true ∧ mkL C m = jk k
theorem made_at (x y : Str) (s : Int) : ∀ k < 30, At (lM x y s) k
  | 0, _ => ⟨_, _, _, _, rfl, rfl, rfl, rfl, isx_ve _ _ rfl, by decide⟩
  | 1, _ => ⟨_, _, _, _, rfl, rfl, rfl, rfl, isx_ve _ _ rfl, by decide⟩
  | 2, _ => ⟨_, _, _, _, rfl, rfl, rfl, rfl, isx_ve _ _ rfl, by decide⟩
  | 3, _ => ⟨_, _, _, _, rfl, rfl, rfl, rfl, isx_ve _ _ rfl, by decide⟩
  | 4, _ => ⟨_, _, _, _, rfl, rfl, rfl, rfl, isx_ve _ _ rfl, by decide⟩
  | 5, _ => ⟨_, _, _, _, rfl, rfl, rfl, rfl, isx_ve _ _ rfl, by decide⟩
  | 6, _ => ⟨_, _, _, _, rfl, rfl, rfl, rfl, isx_ve _ _ rfl, by decide⟩
  | 7, _ => ⟨_, _, _, _, rfl, rfl, rfl, rfl, isx_ve _ _ rfl, by decide⟩
  | 8, _ => ⟨_, _, _, _, rfl, rfl, rfl, rfl, isx_ve _ _ rfl, by decide⟩
  | 9, _ => ⟨_, _, _, _, rfl, rfl, rfl, rfl, isx_ve _ _ rfl, by decide⟩
  | 10, _ => ⟨_, _, _, _, rfl, rfl, rfl, rfl, isx_ve _ _ rfl, by decide⟩
  | 11, _ => ⟨_, _, _, _, rfl, rfl, rfl, rfl, isx_ve _ _ rfl, by decide⟩
  | 12, _ => ⟨_, _, _, _, rfl, rfl, rfl, rfl, isx_ve _ _ rfl, by decide⟩
  | 13, _ => ⟨_, _, _, _, rfl, rfl, rfl, rfl, isx_ve _ _ rfl, by decide⟩
  | 14, _ => ⟨_, _, _, _, rfl, rfl, rfl, rfl, isx_ve _ _ rfl, by decide⟩
  | 15, _ => ⟨_, _, _, _, rfl, rfl, rfl, rfl, isx_ve _ _ rfl, by decide⟩
  | 16, _ => ⟨_, _, _, _, rfl, rfl, rfl, rfl, isx_ve _ _ rfl, by decide⟩
  | 17, _ => ⟨_, _, _, _, rfl, rfl, rfl, rfl, isx_ve _ _ rfl, by decide⟩
  | 18, _ => ⟨_, _, _, _, rfl, rfl, rfl, rfl, isx_ve _ _ rfl, by decide⟩
  | 19, _ => ⟨_, _, _, _, rfl, rfl, rfl, rfl, isx_ve _ _ rfl, by decide⟩
  | 20, _ => ⟨_, _, _, _, rfl, rfl, rfl, rfl, isx_ve _ _ rfl, by decide⟩
  | 21, _ => ⟨_, _, _, _, rfl, rfl, rfl, rfl, isx_ve _ _ rfl, by decide⟩
  | 22, _ => ⟨_, _, _, _, rfl, rfl, rfl, rfl, isx_ve _ _ rfl, by decide⟩
  | 23, _ => ⟨_, _, _, _, rfl, rfl, rfl, rfl, isx_ve _ _ rfl, by decide⟩
  | 24, _ => ⟨_, _, _, _, rfl, rfl, rfl, rfl, isx_ve _ _ rfl, by decide⟩
  | 25, _ => ⟨_, _, _, _, rfl, rfl, rfl, rfl, isx_ve _ _ rfl, by decide⟩
  | 26, _ => ⟨_, _, _, _, rfl, rfl, rfl, rfl, isx_ve _ _ rfl, by decide⟩
  | 27, _ => ⟨_, _, _, _, rfl, rfl, rfl, rfl, isx_ve _ _ rfl, by decide⟩
  | 28, _ => ⟨_, _, _, _, rfl, rfl, rfl, rfl, isx_ve _ _ rfl, by decide⟩
  | 29, _ => ⟨_, _, _, _, rfl, rfl, rfl, rfl, isx_ve _ _ rfl, by decide⟩
  | n + 30, h => absurd h (by omega)
theorem rng30 : rng 0 30 = (List.range 30).map fun (j : Nat) => D.int (j : Int) := by simp [rng]
noncomputable def lbB : MS := (mSeq (mAsg (gtN 14) (mLst (mCons (mCB (isvD tX) (mCons (mOp ixD (mV 6) (mV 13)) (mCons (mC (.rf 37)) mNil))) (mCons (mCB (isvD tX) (mCons (mOp ixD (mV 6) (mV 13)) (mCons (mC (.rf 24)) mNil))) (mCons (mCB (isvD tX) (mCons (mOp ixD (mV 6) (mV 13)) (mCons (mC (.ty "ValueError")) mNil))) mNil)))))
  (mIf (mOr (mB (mOp neD (mCall f__law_marks (mCons (mOp ixD (mV 6) (mV 13)) mNil)) (mLc [15] (mRng1 (mCons (mC (.int 30)) mNil)) (gtN 15) mYes (mOp eqD (mV 15) (mV 13))))) (mB (mOp neD (mV 14) (mLst (mCons (mOp ltD (mV 13) (mC (.int 2))) (mCons (mC (.bl true)) (mCons (mC (.bl true)) mNil))))))) (mRet (mC (.bl false))) mSkip))
theorem lb_is : (mFor (mRng1 (mCons (mC (.int 30)) mNil)) (gtN 13) (mSeq (mAsg (gtN 14) (mLst (mCons (mCB (isvD tX) (mCons (mOp ixD (mV 6) (mV 13)) (mCons (mC (.rf 37)) mNil))) (mCons (mCB (isvD tX) (mCons (mOp ixD (mV 6) (mV 13)) (mCons (mC (.rf 24)) mNil))) (mCons (mCB (isvD tX) (mCons (mOp ixD (mV 6) (mV 13)) (mCons (mC (.ty "ValueError")) mNil))) mNil)))))
  (mIf (mOr (mB (mOp neD (mCall f__law_marks (mCons (mOp ixD (mV 6) (mV 13)) mNil)) (mLc [15] (mRng1 (mCons (mC (.int 30)) mNil)) (gtN 15) mYes (mOp eqD (mV 15) (mV 13))))) (mB (mOp neD (mV 14) (mLst (mCons (mOp ltD (mV 13) (mC (.int 2))) (mCons (mC (.bl true)) (mCons (mC (.bl true)) mNil))))))) (mRet (mC (.bl false))) mSkip))) = mFor (mRng1 (mCons (mC (.int 30)) mNil)) (gtN 13) lbB := rfl
section
variable {x y : Str} {s : Int} {cs : List D}
theorem lc_k {r : Wf.Env} (k : Nat) (hr : r[13]? = some (some (.int (k : Nat)))) (hl : r.length = 19) : (mLc [15] (mRng1 (mCons (mC (.int 30)) mNil)) (gtN 15) mYes (mOp eqD (mV 15) (mV 13))) r cs = .ok (.lst ((jk k).map .bl)) cs := by
  have h : mapR (lcF (gtN 15) mYes (mOp eqD (mV 15) (mV 13)) (r.set 15 none)) (rng 0 30) cs = .ok ((List.range 30).map fun (j : Nat) => D.bl (decide ((j : Int) = (k : Int)))) cs := by
    rw [rng30]
    refine mapR_all fun j _ => ?_
    have v1 : mV 15 ((r.set 15 none).set 15 (some (.int (j : Nat)))) cs = .ok (.int (j : Nat)) cs := e_V (by
      rw [List.getElem?_set_self]
      show 15 < (r.set 15 none).length
      rw [List.length_set, hl]
      decide)
    have v2 : mV 13 ((r.set 15 none).set 15 (some (.int (j : Nat)))) cs = .ok (.int (k : Nat)) cs := e_V (by
      rw [List.getElem?_set_ne (by decide)]
      show (r.set 15 none)[13]? = _
      rw [List.getElem?_set_ne (by decide)]
      exact hr)
    generalize r.set 15 none = W at *
    generalize (j : Int) = J at *
    generalize (k : Int) = Q at *
    repeat (first | simp only [v1, v2, n_ok, c_ok, R.bind_ok] | walk_at "ev")
  have hj : (jk k).map D.bl = (List.range 30).map fun (j : Nat) => D.bl (decide ((j : Int) = (k : Int))) := by
    unfold jk
    rw [List.map_map]
    rfl
  rw [hj]
  have hlen : ((List.range 30).map fun (j : Nat) => D.bl (decide ((j : Int) = (k : Int)))).length < 16777216 := by simp
  have x3 := k_lc2 (k := kDone) (cs := cs) hlen
  have kr : kRng1 [.int 30] cs = .ok (rng 0 30) cs := k_rng1 (by decide)
  clear hj
  generalize (List.range 30).map (fun (j : Nat) => D.bl (decide ((j : Int) = (k : Int)))) = LL at *
  clear hr hl
  generalize rng 0 30 = RR at *
  repeat (first | simp only [h, x3, kr, n_ok, c_ok, R.bind_ok] | walk_at "ev")
theorem lb_one {M : List D} (k : Nat) (h : At M k) {o3 o4 o5 o7 o8 o9 o10 o11 o12 o13 o14 o15 o16 o17 o18 : Option D} : ∃ o14', bFor (gtN 13) lbB (eE x y o3 o4 o5 (some (.lst M)) o7 o8 o9 o10 o11 o12 o13 o14 o15 o16 o17 o18) (.int (k : Nat)) cs = .ok (.nx (eE x y o3 o4 o5 (some (.lst M)) o7 o8 o9 o10 o11 o12 (some (.int (k : Nat))) o14' o15 o16 o17 o18)) cs := by
  obtain ⟨C, m, ns, vs, h1, h2, h3, h4, h5, h6⟩ := h
  have ix : ixD (.lst M) (.int (k : Nat)) cs = .ok (.xob C ns vs) cs := o_ixL (Wf.atI_nat h1)
  have i1 := o_isv (ns := ns) (l := vs) (cs := cs) h3
  have i2 := o_isv (ns := ns) (l := vs) (cs := cs) h4
  have i3 := o_isv (ns := ns) (l := vs) (cs := cs) h5
  have mk := marks_eq h2 ns vs cs
  rw [h6] at mk
  have n1 := ne_bls (jk k) cs
  have n2 : neD (.lst [.bl (decide ((k : Int) < 2)), .bl true, .bl true]) (.lst [.bl (decide ((k : Int) < 2)), .bl true, .bl true]) cs = .ok (.bl false) cs := ne_bls [decide ((k : Int) < 2), true, true] cs
  have lk := fun o14 : Option D => lc_k (cs := cs) (r := eE x y o3 o4 o5 (some (.lst M)) o7 o8 o9 o10 o11 o12 (some (.int (k : Nat))) o14 o15 o16 o17 o18) k rfl rfl
  refine ⟨some (.lst [.bl (decide ((k : Int) < 2)), .bl true, .bl true]), ?_⟩
  unfold lbB
  clear h1 h2 h3 h4 h5 h6
  generalize D.xob C ns vs = XX at *
  generalize (jk k).map D.bl = LL at *
  generalize (mLc [15] (mRng1 (mCons (mC (.int 30)) mNil)) (gtN 15) mYes (mOp eqD (mV 15) (mV 13))) = LC at *
  repeat (first | simp only [ix, i1, i2, i3, mk, n1, n2, lk, n_ok, c_ok, R.bind_ok, e_xob0, e_xobO, kx1, kx2, kx3, e_xof, e_V10, e_V11, e_V12, e_V13, e_V14, e_V15, e_V16, e_V17, e_V18] | walk_at "ev")
  (try rfl)
end
end
section
/-! ### exceptions held as values: what isinstance says of them -/
section
variable {x y : Str} {s : Int} {cs : List D}
theorem for30 {M : List D} (hM : ∀ k < 30, At M k) {o3 o4 o5 o7 o8 o9 o10 o11 o12 o15 o16 o17 o18 : Option D} : ∀ (n k : Nat) (o13 o14 : Option D), k + n = 30 → ∃ o13' o14',
    forR (bFor (gtN 13) lbB) ((List.range' k n).map fun (j : Nat) => D.int (j : Int)) (eE x y o3 o4 o5 (some (.lst M)) o7 o8 o9 o10 o11 o12 o13 o14 o15 o16 o17 o18) cs = .ok (.nx (eE x y o3 o4 o5 (some (.lst M)) o7 o8 o9 o10 o11 o12 o13' o14' o15 o16 o17 o18)) cs
  | 0, k, o13, o14, _ => ⟨o13, o14, rfl⟩
  | n + 1, k, o13, o14, h => by
    rw [List.range'_succ, List.map_cons]
    obtain ⟨p14, e1⟩ := lb_one (x := x) (y := y) (cs := cs) k (hM k (by omega)) (o3 := o3) (o4 := o4) (o5 := o5) (o7 := o7) (o8 := o8) (o9 := o9) (o10 := o10) (o11 := o11) (o12 := o12) (o13 := o13) (o14 := o14) (o15 := o15) (o16 := o16) (o17 := o17) (o18 := o18)
    obtain ⟨q13, q14, e2⟩ := for30 hM n (k + 1) (some (.int (k : Nat))) p14 (by omega)
    exact ⟨q13, q14, (forR_nx e1).trans e2⟩
theorem es12 {M : List D} (hM : ∀ k < 30, At M k) {o3 o4 o5 o7 o8 o9 o10 o11 o12 o13 o14 o15 o16 o17 o18 : Option D} : ∃ o13' o14',
    mFor (mRng1 (mCons (mC (.int 30)) mNil)) (gtN 13) lbB (eE x y o3 o4 o5 (some (.lst M)) o7 o8 o9 o10 o11 o12 o13 o14 o15 o16 o17 o18) cs = .ok (.nx (eE x y o3 o4 o5 (some (.lst M)) o7 o8 o9 o10 o11 o12 o13' o14' o15 o16 o17 o18)) cs := by
  obtain ⟨q13, q14, e2⟩ := for30 (x := x) (y := y) (cs := cs) hM 30 0 o13 o14 rfl (o3 := o3) (o4 := o4) (o5 := o5) (o7 := o7) (o8 := o8) (o9 := o9) (o10 := o10) (o11 := o11) (o12 := o12) (o15 := o15) (o16 := o16) (o17 := o17) (o18 := o18)
  refine ⟨q13, q14, ?_⟩
  rw [← List.range_eq_range', ← rng30] at e2
  have kr : kRng1 [.int 30] cs = .ok (rng 0 30) cs := k_rng1 (by decide)
  clear hM
  generalize lbB = LB at *
  generalize rng 0 30 = RR at *
  generalize eE x y o3 o4 o5 (some (.lst M)) o7 o8 o9 o10 o11 o12 o13 o14 o15 o16 o17 o18 = E1 at *
  repeat (first | simp only [e2, kr, n_ok, c_ok, R.bind_ok] | walk_at "ev")
/-- a field of all of them -/
theorem lc_f {r : Wf.Env} {i : Nat} {f : Str} {v : D} (cls : List Addr) (hi : r[i]? = some (some (.lst (cls.map fun C => .xob C [f] [v])))) (hl : cls.length < 1000) (h17 : r.length = 19) (hc : ∀ C ∈ cls, ∃ m, tX.at C = some m) :
    mLc [17] (mIt itA (mV i)) (gtN 17) mYes (mXoF tX f (mV 17)) r cs = .ok (.lst (cls.map fun _ => v)) cs := by
  have h : mapR (lcF (gtN 17) mYes (mXoF tX f (mV 17)) (r.set 17 none)) (cls.map fun C => .xob C [f] [v]) cs = .ok (cls.map fun _ => v) cs := by
    refine mapR_all fun C hC => ?_
    obtain ⟨m, hm⟩ := hc C hC
    have v1 : mV 17 ((r.set 17 none).set 17 (some (.xob C [f] [v]))) cs = .ok (.xob C [f] [v]) cs := e_V (by
      rw [List.getElem?_set_self]
      rw [List.length_set, h17]
      decide)
    have o1 := o_xof (f := f) (ns := [f]) (l := [v]) (cs := cs) (y := v) hm (by simp [List.lookup])
    clear hi hl h17 hc hC hm
    generalize D.xob C [f] [v] = XX at *
    generalize r.set 17 none = W at *
    repeat (first | simp only [e_xof, v1, o1, n_ok, c_ok, R.bind_ok] | walk_at "ev")
  have vi : mV i r cs = .ok (.lst (cls.map fun C => .xob C [f] [v])) cs := e_V hi
  have hlen : (cls.map fun _ => v).length < 16777216 := by rw [List.length_map]; omega
  have x3 := k_lc2 (k := kDone) (cs := cs) hlen
  clear hi hl h17 hc
  generalize (cls.map fun _ => v) = LL at *
  generalize (cls.map fun C => D.xob C [f] [v]) = XX at *
  repeat (first | simp only [vi, h, x3, n_ok, c_ok, R.bind_ok] | walk_at "ev")
noncomputable abbrev td0 (x : Str) (s : Int) : List D := [.lst [.str x, .str x], .lst [.str x, .str x, .str x, .str x, .str x, .str x], .lst [.int s, .int s, .int s, .int s, .int s, .int s], .int s, .tup [.int s, .int 0, .int 3]]
noncomputable abbrev td1 (x y : Str) (s : Int) : List D := td0 x s ++ [.str x, .str y, .int s, .str y]
noncomputable abbrev td2 (x y : Str) (s : Int) : List D := td1 x y s ++ [.str x, oN x s, oT y, .str x, oN x s, oT y]
theorem bq1 : (Str.ofString "one" == Str.ofString "other") = false := by decide +kernel
theorem bq2 : (Str.ofString "at" == Str.ofString "name") = false := by decide +kernel
theorem bq3 : (Str.ofString "top" == Str.ofString "other") = false := by decide +kernel
theorem bq4 : (Str.ofString "top" == Str.ofString "one") = false := by decide +kernel
theorem es13 {o13 o14 o15 o16 o17 o18 : Option D} : (mAsg (gtN 16) (mLst (mCons (mLc [17] (mIt itA (mV 7)) (gtN 17) mYes (mXoF tX "text" (mV 17))) (mCons (mLc [17] (mIt itA (mV 8)) (gtN 17) mYes (mXoF tX "name" (mV 17))) (mCons (mLc [17] (mIt itA (mV 9)) (gtN 17) mYes (mXoF tX "at" (mV 17))) (mCons (mXoF tX "number" (mOp ixD (mV 12) (mC (.int 0)))) (mCons (mXoF tX "path" (mOp ixD (mV 12) (mC (.int 1)))) mNil))))))) (eE x y (some (.int s)) (some (oN x s)) (some (oT y)) (some (.lst (lM x y s))) (some (.lst (lT x))) (some (.lst (lN x))) (some (.lst (lS s))) (some (pr x y)) (some (.lst (lO x y s))) (some (.lst [l0 s, l1 s, l2 y s])) o13 o14 o15 o16 o17 o18) cs = .ok (.nx (eE x y (some (.int s)) (some (oN x s)) (some (oT y)) (some (.lst (lM x y s))) (some (.lst (lT x))) (some (.lst (lN x))) (some (.lst (lS s))) (some (pr x y)) (some (.lst (lO x y s))) (some (.lst [l0 s, l1 s, l2 y s])) o13 o14 o15 (some (.lst (td0 x s))) o17 o18)) cs := by
  have a1 := lc_f (r := eE x y (some (.int s)) (some (oN x s)) (some (oT y)) (some (.lst (lM x y s))) (some (.lst (lT x))) (some (.lst (lN x))) (some (.lst (lS s))) (some (pr x y)) (some (.lst (lO x y s))) (some (.lst [l0 s, l1 s, l2 y s])) o13 o14 o15 o16 o17 o18) (i := 7) (f := "text") (v := .str x) (cs := cs) [176, 195] rfl (by decide) rfl (fun C hC => by
    simp only [List.mem_cons, List.not_mem_nil, or_false] at hC
    rcases hC with rfl | rfl <;> exact ⟨_, rfl⟩)
  have a2 := lc_f (r := eE x y (some (.int s)) (some (oN x s)) (some (oT y)) (some (.lst (lM x y s))) (some (.lst (lT x))) (some (.lst (lN x))) (some (.lst (lS s))) (some (pr x y)) (some (.lst (lO x y s))) (some (.lst [l0 s, l1 s, l2 y s])) o13 o14 o15 o16 o17 o18) (i := 8) (f := "name") (v := .str x) (cs := cs) [214, 271, 290, 309, 328, 385] rfl (by decide) rfl (fun C hC => by
    simp only [List.mem_cons, List.not_mem_nil, or_false] at hC
    rcases hC with rfl | rfl | rfl | rfl | rfl | rfl <;> exact ⟨_, rfl⟩)
  have a3 := lc_f (r := eE x y (some (.int s)) (some (oN x s)) (some (oT y)) (some (.lst (lM x y s))) (some (.lst (lT x))) (some (.lst (lN x))) (some (.lst (lS s))) (some (pr x y)) (some (.lst (lO x y s))) (some (.lst [l0 s, l1 s, l2 y s])) o13 o14 o15 o16 o17 o18) (i := 9) (f := "at") (v := .int s) (cs := cs) [252, 347, 366, 404, 423, 442] rfl (by decide) rfl (fun C hC => by
    simp only [List.mem_cons, List.not_mem_nil, or_false] at hC
    rcases hC with rfl | rfl | rfl | rfl | rfl | rfl <;> exact ⟨_, rfl⟩)
  have i0 : ixD (.lst [l0 s, l1 s, l2 y s]) (.int 0) cs = .ok (l0 s) cs := o_ixL rfl
  have i1 : ixD (.lst [l0 s, l1 s, l2 y s]) (.int 1) cs = .ok (l1 s) cs := o_ixL rfl
  have f0 : xofD tX "number" (l0 s) cs = .ok (.int s) cs := o_xof (l2 := [24]) rfl (by simp [List.lookup, bq1, bq2, bq3, bq4])
  have f1 : xofD tX "path" (l1 s) cs = .ok (.tup [.int s, .int 0, .int 3]) cs := o_xof (l2 := [24]) rfl (by simp [List.lookup])
  generalize (mLc [17] (mIt itA (mV 7)) (gtN 17) mYes (mXoF tX "text" (mV 17))) = q1 at *
  generalize (mLc [17] (mIt itA (mV 8)) (gtN 17) mYes (mXoF tX "name" (mV 17))) = q2 at *
  generalize (mLc [17] (mIt itA (mV 9)) (gtN 17) mYes (mXoF tX "at" (mV 17))) = q3 at *
  repeat (first | simp only [a1, a2, a3, i0, i1, f0, f1, e_xob0, e_xobO, kx1, kx2, kx3, e_xof, e_V10, e_V11, e_V12, e_V13, e_V14, e_V15, e_V16, e_V17, e_V18, n_ok, c_ok, R.bind_ok] | walk_at "ev")
  (try rfl)
theorem es14 {o13 o14 o15 o17 o18 : Option D} : (mAsg (gtN 16) (mOp addD (mV 16) (mLst (mCons (mXoF tX "one" (mV 10)) (mCons (mXoF tX "other" (mV 10)) (mCons (mXoF tX "at" (mOp ixD (mV 12) (mC (.int 2)))) (mCons (mXoF tX "name" (mOp ixD (mV 12) (mC (.int 2)))) mNil))))))) (eE x y (some (.int s)) (some (oN x s)) (some (oT y)) (some (.lst (lM x y s))) (some (.lst (lT x))) (some (.lst (lN x))) (some (.lst (lS s))) (some (pr x y)) (some (.lst (lO x y s))) (some (.lst [l0 s, l1 s, l2 y s])) o13 o14 o15 (some (.lst (td0 x s))) o17 o18) cs = .ok (.nx (eE x y (some (.int s)) (some (oN x s)) (some (oT y)) (some (.lst (lM x y s))) (some (.lst (lT x))) (some (.lst (lN x))) (some (.lst (lS s))) (some (pr x y)) (some (.lst (lO x y s))) (some (.lst [l0 s, l1 s, l2 y s])) o13 o14 o15 (some (.lst (td1 x y s))) o17 o18)) cs := by
  have i2 : ixD (.lst [l0 s, l1 s, l2 y s]) (.int 2) cs = .ok (l2 y s) cs := o_ixL rfl
  have f0 : xofD tX "one" (pr x y) cs = .ok (.str x) cs := o_xof (l2 := [24]) rfl (by simp [List.lookup, bq1, bq2, bq3, bq4])
  have f1 : xofD tX "other" (pr x y) cs = .ok (.str y) cs := o_xof (l2 := [24]) rfl (by simp [List.lookup, bq1, bq2, bq3, bq4])
  have f2 : xofD tX "at" (l2 y s) cs = .ok (.int s) cs := o_xof (l2 := [24]) rfl (by simp [List.lookup, bq1, bq2, bq3, bq4])
  have f3 : xofD tX "name" (l2 y s) cs = .ok (.str y) cs := o_xof (l2 := [24]) rfl (by simp [List.lookup, bq1, bq2, bq3, bq4])
  have ad : addD (.lst (td0 x s)) (.lst [.str x, .str y, .int s, .str y]) cs = .ok (.lst (td1 x y s)) cs := o_addL (by simp)
  generalize td0 x s = T0 at *
  generalize td1 x y s = T1 at *
  repeat (first | simp only [i2, f0, f1, f2, f3, ad, e_xob0, e_xobO, kx1, kx2, kx3, e_xof, e_V10, e_V11, e_V12, e_V13, e_V14, e_V15, e_V16, e_V17, e_V18, n_ok, c_ok, R.bind_ok] | walk_at "ev")
  (try rfl)
theorem es15 {o13 o14 o15 o17 o18 : Option D} : (mFor (mIt itA (mV 11)) (gtN 17) (mAsg (gtN 16) (mOp addD (mV 16) (mLst (mCons (mXoF tX "top" (mV 17)) (mCons (mXoF tX "one" (mV 17)) (mCons (mXoF tX "other" (mV 17)) mNil))))))) (eE x y (some (.int s)) (some (oN x s)) (some (oT y)) (some (.lst (lM x y s))) (some (.lst (lT x))) (some (.lst (lN x))) (some (.lst (lS s))) (some (pr x y)) (some (.lst (lO x y s))) (some (.lst [l0 s, l1 s, l2 y s])) o13 o14 o15 (some (.lst (td1 x y s))) o17 o18) cs = .ok (.nx (eE x y (some (.int s)) (some (oN x s)) (some (oT y)) (some (.lst (lM x y s))) (some (.lst (lT x))) (some (.lst (lN x))) (some (.lst (lS s))) (some (pr x y)) (some (.lst (lO x y s))) (some (.lst [l0 s, l1 s, l2 y s])) o13 o14 o15 (some (.lst (td2 x y s))) (some (.xob 499 ["other", "one", "top"] [oT y, oN x s, .str x])) o18)) cs := by
  have g0top : xofD tX "top" (.xob 480 ["other", "one", "top"] [oT y, oN x s, .str x]) cs = .ok (.str x) cs := o_xof (l2 := [24]) rfl (by simp [List.lookup, bq1, bq2, bq3, bq4])
  have g0one : xofD tX "one" (.xob 480 ["other", "one", "top"] [oT y, oN x s, .str x]) cs = .ok (oN x s) cs := o_xof (l2 := [24]) rfl (by simp [List.lookup, bq1, bq2, bq3, bq4])
  have g0other : xofD tX "other" (.xob 480 ["other", "one", "top"] [oT y, oN x s, .str x]) cs = .ok (oT y) cs := o_xof (l2 := [24]) rfl (by simp [List.lookup, bq1, bq2, bq3, bq4])
  have g1top : xofD tX "top" (.xob 499 ["other", "one", "top"] [oT y, oN x s, .str x]) cs = .ok (.str x) cs := o_xof (l2 := [24]) rfl (by simp [List.lookup, bq1, bq2, bq3, bq4])
  have g1one : xofD tX "one" (.xob 499 ["other", "one", "top"] [oT y, oN x s, .str x]) cs = .ok (oN x s) cs := o_xof (l2 := [24]) rfl (by simp [List.lookup, bq1, bq2, bq3, bq4])
  have g1other : xofD tX "other" (.xob 499 ["other", "one", "top"] [oT y, oN x s, .str x]) cs = .ok (oT y) cs := o_xof (l2 := [24]) rfl (by simp [List.lookup, bq1, bq2, bq3, bq4])
  have ad1 : addD (.lst (td1 x y s)) (.lst [.str x, oN x s, oT y]) cs = .ok (.lst (td1 x y s ++ [.str x, oN x s, oT y])) cs := o_addL (by simp)
  have ad2 : addD (.lst (td1 x y s ++ [.str x, oN x s, oT y])) (.lst [.str x, oN x s, oT y]) cs = .ok (.lst (td2 x y s)) cs := o_addL (by simp)
  generalize td1 x y s ++ [.str x, oN x s, oT y] = T1b at *
  generalize td2 x y s = T2 at *
  generalize td1 x y s = T1 at *
  repeat (first | simp only [e_xob0, e_xobO, kx1, kx2, kx3, e_xof, e_V10, e_V11, e_V12, e_V13, e_V14, e_V15, e_V16, e_V17, e_V18, n_ok, c_ok, R.bind_ok] | walk_at "ev")
  rw [forR_nx (r' := eE x y (some (.int s)) (some (oN x s)) (some (oT y)) (some (.lst (lM x y s))) (some (.lst (lT x))) (some (.lst (lN x))) (some (.lst (lS s))) (some (pr x y)) (some (.lst (lO x y s))) (some (.lst [l0 s, l1 s, l2 y s])) o13 o14 o15 (some (.lst T1b)) (some (.xob 480 ["other", "one", "top"] [oT y, oN x s, .str x])) o18) (cs' := cs)]
  · rw [forR_nx (r' := eE x y (some (.int s)) (some (oN x s)) (some (oT y)) (some (.lst (lM x y s))) (some (.lst (lT x))) (some (.lst (lN x))) (some (.lst (lS s))) (some (pr x y)) (some (.lst (lO x y s))) (some (.lst [l0 s, l1 s, l2 y s])) o13 o14 o15 (some (.lst T2)) (some (.xob 499 ["other", "one", "top"] [oT y, oN x s, .str x])) o18) (cs' := cs)]
    · rw [forR_nil]
    · repeat (first | simp only [g1top, g1one, g1other, ad2, e_xob0, e_xobO, kx1, kx2, kx3, e_xof, e_V10, e_V11, e_V12, e_V13, e_V14, e_V15, e_V16, e_V17, e_V18, n_ok, c_ok, R.bind_ok] | walk_at "ev")
      (try rfl)
  · repeat (first | simp only [g0top, g0one, g0other, ad1, e_xob0, e_xobO, kx1, kx2, kx3, e_xof, e_V10, e_V11, e_V12, e_V13, e_V14, e_V15, e_V16, e_V17, e_V18, n_ok, c_ok, R.bind_ok] | walk_at "ev")
    (try rfl)
end
end
section
/-! ### exceptions held as values: what isinstance says of them -/
section
variable {x y : Str} {s : Int} {cs : List D}
theorem es16 {o13 o14 o15 o17 o18 : Option D} : (mAsg (gtN 18) (mLst (mCons (mOp mulD (mLst (mCons (mV 1) mNil)) (mC (.int 2))) (mCons (mOp mulD (mLst (mCons (mV 1) mNil)) (mC (.int 6))) (mCons (mOp mulD (mLst (mCons (mV 3) mNil)) (mC (.int 6))) (mCons (mV 3) (mCons (mTup (mCons (mV 3) (mCons (mC (.int 0)) (mCons (mC (.int 3)) mNil)))) (mCons (mV 1) (mCons (mV 2) (mCons (mV 3) (mCons (mV 2) mNil))))))))))) (eE x y (some (.int s)) (some (oN x s)) (some (oT y)) (some (.lst (lM x y s))) (some (.lst (lT x))) (some (.lst (lN x))) (some (.lst (lS s))) (some (pr x y)) (some (.lst (lO x y s))) (some (.lst [l0 s, l1 s, l2 y s])) o13 o14 o15 (some (.lst (td2 x y s))) o17 o18) cs = .ok (.nx (eE x y (some (.int s)) (some (oN x s)) (some (oT y)) (some (.lst (lM x y s))) (some (.lst (lT x))) (some (.lst (lN x))) (some (.lst (lS s))) (some (pr x y)) (some (.lst (lO x y s))) (some (.lst [l0 s, l1 s, l2 y s])) o13 o14 o15 (some (.lst (td2 x y s))) o17 (some (.lst (td1 x y s))))) cs := by
  have m1 : mulD (.lst [.str x]) (.int 2) cs = .ok (.lst [.str x, .str x]) cs := o_mulL ⟨by decide, by decide, by simp⟩
  have m2 : mulD (.lst [.str x]) (.int 6) cs = .ok (.lst [.str x, .str x, .str x, .str x, .str x, .str x]) cs := o_mulL ⟨by decide, by decide, by simp⟩
  have m3 : mulD (.lst [.int s]) (.int 6) cs = .ok (.lst [.int s, .int s, .int s, .int s, .int s, .int s]) cs := o_mulL ⟨by decide, by decide, by simp⟩
  generalize td2 x y s = T2 at *
  repeat (first | simp only [m1, m2, m3, e_xob0, e_xobO, kx1, kx2, kx3, e_xof, e_V10, e_V11, e_V12, e_V13, e_V14, e_V15, e_V16, e_V17, e_V18, n_ok, c_ok, R.bind_ok] | walk_at "ev")
  (try rfl)
theorem td_deep (x y : Str) (s : Int) : deep 8 (.lst (td2 x y s)) := by
  refine ⟨by simp, ?_⟩
  simp [deep]
theorem es17 {o13 o14 o15 o17 : Option D} : (mRet (mCall (f__law_same 8) (mCons (mV 16) (mCons (mOp addD (mV 18) (mOp mulD (mLst (mCons (mV 1) (mCons (mV 4) (mCons (mV 5) mNil)))) (mC (.int 2)))) mNil)))) (eE x y (some (.int s)) (some (oN x s)) (some (oT y)) (some (.lst (lM x y s))) (some (.lst (lT x))) (some (.lst (lN x))) (some (.lst (lS s))) (some (pr x y)) (some (.lst (lO x y s))) (some (.lst [l0 s, l1 s, l2 y s])) o13 o14 o15 (some (.lst (td2 x y s))) o17 (some (.lst (td1 x y s)))) cs = .ok (.ret (.bl true)) cs := by
  have m1 : mulD (.lst [.str x, oN x s, oT y]) (.int 2) cs = .ok (.lst [.str x, oN x s, oT y, .str x, oN x s, oT y]) cs := o_mulL ⟨by decide, by decide, by simp⟩
  have ad : addD (.lst (td1 x y s)) (.lst [.str x, oN x s, oT y, .str x, oN x s, oT y]) cs = .ok (.lst (td2 x y s)) cs := o_addL (by simp)
  have sm := same_eq 8 (.lst (td2 x y s)) cs (td_deep x y s)
  generalize td2 x y s = T2 at *
  generalize td1 x y s = T1 at *
  repeat (first | simp only [m1, ad, sm, e_xob0, e_xobO, kx1, kx2, kx3, e_xof, e_V10, e_V11, e_V12, e_V13, e_V14, e_V15, e_V16, e_V17, e_V18, n_ok, c_ok, R.bind_ok] | walk_at "ev")
  (try rfl)
end
theorem errors_ok (c : D) (hc : StOk c) (x y : Str) : ∃ c', f__law_errors_right [.ref 0, .str x, .str y] [c] = .ok (.bl true) [c'] ∧ StOk c' := by
  obtain ⟨v, c1, e1, g1, _, _⟩ := span_ok c hc [] (-99) 999 (by decide) (by decide)
  obtain ⟨d, c2, e2, g2, hd⟩ := pick_l c1 g1 [] [.int v, .int 0, .int (10 ^ 18 - 1), .int (1 - 10 ^ 18)] (by simp) (by simp) rfl
  obtain ⟨s, rfl⟩ : ∃ s : Int, d = .int s := by
    simp only [List.mem_cons, List.not_mem_nil, or_false] at hd
    rcases hd with rfl | rfl | rfl | rfl <;> exact ⟨_, rfl⟩
  have s0 : (mAsg (gtN 3) (mCall f__law_pick (mCons (mV 0) (mCons (mLst (mCons (mCall f__law_span (mCons (mV 0) (mCons (mUn negD (mC (.int 99))) (mCons (mC (.int 999)) mNil)))) (mCons (mC (.int 0)) (mCons (mOp subD (mOp powD (mC (.int 10)) (mC (.int 18))) (mC (.int 1))) (mCons (mOp subD (mC (.int 1)) (mOp powD (mC (.int 10)) (mC (.int 18)))) mNil))))) mNil)))) (eE x y none none none none none none none none none none none none none none none none ) [c] = .ok (.nx (eE x y (some (.int s)) none none none none none none none none none none none none none none none )) [c2] := by
    have pw : ∀ cs, powD (.int 10) (.int 18) cs = .ok (.int (10 ^ 18)) cs := fun cs => o_pow ⟨by decide, by decide, by decide⟩
    clear hd g1 g2 hc
    generalize (10 ^ 18 : Int) = P at *
    repeat (first | simp only [e1, pw, e2, n_ok, c_ok, R.bind_ok] | walk_at "ev")
    (try rfl)
  obtain ⟨q13, q14, s12⟩ := es12 (x := x) (y := y) (cs := [c2]) (made_at x y s) (o3 := some (.int s)) (o4 := some (oN x s)) (o5 := some (oT y)) (o7 := some (.lst (lT x))) (o8 := some (.lst (lN x))) (o9 := some (.lst (lS s))) (o10 := some (pr x y)) (o11 := some (.lst (lO x y s))) (o12 := some (.lst [l0 s, l1 s, l2 y s])) (o13 := none) (o14 := none) (o15 := none) (o16 := none) (o17 := none) (o18 := none)
  refine ⟨c2, ?_, g2⟩
  unfold f__law_errors_right mDef m__law_errors_right
  have ev : env0 19 [D.ref 0, D.str x, D.str y] = eE x y none none none none none none none none none none none none none none none none  := rfl
  have fr : finR 1 (.ok (.ret (.bl true)) [c2]) = .ok (.bl true) [c2] := rfl
  clear e1 e2 hd g1 g2 hc
  rw [← lb_is] at s12
  simp only [e_seq, ev, s0, es1, es2, es3, es4, es5, es6, es7, es8, es9, es10, es11, s12, es13, es14, es15, es16, es17, k_seqN, R.bind_ok]
  exact fr
end
section
/-! ### exceptions held as values: what isinstance says of them -/
/-! ### the law -/
theorem frz_last {l : List D} : kFrz cs.length (.ref cs.length) (cs ++ [.lst l]) = .ok (.lst l) cs := by
  unfold kFrz
  simp
noncomputable def tB : MS := (mIf (mOr (mNot (mB (mCall f__law_right (mCons (mV 3) (mCons (mV 9) mNil))))) (mNot (mB (mCall f__law_right (mCons (mV 4) (mCons (mV 9) mNil)))))) (mRet (mC (.bl false))) mSkip)
noncomputable def aB : MS := (mIf (mOr (mNot (mB (mCall f__law_right (mCons (mV 10) (mCons (mV 7) mNil))))) (mNot (mB (mCall f__law_right (mCons (mV 10) (mCons (mOp ixD (mCall f__law_bad_word (mCons (mV 2) (mCons (mV 3) mNil))) (mC (.int 0))) mNil)))))) (mRet (mC (.bl false))) mSkip)
noncomputable def txM : M := mFrz (mCall f__law_texts (mCons (mV 2) (mCons (mV 3) (mCons (mV 6) mNil))))
noncomputable def alM : M := mFrz (mCall f__law_alphabets (mCons (mV 2) (mCons (mV 3) mNil)))
noncomputable def lwB : MS := (mSeq (mAsg (gtN 6) (mCall f__law_word (mCons (mV 2) (mCons (mV 3) (mCons (mC (.int 0)) (mCons (mCall f__law_pick (mCons (mV 2) (mCons (mLst (mCons (mC (.int 5)) (mCons (mC (.int 32)) mNil))) mNil))) mNil))))))
  (mSeq (mAsg (gtN 7) (mCall f_format_word (mCons (mV 6) mNil)))
  (mSeq (mIf (mOr (mNot (mB (mCall (f__law_same 8) (mCons (mV 7) (mCons (mCall f__law_written (mCons (mV 6) mNil)) mNil))))) (mNot (mB (mCall (f__law_same 8) (mCons (mCall f__law_read (mCons (mV 3) (mCons (mV 7) (mCons (mC (.int 0)) mNil)))) (mCons (mTup (mCons (mC (.str "told")) (mCons (mV 6) mNil))) mNil)))))) (mRet (mC (.bl false))) mSkip)
  (mSeq (mAsg (gtN 8) (mOp addD (mV 6) (mOp mulD (mRev (mV 3)) (mOp mulD (mV 5) (mC (.int 8))))))
  (mSeq (mIf (mNot (mB (mCall (f__law_same 8) (mCons (mCallK0 f_format_word 1 [0] (mCons (mV 8) mNil)) (mCons (mCall f__law_written (mCons (mV 8) mNil)) mNil))))) (mRet (mC (.bl false))) mSkip)
  (mSeq (mFor (mIt itA txM) (gtN 9) tB)
  (mSeq (mFor (mIt itA alM) (gtN 10) aB)
  (mIf (mOr (mNot (mB (mCall f__law_right (mCons (mV 3) (mCons (mV 7) mNil))))) (mNot (mB (mCall f__law_right (mCons (mV 3) (mCons (mV 6) mNil)))))) (mRet (mC (.bl false))) mSkip))))))))
noncomputable def lrM : MS := (mIf (mAnd (mB (mCall f__law_rare (mCons (mV 2) (mCons (mC (.int 4)) mNil)))) (mNot (mB (mCall f__law_long_right (mCons (mV 2) (mCons (mV 3) mNil)))))) (mRet (mC (.bl false))) mSkip)
theorem law_is : f_law = mDef 1 11 (mSeq (mAsg (gtN 1) (mLst (mCons (mC (.int 6)) (mCons (mC (.int 12)) (mCons (mC (.int 8)) (mCons (mC (.int 99)) (mCons (mC (.int 32)) (mCons (mC (.int 120)) (mCons (mC (.int 400)) (mCons (mC (.int 40)) (mCons (mC (.int 200)) (mCons (mC (.int 400)) mNil))))))))))))
  (mSeq (mIf (mNot (mB (mCall (f__law_same 8) (mCons (mV 1) (mCons (mLst (mCons (mC (.int 6)) (mCons (mC (.int 12)) (mCons (mC (.int 8)) (mCons (mC (.int 99)) (mCons (mC (.int 32)) (mCons (mC (.int 120)) (mCons (mC (.int 400)) (mCons (mC (.int 40)) (mCons (mC (.int 200)) (mCons (mC (.int 400)) mNil))))))))))) mNil))))) (mRet (mC (.bl false))) mSkip)
  (mSeq (mAsg (gtN 2) (mCall f__law_draws (mCons (mV 0) mNil)))
  (mSeq (mAsg (gtN 3) (mCall f__law_letters (mCons (mV 2) (mCons (mC (.int 1)) (mCons (mC (.int 6)) mNil)))))
  (mSeq (mAsg (gtN 4) (mCall f__law_letters (mCons (mV 2) (mCons (mC (.int 1)) (mCons (mC (.int 6)) mNil)))))
  (mSeq (mFor (mRng1 (mCons (mC (.int 2)) mNil)) (gtN 5) lwB)
  (mSeq lrM
  (mRet (mCall f__law_errors_right (mCons (mV 2) (mCons (mOp mulD (mCall f__law_line (mCons (mV 2) (mCons (mC (.int 12)) mNil))) (mC (.int 30))) (mCons (mCall f__law_word (mCons (mV 2) (mCons (mV 3) (mCons (mC (.int 0)) (mCons (mC (.int 32)) mNil))))) mNil)))))))))))) := rfl
section
variable {ns : List Int} {T1 : D} {z z2 : Str}
noncomputable abbrev eW (ns : List Int) (T1 : D) (z z2 : Str) (o5 o6 o7 o8 o9 o10 : Option D) : Wf.Env := [some (.wl ns), some T1, some (.ref 0), some (.str z), some (.str z2), o5, o6, o7, o8, o9, o10]
theorem t_loop (hz : z.length ≤ 8) (hz2 : z2.length ≤ 8) {cs : List D} {o5 o6 o7 o8 o10 : Option D} : ∀ (T : List Str) (o9 : Option D), TxOk T → ∃ o9', forR (bFor (gtN 9) tB) (T.map .str) (eW ns T1 z z2 o5 o6 o7 o8 o9 o10) cs = .ok (.nx (eW ns T1 z z2 o5 o6 o7 o8 o9' o10)) cs
  | [], o9, _ => ⟨o9, rfl⟩
  | t :: T, o9, h => by
    obtain ⟨o9', e2⟩ := t_loop hz hz2 (cs := cs) (o5 := o5) (o6 := o6) (o7 := o7) (o8 := o8) (o10 := o10) T (some (.str t)) fun x hx => h x (List.mem_cons_of_mem _ hx)
    have lt := h t (List.mem_cons_self ..)
    have r1 := right_ok z t (by omega) (by omega) cs
    have r2 := right_ok z2 t (by omega) (by omega) cs
    refine ⟨o9', ?_⟩
    rw [List.map_cons]
    refine (forR_nx ?_).trans e2
    unfold tB
    clear e2 h lt hz hz2
    repeat (first | simp only [r1, r2, n_ok, c_ok, R.bind_ok] | walk_at "ev")
    (try rfl)
theorem a_loop (hz0 : 0 < z.length) (hz : z.length ≤ 8) (hP : AllC lowP z) {w : Str} (hw : w.length ≤ 200) {o5 o6 o8 o9 : Option D} : ∀ (T : List Str) (o10 : Option D) (c : D), StOk c → TxOk T → ∃ o10' c', forR (bFor (gtN 10) aB) (T.map .str) (eW ns T1 z z2 o5 o6 (some (.str w)) o8 o9 o10) [c] = .ok (.nx (eW ns T1 z z2 o5 o6 (some (.str w)) o8 o9 o10')) [c'] ∧ StOk c'
  | [], o10, c, hc, _ => ⟨o10, c, rfl, hc⟩
  | t :: T, o10, c, hc, h => by
    obtain ⟨q, X, c1, e1, g1, q1, nX⟩ := bad_word_ok c hc [] z hz0 hz hP
    obtain ⟨o10', c', e2, g2⟩ := a_loop hz0 hz hP hw (o5 := o5) (o6 := o6) (o8 := o8) (o9 := o9) T (some (.str t)) c1 g1 fun x hx => h x (List.mem_cons_of_mem _ hx)
    have lt := h t (List.mem_cons_self ..)
    have lq := q1.1
    have r1 := right_ok t w (by omega) (by omega) [c]
    have r2 := right_ok t q (by omega) (by omega) [c1]
    have i4 : ∀ cs, ixD (.tup [.str q, X]) (.int 0) cs = .ok (.str q) cs := fun cs => o_ixT rfl
    refine ⟨o10', c', ?_, g2⟩
    rw [List.map_cons]
    refine (forR_nx ?_).trans e2
    unfold aB
    clear e2 h lt lq hz0 hz hw hP hc g1 g2 q1 nX
    repeat (first | simp only [e1, i4, r1, r2, n_ok, c_ok, R.bind_ok, e_V10] | walk_at "ev")
    (try rfl)
theorem due_fw {w : Str} (ha : alphaB z = true) (hg : GoodL z) (hl : lettersB z w = true) (hw : w.length ≤ 32) : dueV z (fw w) = .tup [.str "told", .str w] := by
  unfold dueV wdR fw
  rw [if_pos ha]
  by_cases h : w = Str.empty
  · rw [if_pos h, if_pos rfl, h]
  · rw [if_neg h]
    have n1 : w ≠ sgn 45 := fun e => by
      have h1 : 45 ∈ L z := lettersB_mem hl 45 (by rw [e]; decide)
      have h2 := hg.lo 45 h1
      revert h2
      decide
    rw [if_neg n1, if_neg h, if_pos (by rw [hl, decide_eq_true hw]; rfl)]
theorem body_ok (ha : alphaB z = true) (hg : GoodL z) (hz2 : z2.length ≤ 8) (k : Nat) (hk : k < 2) (c : D) (hc : StOk c) (o5 o6 o7 o8 o9 o10 : Option D) :
    ∃ p6 p7 p8 p9 p10 c', bFor (gtN 5) lwB (eW ns T1 z z2 o5 o6 o7 o8 o9 o10) (.int (k : Nat)) [c] = .ok (.nx (eW ns T1 z z2 (some (.int (k : Nat))) p6 p7 p8 p9 p10)) [c'] ∧ StOk c' := by
  have zl := alpha_len ha
  have zP : AllC lowP z := fun ch h => low_P (hg.lo ch h)
  obtain ⟨d, c1, e1, g1, hd⟩ := pick_l c hc [] [.int 5, .int 32] (by simp) (by simp) rfl
  obtain ⟨hi, rfl, h5, h32⟩ : ∃ i : Int, d = .int i ∧ 5 ≤ i ∧ i ≤ 32 := by
    simp only [List.mem_cons, List.not_mem_nil, or_false] at hd
    rcases hd with rfl | rfl
    · exact ⟨5, rfl, by decide, by decide⟩
    · exact ⟨32, rfl, by decide, by decide⟩
  obtain ⟨w, c2, e2, g2, lw, pw⟩ := word_ok (P := fun ch => ch ∈ L z) c1 g1 [] z (by omega) (by omega) (fun ch h => h) 0 hi (by decide) (by omega) (by omega)
  have hl : lettersB z w = true := List.all_eq_true.mpr fun ch h => decide_eq_true (pw ch h)
  have lw2 : w.length ≤ 32 := by omega
  have lf := fw_len (w := w)
  have e3 := fun cs => format_word_eq w (by omega) cs
  have e4 := written_eq w
  have s1 := fun cs => same_eq 8 (.str (fw w)) cs trivial
  have e5 := fun cs => read_eq z (fw w) 0 (.inl rfl) (by omega) (by omega) cs
  rw [due_fw ha hg hl lw2] at e5
  have s2 := fun cs => same_eq 8 (.tup [.str "told", .str w]) cs ⟨by simp, by simp [deep]⟩
  have rv := fun cs => k_revS (z := z) (cs := cs) (by omega)
  have lr := revS_len (z := z)
  have mu := fun cs => o_mulS (z := revS z) (i := (k : Int) * 8) (cs := cs) ⟨by omega, by omega, by
    have : ((k : Int) * 8).toNat ≤ 8 := by omega
    calc (revS z).length * ((k : Int) * 8).toNat ≤ 6 * 8 := Nat.mul_le_mul (by omega) this
      _ ≤ 16777216 := by decide⟩
  have mi : ∀ cs, mulD (.int (k : Nat)) (.int 8) cs = .ok (.int ((k : Int) * 8)) cs := fun cs => o_mulI (by
    unfold mulI
    omega)
  have lm : (strMul (revS z) ((k : Int) * 8)).length ≤ 48 := by
    rw [show (k : Int) * 8 = ((k * 8 : Nat) : Int) by omega, mul_len, lr]
    calc z.length * (k * 8) ≤ 6 * 8 := Nat.mul_le_mul (by omega) (by omega)
      _ ≤ 48 := by decide
  generalize strMul (revS z) ((k : Int) * 8) = M at *
  generalize (k : Int) * 8 = K8 at *
  have ad := fun cs => o_addS (z := w) (y := M) (cs := cs) (by omega)
  have lF : (w ++ M).length ≤ 100 := by rw [Wf.len_app]; omega
  generalize w ++ M = F at *
  have e6 := fun cs => format_word_eq F (by omega) cs
  have e7 := written_eq F
  have s3 := fun cs => same_eq 8 (.str (fw F)) cs trivial
  obtain ⟨T, c3, e8, g3, t3⟩ := texts_ok c2 g2 z w (by omega) (by omega) zP (by omega)
  have e8 : f__law_texts [.ref 0, .str z, .str w] [c2] = .ok (.ref 1) [c3, stsS T] := e8
  obtain ⟨p9, e9⟩ := t_loop (ns := ns) (T1 := T1) (z := z) (z2 := z2) (by omega) hz2 (cs := [c3]) (o5 := some (.int (k : Nat))) (o6 := some (.str w)) (o7 := some (.str (fw w))) (o8 := some (.str F)) (o10 := o10) T o9 t3
  obtain ⟨A, c4, e10, g4, t4⟩ := alphabets_ok c3 g3 z (by omega) (by omega)
  obtain ⟨p10, c5, e11, g5⟩ := a_loop (ns := ns) (T1 := T1) (z := z) (z2 := z2) (by omega) (by omega) zP (w := fw w) (by omega) (o5 := some (.int (k : Nat))) (o6 := some (.str w)) (o8 := some (.str F)) (o9 := p9) A o10 c4 g4 t4
  have f1 := frz_last (cs := [c3]) (l := T.map D.str)
  have f2 := frz_last (cs := [c4]) (l := A.map D.str)
  have f1 : kFrz 1 (.ref 1) [c3, stsS T] = .ok (.lst (T.map D.str)) [c3] := f1
  have f2 : kFrz 1 (.ref 1) [c4, stsS A] = .ok (.lst (A.map D.str)) [c4] := f2
  have x1 : txM (eW ns T1 z z2 (some (.int (k : Nat))) (some (.str w)) (some (.str (fw w))) (some (.str F)) o9 o10) [c2] = .ok (.lst (T.map D.str)) [c3] := by
    unfold txM
    clear e9 e10 e11 f2 t3 t4
    generalize stsS T = TT at *
    generalize T.map D.str = TM at *
    repeat (first | simp only [e8, f1, n_ok, c_ok, R.bind_ok] | walk_at "ev")
  have x2 : alM (eW ns T1 z z2 (some (.int (k : Nat))) (some (.str w)) (some (.str (fw w))) (some (.str F)) p9 o10) [c3] = .ok (.lst (A.map D.str)) [c4] := by
    unfold alM
    clear e9 e8 e11 f1 t3 t4 x1
    generalize stsS A = TT at *
    generalize A.map D.str = TM at *
    repeat (first | simp only [e10, f2, n_ok, c_ok, R.bind_ok] | walk_at "ev")
  have r1 := right_ok z (fw w) (by omega) (by omega) [c5]
  have r2 := right_ok z w (by omega) (by omega) [c5]
  have p1 : pick [0] [D.str F] = [D.str F] := rfl
  refine ⟨some (.str w), some (.str (fw w)), some (.str F), p9, p10, c5, ?_, g5⟩
  clear e8 e10 f1 f2 t3 t4 hd h5 h32 lw lw2 lf lr lm lF hl pw zl zP ha hg hz2 hk hc g1 g2 g3 g4 g5
  unfold lwB
  generalize fw F = FF at *
  generalize fw w = FW at *
  generalize T.map D.str = TM at *
  generalize A.map D.str = AM at *
  generalize txM = txm at *
  generalize alM = alm at *
  generalize tB = tb at *
  generalize aB = ab at *
  repeat (first | simp only [e1, e2, e3, e4, s1, e5, s2, rv, mu, mi, ad, e6, e7, s3, x1, e9, x2, e11, r1, r2, p1, n_ok, c_ok, R.bind_ok, e_V10] | walk_at "ev")
  (try rfl)
end
theorem rare4 (c : D) (hc : StOk c) (rest : List D) : ∃ (b : Bool) (c' : D), f__law_rare [.ref 0, .int 4] (c :: rest) = .ok (.bl b) (c' :: rest) ∧ StOk c' := by
  obtain ⟨v, c1, e1, g1, _, _⟩ := kind_ok c hc rest 4 (by decide) (by decide)
  refine ⟨decide (v = 3), c1, ?_, g1⟩
  unfold f__law_rare mDef m__law_rare
  repeat (first | simp only [e1, n_ok, c_ok, R.bind_ok] | walk_at "ev")
  (try simp)
noncomputable abbrev tld : D := .lst [.int 6, .int 12, .int 8, .int 99, .int 32, .int 120, .int 400, .int 40, .int 200, .int 400]
theorem law_true (ns : List Int) (hl : ns.length ≤ 63) : ∃ cs, f_law [.wl ns] [] = .ok (.bl true) cs := by
  obtain ⟨c, e1, g1⟩ := draws_ok ns hl
  obtain ⟨z, c1, e2, g2, l1, l2, gz⟩ := letters_ok c g1 [] 1 6 (by decide) (by decide) (by decide)
  obtain ⟨z2, c2, e3, g3, l3, l4, gz2⟩ := letters_ok c1 g2 [] 1 6 (by decide) (by decide) (by decide)
  have ha : alphaB z = true := gz.alpha (by omega) (by omega)
  have zP : AllC lowP z := fun ch h => low_P (gz.lo ch h)
  obtain ⟨p6, p7, p8, p9, p10, c3, e4, g4⟩ := body_ok (ns := ns) (T1 := tld) (z := z) (z2 := z2) ha gz (by omega) 0 (by decide) c2 g3 none none none none none none
  obtain ⟨q6, q7, q8, q9, q10, c4, e5, g5⟩ := body_ok (ns := ns) (T1 := tld) (z := z) (z2 := z2) ha gz (by omega) 1 (by decide) c3 g4 (some (.int (0 : Nat))) p6 p7 p8 p9 p10
  have ef : forR (bFor (gtN 5) lwB) (rng 0 2) (eW ns tld z z2 none none none none none none) [c2] = .ok (.nx (eW ns tld z z2 (some (.int (1 : Nat))) q6 q7 q8 q9 q10)) [c4] := by
    have r2 : rng 0 2 = [.int (0 : Nat), .int (1 : Nat)] := rfl
    rw [r2, forR_nx e4, forR_nx e5, forR_nil]
  have kr : ∀ cs, kRng1 [.int 2] cs = .ok (rng 0 2) cs := fun cs => k_rng1 (by decide)
  have sm := fun cs => same_eq 8 tld cs ⟨by simp, by simp [deep]⟩
  obtain ⟨b, c5, e6, g6⟩ := rare4 c4 g5 []
  obtain ⟨c6, e7, g7⟩ : ∃ c6, lrM (eW ns tld z z2 (some (.int (1 : Nat))) q6 q7 q8 q9 q10) [c4] = .ok (.nx (eW ns tld z z2 (some (.int (1 : Nat))) q6 q7 q8 q9 q10)) [c6] ∧ StOk c6 := by
    unfold lrM
    cases b with
    | false =>
      refine ⟨c5, ?_, g6⟩
      clear e1 e2 e3 e4 e5 ef sm
      repeat (first | simp only [e6, n_ok, c_ok, R.bind_ok] | walk_at "ev")
    | true =>
      obtain ⟨c6, e7, g7⟩ := long_ok c5 g6 z (by omega) (by omega)
      refine ⟨c6, ?_, g7⟩
      clear e1 e2 e3 e4 e5 ef sm
      repeat (first | simp only [e6, e7, n_ok, c_ok, R.bind_ok] | walk_at "ev")
  obtain ⟨y, c7, e8, g8, l8⟩ := line_ok c6 g7 [] 12 (by decide)
  have e8 : f__law_line [.ref 0, .int 12] [c6] = .ok (.str y) [c7] := e8
  have mu := fun cs => o_mulS (z := y) (i := 30) (cs := cs) ⟨by decide, by decide, by
    calc y.length * (30 : Int).toNat ≤ 20 * 30 := Nat.mul_le_mul l8 (Nat.le_refl _)
      _ ≤ 16777216 := by decide⟩
  generalize strMul y 30 = M at *
  obtain ⟨w, c8, e9, g9, _, _⟩ := word_ok (P := fun _ => True) c7 g8 [] z (by omega) (by omega) (fun _ _ => trivial) 0 32 (by decide) (by decide) (by decide)
  obtain ⟨c9, e10, g10⟩ := errors_ok c8 g9 M w
  refine ⟨[], ?_⟩
  rw [law_is]
  unfold mDef
  have ev : env0 11 [D.wl ns] = [some (.wl ns), none, none, none, none, none, none, none, none, none, none] := rfl
  have fr : finR 0 (.ok (.ret (.bl true)) [c9]) = .ok (.bl true) [] := rfl
  clear e4 e5 g1 g2 g3 g4 g5 g6 g7 g8 g9 g10 l1 l2 l3 l4 l8 gz gz2 ha zP hl e6
  generalize lwB = lwb at *
  generalize lrM = lrm at *
  generalize rng 0 2 = R2 at *
  repeat (first | simp only [ev, e1, e2, e3, sm, kr, ef, e7, e8, mu, e9, e10, fr, n_ok, c_ok, R.bind_ok] | walk_at "ev")
  (try rfl)
end
end K02
open PySem PySem.W PyProof.Rows
set_option maxHeartbeats 0 in
theorem PySem.Challenge.cw_wayfill_k02_written_words_holds : PySem.Challenge.rw_wayfill_k02_written_words.Holds := by
  w_on; o_law; k_head; (case hw => w_witness2)
  k_fill
  refine L2.walk_of (l := PySem.Challenge.rw_wayfill_k02_written_words) (n := 63) (k := 12) (x := "script") (CX := fun w => L2.CX PySem.Challenge.rw_wayfill_k02_written_words.prog w) (sp := fun w => Wf.spF _ K02.f_law) rfl (by decide) rfl ⟨rfl, by decide, by decide⟩ (fun w h Y => PySem.W.kIn_of Y) ?F (fun w H a ns hl hO hS => Wf.law_sp (K02.law_true ns hl) hS) (fun w H s e s' h => Wf.cx_none h)
  case F =>
    intro w mg fa h KX G hmg
    refine' K02.all_mk KX G hmg ?a0 ?l0 ?c0 ?k0 ?a1 ?l1 ?c1 ?k1 ?a2 ?l2 ?c2 ?k2 ?a3 ?l3 ?c3 ?k3 ?a4 ?l4 ?c4 ?k4 ?a5 ?l5 ?c5 ?k5 ?a6 ?l6 ?c6 ?k6 ?a7 ?l7 ?c7 ?k7 ?a8 ?l8 ?c8 ?k8 ?a9 ?l9 ?c9 ?k9 ?a10 ?l10 ?c10 ?k10 ?a11 ?l11 ?c11 ?k11 ?a12 ?l12 ?c12 ?k12 ?a13 ?l13 ?c13 ?k13 ?a14 ?l14 ?c14 ?k14 ?a15 ?l15 ?c15 ?k15 ?a16 ?l16 ?c16 ?k16 ?a17 ?l17 ?c17 ?k17 ?a18 ?l18 ?c18 ?k18 ?a19 ?l19 ?c19 ?k19 ?a20 ?l20 ?c20 ?k20 ?a21 ?l21 ?c21 ?k21 ?a22 ?l22 ?c22 ?k22 ?a23 ?l23 ?c23 ?k23 ?a24 ?l24 ?c24 ?k24 ?a25 ?l25 ?c25 ?k25 ?a26 ?l26 ?c26 ?k26 ?a27 ?l27 ?c27 ?k27 ?a28 ?l28 ?c28 ?k28 ?a29 ?l29 ?c29 ?k29 ?a30 ?l30 ?c30 ?k30 ?a31 ?l31 ?c31 ?k31 ?a32 ?l32 ?c32 ?k32 ?a33 ?l33 ?c33 ?k33 ?z_ValueError ?z_abs ?z_all ?z_bool ?z_int ?z_isinstance ?z_len ?z_list ?z_range ?z_set ?z_str ?z_tuple ?g_LETTERS ?g_MOVES ?g_OVERLAPS ?g_RULES ?g_SIDE ?g_SQUARES ?g_WAY ?g_WEIGHT ?g_WORD ?g_WORDS ?k_BadChange ?k_BadEnds ?k_BadEntry ?k_BadFare ?k_BadLetters ?k_BadLog ?k_BadMove ?k_BadName ?k_BadNumber ?k_BadOverlap ?k_BadRow ?k_BadRule ?k_BadSquare ?k_BadStep ?k_BadSum ?k_BadTable ?k_BadText ?k_BadTranslation ?k_BadWeights ?k_BadWord ?k_BoundError ?k_Lacking ?k_NothingToUndo ?k_Open ?k_Repeated ?k_Rising ?k_Stopped ?k_TooLong ?k_TooMany ?k_Unjoined ?k_Unknown ?k_WayfillError ?sg ?tk ?L_WayfillError ?ke_WayfillError ?ga_WayfillError ?gg_WayfillError ?gc_WayfillError ?sa_WayfillError ?no_WayfillError_at ?no_WayfillError_name ?no_WayfillError_number ?no_WayfillError_one ?no_WayfillError_other ?no_WayfillError_path ?no_WayfillError_text ?no_WayfillError_top ?L_BoundError ?ke_BoundError ?ga_BoundError ?gg_BoundError ?gc_BoundError ?sa_BoundError ?no_BoundError_at ?no_BoundError_name ?no_BoundError_number ?no_BoundError_one ?no_BoundError_other ?no_BoundError_path ?no_BoundError_text ?no_BoundError_top ?L_TooLong ?ke_TooLong ?ga_TooLong ?gg_TooLong ?gc_TooLong ?sa_TooLong ?no_TooLong_at ?no_TooLong_name ?no_TooLong_number ?no_TooLong_one ?no_TooLong_other ?no_TooLong_path ?no_TooLong_text ?no_TooLong_top ?L_TooMany ?ke_TooMany ?ga_TooMany ?gg_TooMany ?gc_TooMany ?sa_TooMany ?no_TooMany_at ?no_TooMany_name ?no_TooMany_number ?no_TooMany_one ?no_TooMany_other ?no_TooMany_path ?no_TooMany_text ?no_TooMany_top ?L_BadWeights ?ke_BadWeights ?ga_BadWeights ?gg_BadWeights ?gc_BadWeights ?sa_BadWeights ?no_BadWeights_at ?no_BadWeights_name ?no_BadWeights_number ?no_BadWeights_one ?no_BadWeights_other ?no_BadWeights_path ?no_BadWeights_text ?no_BadWeights_top ?L_BadEnds ?ke_BadEnds ?ga_BadEnds ?gg_BadEnds ?gc_BadEnds ?sa_BadEnds ?no_BadEnds_at ?no_BadEnds_name ?no_BadEnds_number ?no_BadEnds_one ?no_BadEnds_other ?no_BadEnds_path ?no_BadEnds_text ?no_BadEnds_top ?L_BadFare ?ke_BadFare ?ga_BadFare ?gg_BadFare ?gc_BadFare ?sa_BadFare ?no_BadFare_at ?no_BadFare_name ?no_BadFare_number ?no_BadFare_one ?no_BadFare_other ?no_BadFare_path ?no_BadFare_text ?no_BadFare_top ?L_BadTranslation ?ke_BadTranslation ?ga_BadTranslation ?gg_BadTranslation ?gc_BadTranslation ?sa_BadTranslation ?no_BadTranslation_at ?no_BadTranslation_name ?no_BadTranslation_number ?no_BadTranslation_one ?no_BadTranslation_other ?no_BadTranslation_path ?no_BadTranslation_text ?no_BadTranslation_top ?L_BadTable ?ke_BadTable ?ga_BadTable ?gg_BadTable ?gc_BadTable ?sa_BadTable ?no_BadTable_at ?no_BadTable_name ?no_BadTable_number ?no_BadTable_one ?no_BadTable_other ?no_BadTable_path ?no_BadTable_text ?no_BadTable_top ?L_BadSum ?ke_BadSum ?ga_BadSum ?gg_BadSum ?gc_BadSum ?sa_BadSum ?no_BadSum_at ?no_BadSum_name ?no_BadSum_number ?no_BadSum_one ?no_BadSum_other ?no_BadSum_path ?no_BadSum_text ?no_BadSum_top ?L_BadOverlap ?ke_BadOverlap ?ga_BadOverlap ?gg_BadOverlap ?gc_BadOverlap ?sa_BadOverlap ?no_BadOverlap_at ?no_BadOverlap_name ?no_BadOverlap_number ?no_BadOverlap_one ?no_BadOverlap_other ?no_BadOverlap_path ?no_BadOverlap_text ?no_BadOverlap_top ?L_NothingToUndo ?ke_NothingToUndo ?ga_NothingToUndo ?gg_NothingToUndo ?gc_NothingToUndo ?sa_NothingToUndo ?no_NothingToUndo_at ?no_NothingToUndo_name ?no_NothingToUndo_number ?no_NothingToUndo_one ?no_NothingToUndo_other ?no_NothingToUndo_path ?no_NothingToUndo_text ?no_NothingToUndo_top ?L_BadLetters ?ke_BadLetters ?ga_BadLetters ?gg_BadLetters ?gc_BadLetters ?sa_BadLetters ?no_BadLetters_at ?no_BadLetters_name ?no_BadLetters_number ?no_BadLetters_one ?no_BadLetters_other ?no_BadLetters_path ?no_BadLetters_text ?no_BadLetters_top ?L_BadWord ?ke_BadWord ?ga_BadWord ?gg_BadWord ?gc_BadWord ?sa_BadWord ?no_BadWord_at ?no_BadWord_name ?no_BadWord_number ?no_BadWord_one ?no_BadWord_other ?no_BadWord_path ?no_BadWord_text ?no_BadWord_top ?L_BadName ?ke_BadName ?ga_BadName ?gg_BadName ?gc_BadName ?sa_BadName ?no_BadName_at ?no_BadName_name ?no_BadName_number ?no_BadName_one ?no_BadName_other ?no_BadName_path ?no_BadName_text ?no_BadName_top ?L_BadNumber ?ke_BadNumber ?ga_BadNumber ?gg_BadNumber ?gc_BadNumber ?sa_BadNumber ?no_BadNumber_at ?no_BadNumber_name ?no_BadNumber_number ?no_BadNumber_one ?no_BadNumber_other ?no_BadNumber_path ?no_BadNumber_text ?no_BadNumber_top ?L_BadRow ?ke_BadRow ?ga_BadRow ?gg_BadRow ?gc_BadRow ?sa_BadRow ?no_BadRow_at ?no_BadRow_name ?no_BadRow_number ?no_BadRow_one ?no_BadRow_other ?no_BadRow_path ?no_BadRow_text ?no_BadRow_top ?L_BadRule ?ke_BadRule ?ga_BadRule ?gg_BadRule ?gc_BadRule ?sa_BadRule ?no_BadRule_at ?no_BadRule_name ?no_BadRule_number ?no_BadRule_one ?no_BadRule_other ?no_BadRule_path ?no_BadRule_text ?no_BadRule_top ?L_Rising ?ke_Rising ?ga_Rising ?gg_Rising ?gc_Rising ?sa_Rising ?no_Rising_at ?no_Rising_name ?no_Rising_number ?no_Rising_one ?no_Rising_other ?no_Rising_path ?no_Rising_text ?no_Rising_top ?L_Unknown ?ke_Unknown ?ga_Unknown ?gg_Unknown ?gc_Unknown ?sa_Unknown ?no_Unknown_at ?no_Unknown_name ?no_Unknown_number ?no_Unknown_one ?no_Unknown_other ?no_Unknown_path ?no_Unknown_text ?no_Unknown_top ?L_Repeated ?ke_Repeated ?ga_Repeated ?gg_Repeated ?gc_Repeated ?sa_Repeated ?no_Repeated_at ?no_Repeated_name ?no_Repeated_number ?no_Repeated_one ?no_Repeated_other ?no_Repeated_path ?no_Repeated_text ?no_Repeated_top ?L_BadText ?ke_BadText ?ga_BadText ?gg_BadText ?gc_BadText ?sa_BadText ?no_BadText_at ?no_BadText_name ?no_BadText_number ?no_BadText_one ?no_BadText_other ?no_BadText_path ?no_BadText_text ?no_BadText_top ?L_BadStep ?ke_BadStep ?ga_BadStep ?gg_BadStep ?gc_BadStep ?sa_BadStep ?no_BadStep_at ?no_BadStep_name ?no_BadStep_number ?no_BadStep_one ?no_BadStep_other ?no_BadStep_path ?no_BadStep_text ?no_BadStep_top ?L_BadSquare ?ke_BadSquare ?ga_BadSquare ?gg_BadSquare ?gc_BadSquare ?sa_BadSquare ?no_BadSquare_at ?no_BadSquare_name ?no_BadSquare_number ?no_BadSquare_one ?no_BadSquare_other ?no_BadSquare_path ?no_BadSquare_text ?no_BadSquare_top ?L_BadMove ?ke_BadMove ?ga_BadMove ?gg_BadMove ?gc_BadMove ?sa_BadMove ?no_BadMove_at ?no_BadMove_name ?no_BadMove_number ?no_BadMove_one ?no_BadMove_other ?no_BadMove_path ?no_BadMove_text ?no_BadMove_top ?L_BadLog ?ke_BadLog ?ga_BadLog ?gg_BadLog ?gc_BadLog ?sa_BadLog ?no_BadLog_at ?no_BadLog_name ?no_BadLog_number ?no_BadLog_one ?no_BadLog_other ?no_BadLog_path ?no_BadLog_text ?no_BadLog_top ?L_BadChange ?ke_BadChange ?ga_BadChange ?gg_BadChange ?gc_BadChange ?sa_BadChange ?no_BadChange_at ?no_BadChange_name ?no_BadChange_number ?no_BadChange_one ?no_BadChange_other ?no_BadChange_path ?no_BadChange_text ?no_BadChange_top ?L_Unjoined ?ke_Unjoined ?ga_Unjoined ?gg_Unjoined ?gc_Unjoined ?sa_Unjoined ?no_Unjoined_at ?no_Unjoined_name ?no_Unjoined_number ?no_Unjoined_one ?no_Unjoined_other ?no_Unjoined_path ?no_Unjoined_text ?no_Unjoined_top ?L_Open ?ke_Open ?ga_Open ?gg_Open ?gc_Open ?sa_Open ?no_Open_at ?no_Open_name ?no_Open_number ?no_Open_one ?no_Open_other ?no_Open_path ?no_Open_text ?no_Open_top ?L_Lacking ?ke_Lacking ?ga_Lacking ?gg_Lacking ?gc_Lacking ?sa_Lacking ?no_Lacking_at ?no_Lacking_name ?no_Lacking_number ?no_Lacking_one ?no_Lacking_other ?no_Lacking_path ?no_Lacking_text ?no_Lacking_top ?L_Stopped ?ke_Stopped ?ga_Stopped ?gg_Stopped ?gc_Stopped ?sa_Stopped ?no_Stopped_at ?no_Stopped_name ?no_Stopped_number ?no_Stopped_one ?no_Stopped_other ?no_Stopped_path ?no_Stopped_text ?no_Stopped_top ?L_BadEntry ?ke_BadEntry ?ga_BadEntry ?gg_BadEntry ?gc_BadEntry ?sa_BadEntry ?no_BadEntry_at ?no_BadEntry_name ?no_BadEntry_number ?no_BadEntry_one ?no_BadEntry_other ?no_BadEntry_path ?no_BadEntry_text ?no_BadEntry_top ?q_BadEnds ?q_BadFare ?q_BadOverlap ?q_BadSum ?q_BadTable ?q_BadTranslation ?q_BadWeights ?q_NothingToUndo ?q_TooLong ?q_TooMany ?i_BadLetters ?t_BadLetters_i ?l_BadLetters_i ?c_BadLetters_i ?ki_BadLetters_i ?i_BadWord ?t_BadWord_i ?l_BadWord_i ?c_BadWord_i ?ki_BadWord_i ?i_BadName ?t_BadName_i ?l_BadName_i ?c_BadName_i ?ki_BadName_i ?i_BadNumber ?t_BadNumber_i ?l_BadNumber_i ?c_BadNumber_i ?ki_BadNumber_i ?i_BadRow ?t_BadRow_i ?l_BadRow_i ?c_BadRow_i ?ki_BadRow_i ?i_BadRule ?t_BadRule_i ?l_BadRule_i ?c_BadRule_i ?ki_BadRule_i ?i_Rising ?t_Rising_i ?l_Rising_i ?c_Rising_i ?ki_Rising_i ?i_Unknown ?t_Unknown_i ?l_Unknown_i ?c_Unknown_i ?ki_Unknown_i ?i_Repeated ?t_Repeated_i ?l_Repeated_i ?c_Repeated_i ?ki_Repeated_i ?i_BadText ?t_BadText_i ?l_BadText_i ?c_BadText_i ?ki_BadText_i ?i_BadStep ?t_BadStep_i ?l_BadStep_i ?c_BadStep_i ?ki_BadStep_i ?i_BadSquare ?t_BadSquare_i ?l_BadSquare_i ?c_BadSquare_i ?ki_BadSquare_i ?i_BadMove ?t_BadMove_i ?l_BadMove_i ?c_BadMove_i ?ki_BadMove_i ?i_BadLog ?t_BadLog_i ?l_BadLog_i ?c_BadLog_i ?ki_BadLog_i ?i_BadChange ?t_BadChange_i ?l_BadChange_i ?c_BadChange_i ?ki_BadChange_i ?i_Unjoined ?t_Unjoined_i ?l_Unjoined_i ?c_Unjoined_i ?ki_Unjoined_i ?i_Open ?t_Open_i ?l_Open_i ?c_Open_i ?ki_Open_i ?i_Lacking ?t_Lacking_i ?l_Lacking_i ?c_Lacking_i ?ki_Lacking_i ?i_Stopped ?t_Stopped_i ?l_Stopped_i ?c_Stopped_i ?ki_Stopped_i ?i_BadEntry ?t_BadEntry_i ?l_BadEntry_i ?c_BadEntry_i ?ki_BadEntry_i
    (case a0 => k_is)
    (case l0 => k_is)
    (case c0 => k_is)
    (case k0 => k_is)
    (case a1 => k_is)
    (case l1 => k_is)
    (case c1 => k_is)
    (case k1 => k_is)
    (case a2 => k_is)
    (case l2 => k_is)
    (case c2 => k_is)
    (case k2 => k_is)
    (case a3 => k_is)
    (case l3 => k_is)
    (case c3 => k_is)
    (case k3 => k_is)
    (case a4 => k_is)
    (case l4 => k_is)
    (case c4 => k_is)
    (case k4 => k_is)
    (case a5 => k_is)
    (case l5 => k_is)
    (case c5 => k_is)
    (case k5 => k_is)
    (case a6 => k_is)
    (case l6 => k_is)
    (case c6 => k_is)
    (case k6 => k_is)
    (case a7 => k_is)
    (case l7 => k_is)
    (case c7 => k_is)
    (case k7 => k_is)
    (case a8 => k_is)
    (case l8 => k_is)
    (case c8 => k_is)
    (case k8 => k_is)
    (case a9 => k_is)
    (case l9 => k_is)
    (case c9 => k_is)
    (case k9 => k_is)
    (case a10 => k_is)
    (case l10 => k_is)
    (case c10 => k_is)
    (case k10 => k_is)
    (case a11 => k_is)
    (case l11 => k_is)
    (case c11 => k_is)
    (case k11 => k_is)
    (case a12 => k_is)
    (case l12 => k_is)
    (case c12 => k_is)
    (case k12 => k_is)
    (case a13 => k_is)
    (case l13 => k_is)
    (case c13 => k_is)
    (case k13 => k_is)
    (case a14 => k_is)
    (case l14 => k_is)
    (case c14 => k_is)
    (case k14 => k_is)
    (case a15 => k_is)
    (case l15 => k_is)
    (case c15 => k_is)
    (case k15 => k_is)
    (case a16 => k_is)
    (case l16 => k_is)
    (case c16 => k_is)
    (case k16 => k_is)
    (case a17 => k_is)
    (case l17 => k_is)
    (case c17 => k_is)
    (case k17 => k_is)
    (case a18 => k_is)
    (case l18 => k_is)
    (case c18 => k_is)
    (case k18 => k_is)
    (case a19 => k_is)
    (case l19 => k_is)
    (case c19 => k_is)
    (case k19 => k_is)
    (case a20 => k_is)
    (case l20 => k_is)
    (case c20 => k_is)
    (case k20 => k_is)
    (case a21 => k_is)
    (case l21 => k_is)
    (case c21 => k_is)
    (case k21 => k_is)
    (case a22 => k_is)
    (case l22 => k_is)
    (case c22 => k_is)
    (case k22 => k_is)
    (case a23 => k_is)
    (case l23 => k_is)
    (case c23 => k_is)
    (case k23 => k_is)
    (case a24 => k_is)
    (case l24 => k_is)
    (case c24 => k_is)
    (case k24 => k_is)
    (case a25 => k_is)
    (case l25 => k_is)
    (case c25 => k_is)
    (case k25 => k_is)
    (case a26 => k_is)
    (case l26 => k_is)
    (case c26 => k_is)
    (case k26 => k_is)
    (case a27 => k_is)
    (case l27 => k_is)
    (case c27 => k_is)
    (case k27 => k_is)
    (case a28 => k_is)
    (case l28 => k_is)
    (case c28 => k_is)
    (case k28 => k_is)
    (case a29 => k_is)
    (case l29 => k_is)
    (case c29 => k_is)
    (case k29 => k_is)
    (case a30 => k_is)
    (case l30 => k_is)
    (case c30 => k_is)
    (case k30 => k_is)
    (case a31 => k_is)
    (case l31 => k_is)
    (case c31 => k_is)
    (case k31 => k_is)
    (case a32 => k_is)
    (case l32 => k_is)
    (case c32 => k_is)
    (case k32 => k_is)
    (case a33 => k_is)
    (case l33 => k_is)
    (case c33 => k_is)
    (case k33 => k_is)
    (case z_ValueError => k_is)
    (case z_abs => k_is)
    (case z_all => k_is)
    (case z_bool => k_is)
    (case z_int => k_is)
    (case z_isinstance => k_is)
    (case z_len => k_is)
    (case z_list => k_is)
    (case z_range => k_is)
    (case z_set => k_is)
    (case z_str => k_is)
    (case z_tuple => k_is)
    (case g_LETTERS => k_is)
    (case g_MOVES => k_is)
    (case g_OVERLAPS => k_is)
    (case g_RULES => k_is)
    (case g_SIDE => k_is)
    (case g_SQUARES => k_is)
    (case g_WAY => k_is)
    (case g_WEIGHT => k_is)
    (case g_WORD => k_is)
    (case g_WORDS => k_is)
    (case k_BadChange => k_is)
    (case k_BadEnds => k_is)
    (case k_BadEntry => k_is)
    (case k_BadFare => k_is)
    (case k_BadLetters => k_is)
    (case k_BadLog => k_is)
    (case k_BadMove => k_is)
    (case k_BadName => k_is)
    (case k_BadNumber => k_is)
    (case k_BadOverlap => k_is)
    (case k_BadRow => k_is)
    (case k_BadRule => k_is)
    (case k_BadSquare => k_is)
    (case k_BadStep => k_is)
    (case k_BadSum => k_is)
    (case k_BadTable => k_is)
    (case k_BadText => k_is)
    (case k_BadTranslation => k_is)
    (case k_BadWeights => k_is)
    (case k_BadWord => k_is)
    (case k_BoundError => k_is)
    (case k_Lacking => k_is)
    (case k_NothingToUndo => k_is)
    (case k_Open => k_is)
    (case k_Repeated => k_is)
    (case k_Rising => k_is)
    (case k_Stopped => k_is)
    (case k_TooLong => k_is)
    (case k_TooMany => k_is)
    (case k_Unjoined => k_is)
    (case k_Unknown => k_is)
    (case k_WayfillError => k_is)
    (case sg => k_is)
    (case tk => k_is)
    (case L_WayfillError => k_is)
    (case ke_WayfillError => k_is)
    (case ga_WayfillError => k_is)
    (case gg_WayfillError => k_is)
    (case gc_WayfillError => k_is)
    (case sa_WayfillError => k_is)
    (case no_WayfillError_at => k_is)
    (case no_WayfillError_name => k_is)
    (case no_WayfillError_number => k_is)
    (case no_WayfillError_one => k_is)
    (case no_WayfillError_other => k_is)
    (case no_WayfillError_path => k_is)
    (case no_WayfillError_text => k_is)
    (case no_WayfillError_top => k_is)
    (case L_BoundError => k_is)
    (case ke_BoundError => k_is)
    (case ga_BoundError => k_is)
    (case gg_BoundError => k_is)
    (case gc_BoundError => k_is)
    (case sa_BoundError => k_is)
    (case no_BoundError_at => k_is)
    (case no_BoundError_name => k_is)
    (case no_BoundError_number => k_is)
    (case no_BoundError_one => k_is)
    (case no_BoundError_other => k_is)
    (case no_BoundError_path => k_is)
    (case no_BoundError_text => k_is)
    (case no_BoundError_top => k_is)
    (case L_TooLong => k_is)
    (case ke_TooLong => k_is)
    (case ga_TooLong => k_is)
    (case gg_TooLong => k_is)
    (case gc_TooLong => k_is)
    (case sa_TooLong => k_is)
    (case no_TooLong_at => k_is)
    (case no_TooLong_name => k_is)
    (case no_TooLong_number => k_is)
    (case no_TooLong_one => k_is)
    (case no_TooLong_other => k_is)
    (case no_TooLong_path => k_is)
    (case no_TooLong_text => k_is)
    (case no_TooLong_top => k_is)
    (case L_TooMany => k_is)
    (case ke_TooMany => k_is)
    (case ga_TooMany => k_is)
    (case gg_TooMany => k_is)
    (case gc_TooMany => k_is)
    (case sa_TooMany => k_is)
    (case no_TooMany_at => k_is)
    (case no_TooMany_name => k_is)
    (case no_TooMany_number => k_is)
    (case no_TooMany_one => k_is)
    (case no_TooMany_other => k_is)
    (case no_TooMany_path => k_is)
    (case no_TooMany_text => k_is)
    (case no_TooMany_top => k_is)
    (case L_BadWeights => k_is)
    (case ke_BadWeights => k_is)
    (case ga_BadWeights => k_is)
    (case gg_BadWeights => k_is)
    (case gc_BadWeights => k_is)
    (case sa_BadWeights => k_is)
    (case no_BadWeights_at => k_is)
    (case no_BadWeights_name => k_is)
    (case no_BadWeights_number => k_is)
    (case no_BadWeights_one => k_is)
    (case no_BadWeights_other => k_is)
    (case no_BadWeights_path => k_is)
    (case no_BadWeights_text => k_is)
    (case no_BadWeights_top => k_is)
    (case L_BadEnds => k_is)
    (case ke_BadEnds => k_is)
    (case ga_BadEnds => k_is)
    (case gg_BadEnds => k_is)
    (case gc_BadEnds => k_is)
    (case sa_BadEnds => k_is)
    (case no_BadEnds_at => k_is)
    (case no_BadEnds_name => k_is)
    (case no_BadEnds_number => k_is)
    (case no_BadEnds_one => k_is)
    (case no_BadEnds_other => k_is)
    (case no_BadEnds_path => k_is)
    (case no_BadEnds_text => k_is)
    (case no_BadEnds_top => k_is)
    (case L_BadFare => k_is)
    (case ke_BadFare => k_is)
    (case ga_BadFare => k_is)
    (case gg_BadFare => k_is)
    (case gc_BadFare => k_is)
    (case sa_BadFare => k_is)
    (case no_BadFare_at => k_is)
    (case no_BadFare_name => k_is)
    (case no_BadFare_number => k_is)
    (case no_BadFare_one => k_is)
    (case no_BadFare_other => k_is)
    (case no_BadFare_path => k_is)
    (case no_BadFare_text => k_is)
    (case no_BadFare_top => k_is)
    (case L_BadTranslation => k_is)
    (case ke_BadTranslation => k_is)
    (case ga_BadTranslation => k_is)
    (case gg_BadTranslation => k_is)
    (case gc_BadTranslation => k_is)
    (case sa_BadTranslation => k_is)
    (case no_BadTranslation_at => k_is)
    (case no_BadTranslation_name => k_is)
    (case no_BadTranslation_number => k_is)
    (case no_BadTranslation_one => k_is)
    (case no_BadTranslation_other => k_is)
    (case no_BadTranslation_path => k_is)
    (case no_BadTranslation_text => k_is)
    (case no_BadTranslation_top => k_is)
    (case L_BadTable => k_is)
    (case ke_BadTable => k_is)
    (case ga_BadTable => k_is)
    (case gg_BadTable => k_is)
    (case gc_BadTable => k_is)
    (case sa_BadTable => k_is)
    (case no_BadTable_at => k_is)
    (case no_BadTable_name => k_is)
    (case no_BadTable_number => k_is)
    (case no_BadTable_one => k_is)
    (case no_BadTable_other => k_is)
    (case no_BadTable_path => k_is)
    (case no_BadTable_text => k_is)
    (case no_BadTable_top => k_is)
    (case L_BadSum => k_is)
    (case ke_BadSum => k_is)
    (case ga_BadSum => k_is)
    (case gg_BadSum => k_is)
    (case gc_BadSum => k_is)
    (case sa_BadSum => k_is)
    (case no_BadSum_at => k_is)
    (case no_BadSum_name => k_is)
    (case no_BadSum_number => k_is)
    (case no_BadSum_one => k_is)
    (case no_BadSum_other => k_is)
    (case no_BadSum_path => k_is)
    (case no_BadSum_text => k_is)
    (case no_BadSum_top => k_is)
    (case L_BadOverlap => k_is)
    (case ke_BadOverlap => k_is)
    (case ga_BadOverlap => k_is)
    (case gg_BadOverlap => k_is)
    (case gc_BadOverlap => k_is)
    (case sa_BadOverlap => k_is)
    (case no_BadOverlap_at => k_is)
    (case no_BadOverlap_name => k_is)
    (case no_BadOverlap_number => k_is)
    (case no_BadOverlap_one => k_is)
    (case no_BadOverlap_other => k_is)
    (case no_BadOverlap_path => k_is)
    (case no_BadOverlap_text => k_is)
    (case no_BadOverlap_top => k_is)
    (case L_NothingToUndo => k_is)
    (case ke_NothingToUndo => k_is)
    (case ga_NothingToUndo => k_is)
    (case gg_NothingToUndo => k_is)
    (case gc_NothingToUndo => k_is)
    (case sa_NothingToUndo => k_is)
    (case no_NothingToUndo_at => k_is)
    (case no_NothingToUndo_name => k_is)
    (case no_NothingToUndo_number => k_is)
    (case no_NothingToUndo_one => k_is)
    (case no_NothingToUndo_other => k_is)
    (case no_NothingToUndo_path => k_is)
    (case no_NothingToUndo_text => k_is)
    (case no_NothingToUndo_top => k_is)
    (case L_BadLetters => k_is)
    (case ke_BadLetters => k_is)
    (case ga_BadLetters => k_is)
    (case gg_BadLetters => k_is)
    (case gc_BadLetters => k_is)
    (case sa_BadLetters => k_is)
    (case no_BadLetters_at => k_is)
    (case no_BadLetters_name => k_is)
    (case no_BadLetters_number => k_is)
    (case no_BadLetters_one => k_is)
    (case no_BadLetters_other => k_is)
    (case no_BadLetters_path => k_is)
    (case no_BadLetters_text => k_is)
    (case no_BadLetters_top => k_is)
    (case L_BadWord => k_is)
    (case ke_BadWord => k_is)
    (case ga_BadWord => k_is)
    (case gg_BadWord => k_is)
    (case gc_BadWord => k_is)
    (case sa_BadWord => k_is)
    (case no_BadWord_at => k_is)
    (case no_BadWord_name => k_is)
    (case no_BadWord_number => k_is)
    (case no_BadWord_one => k_is)
    (case no_BadWord_other => k_is)
    (case no_BadWord_path => k_is)
    (case no_BadWord_text => k_is)
    (case no_BadWord_top => k_is)
    (case L_BadName => k_is)
    (case ke_BadName => k_is)
    (case ga_BadName => k_is)
    (case gg_BadName => k_is)
    (case gc_BadName => k_is)
    (case sa_BadName => k_is)
    (case no_BadName_at => k_is)
    (case no_BadName_name => k_is)
    (case no_BadName_number => k_is)
    (case no_BadName_one => k_is)
    (case no_BadName_other => k_is)
    (case no_BadName_path => k_is)
    (case no_BadName_text => k_is)
    (case no_BadName_top => k_is)
    (case L_BadNumber => k_is)
    (case ke_BadNumber => k_is)
    (case ga_BadNumber => k_is)
    (case gg_BadNumber => k_is)
    (case gc_BadNumber => k_is)
    (case sa_BadNumber => k_is)
    (case no_BadNumber_at => k_is)
    (case no_BadNumber_name => k_is)
    (case no_BadNumber_number => k_is)
    (case no_BadNumber_one => k_is)
    (case no_BadNumber_other => k_is)
    (case no_BadNumber_path => k_is)
    (case no_BadNumber_text => k_is)
    (case no_BadNumber_top => k_is)
    (case L_BadRow => k_is)
    (case ke_BadRow => k_is)
    (case ga_BadRow => k_is)
    (case gg_BadRow => k_is)
    (case gc_BadRow => k_is)
    (case sa_BadRow => k_is)
    (case no_BadRow_at => k_is)
    (case no_BadRow_name => k_is)
    (case no_BadRow_number => k_is)
    (case no_BadRow_one => k_is)
    (case no_BadRow_other => k_is)
    (case no_BadRow_path => k_is)
    (case no_BadRow_text => k_is)
    (case no_BadRow_top => k_is)
    (case L_BadRule => k_is)
    (case ke_BadRule => k_is)
    (case ga_BadRule => k_is)
    (case gg_BadRule => k_is)
    (case gc_BadRule => k_is)
    (case sa_BadRule => k_is)
    (case no_BadRule_at => k_is)
    (case no_BadRule_name => k_is)
    (case no_BadRule_number => k_is)
    (case no_BadRule_one => k_is)
    (case no_BadRule_other => k_is)
    (case no_BadRule_path => k_is)
    (case no_BadRule_text => k_is)
    (case no_BadRule_top => k_is)
    (case L_Rising => k_is)
    (case ke_Rising => k_is)
    (case ga_Rising => k_is)
    (case gg_Rising => k_is)
    (case gc_Rising => k_is)
    (case sa_Rising => k_is)
    (case no_Rising_at => k_is)
    (case no_Rising_name => k_is)
    (case no_Rising_number => k_is)
    (case no_Rising_one => k_is)
    (case no_Rising_other => k_is)
    (case no_Rising_path => k_is)
    (case no_Rising_text => k_is)
    (case no_Rising_top => k_is)
    (case L_Unknown => k_is)
    (case ke_Unknown => k_is)
    (case ga_Unknown => k_is)
    (case gg_Unknown => k_is)
    (case gc_Unknown => k_is)
    (case sa_Unknown => k_is)
    (case no_Unknown_at => k_is)
    (case no_Unknown_name => k_is)
    (case no_Unknown_number => k_is)
    (case no_Unknown_one => k_is)
    (case no_Unknown_other => k_is)
    (case no_Unknown_path => k_is)
    (case no_Unknown_text => k_is)
    (case no_Unknown_top => k_is)
    (case L_Repeated => k_is)
    (case ke_Repeated => k_is)
    (case ga_Repeated => k_is)
    (case gg_Repeated => k_is)
    (case gc_Repeated => k_is)
    (case sa_Repeated => k_is)
    (case no_Repeated_at => k_is)
    (case no_Repeated_name => k_is)
    (case no_Repeated_number => k_is)
    (case no_Repeated_one => k_is)
    (case no_Repeated_other => k_is)
    (case no_Repeated_path => k_is)
    (case no_Repeated_text => k_is)
    (case no_Repeated_top => k_is)
    (case L_BadText => k_is)
    (case ke_BadText => k_is)
    (case ga_BadText => k_is)
    (case gg_BadText => k_is)
    (case gc_BadText => k_is)
    (case sa_BadText => k_is)
    (case no_BadText_at => k_is)
    (case no_BadText_name => k_is)
    (case no_BadText_number => k_is)
    (case no_BadText_one => k_is)
    (case no_BadText_other => k_is)
    (case no_BadText_path => k_is)
    (case no_BadText_text => k_is)
    (case no_BadText_top => k_is)
    (case L_BadStep => k_is)
    (case ke_BadStep => k_is)
    (case ga_BadStep => k_is)
    (case gg_BadStep => k_is)
    (case gc_BadStep => k_is)
    (case sa_BadStep => k_is)
    (case no_BadStep_at => k_is)
    (case no_BadStep_name => k_is)
    (case no_BadStep_number => k_is)
    (case no_BadStep_one => k_is)
    (case no_BadStep_other => k_is)
    (case no_BadStep_path => k_is)
    (case no_BadStep_text => k_is)
    (case no_BadStep_top => k_is)
    (case L_BadSquare => k_is)
    (case ke_BadSquare => k_is)
    (case ga_BadSquare => k_is)
    (case gg_BadSquare => k_is)
    (case gc_BadSquare => k_is)
    (case sa_BadSquare => k_is)
    (case no_BadSquare_at => k_is)
    (case no_BadSquare_name => k_is)
    (case no_BadSquare_number => k_is)
    (case no_BadSquare_one => k_is)
    (case no_BadSquare_other => k_is)
    (case no_BadSquare_path => k_is)
    (case no_BadSquare_text => k_is)
    (case no_BadSquare_top => k_is)
    (case L_BadMove => k_is)
    (case ke_BadMove => k_is)
    (case ga_BadMove => k_is)
    (case gg_BadMove => k_is)
    (case gc_BadMove => k_is)
    (case sa_BadMove => k_is)
    (case no_BadMove_at => k_is)
    (case no_BadMove_name => k_is)
    (case no_BadMove_number => k_is)
    (case no_BadMove_one => k_is)
    (case no_BadMove_other => k_is)
    (case no_BadMove_path => k_is)
    (case no_BadMove_text => k_is)
    (case no_BadMove_top => k_is)
    (case L_BadLog => k_is)
    (case ke_BadLog => k_is)
    (case ga_BadLog => k_is)
    (case gg_BadLog => k_is)
    (case gc_BadLog => k_is)
    (case sa_BadLog => k_is)
    (case no_BadLog_at => k_is)
    (case no_BadLog_name => k_is)
    (case no_BadLog_number => k_is)
    (case no_BadLog_one => k_is)
    (case no_BadLog_other => k_is)
    (case no_BadLog_path => k_is)
    (case no_BadLog_text => k_is)
    (case no_BadLog_top => k_is)
    (case L_BadChange => k_is)
    (case ke_BadChange => k_is)
    (case ga_BadChange => k_is)
    (case gg_BadChange => k_is)
    (case gc_BadChange => k_is)
    (case sa_BadChange => k_is)
    (case no_BadChange_at => k_is)
    (case no_BadChange_name => k_is)
    (case no_BadChange_number => k_is)
    (case no_BadChange_one => k_is)
    (case no_BadChange_other => k_is)
    (case no_BadChange_path => k_is)
    (case no_BadChange_text => k_is)
    (case no_BadChange_top => k_is)
    (case L_Unjoined => k_is)
    (case ke_Unjoined => k_is)
    (case ga_Unjoined => k_is)
    (case gg_Unjoined => k_is)
    (case gc_Unjoined => k_is)
    (case sa_Unjoined => k_is)
    (case no_Unjoined_at => k_is)
    (case no_Unjoined_name => k_is)
    (case no_Unjoined_number => k_is)
    (case no_Unjoined_one => k_is)
    (case no_Unjoined_other => k_is)
    (case no_Unjoined_path => k_is)
    (case no_Unjoined_text => k_is)
    (case no_Unjoined_top => k_is)
    (case L_Open => k_is)
    (case ke_Open => k_is)
    (case ga_Open => k_is)
    (case gg_Open => k_is)
    (case gc_Open => k_is)
    (case sa_Open => k_is)
    (case no_Open_at => k_is)
    (case no_Open_name => k_is)
    (case no_Open_number => k_is)
    (case no_Open_one => k_is)
    (case no_Open_other => k_is)
    (case no_Open_path => k_is)
    (case no_Open_text => k_is)
    (case no_Open_top => k_is)
    (case L_Lacking => k_is)
    (case ke_Lacking => k_is)
    (case ga_Lacking => k_is)
    (case gg_Lacking => k_is)
    (case gc_Lacking => k_is)
    (case sa_Lacking => k_is)
    (case no_Lacking_at => k_is)
    (case no_Lacking_name => k_is)
    (case no_Lacking_number => k_is)
    (case no_Lacking_one => k_is)
    (case no_Lacking_other => k_is)
    (case no_Lacking_path => k_is)
    (case no_Lacking_text => k_is)
    (case no_Lacking_top => k_is)
    (case L_Stopped => k_is)
    (case ke_Stopped => k_is)
    (case ga_Stopped => k_is)
    (case gg_Stopped => k_is)
    (case gc_Stopped => k_is)
    (case sa_Stopped => k_is)
    (case no_Stopped_at => k_is)
    (case no_Stopped_name => k_is)
    (case no_Stopped_number => k_is)
    (case no_Stopped_one => k_is)
    (case no_Stopped_other => k_is)
    (case no_Stopped_path => k_is)
    (case no_Stopped_text => k_is)
    (case no_Stopped_top => k_is)
    (case L_BadEntry => k_is)
    (case ke_BadEntry => k_is)
    (case ga_BadEntry => k_is)
    (case gg_BadEntry => k_is)
    (case gc_BadEntry => k_is)
    (case sa_BadEntry => k_is)
    (case no_BadEntry_at => k_is)
    (case no_BadEntry_name => k_is)
    (case no_BadEntry_number => k_is)
    (case no_BadEntry_one => k_is)
    (case no_BadEntry_other => k_is)
    (case no_BadEntry_path => k_is)
    (case no_BadEntry_text => k_is)
    (case no_BadEntry_top => k_is)
    (case q_BadEnds => first | (with_unfolding_all rfl) | kernel_rfl | decide)
    (case q_BadFare => first | (with_unfolding_all rfl) | kernel_rfl | decide)
    (case q_BadOverlap => first | (with_unfolding_all rfl) | kernel_rfl | decide)
    (case q_BadSum => first | (with_unfolding_all rfl) | kernel_rfl | decide)
    (case q_BadTable => first | (with_unfolding_all rfl) | kernel_rfl | decide)
    (case q_BadTranslation => first | (with_unfolding_all rfl) | kernel_rfl | decide)
    (case q_BadWeights => first | (with_unfolding_all rfl) | kernel_rfl | decide)
    (case q_NothingToUndo => first | (with_unfolding_all rfl) | kernel_rfl | decide)
    (case q_TooLong => first | (with_unfolding_all rfl) | kernel_rfl | decide)
    (case q_TooMany => first | (with_unfolding_all rfl) | kernel_rfl | decide)
    (case i_BadLetters => k_is)
    (case t_BadLetters_i => k_is)
    (case l_BadLetters_i => k_is)
    (case c_BadLetters_i => k_is)
    (case ki_BadLetters_i => k_is)
    (case i_BadWord => k_is)
    (case t_BadWord_i => k_is)
    (case l_BadWord_i => k_is)
    (case c_BadWord_i => k_is)
    (case ki_BadWord_i => k_is)
    (case i_BadName => k_is)
    (case t_BadName_i => k_is)
    (case l_BadName_i => k_is)
    (case c_BadName_i => k_is)
    (case ki_BadName_i => k_is)
    (case i_BadNumber => k_is)
    (case t_BadNumber_i => k_is)
    (case l_BadNumber_i => k_is)
    (case c_BadNumber_i => k_is)
    (case ki_BadNumber_i => k_is)
    (case i_BadRow => k_is)
    (case t_BadRow_i => k_is)
    (case l_BadRow_i => k_is)
    (case c_BadRow_i => k_is)
    (case ki_BadRow_i => k_is)
    (case i_BadRule => k_is)
    (case t_BadRule_i => k_is)
    (case l_BadRule_i => k_is)
    (case c_BadRule_i => k_is)
    (case ki_BadRule_i => k_is)
    (case i_Rising => k_is)
    (case t_Rising_i => k_is)
    (case l_Rising_i => k_is)
    (case c_Rising_i => k_is)
    (case ki_Rising_i => k_is)
    (case i_Unknown => k_is)
    (case t_Unknown_i => k_is)
    (case l_Unknown_i => k_is)
    (case c_Unknown_i => k_is)
    (case ki_Unknown_i => k_is)
    (case i_Repeated => k_is)
    (case t_Repeated_i => k_is)
    (case l_Repeated_i => k_is)
    (case c_Repeated_i => k_is)
    (case ki_Repeated_i => k_is)
    (case i_BadText => k_is)
    (case t_BadText_i => k_is)
    (case l_BadText_i => k_is)
    (case c_BadText_i => k_is)
    (case ki_BadText_i => k_is)
    (case i_BadStep => k_is)
    (case t_BadStep_i => k_is)
    (case l_BadStep_i => k_is)
    (case c_BadStep_i => k_is)
    (case ki_BadStep_i => k_is)
    (case i_BadSquare => k_is)
    (case t_BadSquare_i => k_is)
    (case l_BadSquare_i => k_is)
    (case c_BadSquare_i => k_is)
    (case ki_BadSquare_i => k_is)
    (case i_BadMove => k_is)
    (case t_BadMove_i => k_is)
    (case l_BadMove_i => k_is)
    (case c_BadMove_i => k_is)
    (case ki_BadMove_i => k_is)
    (case i_BadLog => k_is)
    (case t_BadLog_i => k_is)
    (case l_BadLog_i => k_is)
    (case c_BadLog_i => k_is)
    (case ki_BadLog_i => k_is)
    (case i_BadChange => k_is)
    (case t_BadChange_i => k_is)
    (case l_BadChange_i => k_is)
    (case c_BadChange_i => k_is)
    (case ki_BadChange_i => k_is)
    (case i_Unjoined => k_is)
    (case t_Unjoined_i => k_is)
    (case l_Unjoined_i => k_is)
    (case c_Unjoined_i => k_is)
    (case ki_Unjoined_i => k_is)
    (case i_Open => k_is)
    (case t_Open_i => k_is)
    (case l_Open_i => k_is)
    (case c_Open_i => k_is)
    (case ki_Open_i => k_is)
    (case i_Lacking => k_is)
    (case t_Lacking_i => k_is)
    (case l_Lacking_i => k_is)
    (case c_Lacking_i => k_is)
    (case ki_Lacking_i => k_is)
    (case i_Stopped => k_is)
    (case t_Stopped_i => k_is)
    (case l_Stopped_i => k_is)
    (case c_Stopped_i => k_is)
    (case ki_Stopped_i => k_is)
    (case i_BadEntry => k_is)
    (case t_BadEntry_i => k_is)
    (case l_BadEntry_i => k_is)
    (case c_BadEntry_i => k_is)
    (case ki_BadEntry_i => k_is)
