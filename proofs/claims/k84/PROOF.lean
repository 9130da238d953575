import PyProof.Rows.All
import Wide.All
import OpenK.AllK
import Wide.FinOn
import Lean
import PyProof.EqAt
import PyProof.EqKinds
import PyProof.TupleCall
import PyProof.NeKinds
import KE.KTryMore
import KE.RegKTryMore
import KE.RegKIsAll
import PyProof.ExcBaseAll.ValueError
import PyProof.ExcBaseAll.Exception
import PyProof.ExcAttrAll.ValueError
import KE.KRevSl
import PyProof.ZipIter
import KE.KPairComp
import PyProof.DictItemsLoops
import PySem.Challenge.RW_tilefall_k84_whole_time_in_parts
set_option Elab.async false
set_option linter.all false
set_option maxRecDepth 100000
noncomputable section
local macro_rules (kind:=«term{_}») | `({$x, $xs,*}) => `(⟨$x, $xs,*⟩)
local macro_rules | `(tactic| k_is) => `(tactic| decide +kernel)
local macro_rules | `(tactic| o_law) => `(tactic| ((try dsimp only at *); omega))
open List (all_cons any_cons any_eq_true append_assoc append_nil cons_append drop_drop drop_of_length_le drop_zero ext_getElem? filterMap_cons filter_append filter_cons filter_cons_of_neg filter_cons_of_pos filter_map find?_cons forIn_cons length_append length_cons length_drop length_eq_zero_iff length_map length_pos_iff length_range length_replicate length_take length_zip lookup_cons map_append map_cons map_fst_zip map_map map_nil mem_append mem_append_left mem_append_right mem_cons mem_cons_of_mem mem_cons_self mem_filter mem_filterMap mem_map mem_of_getElem? mem_range mem_reverse mem_singleton nil_append nodup_append nodup_cons nodup_nil not_mem_nil of_mem_zip pairwise_append pairwise_cons pairwise_map range_succ reverse_append reverse_cons reverse_reverse size_toArray sum_append sum_cons sum_nil take_add take_add_one take_length take_of_length_le take_succ_eq_append_getElem)
open Nat (add_assoc add_zero dvd_trans le_add_right le_antisymm le_of_ble_eq_true le_of_dvd le_of_eq le_of_lt le_refl le_succ le_trans lt_irrefl lt_of_le_of_lt lt_of_lt_of_le lt_of_succ_lt lt_or_ge lt_succ_of_lt lt_succ_self lt_trans min_self mod_lt mul_le_mul_left ne_of_gt ne_of_lt not_lt not_lt_zero one_pos pow_le_pow_right pow_pos pow_succ sub_lt zero_add zero_le)
open PySem.W (CodeHd Frag InstAt callWith_K cellsFrom_some codeHdIn codeHd_of_K emptyDict fnOf handedIn hasDictIn instObj keq_eq kia_one kitOne kitx_dict kitx_list kla_fn kla_obj lookIn methodCall_KW methodObj mg_of mroIn nsIn plainGet plainGet_of plainOver tabObj takerIn typeIn)
open PySem.F (entry_dict_get plainAttrs_dict plainAttrs_list slot_dict_get slot_dict_pop slot_list_eq slot_list_ne slot_tuple_add type_dict_get)
open PySem.Heap (get?_push_of_some get?_push_size get?_update_other get?_update_self lt_size size_push size_update)
namespace PySem.W.Fast
def tw7324426772109547878:=Nat
def tw272178872085751130:=Nat
def tw9295611092718737998:=Nat
def tw4278785044849071627:=Nat
def tw10932588633286743919:=Nat
def tw5274253585597028503:=Nat
def tw10182969941200332339:=Nat
def tw17867336936795330786:=Nat
def tw13458562983114551677:=Nat
def tw12056925857883330477:=Nat
def tw16856990061069305088:=Nat
def tw2911797452381451667:=Nat
def tw13325544361880255913:=Nat
def tw1150217806003812097:=Nat
def tw4913878994746713239:=Nat
def tw15226123119350576805:=Nat
def tw17149000108461228144:=Nat
def tw15224831876933701736:=Nat
def tw9772600732064115826:=Nat
def tw12812653831400574377:=Nat
def tw3406808349167838211:=Nat
def tw13395321542326571623:=Nat
def tw13905092915848950054:=Nat
def tw3451263534989029439:=Nat
def tw13404984549012415063:=Nat
def tw5737102696964042772:=Nat
def tw17266342838221569318:=Nat
def tw630876151915012112:=Nat
def tw1136955052252364818:=Nat
def tw3696191600710976995:=Nat
def tw15276807026630210157:=Nat
def tw1560164337805773685:=Nat
def tw9499627889639026212:=Nat
def tw5374996714297189685:=Nat
def tw6538640088501870895:=Nat
def tw7637376998521721628:=Nat
def tw13364030810923311025:=Nat
def tw13733554395794630644:=Nat
def tw8784088783840964654:=Nat
def tw3369884603572514405:=Nat
def tw12315496234996728163:=Nat
def tw1310032845513914198:=Nat
def tw5922931600012082639:=Nat
def tw10245515549091720948:=Nat
def tw16149333043210523115:=Nat
def tw14172321263211420727:=Nat
def tw3390417399821258068:=Nat
def tw9092144846403465437:=Nat
def tw5408227147052271278:=Nat
def tw16555485948915247125:=Nat
def tw8483133273914409835:=Nat
def tw16015794897126131771:=Nat
def tw6536154570630656451:=Nat
def tw13580327661474586402:=Nat
def tw1937196958438165839:=Nat
def tw15674374887766812879:=Nat
def tw7383860634530789859:=Nat
def tw14880427173566567835:=Nat
def tw3236751611278123309:=Nat
def tw6687284109014525336:=Nat
def tw662483972052396646:=Nat
def tw14601421675145914890:=Nat
def tw5327356402377012321:=Nat
def tw17699833255190673150:=Nat
def tw17037149052783212879:=Nat
def tw15892112138495147414:=Nat
def tw1853458044679020485:=Nat
def tw15799624544719574463:=Nat
def tw1843378440764447975:=Nat
def tw2865103839579233637:=Nat
def tw14230440015294133524:=Nat
def tw16803730241599569877:=Nat
def tw10324666485894365876:=Nat
def tw10911113781548668344:=Nat
def tw9269803938176057076:=Nat
def tw4980908925327830289:=Nat
def tw9697891117714546973:=Nat
def tw13990814017125698789:=Nat
def tw9979821475526300527:=Nat
def tw9006119685270199563:=Nat
def tw6524991351572072745:=Nat
def tw872331750384212265:=Nat
def tw9916912870964399003:=Nat
def tw9858953116173697930:=Nat
def tw10856639691050589800:=Nat
def tw11601051694880861036:=Nat
def tw13527128405781360709:=Nat
def tw9363920296511363157:=Nat
def tw18010590584399733880:=Nat
def tw6236623128685465933:=Nat
def tw4597547588240082548:=Nat
def tw6785967999021188016:=Nat
def tw5707970848375951794:=Nat
def tw8551995692757652171:=Nat
def tw1230803396718307450:=Nat
def tw16708276988703178063:=Nat
def tw9032588945076252821:=Nat
def tw13954817889776934560:=Nat
def tw14143246859609546453:=Nat
def tw1684080943292594148:=Nat
def tw10030031232513030563:=Nat
def tw6719430405650762617:=Nat
def tw309170711152494675:=Nat
def tw12243337363719484834:=Nat
def tw10537120495243233218:=Nat
def tw12834117733222849580:=Nat
def tw3236843564276057699:=Nat
def tw11780923646103822122:=Nat
def tw15440229801334172250:=Nat
def tw6933778698365854259:=Nat
def tw11603873004332727607:=Nat
def tw3014688290402116526:=Nat
def tw14675107276090931612:=Nat
def tw1374942051712623567:=Nat
def tw12676543126334177308:=Nat
def tw4386983801168855820:=Nat
def tw7094164763525761974:=Nat
def tw10262970061759992895:=Nat
def tw8635139479765331458:=Nat
def tw10742601717574341987:=Nat
def tw13300977320593833103:=Nat
def tw16312288815186121562:=Nat
def tw8655868601374271404:=Nat
def tw10139521373407796411:=Nat
def tw7273495584132570313:=Nat
def tw13623582830184280982:=Nat
def tw692246595068017615:=Nat
def tw5003605282633654991:=Nat
def tw5508628451756691814:=Nat
def tw3382610257228229774:=Nat
def tw6285274316175880392:=Nat
def tw5987558408375742428:=Nat
def tw2334080482439617576:=Nat
def tw9876698535480992659:=Nat
def tw9858756919155381135:=Nat
def tw15406590185121864314:=Nat
def tw1896756501071355199:=Nat
def tw17957988283276569886:=Nat
def tw10997116888255285650:=Nat
def tw6836326173721203740:=Nat
def tw7677570053031676355:=Nat
def tw14410174045297631824:=Nat
def tw7302634818507688494:=Nat
def tw676817127878859180:=Nat
def tw1254446008048498873:=Nat
def tw13244076849659813414:=Nat
def tw9227783738698722527:=Nat
def tw8948490577600793225:=Nat
def tw9637419059026401475:=Nat
def tw16358519627344826965:=Nat
def tw5449745899095311713:=Nat
def tw8099890513227147586:=Nat
def tw9734360022892929155:=Nat
def tw60567027325588862:=Nat
def tw2320065756326894946:=Nat
def tw12701539872007319790:=Nat
def tw7292902622940177203:=Nat
def tw10029621963362477496:=Nat
def tw13453197627471734888:=Nat
def tw16409158908817388651:=Nat
def tw16739455167538606922:=Nat
def tw1646720577489927134:=Nat
def tw12812731926863733942:=Nat
def tw4733986407788375418:=Nat
def tw5053799328024564633:=Nat
def tw12318375246290641692:=Nat
def tw10917416922814604176:=Nat
def tw11175749389914307401:=Nat
def tw7118044649881341003:=Nat
def tw17821188585550436591:=Nat
def tw4866235855988362023:=Nat
def tw16234417685849553648:=Nat
def tw15208071271090053302:=Nat
def tw7950962281654135735:=Nat
def tw5081676360824814227:=Nat
def tw13603734661167487141:=Nat
def tw5926404515916772495:=Nat
def tw5258461049433147946:=Nat
def tw7704757509028843362:=Nat
def tw15658732786017499890:=Nat
def tw7451392917696171678:=Nat
def tw6667966865492059477:=Nat
def tw230327973445915682:=Nat
def tw12079270718458771349:=Nat
def tw10641155721659720509:=Nat
def tw3762299326454384439:=Nat
def tw12867366087203320614:=Nat
def tw16851119914132553515:=Nat
def tw2432950215781501576:=Nat
def tw4589246962339022508:=Nat
def tw10656914130204508880:=Nat
def tw2925075807177017574:=Nat
def tw17200893475116548489:=Nat
def tw15529951179053664268:=Nat
def tw16275401067416828302:=Nat
def tw7761904146077572158:=Nat
def tw11522530958448251771:=Nat
def tw14219319386777596184:=Nat
def tw9940510521201476144:=Nat
def tw13202742126074500302:=Nat
def tw8223215643077231349:=Nat
def tw9853940414077219338:=Nat
def tw5872440542864163243:=Nat
def tw15185975948262989150:=Nat
def tw3624717589307431225:=Nat
def tw175664510439266723:=Nat
def tw16716394622963788176:=Nat
def tw6552476767040343376:=Nat
def tw475073003069539441:=Nat
def tw1669632703858851937:=Nat
def tw14616209976214648713:=Nat
def tw11114764582994137132:=Nat
def tw7418789515538762730:=Nat
def tw7251783600498590086:=Nat
def tw6645641865330801117:=Nat
def tw5794252466382971854:=Nat
def tw5597146552020711897:=Nat
def tw15570514486219342893:=Nat
def tw11604294427869975466:=Nat
def tw14922843209585381888:=Nat
def tw5766990009849264750:=Nat
def tw6840998015149366716:=Nat
def tw5360757058638168051:=Nat
def tw10147873666260540401:=Nat
def tw7380845190128467454:=Nat
def tw4385198652702817752:=Nat
def tw17128157657422329905:=Nat
def tw9769264862299433416:=Nat
def tw6822209342374825792:=Nat
def tw6538732276403731937:=Nat
def tw196900019647508818:=Nat
def tw16879131720202593076:=Nat
def tw16874699837301086532:=Nat
def tw12394811480011568027:=Nat
def tw3866609749704450108:=Nat
def tw14723702397870518282:=Nat
def tw7995739963379850052:=Nat
def tw7498750906399272027:=Nat
def tw6252790352941439767:=Nat
def tw5720396259634457021:=Nat
def tw4746544891906106818:=Nat
def tw2165089464306479001:=Nat
def tw17741832947279830268:=Nat
def tw15890906350706007210:=Nat
def tw10854961302615976574:=Nat
def tw10543259940243594538:=Nat
def tw17678438203811774706:=Nat
def tw8361572490054078085:=Nat
def tw6380385186897999934:=Nat
def tw591795250066468817:=Nat
def tw5663104199494342650:=Nat
def tw5631956556440825792:=Nat
def tw5256709860724250736:=Nat
def tw5081128956689765757:=Nat
def tw4750989271397075998:=Nat
def tw4633456700115314805:=Nat
def tw4455212383567187441:=Nat
def tw4047385226213249728:=Nat
def tw2718368439859708677:=Nat
def tw2231490689623499656:=Nat
def tw2070807339170352177:=Nat
def tw17885492234832634419:=Nat
def tw17598521702286856497:=Nat
def tw17062436409100827657:=Nat
def tw16772671815862117315:=Nat
def tw16515395895952895203:=Nat
def tw16510409976803674193:=Nat
def tw16127970016301071438:=Nat
def tw1451765996742410693:=Nat
def tw14338988359596086634:=Nat
def tw13575613632513845442:=Nat
def tw12823527544143525122:=Nat
def tw12570784990109923521:=Nat
def tw11809146193134796330:=Nat
def tw10837459558083789261:=Nat
def tw1161825912750284271:=Nat
def tw2573385035500700686:=Nat
def tw4896885925963241920:=Nat
def tw10763576903740640675:=Nat
def tw7033548275820631855:=Nat
def tw6658334927872687297:=Nat
def tw5980130469270203620:=Nat
def tw16970245086434343065:=Nat
def tw15582587212579871309:=Nat
def tw14321136317576546389:=Nat
def tw13119666409937667661:=Nat
def tw1262932277147331810:=Nat
def tw8594515003848808580:=Nat
def tw7707486822851218092:=Nat
def tw9858962641984050456:=Nat
def tw568199183663409644:=Nat
def tw8206219063238898811:=Nat
def tw12074561730170078558:=Nat
def tw2319410691881915559:=Nat
end PySem.W.Fast
open PySem renaming wpAny_bind→e9,Value→f9,Addr→g6,Shared→i6,wpAny_pure→i8,wpAny→j0,model→j8,Program→m9,sizeLine→n7,starEach→v9,World→w6,Around→B2,wpAny_loadPart'→B7,sizeLine_eq→B8,codeAny_builtin→C1,mainGlobals→C2,Heap→C3,bootBuiltins→C5,rawInt→D4,Expr→D9,Stmt→E2,compareOp→E7,wpAny_holding→E9,plainId_quiet→F0,SetTable→G8,Builtin→J0,wpAny_mono→K0,eval→K3,wpAny_truthy_bool→K9,wpAny_rule→L9,wpAny_newObj_type→M0,FuncData→M6,cLine→N2,setField→O2,backTo→O5,Spec→P1,wpAny_call_entry→P7,attributeBase→R0,binaryOp→R7,wpAny_Call_Name_kw→S7,tupleKind_room_in1→S8,pyNext→S9,wpAny_updateSeq→U2,wpAny_passesOwn→U3,builtinLookup_eq_fast→U8,wpAny_setState_of→V0,foldedSetIterable→V1,mem_of_lookup→V3,codeAny→X2,BindsTo→X6,keywordEach→Y1,Builtin→Y4,wpAny_typeOf→Y6,wpAny_setField→Y7,valueAt→Y8,call_meetsIn→Z7,Scope→di,assignEach→dl,behindInMarks→ef,unsupported→em,NameKind→fj,wpAny_specialOf→gg,typeLookup_type→gh,letOwnedTupleGo→gj,codeAny_mono→gu,wpAny_load→ig,wpAny_field→im,wpAny_Call_method→io,wpAny_attempt→iu,wpAny_isInstance→jk,wpAny_callSpecial?_slot→jl,updateSeq→jm,tupleKind→jn,raiseNew→jo,call→jt,backToKw→ju,ZipApart→jv,typeLookup→ke,setNextDrawn→kh,setNext→ki,holding→kj,Keyword→kx,wpAny_execs_nil→li,wpAny_runValue→ml,recursionLimit→mm,isSubtype_type→mz,Within→nj,swapsWith→ny,standAt→nz,seqItems?→oe,scanBound→og,pickOrder→oh,getMethod→oo,wpAny_standAt→qe,closureFor→qi,builtinsNs→qj,wpAny_pyIter_slot→qx,wpAny_pyIter_list→qy,relayAll→qz,relabel→rc,getItem→rf,fits_of_scanBound→rg,entryFor→rh,collect→ri,callerA→rj,wpAny_pyHash_str→sx,wpAny_askSetting→sy,stored→tf,newExc→tj,entryFor_of_tree→ua,assign→ub,subscripted→uu,wpAny_richCompare_same_room→vq,wpAny_call→wf,wpAny_Name→wg,pyIter→wl,callWith→wn,bindArgs→wq,atKey→wt,IsPair→xg,wpAny_newList→xw,wpAny_comprehension_free→xy,evalPart_none→yc,assignInOrder→yd,putSet_of→yj,bindL→yk,bindC→yl,wpAny_pyNext_list_item→yn,wpAny_nextOf_list_item→yo,spliced→yp,setAddHashed→yr,newList→yx,cellOf→yz,argsOk→zc,wpAny_pyNext_list_end→zd,wpAny_notOrdered_dict→zi,wpAny_isTrue_Compare1→zj,wpAny_newFunctionEnv→zl,wpAny_loadName_local→zn,codeAny_extend_loopS→zz,bindName→Aq,wpAny_setEntries_of→Aw,Code→Bg
open Sum renaming inr→i0,inl→j5
open PySem.Heap renaming get?_push_of_some→i4,get?_push_size→o0,lt_size→p7,get?_update_other→D5,get?_update_self→J1,size_push→L5,SameBut→Q4,size_update→ip,get?_none_of_le→xu
open List renaming getElem?_eq_some_iff→i5,getElem?_eq_getElem→i7,mem_singleton→i9,length_map→j6,size_toArray→l8,length_append→m8,getElem?_map→t5,mem_of_getElem?→u8,mem_append→u9,mem_map→w8,mem_cons→x6,mem_append_right→x9,range→y9,map_append→B6,replicate→C7,getElem?_append_right→C8,take_of_length_le→D2,mem_append_left→D3,append_assoc→D6,take_succ_eq_append_getElem→D7,mem_cons_of_mem→E4,take_length→F7,getElem?_cons_zero→J2,getElem?_cons_succ→J3,map_cons→K1,length_cons→K2,append_nil→K4,getElem?_append_left→K7,mem_cons_self→L8,getElem?_of_mem→N9,nil_append→O1,getElem_mem→O8,pairwise_map→P5,length_replicate→P8,mem_filter→Q0,length_eq_zero_iff→Q1,find?_cons→Q2,lookup→Q3,reverse_reverse→Q9,map_map→R5,mem_reverse→S3,getElem?_eq_none→S5,nodup_cons→T4,filter_cons_of_pos→T5,filter_cons_of_neg→T6,getElem_take→U0,getElem_drop→U1,pairwise_append→U4,pairwise_iff_getElem→V4,getElem?_zip_eq_some→V5,reverse_append→V7,length_take→V8,filter_cons→V9,length_filterMap_le→W1,pairwise_cons→W5,filter_append→W7,filter_map→X7,take_add_one→Y9,nodup_append→Z3,length_pos_iff→Z4,filterMap_cons→Z5,drop_of_length_le→Z6,drop_zero→dk,mem_filterMap→dy,not_mem_nil→ew,cons_append→fc,any_eq_true→fh,any_cons→fi,isEmpty_eq_false_iff→gq,ext_getElem?→gt,pairwise_filterMap→ij,lookup_cons→iq,pairwise_lt_range→ir,take_append_drop→je,mem_iff_getElem?→jf,length_singleton→jg,length_filter_le→jh,zip→jy,mem_of_mem_take→jz,map→ka,Perm→ku,mem_map_of_mem→lm,getElem_of_mem→lu,getElem?_drop→me,length_drop→my,mem_range→oj,length_range→re,drop_eq_getElem_cons→um,getElem?_take_of_lt→uv,getElem?_replicate→vg,map_nil→vw,length_pos_of_mem→vy,getElem?_set_self→wa,filter_eq_nil_iff→wb,sum_append→wk,length_zip→wm,filterMap_append→xc,mem_of_mem_drop→xo,length→xq,getElem?_set_ne→xr,length_reverse→yh,reverse_cons→yt,map_fst_zip→zx,all_cons→At,Pairwise→AA
open Nat renaming lt_of_lt_of_le→j3,le_refl→k7,ne_of_lt→q7,zero_le→w4,lt_succ_of_lt→B5,le_trans→B9,ne_of_gt→C6,lt_of_le_of_lt→E6,le_of_ble_eq_true→F4,lt_or_ge→F8,lt_succ_self→M3,le_of_lt→M5,le_mul_of_pos_right→R1,le_succ→R6,not_lt_zero→R9,pow_le_pow_right→W2,lt_of_succ_lt→W6,mul_le_mul_left→X1,eq_zero_of_not_pos→X8,le_antisymm→fb,eq_of_mul_eq_mul_right→gm,le_add_right→gr,zero_add→ji,lt_trans→jp,le_of_eq→jq,mul_le_mul_right→kr,min_self→mw,lt_irrefl→om,le_of_dvd→tu,sub_eq_zero_iff_le→wz,one_pos→yu,not_lt→yw
open PyProof.Rows renaming wpS_bind→j4,Keyed→j9,wpS_pure→k9,SortSt→B3,wpS_forRange→E1,callWith_type1→F6,wpS_mono→O9,wpS_modify→P9,wpS_get→W9,IntsAre→X3,mirror→gi,getElem?_mirror_all→gn,envOfC→ii,subscriptTail_builtinR→kf,AllBare→lg,wpS_reverse→mi,wpS_lift→mj,oneType'→mq,mirror_size→mr,StrsAre→ow,listUpdate_at→qf,size_push'→qh,assignInOrder_cons→ql,Subscript_→qm,get?_update_seq→uz,minRun'→vv,bubble→wo,News→wy,IsTup→xf,subscriptTail→xz,sortedS→yq,mirror_perm→zw,ksk_news→zy,bubble_size→Am
open Bool renaming false_ne_true→j7,false_eq_true→J6,not_eq_true'→X5,and_eq_true→Y5,eq_iff_iff→ja,and_false→kc,false_and→sv,or_false→uw,and_true→ux,beq_eq_decide_eq→xj
open Option.some renaming inj→l7,injEq→F9
open Rat renaming divInt→m5,num_divInt_den→C9,le_trans→Q5,not_lt→Q6,divInt_eq_divInt_iff→Q7,divInt_mul_divInt→T9,le_refl→dg,le_iff→iw,div_def→ko,ne_of_gt→oy,neg_num→qr,le_of_lt→ww,intCast_lt_intCast→wx,divInt_add_divInt→xm,neg_den→ye,add_le_add_left→ym
open Array renaming length_toList→m6,getElem?_toList→x8,toList_append→B0,getElem?_extract→J9,getElem?_eq_getElem→K6,toList_push→L6,size_extract→M9,toList_reverse→U5,toList_extract→U6,toList_setIfInBounds→fx,forIn_toList→fy,toArray_toList→jx,toList_eraseIdxIfInBounds→ox,perm_iff_toList_perm→rp,getElem_toList→xl,toList_modify→xv
open Int renaming gcd→m7,emod_lt_of_pos→n6,emod_nonneg→r9,natAbs_mul→J7,le_refl→L0,mul_comm→O6,le_trans→O7,mul_fdiv_cancel_left→Q8,natCast_dvd_natCast→R3,le_of_lt→R8,gcd_dvd_left→V6,mul_nonpos_of_nonpos_of_nonneg→W4,gcd_dvd_right→X9,gcd_comm→Y0,mul_pos→dh,mul_ne_zero→dv,toNat_natCast→ic,not_lt→iy,lt_or_le→iz,natAbs_dvd_natAbs→jw,toNat_of_nonneg→lw,gcd_eq_zero_iff→ly,mul_assoc→mf,le_of_dvd→mh,natCast_nonneg→no,lt_of_lt_of_le→nr,lt_of_le_of_lt→nu,gcd_mul_right→pk,gcd_sub_mul_right_left→uo,fdiv_eq_ediv_of_nonneg→uq,pos_of_mul_pos_right→vh,gcd_dvd_natAbs_right→vi,dvd_trans→vj,dvd_mul_of_dvd_right→vo,pos_of_mul_pos_left→wc,zero_add→xi,mul_one→yi
open PySem.Value renaming ref→n9,none→M7,isStrOf_shape→O3,isStrOf→O4,type→P0,str→eh,int→ei,bool→rk,float→wu
open Ne renaming symm→u7
open PySem.W renaming Frag→y8,keepIn→C0,codeIn→F5,findIn→N8,kitOne→W3,emptyDict→dj,kia_one→gs,fnOf→ik,codeHdIn→jr,instObj→on,makesIn→pc,OpenLaw→pf,isFn→ul,tabObj→wj,plainGet_of→zo,plainGet→zv
open PySem.Around renaming under_plainId→z9,under→uy
open PySem.F renaming type_list_append→A0,slot_list_append→A7,plainAttrs_list→E3,plain_extend_loop→R4,plain_list_iadd→U7,called_set→W0,plainAttrs_dict→X0,slot_dict_get→dw,slot_zip_next→fk,slot_list_getattribute→il,plain_proto_collect→lc,entry_proto_collect→ld,entry_dict_get→ng,type_dict_setdefault→ph,slot_dict_setdefault→pi,entry_list_iadd→qp,args_tuple_add_2→rn,slot_dict_items→sj,entry_tuple_add→sk,args_dict_get_3→sq,args_dict_get_2→ss,entry_extend_loop→zk
open PySem.Obj renaming mapSeq→A8,data_mapFields→P6,putSet→ix,cls_mapFields→pj,data_mapDictKeys→yg
open Option renaming map_eq_some_iff→A9,isSome_map→md
open PySem.PassesOwn renaming never→B4
open PySem.SeqAt renaming EqAt→C4,RcAt→rm,RcNeAt→vd
open PySem.Heap.SameBut renaming update→E8
open Or renaming inr→J5,inl→J8
open PySem.Str renaming ofString→K5
open PySem.Builtin.List renaming listExtendWith→K8,listSameRef→L7,listLengthHint→O0
open PySem.SetTable renaming below→L1,grown→S4,has→rr
open Pure renaming pure→L3
open ForInStep renaming yield→L4
open PySem.Builtin.SmallTypes renaming ownedTupleIsFree→M8,nextOf→X4
open True renaming intro→N3
open False renaming elim→P3
open PySem.Calls renaming spliced_cons→P4,spliced_nil→S6,callWith_builtin→W8,evalArgs_plain→Z8,Name_function_global→ro
open List.cons renaming inj→U9,injEq→gy
open PySem.SetTable.below renaming go→V2
open PySem.SeqAt.EqAt renaming same→Y2,str_int→jb,of_refs→jc,int_str→jd,none_bool→rz,bool_none→sf,bool_bool→si,str_none→uc,str_bool→ud,none_str→uf,none_int→ug,int_none→uh,int_bool→ui,bool_str→uj,bool_int→uk
open PySem.Shared renaming TypeIs→Y3
open List.Pairwise renaming nil→Z9
open PySem.Txt renaming slice→fz,slice_le→wv
open PyProof.Rows.SortSt renaming mk'→lj
open Sum.inr renaming inj→oq
open PySem.Builtin.Dict renaming updateFrom→qc
open PySem.SeqAt.RcAt renaming lists_lengths→qg
open Int.ofNat renaming inj→qo
open PySem.NameKind renaming free→qw
open PySem.pickOrder renaming go→rd
open PySem.Builtin.Int renaming intBits→su
open PySem.AutoSeq1 renaming sub_list_list→sw
open Sum.inl renaming inj→vc
open PySem.Code renaming isFrame→we
open Prod renaming snd→xn
namespace L2
open PySem PySem.Spec PyProof.Rows
noncomputable abbrev aL:=Sum Int Str
noncomputable def BL:aL->f9->Bool
|.inl k,v=>f9.isInt k v
|.inr x,v=>O4 x v
noncomputable def Vf(w:w6):aL->Int
|.inl k=>hashInt k
|.inr x=>hashStr w x
theorem dZ:∀{k:aL}{v:f9},BL k v=true->(∃i t,k=j5 i/\v=ei i t)∨(∃x t,k=i0 x/\v=eh x t)
|.inl i,v,h=>by
  obtain ⟨t,e⟩:=f9.isInt_shape (k:=i) (v:=v) h;exact .inl {i,t,rfl,e}
|.inr x,v,h=>by obtain ⟨t,e⟩:=O3 (x:=x) (v:=v) h;exact .inr {x,t,rfl,e}
def QY(i:Int)(t:Tok):BL (.inl i) (.int i t)=true:=by simp[BL,f9.isInt]
def QX(x:Str)(t:Tok):BL (.inr x) (.str x t)=true:=by simp[BL,O4]
def Lp(a b:Int):decide ((j5 a:aL)=j5 b)=(a==b):=by
 by_cases e:a=b
 ·subst e;simp
 ·have h:¬(j5 a:aL)=j5 b:=fun q=>e (vc q);rw[decide_eq_false h];exact (beq_eq_false_iff_ne.mpr e).symm
def Lm(a b:Str):decide ((i0 a:aL)=i0 b)=decide (a=b):=by
 by_cases e:a=b
 ·subst e;simp
 ·have h:¬(i0 a:aL)=i0 b:=fun q=>e (oq q);rw[decide_eq_false h,decide_eq_false e]
def Lo(a:Int)(b:Str):decide ((j5 a:aL)=i0 b)=false:=decide_eq_false (fun q=>nomatch q)
def Ln(a:Str)(b:Int):decide ((i0 a:aL)=j5 b)=false:=decide_eq_false (fun q=>nomatch q)
noncomputable def bS(prog:m9)(w:w6):PySem.KeyKind prog w aL where
 is:=BL
 hash:=Vf w
 inj:=fun v a b ha hb=>by
  rcases dZ ha with ⟨i,t,rfl,rfl⟩|⟨x,t,rfl,rfl⟩
  ·rcases dZ hb with ⟨j,u,rfl,e⟩|⟨y,u,rfl,e⟩
   ·injection e with e1 _;rw[e1]
   ·exact nomatch e
  ·rcases dZ hb with ⟨j,u,rfl,e⟩|⟨y,u,rfl,e⟩
   ·exact nomatch e
   ·injection e with e1 _;rw[e1]
 byValue:=fun k v h=>by rcases dZ h with ⟨i,t,rfl,rfl⟩|⟨x,t,rfl,rfl⟩ <;> rfl
 pyHash:=fun hv h=>by
  rcases dZ hv with ⟨i,t,rfl,rfl⟩|⟨x,t,rfl,rfl⟩
  ·exact wpAny_pyHash_int h
  ·exact sx h
 eqBool:=fun hu hv h=>by
  rcases dZ hu with ⟨i,t,rfl,rfl⟩|⟨x,t,rfl,rfl⟩
  ·rcases dZ hv with ⟨j,u,rfl,rfl⟩|⟨y,u,rfl,rfl⟩
   ·rw[Lp]at h;exact wpAny_eqBool_int h
   ·rw[Lo]at h;exact jd i t y u _ _ _ _ h
  ·rcases dZ hv with ⟨j,u,rfl,rfl⟩|⟨y,u,rfl,rfl⟩
   ·rw[Ln]at h;exact jb x t j u _ _ _ _ h
   ·rw[Lm]at h;exact wpAny_eqBool_str h
 «strs»:=fun k x t v h=>by
  rcases dZ h with ⟨i,u,rfl,e⟩|⟨y,u,rfl,e⟩
  ·exact nomatch e
  ·injection e with e1 _
   subst e1;cases v <;> rfl
def HP(prog:m9)(w:w6)(i:Int)(t:Tok):(bS prog w).is (.inl i) (.int i t)=true:=QY i t
def HN(prog:m9)(w:w6)(x:Str)(t:Tok):(bS prog w).is (.inr x) (.str x t)=true:=QX x t
inductive V where
|non|bl (b:Bool)|int (i:Int)|str (x:Str)|byt (b:Array UInt8)|flt (b:UInt64)|ref (a:g6)|ty (n:String)
 deriving DecidableEq
noncomputable def bJ:V->f9->Prop
|.non,u=>u=M7
|.bl b,u=>u=rk b
|.int i,u=>∃t,u=ei i t
|.str x,u=>∃t,u=eh x t
|.byt b,u=>∃t,u=f9.bytes b t
|.flt b,u=>∃t,u=wu b t
|.ref a,u=>u=n9 a
|.ty n,u=>u=P0 n
noncomputable abbrev bH:List V->List f9->Prop:=Paired bJ
def bH.length(r:bH xs us):xs.length=us.length:=Paired.length r
theorem bH.get:∀{xs:List V}{us:List f9}{i:Nat}{x:V},bH xs us->xs[i]?=some x->∃u,us[i]?=some u/\bJ x u
|_,_,_,_,.nil,e=>by simp at e
|_,_,0,_,.cons r _,e=>by simp at e;subst e;exact {_,rfl,r}
|_,_,i+1,x,.cons _ t,e=>by obtain ⟨u,b,c⟩:=bH.get (i:=i) (x:=x) t (by simpa using e);exact {u,by simpa using b,c}
theorem bH.append:∀{xs ys:List V}{us b:List f9},bH xs us->bH ys b->bH (xs++ys) (us++b)
|_,_,_,_,.nil,s=>s
|_,_,_,_,.cons r t,s=>.cons r (bH.append t s)
noncomputable def nQ:Option V->Option f9->Prop
|some v,some u=>bJ v u
|none,none=>True
|_,_=>False
noncomputable def KV{κ:Type}:List (κ×V)->List (κ×f9)->Prop:=Paired fun(p:κ×V)(q:κ×f9)=>p.1=q.1/\bJ p.2 q.2
noncomputable def kV:aL->V
|.inl i=>.int i
|.inr x=>.str x
inductive HO where
 |lst (xs:List V)
 |tup (xs:List V)
 |dK (kvs:List (aL×V))|dT (kvs:List (List aL×V))
 |set (S:Int->Bool) (n:Nat)
 |ins (C dx:g6) (fs:List (Str×V))
 |own (x:g6)
 |xd (fs:List (Str×V))
 |met (f x:g6)
 |rng (lo hi:Int)
 |frz (o:Obj) (u:HO)
 |tbl (ps:Array f9)
 |ext (φ:C3->Prop)
noncomputable abbrev Hp:=g6->Option HO
noncomputable def upd(H:Hp)(a:g6)(o:HO):Hp:=fun b=>if b=a then some o else H b
def aC:upd H a o a=some o:=by unfold upd;rw[if_pos rfl]
def aX(h:b≠a):upd H a o b=H b:=by unfold upd;rw[if_neg h]
def Aa:upd (upd H a o) a u=upd H a u:=by funext b;unfold upd;split <;> rfl
def fN{H:Hp}(h:H a=some o)(h':H b=some u)(d:o≠u):a≠b:=by intro e;subst e;rw[h]at h';exact d (l7 h')
def aB{H:Hp}(h:H a=some o)(h':H b=none):a≠b:=by
 intro e;subst e;rw[h]at h';cases h'
section
variable (P:m9)(w:w6)
noncomputable def dJ(H:Hp)(h:C3)(a:g6):HO->Prop
|.lst xs=>xs.length<=n7/\∃(its:List f9)(n:Nat),bH xs its/\h.get? a=some {cls:=.type "list",data:=.seq its.toArray n}
|.tup xs=>(xs.length<=n7/\∃o,h.get? a=some o/\o.dict=none)/\∃its:List f9,bH xs its/\xf h a its.toArray
|.dK kvs=>kvs.length<=n7/\(a==sysModules)=false/\∃vs,KV kvs vs/\h.DictOf (bS P w) a vs
|.dT kvs=>kvs.length<=n7/\(a==sysModules)=false/\∃xs:List (List aL×g6×f9),
   Paired (fun(p:List aL×V)(q:List aL×g6×f9)=>p.1=q.1/\H q.2.1=some (.tup (p.1.map kV))/\bJ p.2 q.2.2) kvs xs /\
   ∃o es ep,h.get? a=some o/\o.ExactDict/\o.data=.dict es ep/\es.toList=xs.map (entryOfKey (jn (bS P w)))/\(xs.map (·.1)).Nodup
|.set S n=>h.SetOf (intKind P w) a S n
|.ins C dx fs=>H dx=some (.own a)/\fs.length<=1000/\dx≠a/\h.get? a=some (on C dx) /\
   ∃mA,h.Ns1 dx mA/\(∀f,nQ (fs.lookup f) (mA f))/\nj mA (fs.map (·.1))
|.own _=>∃o,h.get? a=some o
|.xd fs=>∃mA,h.Ns1 a mA/\∀f,nQ (fs.lookup f) (mA f)
|.rng lo hi=>∃t u v,h.get? a=some {cls:=.type "range",data:=.fields #[.int lo t,.int hi u,.int 1 v]}
|.frz o u=>h.get? a=some o/\dJ H h a u
|.tbl ps=>h.get? a=some {cls:=.none,data:=.fields ps}
|.met f x=>h.get? a=some (methodObj (.ref f) (.ref x))
|.ext φ=>φ h/\(∃o,h.get? a=some o)/\∀h1 h2:C3,φ h1->(∀o,h1.get? a=some o->h2.get? a=some o)->φ h2
noncomputable def pL(H:Hp)(h:C3):Prop:=∀a o,H a=some o->dJ P w H h a o
end
section
variable {P:m9}{w:w6}{H H':Hp}{h h':C3}{a:g6}{o:HO}
def dJ.lt(x:dJ P w H h a o):a<h.objs.size:=by
 cases o with
|lst g=>obtain ⟨_,_,_,_,e⟩:=x;exact p7 e
|tup g=>obtain ⟨_,_,_,p⟩:=x;exact p.lt
|dK b=>obtain ⟨_,_,_,_,o,_,_,e,_⟩:=x;exact p7 e
|dT b=>obtain ⟨_,_,_,_,o,_,_,e,_⟩:=x;exact p7 e
|set S n=>obtain ⟨o,_,_,_,e,_⟩:=x;exact p7 e
|ins C i c=>obtain ⟨_,_,_,e,_⟩:=x;exact p7 e
|own y=>obtain ⟨_,e⟩:=x;exact p7 e
|xd c=>obtain ⟨_,⟨_,_,_,e,_⟩,_⟩:=x;exact p7 e
|rng lo m=>obtain ⟨_,_,_,e⟩:=x;exact p7 e
|frz q u=>obtain ⟨e,_⟩:=x;exact p7 e
|tbl s=>exact p7 (show h.get? a=some _ from x)
|met f y=>exact p7 (show h.get? a=some _ from x)
|ext A=>obtain ⟨_,⟨_,e⟩,_⟩:=x;exact p7 e
theorem Paired.mapP{c g:Type}{F G:c->g->Prop}:∀{l₁:List c}{l₂:List g},Paired F l₁ l₂->(∀a b,F a b->G a b)->Paired G l₁ l₂
|_,_,.nil,_=>.nil
|_,_,.cons r t,f=>.cons (f _ _ r) (Paired.mapP t f)
def dJ.stay(x:dJ P w H h a o)(k:∀b u,(b=a∨H b=some (.own a))->h.get? b=some u->h'.get? b=some u)(M:∀b,H b=some (.own a)->H' b=some (.own a))(N:∀b xs,H b=some (.tup xs)->H' b=some (.tup xs)):dJ P w H' h' a o:=by
 induction o with
|lst xs=>obtain ⟨z,s,n,r,e⟩:=x;exact {z,s,n,r,k _ _ (.inl rfl) e}
|tup xs=>obtain ⟨⟨z,Q,I,G⟩,s,r,g,e,c⟩:=x;exact {{z,Q,k _ _ (.inl rfl) I,G},s,r,g,k _ _ (.inl rfl) e,c}
|dK A=>obtain ⟨z,y,R,r,g,m,i,e,c⟩:=x;exact {z,y,R,r,g,m,i,k _ _ (.inl rfl) e,c}
|dT A=>
  obtain ⟨z,y,xs,r,g,m,i,e,c⟩:=x;exact {z,y,xs,Paired.mapP r fun p q z=>{z.1,N _ _ z.2.1,z.2.2},g,m,i,k _ _ (.inl rfl) e,c}
|set S n=>obtain ⟨g,m,i,t,e,c⟩:=x;exact {g,m,i,t,k _ _ (.inl rfl) e,c}
|ins C T K=>
  obtain ⟨d,z,O,e,B,⟨D,m,i,J,c⟩,r⟩:=x;exact {M _ d,z,O,k _ _ (.inl rfl) e,B,{D,m,i,k _ _ (.inr d) J,c},r}
|own y=>obtain ⟨g,e⟩:=x;exact {g,k _ _ (.inl rfl) e}
|xd K=>obtain ⟨B,⟨D,m,i,e,c⟩,r⟩:=x;exact {B,{D,m,i,k _ _ (.inl rfl) e,c},r}
|rng lo U=>obtain ⟨t,u,v,e⟩:=x;exact {t,u,v,k _ _ (.inl rfl) e}
|frz g u ih=>obtain ⟨e,q⟩:=x;exact {k _ _ (.inl rfl) e,ih q}
|tbl E=>
  have e:h.get? a=some {cls:=.none,data:=.fields E}:=x;show h'.get? a=some {cls:=.none,data:=.fields E};exact k a _ (.inl rfl) e
|met f y=>
  have e:h.get? a=some (methodObj (.ref f) (.ref y)):=x;show h'.get? a=some (methodObj (.ref f) (.ref y));exact k a _ (.inl rfl) e
|ext W=>obtain ⟨p,⟨o,e⟩,st⟩:=x;exact {st _ _ p fun o q=>k _ _ (.inl rfl) q,{o,k _ _ (.inl rfl) e},st}
def pL.lt(x:pL P w H h)(e:H a=some o):a<h.objs.size:=(x a o e).lt
def pL.fresh(x:pL P w H h)(e:h.objs.size<=a):H a=none:=by
 cases q:H a with
|none=>rfl
|some u=>exact absurd (j3 (x.lt q) e) (om _)
def pL.kept(x:pL P w H h)(k:∀b u,h.get? b=some u->h'.get? b=some u):pL P w H h':=fun a o e=>(x a o e).stay (fun b u _ q=>k b u q) (fun _ q=>q) fun _ _ q=>q
def pL.laid(x:pL P w H h)(k:∀b u,h.get? b=some u->h'.get? b=some u)(hp:h.objs.size<=a)(new:dJ P w (upd H a o) h' a o):pL P w (upd H a o) h':=fun b u e=>by
 have hn:=x.fresh hp;by_cases f:b=a
 ·subst f;rw[aC]at e;cases e;exact new
 ·rw[aX f]at e;exact (x b u e).stay (fun c v _ q=>k c v q) (fun c q=>by rw[aX (aB q hn)];exact q) fun c g q=>by rw[aX (aB q hn)];exact q
end
noncomputable def Rd(H:Hp)(a:g6)(u:HO):Prop:=H a=some u∨∃o,H a=some (.frz o u)
def Rd.ok(r:Rd H a u)(x:pL P w H h):dJ P w H h a u:=by
 rcases r with r|⟨o,r⟩
 ·exact x a u r
 ·obtain ⟨_,q⟩:=x a _ r;exact q
noncomputable def Sx:Option HO->Prop
|some (.lst _)=>True
|some (.dK _)=>True
|some (.dT _)=>True
|some (.set _ _)=>True
|some (.ins _ _ _)=>True
|some (.ext _)=>True
|_=>False
section
variable {P:m9}{w:w6}{H:Hp}{h h':C3}{x e:g6}{o':HO}
def pL.write(ok:pL P w H h)(mu:Sx (H x))(A:e=x∨H e=some (.own x))(k:∀b u,b≠e->h.get? b=some u->h'.get? b=some u)(s:∃u,h'.get? e=some u)(new:dJ P w (upd H x o') h' x o'):pL P w (upd H x o') h':=fun b u q=>by
 have g:∀c y,H c=some (.own y)->c≠x:=fun c y r z=>by subst z;rw[r]at mu;exact mu
 have i:∀c xs,H c=some (.tup xs)->c≠x:=fun c xs r z=>by subst z;rw[r]at mu;exact mu
 by_cases m:b=x
 ·subst m;rw[aC]at q;cases q;exact new
 ·rw[aX m]at q;by_cases f:b=e
  ·have B:H b=some (.own x):=by
    rcases A with z|z
    ·exact absurd (f.trans z) m
    ·rw[f];exact z
   rw[q]at B;cases B;obtain ⟨v,C⟩:=s;exact {v,by rw[f];exact C}
  ·refine (ok b u q).stay (fun c v o r=>k c v ?_ r) (fun c r=>by rw[aX (g c b r)];exact r) fun c xs r=>by rw[aX (i c xs r)];exact r
   rcases o with rfl|o
   ·exact f
   ·rintro rfl;rcases A with z|z
    ·exact g c b o z
    ·rw[o]at z;cases z;exact m rfl
end
structure Un(fs ex:List g6)(H H':Hp)(h h':C3):Prop where
 keep:∀b o,h.get? b=some o->H b=none->b∉fs->b∉ex->h'.get? b=some o
 slot:∀b o,h.get? b=some o->H b=none->b∈fs->b∉ex->∃sl,h'.get? b=some {o with slots:=sl}
 free:∀b o,h.get? b=some o->H b=none->b∉ex->H' b=none
 there:∀b o,h.get? b=some o->b∉ex->∃o',h'.get? b=some o'
 tups:∀b xs,H b=some (.tup xs)->H' b=some (.tup xs)
 frzs:∀b o u,H b=some (.frz o u)->H' b=some (.frz o u)
 tbls:∀b ps,H b=some (.tbl ps)->∃more,H' b=some (.tbl (ps++more))
section
variable {fs ex:List g6}{H H1 H2:Hp}{h h1 h2 h':C3}{a x e:g6}{o:HO}
def Un.any(u:Un fs ex H H1 h h1)(q:h.get? b=some ob)(n:H b=none)(f:b∉ex):∃g,h1.get? b=some {ob with slots:=g}:=by
 by_cases c:b∈fs
 ·exact u.slot b ob q n c f
 ·exact {ob.slots,u.keep b ob q n c f}
def Un.trans(a:Un fs ex H H1 h h1)(b:Un fs ex H1 H2 h1 h2):Un fs ex H H2 h h2 where
 keep:=fun c g q n m f=>b.keep c g (a.keep c g q n m f) (a.free c g q n f) m f
 slot:=fun c g q n m f=>by obtain ⟨G,i⟩:=a.slot c g q n m f;obtain ⟨B,w⟩:=b.slot c _ i (a.free c g q n f) m f;exact {B,w}
 free:=fun c g q n f=>by obtain ⟨A,i⟩:=a.there c g q f;exact b.free c A i (a.free c g q n f) f
 there:=fun c g q f=>by obtain ⟨A,i⟩:=a.there c g q f;exact b.there c A i f
 tups:=fun c s q=>b.tups c s (a.tups c s q)
 frzs:=fun c g s q=>b.frzs c g s (a.frzs c g s q)
 tbls:=fun c E q=>by obtain ⟨C,i⟩:=a.tbls c E q;obtain ⟨D,w⟩:=b.tbls c _ i;exact {C++D,by rw[w,Array.append_assoc]}
def Un.kept(k:∀b u,h.get? b=some u->h'.get? b=some u):Un fs ex H H h h':=
 {fun b c q _ _ _=>k b c q,fun b c q _ _ _=>{c.slots,k b c q},fun _ _ _ n _=>n,fun b c q _=>{c,k b c q},fun _ _ q=>q,fun _ _ _ q=>q,fun _ f q=>{#[],by rw[q];simp}}
def Un.refl:Un fs ex H H h h:=Un.kept fun _ _ q=>q
def Un.laid(k:∀b u,h.get? b=some u->h'.get? b=some u)(hp:h.objs.size<=a)(hn:H a=none):Un fs ex H (upd H a o) h h' where
 keep:=fun b u q _ _ _=>k b u q
 slot:=fun b u q _ _ _=>{u.slots,k b u q}
 free:=fun b u q n _=>by rw[aX (q7 (j3 (p7 q) hp))];exact n
 there:=fun b u q _=>{u,k b u q}
 tups:=fun b c q=>by rw[aX (aB q hn)];exact q
 frzs:=fun b u c q=>by rw[aX (aB q hn)];exact q
 tbls:=fun b f q=>{#[],by rw[aX (aB q hn),q];simp}
def Un.write(mu:Sx (H x))(s:e=x∨H e=some (.own x))(k:∀b u,b≠e->h.get? b=some u->h'.get? b=some u)(f:∃u,h'.get? e=some u):Un fs ex H (upd H x o) h h':=by
 have m:∀b,H b=none->b≠x:=fun b n z=>by subst z;rw[n]at mu;exact mu
 have i:∀b,H b=none->b≠e:=fun b n z=>by
  subst z;rcases s with r|r
  ·exact m b n r
  ·rw[n]at r;cases r
 have g:∀b u,H b=some u->¬Sx (some u)->b≠x:=fun b u q w z=>by subst z;rw[q]at mu;exact w mu
 refine {fun b u q n _ _=>k b u (i b n) q,fun b u q n _ _=>{u.slots,k b u (i b n) q},fun b u q n _=>by rw[aX (m b n)];exact n,fun b u q _=>?_,
  fun b A q=>by rw[aX (g b _ q fun z=>z)];exact q,fun b u A q=>by rw[aX (g b _ q fun z=>z)];exact q,fun b B q=>{#[],by rw[aX (g b _ q fun z=>z),q];simp}}
 by_cases c:b=e
 ·subst c;exact f
 ·exact {u,k b u c q}
end
noncomputable def Tl(h:C3)(H:Hp):List g6:=(y9 h.objs.size).filter fun a=>(H a).isSome
noncomputable def zS(h:C3)(H:Hp):C3:=PySem.W.hideAll h (Tl h H)
def RB(h:C3)(H:Hp):(zS h H).objs.size=h.objs.size:=PySem.W.hideAll_size _ _
def YB(e:h.get? b=some o)(n:H b=none):(zS h H).get? b=some o:=
 PySem.W.hideAll_get _ e fun c=>by have q:(H b).isSome=true:=(Q0.mp c).2;rw[n]at q;simp at q
def Cm(e:(zS h H).get? b=some o):h.get? b=some o/\H b=none:=by
 have c:h.get? b=some o:=PySem.W.of_hideAll (Tl h H) e;refine {c,?_};cases q:H b with
|none=>rfl
|some x=>
  have f:b∈Tl h H:=Q0.mpr {oj.mpr (p7 c),by simp[q]};have z:(zS h H).get? b=none:=PySem.W.hideAll_none (Tl h H) f;rw[z]at e;cases e
noncomputable def Dy(g h:C3)(L:g6):List (g6×Obj):=(y9 h.objs.size).filterMap fun a=>if a=L∨(g.get? a).isSome=true then none else (h.get? a).map fun o=>(a,o)
noncomputable def iV(g h:C3)(L d:g6):List (g6×Obj):=(Dy g h L).filter fun p=>decide (p.1≠d)
structure Mod(K:y8)(mg:Str->Option f9)(base:C3):Prop where
 kin:K.In base
 glob:base.Ns C2 mg
 blt:∃mb,base.Ns qj mb/\∀x:Str,x≠"__name__"->mb x=C5 x
 nolimit:base.NoLimit
set_option genInjectivity false in
set_option genSizeOfSpec false in
structure Cx where
 prog:m9
 w:w6
 K:y8
 mg:Str->Option f9
 base:C3
 A:B2
 N:List Str
 s₀:i6
 H₀:Hp
 env:Env
 outer:List Env
 stack:List Env
 ex:List g6
 fn:Str->Bool
 calm:Bool
 pn:List (g6×Obj)
 xe:f9->i6->Prop
noncomputable def yN(l:List Env):List g6:=l.filterMap (·.frame)
noncomputable abbrev Cx.fs(X:Cx):List g6:=yN X.outer
noncomputable def Tx(sc:di)(x:Str):Prop:=sc.names.lookup x=some .local∨sc.names.lookup x=some .cell∨sc.names.lookup x=some .free
noncomputable def Mz(sc:di)(x:Str):Prop:=sc.names.lookup x=some .local∨sc.names.lookup x=some .cell
noncomputable def Vy(env:Env)(h:C3)(m:Str->Option f9)(x:Str)(u:f9):Prop:=
 (env.kindOf x=some .local/\m x=some u)∨((env.kindOf x=some .cell∨env.kindOf x=some .free)/\∃c,env.cells.lookup x=some c/\h.IsCell c (some u))
structure Cx.Ok(X:Cx):Prop where
 mod:Mod X.K X.mg X.base
 kind:X.env.scope.kind=.function
 glob:X.env.globals=C2
 blt:X.env.builtins=qj
 above:X.s₀.heap.objs.size<=X.env.locals
 inj:∀x y c,X.env.cells.lookup x=some c->X.env.cells.lookup y=some c->x=y
 has:∀x,(X.env.kindOf x=some .cell∨X.env.kindOf x=some .free)->∃c,X.env.cells.lookup x=some c
 cab:∀x c,X.fn x=true->X.env.cells.lookup x=some c->X.s₀.heap.objs.size<=c
 hd:X.calm=true->X.A.handled=none
 frames:X.A.frames=some X.stack
 stk:X.stack=X.outer∨(X.stack=X.env::X.outer/\X.env.frame=some X.env.locals)
 exf:∀b∈X.ex,b≠X.env.locals/\∀x c,X.env.cells.lookup x=some c->c≠b
 bs:∀b o,X.base.get? b=some o->X.s₀.heap.get? b=some o/\X.H₀ b=none
 bsz:X.base.objs.size<=X.s₀.heap.objs.size
 noex:∀b o,X.base.get? b=some o->b∉X.ex
 exfs:∀b∈X.ex,b∉X.fs
 funs:X.s₀.heap.FunFrames X.base X.outer
 frf:∀b∈X.fs,X.H₀ b=none
structure aY(X:Cx)(ag:List (g6×Obj))(σ:List (Option V))(H:Hp)(s:i6):Prop where
 ok:X.Ok
 os:s.os=X.s₀.os
 bare:lg s.gens
 base:Un X.fs X.ex X.H₀ H X.s₀.heap s.heap
 loc:∃m,s.heap.Ns X.env.locals m/\∀(i:Nat)(x:Str)(v:V),X.N[i]?=some x->σ[i]?=some (some v)->Tx X.env.scope x->∃u,bJ v u/\Vy X.env s.heap m x u
 cell:∀x c,X.env.cells.lookup x=some c->∃v,s.heap.IsCell c v
 free:H X.env.locals=none
 freeC:∀x c,X.env.cells.lookup x=some c->H c=none
 pin:∀p∈X.pn++ag,s.heap.get? p.1=some p.2/\H p.1=none/\p.1≠X.env.locals/\p.1∉X.fs/\∀v,p.2.data≠.cell v
 hok:pL X.prog X.w H s.heap
 len:σ.length=X.N.length
section
variable {X:Cx}{ag:List (g6×Obj)}{σ:List (Option V)}{H H':Hp}{s:i6}{h':C3}
def Cx.Ok.nofr(ok:X.Ok)(e:X.base.get? b=some o):b∉X.fs:=fun c=>by
 have:=(ok.funs.mem c).1;rw[e]at this;cases this
def aY.bs(I:aY X ag σ H s):∀b o,X.base.get? b=some o->s.heap.get? b=some o/\H b=none:=fun b o e=>{I.base.keep b o (I.ok.bs b o e).1 (I.ok.bs b o e).2 (I.ok.nofr e) (I.ok.noex b o e),I.base.free b o (I.ok.bs b o e).1 (I.ok.bs b o e).2 (I.ok.noex b o e)}
def aY.bk(I:aY X ag σ H s):∀b o,X.base.get? b=some o->s.heap.get? b=some o:=fun b o e=>(I.bs b o e).1
def aY.mod(I:aY X ag σ H s):Mod X.K X.mg X.base:=I.ok.mod
def aY.kIn(I:aY X ag σ H s):X.K.In s.heap:=I.ok.mod.kin.keeps I.bk
def aY.lt(I:aY X ag σ H s):X.env.locals<s.heap.objs.size:=let ⟨_,hn,_⟩:=I.loc;hn.lt
def aY.sz(I:aY X ag σ H s):X.s₀.heap.objs.size<=s.heap.objs.size:=B9 I.ok.above (M5 I.lt)
def aY.nofs(I:aY X ag σ H s)(h:s.heap.objs.size<=a):a∉X.fs:=fun b=>by obtain ⟨_,o,c,_⟩:=I.ok.funs.mem b;exact absurd (j3 (p7 c) (B9 I.sz h)) (om _)
def aY.cne(I:aY X ag σ H s):∀x c,X.env.cells.lookup x=some c->c≠X.env.locals:=fun x c e z=>by
 obtain ⟨v,o,i,g⟩:=I.cell x c e;obtain ⟨m,⟨A,w,q,f,b,_⟩,_⟩:=I.loc;rw[z,f]at i;cases i;rw[b]at g;cases g
def aY.funs(I:aY X ag σ H s):s.heap.FunFrames X.base X.outer:=by
 have c:∀(l:List Env),(∀b∈yN l,b∈X.fs)->X.s₀.heap.FunFrames X.base l->s.heap.FunFrames X.base l:=by
  intro l
  induction l with
 |nil=>intro _ _;trivial
 |cons m r ih=>intro hs w;obtain ⟨hk,⟨L,o,i,hn,A,q⟩,B⟩:=w;have f:L∈X.fs:=hs L (by unfold yN;rw[Z5,i];exact L8);obtain ⟨C,e⟩:=I.base.slot L o A (I.ok.frf L f) f fun z=>I.ok.exfs L z f;exact {hk,{L,_,i,hn,e,q},ih (fun b g=>hs b (by unfold yN;rw[Z5,i];exact E4 _ g)) B}
 exact c X.outer (fun _ g=>g) I.ok.funs
def aY.stack(I:aY X ag σ H s):s.heap.FunFrames X.base X.stack:=by
 rcases I.ok.stk with e|⟨e,b⟩
 ·rw[e];exact I.funs
 ·rw[e];obtain ⟨m,hn,_⟩:=I.loc;refine .cons (by rw[I.ok.kind];decide) b hn ?_ I.funs;exact xu (B9 I.ok.bsz I.ok.above)
def aY.stkSub(I:aY X ag σ H s):∀b∈yN X.stack,b∈X.env.locals::X.fs:=fun b c=>by
 rcases I.ok.stk with e|⟨e,f⟩
 ·rw[e]at c;exact E4 _ c
 ·rw[e]at c;unfold yN at c;rw[Z5,f]at c;exact c
def aY.stkFree(I:aY X ag σ H s):∀b∈yN X.stack,H b=none:=fun b c=>by
 rcases x6.mp (I.stkSub b c) with e|c
 ·rw[e];exact I.free
 ·obtain ⟨_,o,f,_⟩:=I.ok.funs.mem c;exact I.base.free b o f (I.ok.frf b c) fun z=>I.ok.exfs b z c
def aY.step{g':Array GenState}{t':Nat}{d':Drawn}{ch:List g6}(I:aY X ag σ H s)(B:∀b∈ch,(b∈X.ex∨X.s₀.heap.objs.size<=b)/\b≠X.env.locals/\(∀x c,X.env.cells.lookup x=some c->c≠b)/\∀p∈X.pn++ag,p.1≠b)(C:∀b o,b≠X.env.locals->b∉X.fs->b∉ch->s.heap.get? b=some o->H b=none->h'.get? b=some o)(slot:∀b o,b≠X.env.locals->b∈X.fs->b∉ch->s.heap.get? b=some o->H b=none->∃W,h'.get? b=some {o with slots:=W})(g:∀b o,b∉ch->s.heap.get? b=some o->H b=none->H' b=none)(K:∀b o,b∉ch->s.heap.get? b=some o->∃Q,h'.get? b=some Q)(S:∀b xs,H b=some (.tup xs)->H' b=some (.tup xs))(O:∀b o u,H b=some (.frz o u)->H' b=some (.frz o u))(R:∀b ps,H b=some (.tbl ps)->∃more,H' b=some (.tbl (ps++more)))(ns:∀m,s.heap.Ns X.env.locals m->h'.Ns X.env.locals m)(U:pL X.prog X.w H' h')(hg:lg g'):
  aY X ag σ H' {s with heap:=h',gens:=g',drawn:=d',toks:=t'}:=by
 have P:∀b o,X.s₀.heap.get? b=some o->b≠X.env.locals:=fun b o e=>q7 (j3 (p7 e) I.ok.above);have G:∀b o,X.s₀.heap.get? b=some o->b∉X.ex->b∉ch:=fun b o e f J=>by
  rcases (B b J).1 with z|z
  ·exact f z
  ·exact absurd (j3 (p7 e) z) (om _)
 have A:∀x c,X.env.cells.lookup x=some c->∀v,s.heap.IsCell c v->h'.IsCell c v:=fun x c e v ⟨o,M,T⟩=>by
  have D:c∉ch:=fun z=>(B c z).2.2.1 x c e rfl;by_cases Z:c∈X.fs
  ·obtain ⟨W,q⟩:=slot c o (I.cne x c e) Z D M (I.freeC x c e);exact {_,q,T}
  ·exact {o,C c o (I.cne x c e) Z D M (I.freeC x c e),T}
 refine {I.ok,I.os,hg,{fun b o e n J f=>?_,fun b o e n J f=>?_,fun b o e n f=>?_,fun b o e f=>?_,fun b xs e=>S b xs (I.base.tups b xs e),fun b o xs e=>O b o xs (I.base.frzs b o xs e),fun b ps e=>?_},?_,fun x c e=>?_,?_,fun x c e=>?_,fun p hp=>?_,U,I.len}
 ·exact C b o (P b o e) J (G b o e f) (I.base.keep b o e n J f) (I.base.free b o e n f)
 ·obtain ⟨W,E⟩:=I.base.slot b o e n J f;obtain ⟨Y,N⟩:=slot b _ (P b o e) J (G b o e f) E (I.base.free b o e n f);exact {Y,N}
 ·obtain ⟨Q,E⟩:=I.base.there b o e f;exact g b Q (G b o e f) E (I.base.free b o e n f)
 ·obtain ⟨Q,E⟩:=I.base.there b o e f;exact K b Q (G b o e f) E
 ·obtain ⟨m1,E⟩:=I.base.tbls b ps e;obtain ⟨m2,N⟩:=R b _ E;exact {m1++m2,by rw[N,Array.append_assoc]}
 ·obtain ⟨m,hn,hl⟩:=I.loc;refine {m,ns m hn,fun i x v E N e3=>?_};obtain ⟨u,r,l⟩:=hl i x v E N e3;refine {u,r,?_};rcases l with l|⟨k,c,e,z⟩
  ·exact .inl l
  ·exact .inr {k,c,e,A x c e _ z}
 ·obtain ⟨v,z⟩:=I.cell x c e;exact {v,A x c e v z}
 ·obtain ⟨m,⟨o,_,_,M,_⟩,_⟩:=I.loc;exact g _ o (fun z=>(B _ z).2.1 rfl) M I.free
 ·obtain ⟨v,o,M,T⟩:=I.cell x c e;exact g c o (fun z=>(B c z).2.2.1 x c e rfl) M (I.freeC x c e)
 ·obtain ⟨e,n,ne,nf,d⟩:=I.pin p hp;have D:p.1∉ch:=fun z=>(B p.1 z).2.2.2 p hp rfl;exact {C p.1 p.2 ne nf D e n,g p.1 p.2 D e n,ne,nf,d}
def aY.un(I:aY X ag σ H s)(u:Un X.fs [] H H' s.heap h')(q:pL X.prog X.w H' h'):aY X ag σ H' {s with heap:=h',toks:=t'}:=by
 obtain ⟨m,⟨o,G,E,A,r⟩,_⟩:=id I.loc;obtain ⟨M,B⟩:=u.any A I.free (by simp);exact I.step (g':=s.gens) (d':=s.drawn) (ch:=[]) (fun _ z=>nomatch z) (fun b o _ i _ e n=>u.keep b o e n i (by simp)) (fun b o _ i _ e n=>u.slot b o e n i (by simp)) (fun b o _ e n=>u.free b o e n (by simp)) (fun b o _ e=>u.there b o e (by simp)) u.tups u.frzs u.tbls (fun J C=>by
  obtain ⟨K,g,f,c,D⟩:=C;rw[A]at c;cases c;exact {_,g,f,B,D}) q I.bare
def aY.call(I:aY X ag σ H s)(u:Un (yN X.stack) ch H H' s.heap h')(C:pL X.prog X.w H' h')(G:lg g')(g:∀b∈ch,(b∈X.ex∨X.s₀.heap.objs.size<=b)/\b≠X.env.locals/\(∀x c,X.env.cells.lookup x=some c->c≠b)/\∀p∈X.pn++ag,p.1≠b):
  aY X ag σ H' {s with heap:=h',gens:=g',drawn:=d',toks:=t'}:=by
 obtain ⟨m,⟨o,N,M,D,r⟩,_⟩:=id I.loc;obtain ⟨Q,B⟩:=u.any D I.free fun z=>(g _ z).2.1 rfl;exact I.step (ch:=ch) g (fun b o B E f e n=>u.keep b o e n (fun z=>(x6.mp (I.stkSub b z)).elim B E) f) (fun b o _ _ f e n=>u.any e n f) (fun b o f e n=>u.free b o e n f) (fun b o f e=>u.there b o e f) u.tups u.frzs u.tbls (fun O J=>by
  obtain ⟨P,A,q,i,K⟩:=J;rw[D]at i;cases i;exact {_,A,q,B,K}) C G
def aY.turned(I:aY X ag σ H s)(k:∀b o,b≠it->s.heap.get? b=some o->h'.get? b=some o)(hn:H it=none)(i:it≠X.env.locals)(B:it∈X.ex∨X.s₀.heap.objs.size<=it)(C:∀x c,X.env.cells.lookup x=some c->c≠it)(D:∀p∈X.pn++ag,p.1≠it):aY X ag σ H {s with heap:=h',toks:=t'}:=by
 have g:∀b u,H b=some u->b≠it:=fun b u e z=>by rw[z,hn]at e;cases e
 refine I.step (g':=s.gens) (d':=s.drawn) (ch:=[it]) (fun b E=>?_) (fun b o _ _ f e _=>k b o (fun z=>f (by simp[z])) e) (fun b o _ _ f e _=>{o.slots,k b o (fun z=>f (by simp[z])) e}) (fun _ _ _ _ n=>n)
  (fun b o f e=>{o,k b o (fun z=>f (by simp[z])) e}) (fun _ _ e=>e) (fun _ _ _ e=>e) (fun b K e=>{#[],by rw[e];simp}) (fun m G=>?_) (fun b u e=>?_) I.bare
 ·have e:b=it:=by simpa using E
  subst e;exact {B,i,C,D}
 ·obtain ⟨o,A,w,J,r⟩:=G;exact {o,A,w,k _ o (u7 i) J,r}
 ·refine (I.hok b u e).stay (fun c v f q=>k c v ?_ q) (fun _ q=>q) fun _ _ q=>q;rcases f with z|z
  ·rw[z];exact g b u e
  ·exact g c _ z
def aY.tok(I:aY X ag σ H s)(t:Nat):aY X ag σ H {s with toks:=t}:=I.un (h':=s.heap) (t':=t) Un.refl I.hok
def aY.kept(I:aY X ag σ H s)(k:∀b u,s.heap.get? b=some u->h'.get? b=some u):aY X ag σ H {s with heap:=h',toks:=t'}:=I.un (Un.kept k) (I.hok.kept k)
def aY.laid(I:aY X ag σ H s)(k:∀b u,s.heap.get? b=some u->h'.get? b=some u)(hp:s.heap.objs.size<=a)(new:dJ X.prog X.w (upd H a o) h' a o):
  aY X ag σ (upd H a o) {s with heap:=h',toks:=t'}:=I.un (Un.laid k hp (I.hok.fresh hp)) (I.hok.laid k hp new)
def aY.write(I:aY X ag σ H s)(mu:Sx (H x))(f:e=x∨H e=some (.own x))(k:∀b u,b≠e->s.heap.get? b=some u->h'.get? b=some u)(c:∃u,h'.get? e=some u)(new:dJ X.prog X.w (upd H x o) h' x o):aY X ag σ (upd H x o) {s with heap:=h',toks:=t'}:=I.un (Un.write mu f k c) (I.hok.write mu f k c new)
def aY.pins_of(I:aY X ag σ H s)(h:∀p∈pins',s.heap.get? p.1=some p.2/\H p.1=none/\p.1≠X.env.locals/\p.1∉X.fs/\∀v,p.2.data≠.cell v):aY X pins' σ H s:=
 {I.ok,I.os,I.bare,I.base,I.loc,I.cell,I.free,I.freeC,fun p hp=>(u9.mp hp).elim (fun z=>I.pin p (D3 _ z)) (h p),I.hok,I.len}
def HH{N:List Str}(g:N.Nodup){i j:Nat}{x:Str}(a:N[i]?=some x)(b:N[j]?=some x):i=j:=by obtain ⟨m,c⟩:=i5.mp a;obtain ⟨o,f⟩:=i5.mp b;exact (List.getElem_inj g).mp (c.trans f.symm)
def AC(I:aY X ag σ H s)(hN:X.N.Nodup)(W:X.N[i]?=some x)(C:Mz X.env.scope x)(r:bJ v u)(h:∀s',aY X ag (σ.set i (some v)) H s'->(∃a,Q4 a s.heap s'.heap/\(a=X.env.locals∨X.env.cells.lookup x=some a))->Q () s')(hf:X.fn x=true∨X.env.scope.names.lookup x=some .local:=by first|exact .inl rfl|exact .inr rfl|assumption):j0 M A (storeName X.env x u) Q E s:=by
 obtain ⟨m,hn,hl⟩:=id I.loc;have U:(X.env.scope.kind==.class||(X.env.scope.kind==.module&&X.env.locals !=X.env.globals))=false:=by rw[I.ok.kind];rfl
 have J:i<σ.length:=by rw[I.len];exact (i5.mp W).1
 have K:=I.cne;have g:∀{a:g6}{h':C3},(∃o,s.heap.get? a=some o/\H a=none)->Q4 a s.heap h'->pL X.prog X.w H h':=fun {a h'} ha hs b ob e=>by
  obtain ⟨_,_,D⟩:=ha;refine (I.hok b ob e).stay (fun c w' B q=>(hs.2 c ?_).trans q) (fun _ q=>q) fun _ _ q=>q;rintro rfl;rcases B with rfl|B
  ·rw[D]at e;cases e
  ·rw[D]at B;cases B
 rcases C with hk|hk
 ·refine wpAny_storeName_local hk hn (fun h' a' hs=>?_) U;obtain ⟨oL,_,_,b',_⟩:=id hn;refine h _ {I.ok,I.os,I.bare,{fun b o e n O C=>?_,fun b o e n O C=>?_,I.base.free,fun b o e C=>?_,I.base.tups,I.base.frzs,I.base.tbls},{_,a',fun j y v' f G e3=>?_},fun y c e=>?_,I.free,I.freeC,fun p hp=>?_,g {oL,b',I.free} hs,by simpa using I.len} {_,hs,.inl rfl}
  ·exact (hs.2 b (q7 (j3 (p7 e) I.ok.above))).trans (I.base.keep b o e n O C)
  ·obtain ⟨sl,f⟩:=I.base.slot b o e n O C;exact {sl,(hs.2 b (q7 (j3 (p7 e) I.ok.above))).trans f}
  ·obtain ⟨o',f⟩:=I.base.there b o e C;exact {o',(hs.2 b (q7 (j3 (p7 e) I.ok.above))).trans f}
  ·by_cases R:j=i
   ·subst R;rw[W]at f;cases f;rw[wa J]at G;cases G;exact {u,r,.inl {hk,by simp}}
   ·rw[xr (u7 R)]at G;obtain ⟨u',r',q⟩:=hl j y v' f G e3;refine {u',r',?_};rcases q with ⟨k,e⟩|⟨k,c,e,z⟩
    ·refine .inl {k,?_};have:y≠x:=fun e=>R (HH hN f (e▸W));simp[this,e]
    ·exact .inr {k,c,e,z.sameBut hs (K y c e)}
  ·obtain ⟨w',z⟩:=I.cell y c e;exact {w',z.sameBut hs (K y c e)}
  ·obtain ⟨e,n,ne,nf,d⟩:=I.pin p hp;exact {(hs.2 p.1 ne).trans e,n,ne,nf,d}
 ·have P:X.fn x=true:=by
   rcases hf with z|z
   ·exact z
   ·rw[z]at hk;cases hk
  obtain ⟨c,B⟩:=I.ok.has x (.inl hk);obtain ⟨w',z⟩:=I.cell x c B;refine wpAny_storeName_cell I.ok.kind hk B z (fun h' S hs=>?_);obtain ⟨oc,Y,Z⟩:=id z;refine h {s with heap:=h'} {I.ok,I.os,I.bare,{fun b o e n O C=>?_,fun b o e n O C=>?_,I.base.free,fun b o e C=>?_,I.base.tups,I.base.frzs,I.base.tbls},{m,hn.sameBut hs (u7 (K x c B)),fun j y v' f G e3=>?_},fun y c' e=>?_,I.free,I.freeC,fun p hp=>?_,g {oc,Y,I.freeC x c B} hs,by simpa using I.len} {c,hs,.inr B}
  ·exact (hs.2 b (q7 (j3 (p7 e) (I.ok.cab x c P B)))).trans (I.base.keep b o e n O C)
  ·obtain ⟨sl,f⟩:=I.base.slot b o e n O C;exact {sl,(hs.2 b (q7 (j3 (p7 e) (I.ok.cab x c P B)))).trans f}
  ·obtain ⟨o',f⟩:=I.base.there b o e C;exact {o',(hs.2 b (q7 (j3 (p7 e) (I.ok.cab x c P B)))).trans f}
  ·by_cases R:j=i
   ·subst R;rw[W]at f;cases f;rw[wa J]at G;cases G;exact {u,r,.inr {.inl hk,c,B,S}}
   ·rw[xr (u7 R)]at G;obtain ⟨u',r',q⟩:=hl j y v' f G e3;refine {u',r',?_};rcases q with q|⟨k,c',e,z'⟩
    ·exact .inl q
    ·refine .inr {k,c',e,z'.sameBut hs ?_};rintro rfl;exact R (HH hN f (I.ok.inj _ _ _ e B▸W))
  ·by_cases T:c'=c
   ·subst T;exact {_,S}
   ·obtain ⟨w2,z2⟩:=I.cell y c' e;exact {w2,z2.sameBut hs T}
  ·obtain ⟨e,n,ne,nf,d⟩:=I.pin p hp;refine {(hs.2 p.1 ?_).trans e,n,ne,nf,d};intro q;rw[q,Y]at e;have q':oc=p.2:=l7 e;exact d w' (by rw[←q'];exact Z)
def rW(I:aY X ag σ H s)(f:X.N.Nodup)(m:X.N[i]?=some x)(o:Mz X.env.scope x)(r:bJ v u)(h:∀b,aY X ag (σ.set i (some v)) H b->Q () b)(g:X.fn x=true∨X.env.scope.names.lookup x=some .local:=by first|exact .inl rfl|exact .inr rfl|assumption):j0 M A (storeName X.env x u) Q E s:=
 AC I f m o r (fun b c _=>h b c) g
def aY.call'(I:aY X ag σ H s)(A:s'.os=s.os)(u:Un (yN X.stack) ch H H' s.heap s'.heap)(g:pL X.prog X.w H' s'.heap)(q:lg s'.gens)(f:∀b∈ch,(b∈X.ex∨X.s₀.heap.objs.size<=b)/\b≠X.env.locals/\(∀x c,X.env.cells.lookup x=some c->c≠b)/\∀p∈X.pn++ag,p.1≠b):aY X ag σ H' s':=by obtain ⟨h',m,i,o,B⟩:=s';have e:B=s.os:=A;subst e;exact I.call (g':=m) (t':=o) (d':=i) u g q f
end
noncomputable abbrev XK:=f9->Option g6->Hp->Prop
noncomputable abbrev St:=List (Option V)
noncomputable abbrev VK:=V->Hp->Prop
noncomputable abbrev TE:=St->Hp->VK->Prop
noncomputable abbrev TT:=St->Hp->(Bool->Hp->Prop)->Prop
noncomputable abbrev TA:=St->Hp->(List V->Hp->Prop)->Prop
structure gM where
 nx:St->Hp->Prop
 rt:VK
 bk:St->Hp->Prop:=fun _ _=>False
 ct:St->Hp->Prop:=fun _ _=>False
noncomputable abbrev TS:=gM->St->Hp->Prop
noncomputable def EP(X:Cx)(ag:List (g6×Obj))(σ:St)(Q:VK)(u:f9)(s':i6):Prop:=∃v H',aY X ag σ H' s'/\bJ v u/\Q v H'
noncomputable def TP(X:Cx)(ag:List (g6×Obj))(σ:St)(Q:Bool->Hp->Prop)(b:Bool)(s':i6):Prop:=∃H',aY X ag σ H' s'/\Q b H'
noncomputable def AP(X:Cx)(ag:List (g6×Obj))(σ:St)(Q:List V->Hp->Prop)(us:List f9)(s':i6):Prop:=∃vs H',aY X ag σ H' s'/\bH vs us/\Q vs H'
noncomputable def SP(X:Cx)(ag:List (g6×Obj))(D:gM)(f:Flow)(s':i6):Prop:=
 match f with
|.next=>∃σ' H',aY X ag σ' H' s'/\D.nx σ' H'
|.brk=>∃σ' H',aY X ag σ' H' s'/\D.bk σ' H'
|.cont=>∃σ' H',aY X ag σ' H' s'/\D.ct σ' H'
|.ret u=>∃v σ' H',aY X ag σ' H' s'/\bJ v u/\D.rt v H'
noncomputable def PE(X:Cx)(e:D9)(t:TE):Prop:=
 ∀(ag:List (g6×Obj)) (s:i6) (σ:St) (H:Hp) (Q:VK),aY X ag σ H s->t σ H Q->j0 (j8 X.prog X.w) X.A (K3 e X.env) (EP X ag σ Q) X.xe s
noncomputable def PT(X:Cx)(e:D9)(t:TT):Prop:=
 ∀(ag:List (g6×Obj)) (s:i6) (σ:St) (H:Hp) (Q:Bool->Hp->Prop),aY X ag σ H s->t σ H Q->j0 (j8 X.prog X.w) X.A (isTrue e X.env (K3 e X.env)) (TP X ag σ Q) X.xe s
noncomputable def PW(X:Cx)(e:D9)(t:TT):Prop:=
 ∀(whole:Sem f9)(ag:List (g6×Obj)) (s:i6) (σ:St) (H:Hp) (Q:Bool->Hp->Prop),aY X ag σ H s->t σ H Q->j0 (j8 X.prog X.w) X.A (isTrue e X.env whole) (TP X ag σ Q) X.xe s
def PW.pt(h:PW X e t):PT X e t:=h _
noncomputable def PA(X:Cx)(es:List D9)(t:TA):Prop:=
 ∀(pos:Pos)(ag:List (g6×Obj)) (s:i6) (σ:St) (H:Hp) (Q:List V->Hp->Prop),aY X ag σ H s->t σ H Q->j0 (j8 X.prog X.w) X.A (yp (O5 pos (v9 es X.env))) (AP X ag σ Q) X.xe s
noncomputable def PS(X:Cx)(st:E2)(t:TS):Prop:=
 ∀(ag:List (g6×Obj)) (s:i6) (σ:St) (H:Hp) (D:gM),aY X ag σ H s->t D σ H->j0 (j8 X.prog X.w) X.A (exec st X.env) (SP X ag D) X.xe s
noncomputable def zJ(X:Cx)(st:List E2)(t:TS):Prop:=
 ∀(ag:List (g6×Obj)) (s:i6) (σ:St) (H:Hp) (D:gM),aY X ag σ H s->t D σ H->j0 (j8 X.prog X.w) X.A (execs st X.env) (SP X ag D) X.xe s
def dD{c:Type}{t:Sem c}{Q b:c->i6->Prop}{M:Model}{A:B2}{E:f9->i6->Prop}{s:i6}(h:j0 M A t Q E s)(f:∀a s,Q a s->b a s):j0 M A t b E s:=K0 h f fun _ _ x=>x
section
variable {X:Cx}
noncomputable def Hv(i:Nat):TE:=fun σ H Q=>∃v,σ[i]?=some (some v)/\Q v H
noncomputable def tC(v:V):TE:=fun _ H Q=>Q v H
def Kk(A:X.N[i]?=some x)(D:Tx X.env.scope x)(q:(x==("__debug__":Str))=false:=by decide)(o:(x==("__classdict__":Str))=false:=by decide):PE X (.Name x pos) (Hv i):=by
 intro g s E H Q I h;obtain ⟨v,e,h⟩:=h;obtain ⟨m,hn,B⟩:=I.loc;obtain ⟨u,r,l⟩:=B i x v A e D;have f:EP X g E Q u s:={v,H,I,r,h}
 rcases l with ⟨hk,C⟩|⟨hk,c,w,b⟩
 ·exact wg (zn I.ok.kind hk hn C f) q
 ·rcases hk with hk|hk
  ·exact wg (wpAny_loadName_cell I.ok.kind hk w b f) q
  ·exact wg (wpAny_loadName_free I.ok.kind hk w b f o) q
def aF{i j pos}:PE X (.Constant (.int i) j pos) (tC (.int i)):=fun _ _ _ H _ I h=>wpAny_Constant_int {.int i,H,I.tok _,{_,rfl},h}
def xT{b j pos}:PE X (.Constant (.bool b) j pos) (tC (.bl b)):=fun _ _ _ H _ I h=>Constant_bool {.bl b,H,I,rfl,h}
def eK{j pos}:PE X (.Constant .none j pos) (tC .non):=fun _ _ _ H _ I h=>Constant_none {.non,H,I,rfl,h}
def aP{x j pos}:PE X (.Constant (.str x) j pos) (tC (.str x)):=fun _ _ _ H _ I h=>Calls.Constant_str {.str x,H,I.tok _,{_,rfl},h}
noncomputable def Gl(X:Cx)(x:Str):Prop:=X.env.kindOf x=some .globalImplicit
def OJ(I:aY X ag σ H s)(c:Gl X x)(f:X.mg x=some u)(h:Q u s)(b:(x==("__debug__":Str))=false:=by decide):j0 (j8 X.prog X.w) X.A (K3 (.Name x pos) X.env) Q E s:=
 ro I.ok.kind c (Calls.loadGlobal_global (by rw[I.ok.glob];exact I.mod.glob.keeps I.bk) f h) b
def lX(I:aY X ag σ H s)(g:Gl X x)(i:X.mg x=none)(m:C5 x=some u)(h:Q u s)(hn:x≠"__name__":=by decide)(f:(x==("__debug__":Str))=false:=by decide):j0 (j8 X.prog X.w) X.A (K3 (.Name x pos) X.env) Q E s:=by obtain ⟨o,b,c⟩:=I.mod.blt;exact ro I.ok.kind g (Calls.loadGlobal_builtin (by rw[I.ok.glob];exact I.mod.glob.keeps I.bk) i (by rw[I.ok.blt];exact b.keeps I.bk) ((c x hn).trans m) h) f
def vX(c:Gl X x)(f:X.mg x=none)(g:C5 x=some u)(r:bJ v u)(hn:x≠"__name__":=by decide)(b:(x==("__debug__":Str))=false:=by decide):PE X (.Name x pos) (tC v):=
 fun _ _ _ H _ I h=>lX I c f g {v,H,I,r,h} hn b
variable {a b:D9}{ta tb:TE}{pos:Pos}
noncomputable def PC(X:Cx)(op:CmpOp)(a b:D9)(t:TE):Prop:=
 ∀(ag:List (g6×Obj)) (s:i6) (σ:St) (H:Hp) (Q:VK),aY X ag σ H s->t σ H Q ->
  j0 (j8 X.prog X.w) X.A (K3 a X.env) (fun v s₁=>j0 (j8 X.prog X.w) X.A (K3 b X.env) (fun u s₂=>j0 (j8 X.prog X.w) X.A (E7 op v u) (EP X ag σ Q) X.xe s₂) X.xe s₁) X.xe s
noncomputable def tB(t:TE):TT:=fun σ H Q=>t σ H fun x H1=>∃c,x=.bl c/\Q c H1
def Kn(h:PC X op a b t)(f:ef op b=false:=by first|exact nobehind _ (by decide) (by decide)|rfl):PE X (.Compare a [op] [b] pos) t:=fun c s i H Q I g=>wpAny_Compare1 (h c s i H Q I g) f
def uB(h:PC X op a b t)(g:ef op b=false:=by first|exact nobehind _ (by decide) (by decide)|rfl):PT X (.Compare a [op] [b] pos) (tB t):=by intro f s C H Q I w;refine zj (dD (h f s C H _ I w) fun v D g=>dD g fun u E o=>dD o fun c G ⟨x,i,m,B,A⟩=>?_) g;obtain ⟨d,rfl,q⟩:=A;cases B;exact K9 {i,m,q}
def eG(h:PE X e t)(i:∀whole,isTrue e X.env whole=(do let v ←whole;nz e.pos;kj [v] (truthy v)):=by intro _;rfl):PT X e (tB t):=by intro c s A H Q I m;refine isTrue_plain (dD (h c s A H _ I m) fun v B ⟨x,f,g,w,o⟩=>?_) (i _);obtain ⟨d,rfl,q⟩:=o;cases w;exact K9 {f,g,q}
variable {tA tB':TT}{iV:List D9}
noncomputable def Oh(t u:TT):TT:=fun σ H Q=>t σ H fun c H1=>if c=true then u σ H1 Q else Q false H1
noncomputable def Wg(t u:TT):TT:=fun σ H Q=>t σ H fun c H1=>if c=true then Q true H1 else u σ H1 Q
noncomputable def Oe(t:TT):TT:=fun σ H Q=>t σ H fun c H1=>Q (!c) H1
def jQ(g:PT X a tA):PW X (.BoolOp .And [a] pos) tA:=by
 intro o f s i H Q I h;refine isTrue_and (dD (g f s i H Q I h) fun c m e=>?_);cases c with
|true=>exact isTrue_and_nil e
|false=>exact e
def jF(g:PT X a tA):PW X (.BoolOp .Or [a] pos) tA:=by
 intro o f s i H Q I h;refine isTrue_or (dD (g f s i H Q I h) fun c m e=>?_);cases c with
|false=>exact isTrue_or_nil e
|true=>exact e
def nD(q:PT X a tA)(w:PW X (.BoolOp .And (b::iV) pos) tB'):PW X (.BoolOp .And (a::b::iV) pos) (Oh tA tB'):=by
 intro B f s o H Q I h;refine isTrue_and (dD (q f s o H _ I h) fun c A ⟨g,i,m⟩=>?_);cases c with
|true=>exact w B f A o g Q i m
|false=>exact {g,i,m}
def oF(q:PT X a tA)(w:PW X (.BoolOp .Or (b::iV) pos) tB'):PW X (.BoolOp .Or (a::b::iV) pos) (Wg tA tB'):=by
 intro B f s o H Q I h;refine isTrue_or (dD (q f s o H _ I h) fun c A ⟨g,i,m⟩=>?_);cases c with
|true=>exact {g,i,m}
|false=>exact w B f A o g Q i m
def lR(i:PT X a tA):PT X (.UnaryOp .Not a pos) (Oe tA):=by intro f s m H Q I h;exact isTrue_not (i f s m H (fun c g=>Q (!c) g) I h)
noncomputable def Ey(ta tb:TE):TE:=fun σ H Q=>ta σ H fun x H1=>∃c,x=.bl c/\if c=true then tb σ H1 Q else Q (.bl false) H1
noncomputable def Ob(ta tb:TE):TE:=fun σ H Q=>ta σ H fun x H1=>∃c,x=.bl c/\if c=true then Q (.bl true) H1 else tb σ H1 Q
noncomputable def En(ta:TE):TE:=fun σ H Q=>ta σ H fun x H1=>∃c,x=.bl c/\Q (.bl (!c)) H1
def oX{op}(h:PE X a t):PE X (.BoolOp op [a] pos) t:=fun c s g H Q I f=>BoolOp_one (h c s g H Q I f)
def uD(q:PE X a ta)(w:PE X (.BoolOp .And (b::iV) pos) tb):PE X (.BoolOp .And (a::b::iV) pos) (Ey ta tb):=by
 intro f s o H Q I h;refine BoolOp_and (dD (q f s o H _ I h) fun v B ⟨x,i,m,A,g⟩=>?_);obtain ⟨c,rfl,g⟩:=g;cases A;refine K9 ?_;cases c with
|true=>exact w f B o i Q m g
|false=>exact {.bl false,i,m,rfl,g}
def Qv(q:PE X a ta)(w:PE X (.BoolOp .Or (b::iV) pos) tb):PE X (.BoolOp .Or (a::b::iV) pos) (Ob ta tb):=by
 intro f s o H Q I h;refine BoolOp_or (dD (q f s o H _ I h) fun v B ⟨x,i,m,A,g⟩=>?_);obtain ⟨c,rfl,g⟩:=g;cases A;refine K9 ?_;cases c with
|false=>exact w f B o i Q m g
|true=>exact {.bl true,i,m,rfl,g}
def JQ(o:PE X a ta):PE X (.UnaryOp .Not a pos) (En ta):=by intro f s w H Q I h;refine UnaryOp_ (dD (o f s w H _ I h) fun v A ⟨x,i,m,q,g⟩=>?_);obtain ⟨c,rfl,g⟩:=g;cases q;exact not_of (K9 {.bl (!c),i,m,rfl,g})
noncomputable def Wh(t:TT)(ta tb:TE):TE:=fun σ H Q=>t σ H fun c H1=>if c=true then ta σ H1 Q else tb σ H1 Q
def xS(B:PT X c tA)(w:PE X a ta)(A:PE X b tb):PE X (.IfExp c a b pos) (Wh tA ta tb):=by
 intro f s g H Q I h;refine wpAny_IfExp (dD (B f s g H _ I h) fun d q ⟨i,m,o⟩=>?_);cases d with
|true=>exact w f q g i Q m o
|false=>exact A f q g i Q m o
end
noncomputable def cS(K:y8)(H:Hp)(a:g6)(xs:List V):Prop:=
 Rd H a (.lst xs) ∨
  ∃(o:Obj)(its:Array f9)(n:Nat),K.lookup a=some o/\o.cls=.type "list"/\o.dict=none/\o.data=.seq its n/\its.size<=n7/\bH xs its.toList
noncomputable def vO(K:y8)(H:Hp)(a:g6)(xs:List V):Prop:=
 Rd H a (.tup xs) ∨
  ∃(o:Obj)(its:Array f9)(n:Nat),K.lookup a=some o/\o.cls=.type "tuple"/\o.data=.seq its n/\its.size<=n7/\bH xs its.toList
noncomputable def Vq:f9->Option V
|.none=>some .non
|.bool b=>some (.bl b)
|.int i _=>some (.int i)
|.str x _=>some (.str x)
|.bytes b _=>some (.byt b)
|.float b _=>some (.flt b)
|.ref a=>some (.ref a)
|.type n=>some (.ty n)
|_=>none
def bJ.abs(r:bJ x u):Vq u=some x:=by
 cases x with
|non=>cases r;rfl
|bl _=>cases r;rfl
|int _=>obtain ⟨t,rfl⟩:=r;rfl
|str _=>obtain ⟨t,rfl⟩:=r;rfl
|byt _=>obtain ⟨t,rfl⟩:=r;rfl
|flt _=>obtain ⟨t,rfl⟩:=r;rfl
|ref _=>cases r;rfl
|ty _=>cases r;rfl
def bJ.inj(r:bJ x u)(q:bJ y u):x=y:=l7 (r.abs.symm.trans q.abs)
theorem bH.inj:∀{xs ys:List V}{us:List f9},bH xs us->bH ys us->xs=ys
|_,_,_,.nil,.nil=>rfl
|_,_,_,.cons r t,.cons b t'=>by rw[r.inj b,bH.inj t t']
section
variable {X:Cx}{ag:List (g6×Obj)}{σ:St}{H:Hp}{s:i6}{a:g6}{xs ys:List V}
def cS.of{K:y8}(h:H a=some (.lst xs)):cS K H a xs:=.inl (.inl h)
def vO.of{K:y8}(h:H a=some (.tup xs)):vO K H a xs:=.inl (.inl h)
def aY.list(I:aY X ag σ H s)(h:cS X.K H a xs):∃b:List f9,bH xs b/\PlainL s.heap a b.toArray/\xs.length<=n7:=by
 rcases h with h|⟨o,b,n,hk,c,f,hs,g,r⟩
 ·obtain ⟨z,b,n,r,e⟩:=h.ok I.hok;exact {b,r,{_,n,e,rfl,rfl,rfl},z}
 ·refine {b.toList,r,{o,n,I.kIn a o hk,c,f,by simpa using hs},?_};have e:=r.length;simp only[m6]at e;lia
def aY.tuple(I:aY X ag σ H s)(h:vO X.K H a xs):∃b:List f9,bH xs b/\xf s.heap a b.toArray/\xs.length<=n7:=by
 rcases h with h|⟨o,b,n,hk,c,hs,f,r⟩
 ·obtain ⟨z,b,r,p⟩:=h.ok I.hok;exact {b,r,p,z.1}
 ·refine {b.toList,r,{o,I.kIn a o hk,c,n,by simpa using hs},?_};have e:=r.length;simp only[m6]at e;lia
def aY.list_inj(I:aY X ag σ H s)(h:cS X.K H a xs)(h':cS X.K H a ys):xs=ys:=by
 obtain ⟨c,r,⟨o,n,e,_,_,d⟩,_⟩:=I.list h;obtain ⟨b,i,⟨q,m,g,_,_,f⟩,_⟩:=I.list h';rw[e]at g;cases g;rw[d]at f;injection f with d1 _
 have:c=b:=by simpa using congrArg Array.toList d1
 subst this;exact r.inj i
end
noncomputable abbrev Cx.wish(X:Cx)(E:f9->i6->Prop):Cx:={X with xe:=E}
noncomputable abbrev Cx.nox(X:Cx):Cx:=X.wish fun _ _=>False
def Cx.Ok.wish{X:Cx}(ok:X.Ok)(E:f9->i6->Prop):(X.wish E).Ok:=
 {ok.mod,ok.kind,ok.glob,ok.blt,ok.above,ok.inj,ok.has,ok.cab,ok.hd,ok.frames,ok.stk,ok.exf,ok.bs,ok.bsz,ok.noex,ok.exfs,ok.funs,ok.frf}
def Cx.Ok.unwish{X:Cx}{E:f9->i6->Prop}(ok:(X.wish E).Ok):X.Ok:=
 {ok.mod,ok.kind,ok.glob,ok.blt,ok.above,ok.inj,ok.has,ok.cab,ok.hd,ok.frames,ok.stk,ok.exf,ok.bs,ok.bsz,ok.noex,ok.exfs,ok.funs,ok.frf}
section
variable {X:Cx}{ag:List (g6×Obj)}{σ:St}{H:Hp}{s:i6}{E:f9->i6->Prop}
def aY.wish(I:aY X ag σ H s)(E:f9->i6->Prop):aY (X.wish E) ag σ H s:={I.ok.wish E,I.os,I.bare,I.base,I.loc,I.cell,I.free,I.freeC,I.pin,I.hok,I.len}
def aY.unwish(I:aY (X.wish E) ag σ H s):aY X ag σ H s:={I.ok.unwish,I.os,I.bare,I.base,I.loc,I.cell,I.free,I.freeC,I.pin,I.hok,I.len}
def SP.unwish(h:SP (X.wish E) ag D f s'):SP X ag D f s':=by
 cases f with
|next=>obtain ⟨b,c,I,q⟩:=h;exact {b,c,I.unwish,q}
|brk=>obtain ⟨b,c,I,q⟩:=h;exact {b,c,I.unwish,q}
|cont=>obtain ⟨b,c,I,q⟩:=h;exact {b,c,I.unwish,q}
|ret u=>obtain ⟨v,b,c,I,r,q⟩:=h;exact {v,b,c,I.unwish,r,q}
def zJ.nox{st:List E2}{t:TS}(h:zJ X.nox st t):zJ X st t:=fun ag s σ H D I b=>K0 (h ag s σ H D (I.wish _) b) (fun _ _ q=>q.unwish) fun _ _ z=>P3 z
end
section
variable {X:Cx}{st:E2}{iV:List E2}{t u:TS}{e:D9}{te:TE}{pos:Pos}
noncomputable def Eo:TS:=fun D σ H=>D.nx σ H
noncomputable def Nw(t u:TS):TS:=fun D σ H=>t {D with nx:=u D} σ H
def bL:zJ X [] Eo:=fun _ _ b H _ I h=>li {b,H,I,h}
def aE(m:PS X st t)(o:zJ X iV u):zJ X (st::iV) (Nw t u):=by
 intro b s A H D I h;refine wpAny_execs_cons (dD (m b s A H {D with nx:=u D} I h) fun f w q=>?_);cases f with
|next=>
  obtain ⟨c,g,i,q⟩:=q;exact o b w c g D i q
|ret v=>exact q
|brk=>exact q
|cont=>exact q
def aH(c:PS X st t):zJ X [st] t:=by
 intro b s g H D I h;refine wpAny_execs_cons (dD (c b s g H D I h) fun f i q=>?_);cases f with
|next=>exact li q
|ret v=>exact q
|brk=>exact q
|cont=>exact q
noncomputable def Ew:TS:=fun D σ H=>D.ct σ H
def GP:PS X (.Continue pos) Ew:=fun _ _ b H _ I h=>wpAny_Continue {b,H,I,h}
def aY.quiet(I:aY X ag σ H s):interactive X.env=false:=by simp[interactive,I.ok.kind]
noncomputable def Es(te:TE):TS:=fun D σ H=>te σ H fun _ H1=>D.nx σ H1
def dL(i:PE X e te)(hs:ny e none pos.line X.env=L3 false:=by rfl):PS X (.Expr e pos) (Es te):=by intro b s c H D I h;exact wpAny_Expr_any (dD (i b s c H _ I h) fun v q ⟨x,f,g,o,m⟩=>{c,f,g,m}) I.quiet hs
noncomputable def Nz(te:TE):TS:=fun D σ H=>te σ H D.rt
def aU(i:PE X e te):PS X (.Return (some e) pos) (Nz te):=by intro b s c H D I h;exact wpAny_Return_some (dD (i b s c H _ I h) fun v q ⟨x,f,g,o,m⟩=>{x,c,f,g,o,m})
noncomputable def Of(c:TT)(t u:TS):TS:=fun D σ H=>c σ H fun b H1=>if b=true then t D σ H1 else u D σ H1
def cE(B:PT X c tc)(w:zJ X a t)(A:zJ X b u):PS X (.If c a b pos) (Of tc t u):=by
 intro f s g H D I h;refine wpAny_If (dD (B f s g H _ I h) fun d q ⟨i,m,o⟩=>?_);cases d with
|true=>exact w f q g i D m o
|false=>exact A f q g i D m o
noncomputable def Hw:TS:=fun _ _ _=>False
def kD:PS X st Hw:=fun _ _ _ _ _ _ h=>h.elim
end
noncomputable abbrev TG:=V->St->Hp->(St->Hp->Prop)->Prop
noncomputable abbrev Sn:=List V->St->Hp->(St->Hp->Prop)->Prop
noncomputable def PG(X:Cx)(target:D9)(t:TG):Prop:=
 ∀(ag:List (g6×Obj)) (s:i6) (σ:St) (H:Hp) (v:V) (u:f9) (Q:St->Hp->Prop),aY X ag σ H s->bJ v u->t v σ H Q ->
  j0 (j8 X.prog X.w) X.A (ub target X.env u) (fun _ s'=>∃σ' H',aY X ag σ' H' s'/\Q σ' H') X.xe s
noncomputable def Nj(X:Cx)(ts:List D9)(t:Sn):Prop:=
 ∀(ag:List (g6×Obj)) (s:i6) (σ:St) (H:Hp) (vs:List V) (us:List f9) (Q:St->Hp->Prop),aY X ag σ H s->bH vs us->t vs σ H Q ->
  j0 (j8 X.prog X.w) X.A (yd ((dl ts X.env).map (·.2)) us) (fun _ s'=>∃σ' H',aY X ag σ' H' s'/\Q σ' H') X.xe s
noncomputable abbrev Sl:=V->V->V->Hp->(Hp->Prop)->Prop
noncomputable def Vu(X:Cx)(t:Sl):Prop:=
 ∀(ag:List (g6×Obj)) (s:i6) (σ:St) (H:Hp) (o i v:V) (ov iv u:f9) (Q:Hp->Prop),aY X ag σ H s->bJ o ov->bJ i iv->bJ v u->t o i v H Q ->
  j0 (j8 X.prog X.w) X.A (setItem ov iv u) (fun _ s'=>∃H',aY X ag σ H' s'/\Q H') X.xe s
noncomputable abbrev TIp:=V->V->Hp->VK->Prop
noncomputable def PIp(X:Cx)(op:Operator)(t:TIp):Prop:=
 ∀(ag:List (g6×Obj)) (s:i6) (σ:St) (H:Hp) (x y:V) (v u:f9) (Q:VK),aY X ag σ H s->bJ x v->bJ y u->t x y H Q ->
  j0 (j8 X.prog X.w) X.A (inplaceOp op v u) (EP X ag σ Q) X.xe s
section
variable {X:Cx}{pos:Pos}
noncomputable def iD(i:Nat):TG:=fun v σ H Q=>Q (σ.set i (some v)) H
def bN(f:X.N.Nodup)(m:X.N[i]?=some x)(o:Mz X.env.scope x)(g:X.fn x=true∨X.env.scope.names.lookup x=some .local:=by first|exact .inl rfl|exact .inr rfl|assumption):PG X (.Name x pos) (iD i):=by intro b s w H v u Q I r h;exact wpAny_assign_Name (rW I f m o r (fun q c=>{_,H,c,h}) g)
noncomputable def YI:Sn:=fun vs σ H Q=>vs=[]/\Q σ H
noncomputable def tI(t:TG)(u:Sn):Sn:=fun vs σ H Q=>∃v r,vs=v::r/\t v σ H fun σ' H'=>u r σ' H' Q
def eQ:Nj X [] YI:=by intro b s c H g f Q I r h;obtain ⟨e,h⟩:=h;subst e;cases r;exact assignInOrder_nil {c,H,I,h}
def bA(m:PG X e t)(o:Nj X es u)(hs:(dl (e::es) X.env).map (·.2)=ub e X.env::(dl es X.env).map (·.2):=by rfl):Nj X (e::es) (tI t u):=by
 intro b s B H E C Q I r h;obtain ⟨v,D,i,h⟩:=h;subst i;cases r with
|cons r w=>rw[hs];refine ql (dD (m b s B H _ _ _ I r h) fun _ A ⟨c,f,g,q⟩=>?_);exact o b A c f _ _ Q g w q
noncomputable def HW(K:y8)(n:Nat)(t:Sn):TG:=fun v σ H Q=>∃a xs,v=.ref a/\vO K H a xs/\xs.length=n/\t xs σ H Q
def lS(A:X.calm=true)(h:Nj X es t)(hn:(dl es X.env).length=n:=by rfl)(f:(dl es X.env).findIdx? (·.1)=none:=by rfl):PG X (.Tuple es k pos) (HW X.K n t):=by intro c s i H v u Q I r g;obtain ⟨a,J,q,C,B,g⟩:=g;subst q;cases r;obtain ⟨G,rv,D,M⟩:=I.tuple C;refine assign_Tuple_tuple (I.ok.hd A) D (by simp[hn,←B,rv.length]) f fun w E=>?_;have m:aY X c i H {s with heap:=w}:=I.kept (t':=s.toks) fun b o e=>E b o (q7 (p7 e)) e;exact h c _ i H J _ Q m (by simpa using rv) g
noncomputable def TZ(te:TE)(g:TG):TS:=fun D σ H=>te σ H fun x H1=>g x σ H1 D.nx
def WD(o:PE X e te)(w:PG X tg g)(hs:swapsWithSole [tg] e pos.line X.env=L3 false:=by rfl)(A:swappedStores [tg] e X.env=L3 none:=by rfl)(m:(dl [tg] X.env).map (·.2)=[ub tg X.env]:=by rfl):PS X (.Assign [tg] e pos) (TZ te g):=by intro b s c H D I h;refine wpAny_Assign_stores (dD (o b s c H _ I h) fun v E ⟨x,f,i,C,B⟩=>?_) hs A;rw[m];exact dD (w b E c f x v _ i C B) fun _ G q=>q
def WC(m:X.N.Nodup)(w:X.N[i]?=some x)(A:Mz X.env.scope x)(o:PE X e te)(hs:ny e (some (.Name x pos')) pos.line X.env=L3 false:=by rfl)(q:X.fn x=true∨X.env.scope.names.lookup x=some .local:=by first|exact .inl rfl|exact .inr rfl|assumption):
  PS X (.Assign [.Name x pos'] e pos) (TZ te (iD i)):=by
 intro b s E H D I h;refine wpAny_Assign_Name (dD (o b s E H _ I h) fun v G ⟨y,c,f,C,B⟩=>?_) hs;exact rW f m w A C (fun J g=>{_,c,g,B}) q
noncomputable def Oa(i j:Nat)(ta:TA):TS:=fun D σ H=>ta σ H fun vs H1=>∃v w,vs=[v,w]/\D.nx ((σ.set i (some v)).set j (some w)) H1
def Ki{kt k2 pt2}(hc:X.calm=true)(O:X.N.Nodup)(hi:X.N[i]?=some x)(hj:X.N[j]?=some y)(B:i≠j)(P:X.env.scope.names.lookup x=some .local)(Q:X.env.scope.names.lookup y=some .local)(Z:PA X [a,b] ta)(hw:swappedStores [.Tuple [.Name x px,.Name y py] kt pt] (.Tuple [a,b] k2 pt2) X.env=L3 (some [x,y]))(hs:swapsWithSole [.Tuple [.Name x px,.Name y py] kt pt] (.Tuple [a,b] k2 pt2) pos.line X.env=L3 false:=by rfl):
  PS X (.Assign [.Tuple [.Name x px,.Name y py] kt pt] (.Tuple [a,b] k2 pt2) pos) (Oa i j ta):=by
 intro c s R H D I h;rw[exec_Assign_arm];refine e9 (qe ?_);rw[hs];refine e9 (i8 ?_);rw[if_neg (by decide)];refine e9 (Tuple_ (dD (Z _ c s R H _ I h) fun us f ⟨vs,J,S,r1,E⟩=>?_));obtain ⟨v,w,Y,E⟩:=E;subst Y;obtain ⟨g,m,rfl,rv,G⟩:∃g m,us=[g,m]/\bJ v g/\bJ w m:=by
  cases r1 with
 |cons p q=>
   cases q with
  |cons p' q'=>cases q';exact {_,_,rfl,p,p'}
 refine M0 ?_ (by show 2<=n7;decide);have T:aY X c R J {f with heap:=f.heap.push {cls:=.type "tuple",data:=.seq [g,m].toArray}}:=S.kept (t':=f.toks) fun b o e=>i4 _ e;rw[hw];refine e9 (i8 ?_);show j0 (j8 X.prog X.w) X.A (do rule "assign.swapped-stores";let items ←unpackItems (.ref f.heap.objs.size) 2 none;yd [fun v=>Aq X.env y v,fun v=>Aq X.env x v] items.reverse;L3 Flow.next) _ _ _;refine e9 (L9 (e9 (unpackItems_tuple (items:=#[g,m]) (I.ok.hd hc) (xf.new f.heap _) fun M C=>?_)));have U:=T.kept (h':=M) (t':=f.toks) fun b o e=>C b o (q7 (p7 e)) e;show j0 _ _ (yd [fun v=>Aq X.env y v,fun v=>Aq X.env x v] [m,g] >>= fun _=>L3 Flow.next) _ _ _;refine e9 (ql (wpAny_bindName (rW U O hj (.inl Q) G (fun s2 W=>?_) (.inr Q))));refine ql (wpAny_bindName (rW W O hi (.inl P) rv (fun s3 K=>assignInOrder_nil (i8 ?_)) (.inr P)));rw[List.set_comm _ _ (u7 B)]at K;exact {_,J,K,E}
noncomputable def Vw(X:Cx)(t:V->V->Hp->VK->Prop):Prop:=
 ∀(ag:List (g6×Obj)) (s:i6) (σ:St) (H:Hp) (o i:V) (ov iv:f9) (Q:VK),aY X ag σ H s->bJ o ov->bJ i iv->t o i H Q ->
  j0 (j8 X.prog X.w) X.A (rf ov iv) (EP X ag σ Q) X.xe s
end
section
variable {X:Cx}{pos:Pos}
noncomputable def JE(c:TT)(tb:TS):TS:=fun D σ H=>∃W:Nat->St->Hp->Prop,(∃m,W m σ H)/\∀m σ H,W m σ H ->
 c σ H fun b H1=>if b=true then ∃N:St->Hp->Prop,(∀σ' H',N σ' H'->∃m',m'<m/\W m' σ' H')/\tb {D with nx:=N,ct:=N,bk:=D.nx} σ H1 else D.nx σ H1
def sS(hp:PassesOwn (j8 X.prog X.w) X.A X.env X.xe)(Y:PT X c tc)(U:zJ X body tb):PS X (.While c body [] pos) (JE tc tb):=by
 intro g s σ H D I h;obtain ⟨W,⟨Z,w0⟩,q⟩:=h;refine wpAny_While (codeAny_whileLoop (fun n s'=>∃B O,aY X g B O s'/\W n B O) ?_ Z {σ,H,I,w0});rintro n s1 ⟨m,P,T,w1⟩;refine U3 hp (dD (Y g s1 m P _ T (q n m P w1)) fun b s2 ⟨Q,R,C⟩=>?_);cases b with
|true=>
  obtain ⟨N,S,C⟩:=C;rw[if_pos rfl];refine U3 hp (dD (U g s2 m Q _ R C) fun f s3 E=>?_);cases f with
 |next=>
   obtain ⟨i,o,G,n3⟩:=E;obtain ⟨K,J,M⟩:=S i o n3;exact {K,J,i,o,G,M}
 |cont=>
   obtain ⟨i,o,G,n3⟩:=E;obtain ⟨K,J,M⟩:=S i o n3;exact {K,J,i,o,G,M}
 |brk=>exact E
 |ret v=>exact E
|false=>rw[if_neg j7];exact li {m,Q,R,C}
end
structure It where
 go:Nat->Hp->Prop
 yld:Nat->Hp->V->Hp->Prop
 stop:Nat->Hp->Prop
noncomputable def vQ(X:Cx)(ag:List (g6×Obj))(H:Hp)(b:g6):Prop:=
 H b=none/\b≠X.env.locals/\b∉X.fs/\(b∈X.ex∨X.s₀.heap.objs.size<=b)/\(∀x c,X.env.cells.lookup x=some c->c≠b)/\∀p∈X.pn++ag,p.1≠b
def aY.fpOk(I:aY X ag σ H s)(f:s.heap.objs.size<=b)(hn:H' b=none):vQ X ag H' b:=by
 refine {hn,C6 (j3 I.lt f),I.nofs f,.inr (B9 I.sz f),fun x c e z=>?_,fun p hp z=>?_}
 ·obtain ⟨v,q⟩:=I.cell x c e;exact absurd (j3 q.lt (by rw[z];exact f)) (om _)
 ·exact absurd (j3 (p7 (I.pin p hp).1) (by rw[z];exact f)) (om _)
structure RW(P:m9)(w:w6)(K:y8)(tg:D9)(J:It)(fp:List g6)(it:g6)(tn:Nat->C3->Prop):Prop where
 mem:it∈fp
 obj:∀i h,tn i h->∀b∈fp,∃o,h.get? b=some o/\∀v,o.data≠.cell v
 keep:∀i h h',tn i h->(∀b∈fp,∀o,h.get? b=some o->h'.get? b=some o)->tn i h'
 item:∀(X:Cx),X.prog=P->X.w=w->X.K=K->X.calm=true->∀(i:Nat)(ag:List (g6×Obj)) (s:i6) (σ:St) (H:Hp) (E:f9->i6->Prop),aY X ag σ H s->(∀b∈fp,vQ X ag H b)->tn i s.heap->J.go i H ->
  j0 (j8 P w) X.A (S9 (.ref it)) (fun r s1=>∃u,r=some u /\
   j0 (j8 P w) X.A (gj tg (.ref it) u) (fun _ s2=>∃x H',aY X ag σ H' s2/\bJ x u/\J.yld i H x H'/\tn (i+1) s2.heap/\∀b∈fp,H' b=none) E s1) E s
 done:∀(X:Cx),X.prog=P->X.w=w->X.K=K->X.calm=true->∀(i:Nat)(ag:List (g6×Obj)) (s:i6) (σ:St) (H:Hp) (E:f9->i6->Prop),aY X ag σ H s->(∀b∈fp,vQ X ag H b)->tn i s.heap->J.stop i H ->
  j0 (j8 P w) X.A (S9 (.ref it)) (fun r s1=>r=none/\aY X ag σ H s1) E s
 self:∀(A:B2)(i:Nat)(s:i6)(Q:f9->i6->Prop)(E:f9->i6->Prop),tn i s.heap->Q (.ref it) s->j0 (j8 P w) A (wl (.ref it)) Q E s
noncomputable abbrev TI:=St->Hp->(It->Hp->Prop)->Prop
noncomputable def Vv(X:Cx)(ag:List (g6×Obj))(σ:St)(tg:D9)(R:It->Hp->Prop)(itv:f9)(s2:i6):Prop:=
 ∃(it:g6)(fp:List g6)(tn:Nat->C3->Prop)(J:It)(H':Hp),itv=.ref it/\aY X ag σ H' s2/\RW X.prog X.w X.K tg J fp it tn/\tn 0 s2.heap/\(∀b∈fp,vQ X ag H' b)/\R J H'
noncomputable def PI(X:Cx)(tg iter:D9)(wi:TI):Prop:=
 ∀(ag:List (g6×Obj)) (s:i6) (σ:St) (H:Hp) (R:It->Hp->Prop),aY X ag σ H s->wi σ H R ->
  j0 (j8 X.prog X.w) X.A (K3 iter X.env) (fun v s1=>j0 (j8 X.prog X.w) X.A (wl v) (Vv X ag σ tg R) X.xe s1) X.xe s
def YF(g:s.heap.get? it=some o)(c:o.cls=.type n)(f:o.data=.fields vs)(hn:["enumerate","zip","dict_itemiterator","dict_reverseitemiterator","odict_iterator","itertools.zip_longest","itertools.pairwise"].contains n=false)(b:Q () s):j0 M A (gj tg (.ref it) u) Q E s:=by
  unfold gj;cases tg <;> first
   |exact i8 b
    | (cases u <;> first
       |exact i8 b
        | (refine e9 (ig g ?_)
           rw[c,f];show j0 M A (if (["enumerate","zip","dict_itemiterator","dict_reverseitemiterator","odict_iterator","itertools.zip_longest","itertools.pairwise"].contains n&&vs[0]?==some (D4 _))=true then _ else _) Q E s;rw[if_neg (by intro h;rw[hn,sv]at h;cases h)];exact i8 b))
noncomputable def SC(K:y8)(a:g6):It:=
 {fun i H=>∃xs x,cS K H a xs/\xs[i]?=some x,fun i H x H'=>H'=H/\∀xs,cS K H a xs->xs[i]?=some x,fun i H=>∃xs,cS K H a xs/\xs.length<=i}
noncomputable def OY(lo:Int)(n:Nat):It:={fun i _=>i<n,fun i H x H'=>H'=H/\x=.int (lo+i),fun i _=>n<=i}
def PH{P:m9}{w:w6}{K:y8}{tg:D9}(a it:g6):RW P w K tg (SC K a) [it] it (fun i h=>h.IsListIter it a i) where
 mem:=by simp
 obj:=fun i h st b g=>by
  have e:b=it:=by simpa using g
  subst e;obtain ⟨o,e,c,d⟩:=st;exact {o,e,fun v z=>by rw[d]at z;cases z}
 keep:=fun i h q st k=>st.at fun o e=>k it (by simp) o e
 item:=by intro X O R N U i f s W H E I A st Q;subst O R N;obtain ⟨xs,x,B,S⟩:=Q;obtain ⟨T,rv,p,hz⟩:=I.list B;obtain ⟨u,hu,ru⟩:=rv.get S;obtain ⟨C,D,f2,G,J,M⟩:=A it (by simp);refine yn st p.isList (x:=u) (by simpa using hu) fun q m sb=>?_;have Y:aY X f W H {s with heap:=q}:=I.turned (t':=s.toks) (fun b o g e=>(sb.2 b g).trans e) C D G J M;obtain ⟨o,e,c,d⟩:=id m;exact {u,rfl,YF (s:={s with heap:=q}) e c d (by decide) {x,H,Y,ru,{rfl,fun ys hy=>by rw[I.list_inj hy B];exact S},m,fun b g=>(A b g).1}}
 done:=by intro X O R N U i f s W H E I A st Q;subst O R N;obtain ⟨xs,B,S⟩:=Q;obtain ⟨T,rv,p,hz⟩:=I.list B;obtain ⟨C,D,f2,G,J,M⟩:=A it (by simp);have hl:=rv.length;exact zd (I.ok.hd U) st p.isList (by simp;lia) fun q Z=>{rfl,I.turned (t':=s.toks) (fun b o g e=>Z b o g e) C D G J M}
 self:=fun _ _ _ _ _ st h=>wpAny_pyIter_listiter st h
def JB{P:m9}{w:w6}{K:y8}{tg:D9}(it:g6)(lo:Int)(n:Nat):RW P w K tg (OY lo n) [it] it (fun i h=>IsRangeIter h it (lo+(i:Nat)*1) ((n:Int)-(i:Nat)) 1) where
 mem:=by simp
 obj:=fun i h st b f=>by
  have e:b=it:=by simpa using f
  subst e;exact {_,st,fun v z=>by
   have z':Data.fields _=Data.cell v:=z;cases z'}
 keep:=fun i h m st k=>k it (by simp) _ st
 item:=by intro X M Q J N i c s R H E I q st O;subst M Q J;obtain ⟨A,B,U,C,D,G⟩:=q it (by simp);have W:=Walks.range (prog:=X.prog) (w:=X.w) (I.ok.hd N) it lo 1 n;refine W.item i s _ _ O st fun v m tk Y g Z=>?_;obtain ⟨t,rfl⟩:=Y;have S:aY X c R H {s with heap:=m,toks:=tk}:=I.turned (fun b o f e=>Z b o (by simpa using f) e) A B C D G;refine {_,rfl,YF (s:={s with heap:=m,toks:=tk}) (n:="range_iterator") g rfl rfl (by decide) {.int (lo+i),H,S,{t,?_},{rfl,rfl},g,fun b f=>(q b f).1}};rw[yi]
 done:=by intro X M Q J N i c s R H E I q st O;subst M Q J;obtain ⟨A,B,U,C,D,G⟩:=q it (by simp);exact wpAny_pyNext_range_end (I.ok.hd N) st (by have:n<=i:=O;lia) fun m T=>{rfl,I.turned (t':=s.toks) (fun b o f e=>T b o f e) A B C D G}
 self:=fun _ _ _ _ _ st h=>wpAny_pyIter_rangeiter st h
section
variable {X:Cx}{tg:D9}
noncomputable def Gy(K:y8)(tl:TE):TI:=fun σ H R=>tl σ H fun x H1=>∃a,x=.ref a/\(∃xs,cS K H1 a xs)/\R (SC K a) H1
def cX(w:PE X l tl):PI X tg l (Gy X.K tl):=by
 intro c s E H R I h;refine dD (w c s E H _ I h) fun v g ⟨x,i,f,D,C⟩=>?_;obtain ⟨a,e,⟨J,A⟩,q⟩:=C;subst e;cases D;obtain ⟨B,rv,p,G⟩:=f.list A;refine qy p.isList ?_;refine {g.heap.objs.size,[g.heap.objs.size],_,_,i,rfl,f.kept (t':=g.toks) fun b o e=>i4 _ e,PH a _,{_,o0 _ rfl,rfl,rfl},fun b m=>?_,q};have e:b=g.heap.objs.size:=by simpa using m
 subst e;exact f.fpOk (k7 _) (f.hok.fresh (k7 _))
def GM{g:St}{H:Hp}{R:It->Hp->Prop}{E:f9->i6->Prop}{lo c:Int}{tk:Nat}(I:aY X ag g H s)(B:-(2^62)<=lo)(C:lo<2^62)(D:-(2^62)<=c)(G:c<2^62)(q:R (OY lo (c-lo).toNat) H):j0 (j8 X.prog X.w) X.A (wl (.ref s.heap.objs.size)) (Vv X ag g tg R) E {s with heap:=s.heap.push {cls:=.type "range",data:=.fields #[.int lo t,.int c u,.int 1 v]},toks:=tk}:=by
 refine wpAny_pyIter_range (IsRange.new ..) (small_one B C D G) ?_;have f:aY X ag g H {s with heap:=s.heap.push {cls:=.type "range",data:=.fields #[.int lo t,.int c u,.int 1 v]},toks:=tk}:=I.kept fun b o e=>i4 _ e;refine {(s.heap.push {cls:=.type "range",data:=.fields #[.int lo t,.int c u,.int 1 v]}).objs.size,[(s.heap.push {cls:=.type "range",data:=.fields #[.int lo t,.int c u,.int 1 v]}).objs.size],_,_,H,rfl,
  f.kept (t':=tk) fun b o e=>i4 _ e,JB _ lo (c-lo).toNat,?_,fun b J=>?_,q}
 ·have i:lo+((0:Nat):Int)*1=lo:=by simp
  have m:(((c-lo).toNat:Nat):Int)-((0:Nat):Int)=J0.Range.rangeSize lo c 1:=by rw[rangeSize_one];split <;> lia
  show IsRangeIter _ _ (lo+((0:Nat):Int)*1) ((((c-lo).toNat:Nat):Int)-((0:Nat):Int)) 1;rw[i,m];exact o0 _ rfl
 ·have e:b=(s.heap.push {cls:=.type "range",data:=.fields #[.int lo t,.int c u,.int 1 v]}).objs.size:=by simpa using J
  subst e;exact f.fpOk (k7 _) (f.hok.fresh (k7 _))
noncomputable def Gx(ta:TA):TI:=fun σ H R=>ta σ H fun vs H1=>∃j:Int,vs=[.int j]/\-(2^62)<=j/\j<2^62/\R (OY 0 j.toNat) H1
noncomputable def Gw(ta:TA):TI:=fun σ H R=>ta σ H fun vs H1=>∃i j:Int,vs=[.int i,.int j]/\(-(2^62)<=i/\i<2^62/\-(2^62)<=j/\j<2^62)/\R (OY i (j-i).toNat) H1
def jW(i:Gl X "range")(m:X.mg "range"=none)(g:PA X [a] ta)(hs:v9 [a] X.env=[(false,K3 a X.env)]:=by rfl):PI X tg (.Call (.Name "range" p) [a] [] pos) (Gx ta):=by
 intro b s B H R I h;refine Call_ (lX I i m boot_range (F6 (dD (g pos b s B H _ I h) fun E D ⟨G,C,f,w,c⟩=>?_) hs rfl));obtain ⟨j,e,c,o,q⟩:=c;subst e;cases w with
|cons r A=>cases A;obtain ⟨t,rfl⟩:=r;exact call_range_1 (GM f (by lia) (by lia) c o (by simpa using q))
def BD(A:Gl X "range")(B:X.mg "range"=none)(w:PA X [a,b] ta)(hs:v9 [a,b] X.env=[(false,K3 a X.env),(false,K3 b X.env)]:=by rfl)(c:v9 [b] X.env=[(false,K3 b X.env)]:=by rfl):
  PI X tg (.Call (.Name "range" p) [a,b] [] pos) (Gw ta):=by
 intro f s K H R I h;refine Call_ (lX I A B boot_range (F6 (dD (w pos f s K H _ I h) fun P N ⟨Q,M,o,J,g⟩=>?_) (by rw[hs,c]) (by rw[c];rfl)));obtain ⟨i,j,e,⟨g,C,D,E⟩,q⟩:=g;subst e;cases J with
|cons r m=>
  cases m with
 |cons G m=>cases m;obtain ⟨t,rfl⟩:=r;obtain ⟨O,rfl⟩:=G;exact call_range_2 (GM o g C D E q)
noncomputable def Hy(wi:TI)(g:TG)(tb:TS):TS:=fun D σ H=>wi σ H fun J H1=>∃W:Nat->Nat->St->Hp->Prop,(∃m,W 0 m σ H1)/\∀i m σ H,W i m σ H ->
 (J.stop i H/\D.nx σ H)∨(J.go i H/\∃N:St->Hp->Prop,(∀σ' H',N σ' H'->∃m',m'<m/\W (i+1) m' σ' H')/\∀x H',J.yld i H x H'->g x σ H' fun σ2 H2=>tb {D with nx:=N,ct:=N,bk:=D.nx} σ2 H2)
noncomputable def rB(fp:List g6)(h:C3):List (g6×Obj):=fp.filterMap fun b=>(h.get? b).map fun o=>(b,o)
def nI(c:b∈fp)(e:h.get? b=some o):(b,o)∈rB fp h:=dy.mpr {b,c,by rw[e];rfl}
def QK(hp:p∈rB fp h):p.1∈fp/\h.get? p.1=some p.2:=by
 obtain ⟨b,f,e⟩:=dy.mp hp;cases q:h.get? b with
|none=>rw[q]at e;cases e
|some o=>rw[q]at e;have c:(b,o)=p:=l7 e;subst c;exact {f,q}
def aY.pinned(I:aY X ag σ H s)(q:∀b∈fp,vQ X ag H b)(w:∀b∈fp,∃o,s.heap.get? b=some o/\∀v,o.data≠.cell v):aY X (ag++rB fp s.heap) σ H s:=
 I.pins_of fun p hp=>(u9.mp hp).elim (fun z=>I.pin p (x9 _ z)) fun z=>by obtain ⟨f,e⟩:=QK z;obtain ⟨g,i,m,_⟩:=q p.1 f;obtain ⟨o,c,d⟩:=w p.1 f;rw[e]at c;cases c;exact {e,g,i,m,d}
def aY.unpinned(I:aY X (ag++pl) σ H s):aY X ag σ H s:=I.pins_of fun p hp=>I.pin p (x9 _ (D3 _ hp))
def fZ(hp:PassesOwn (j8 X.prog X.w) X.A X.env X.xe)(hc:X.calm=true)(hi:PI X tg iter wi)(hg:PG X tg g)(G:zJ X body tb)(hs:∀x,V1 iter X.env x=L3 x:=by intro _;rfl):PS X (.For tg iter body [] pos) (Hy wi g tb):=by
 intro c s σ H D I h;refine wpAny_For (dD (hi c s σ H _ I h) fun v s1 h1=>dD h1 fun h' s2 h2=>?_) hs;obtain ⟨it,S,tn,J,H2,e,I2,T,f',f2,W,⟨m0,w0⟩,c'⟩:=h2;subst e;have K:∀{P:Hp},(∀b∈S,P b=none)->∀b∈S,vQ X c P b:=fun hn b G=>{hn b G,(f2 b G).2}
 refine codeAny_forLoop_any (fun n s'=>∃i M P,aY X c M P s'/\tn i s'.heap/\(∀b∈S,P b=none)/\W i n M P) ?_ m0 {0,σ,H2,I2,f',fun b G=>(f2 b G).1,w0};rintro n s3 ⟨i,O,H3,I3,Z,U,w3⟩;rcases c' i n O H3 w3 with ⟨b',qn⟩|⟨go,N,hN,a'⟩
 ·refine U3 hp (dD (T.done X rfl rfl rfl hc i c s3 O H3 X.xe I3 (K U) Z b') fun r s4 ⟨hr,I4⟩=>?_);subst hr;exact li {O,H3,I4,qn}
 ·refine U3 hp (dD (T.item X rfl rfl rfl hc i c s3 O H3 X.xe I3 (K U) Z go) fun r s4 ⟨u,hr,h4⟩=>?_);subst hr;refine U3 hp (dD h4 fun _ s5 ⟨x,H5,I5,r5,y5,R,e'⟩=>?_);have d':=I5.pinned (K e') (T.obj _ _ R);refine U3 hp (dD (hg _ s5 O H5 x u _ d' r5 (a' x H5 y5)) fun _ s6 ⟨g',H6,I6,q6⟩=>?_);refine U3 hp (dD (G _ s6 g' H6 _ I6 q6) fun f s7 Q=>?_);have E:∀{q:St}{B:Hp},aY X (c++rB S s5.heap) q B s7->N q B->∃m,m<n/\∃i M P,aY X c M P s7/\tn i s7.heap/\(∀b∈S,P b=none)/\W i m M P:=fun {q B} C Y=>by
   obtain ⟨m',hm,w7⟩:=hN q B Y;refine {m',hm,i+1,q,B,C.unpinned,T.keep _ _ _ R fun b G o e=>(C.pin (b,o) (x9 _ (x9 _ (nI G e)))).1,fun b G=>?_,w7};obtain ⟨o,e,d⟩:=T.obj _ _ R b G;exact (C.pin (b,o) (x9 _ (x9 _ (nI G e)))).2.1
  cases f with
 |next=>obtain ⟨q,B,C,Y⟩:=Q;exact E C Y
 |cont=>obtain ⟨q,B,C,Y⟩:=Q;exact E C Y
 |brk=>obtain ⟨q,B,C,Q⟩:=Q;exact {q,B,C.unpinned,Q}
 |ret v=>obtain ⟨x7,q,B,C,r7,Q⟩:=Q;exact {x7,q,B,C.unpinned,r7,Q}
end
def YJ{K:y8}{a:g6}{xs:List V}{g:TG}{B:TS}{D:gM}{b:St}{H:Hp}(c:Nat->St->Hp->Prop)(C:c 0 b H)(I:∀i b H,i<=xs.length->c i b H->cS K H a xs)(hs:∀i x b H,xs[i]?=some x->c i b H->g x b H fun o w=>B {D with nx:=c (i+1),ct:=c (i+1),bk:=D.nx} o w)(E:∀b H,c xs.length b H->D.nx b H):
  ∃W:Nat->Nat->St->Hp->Prop,(∃m,W 0 m b H)/\∀i m b H,W i m b H ->
   ((SC K a).stop i H/\D.nx b H)∨((SC K a).go i H/\∃N:St->Hp->Prop,(∀f H',N f H'->∃A,A<m/\W (i+1) A f H')/\∀x H',(SC K a).yld i H x H'->g x b H' fun o w=>B {D with nx:=N,ct:=N,bk:=D.nx} o w):=by
 refine {fun i m b H=>m=xs.length-i/\i<=xs.length/\c i b H,{xs.length,by simp,w4 _,C},?_};rintro i m b H ⟨rfl,G,p⟩;have q:=I i b H G p;by_cases s:i<xs.length
 ·refine .inr {{xs,xs[i],q,by simp[s]},c (i+1),fun f H' J=>{xs.length-(i+1),by omega,rfl,s,J},fun x H' y=>?_};obtain ⟨e,y⟩:=y;subst e;exact hs i x b _ (y xs q) p
 ·have e:i=xs.length:=by omega
  subst e;exact .inl {{xs,q,k7 _},E b H p}
def RE{lo:Int}{n:Nat}{g:TG}{A:TS}{D:gM}{b:St}{H:Hp}(c:Nat->St->Hp->Prop)(B:c 0 b H)(hs:∀i b H,i<n->c i b H->g (.int (lo+i)) b H fun q s=>A {D with nx:=c (i+1),ct:=c (i+1),bk:=D.nx} q s)(C:∀b H,c n b H->D.nx b H):
  ∃W:Nat->Nat->St->Hp->Prop,(∃m,W 0 m b H)/\∀i m b H,W i m b H ->
   ((OY lo n).stop i H/\D.nx b H)∨((OY lo n).go i H/\∃N:St->Hp->Prop,(∀o H',N o H'->∃w,w<m/\W (i+1) w o H')/\∀x H',(OY lo n).yld i H x H'->g x b H' fun q s=>A {D with nx:=N,ct:=N,bk:=D.nx} q s):=by
 refine {fun i m b H=>m=n-i/\i<=n/\c i b H,{n,by simp,w4 _,B},?_};rintro i m b H ⟨rfl,G,p⟩;by_cases f:i<n
 ·refine .inr {f,c (i+1),fun o H' E=>{n-(i+1),by lia,rfl,f,E},fun x H' y=>?_};obtain ⟨e,y⟩:=y;subst e y;exact hs i b _ f p
 ·have e:i=n:=by lia
  subst e;exact .inl {k7 _,C b H p}
def wK(o:St->Hp->Prop)(s:St->Hp->Nat)(w:o f H)(hs:∀f H,o f H->c f H fun b i=>if b=true then tb {D with nx:=fun g H'=>o g H'/\s g H'<s f H,ct:=fun g H'=>o g H'/\s g H'<s f H,bk:=D.nx} f i else D.nx f i)(mono:∀f H Q Q',(∀b i,Q b i->Q' b i)->c f H Q->c f H Q'):JE c tb D f H:=by
 refine {fun m f H=>m=s f H/\o f H,{_,rfl,w},?_};rintro m f H ⟨rfl,p⟩;refine mono f H _ _ (fun b i q=>?_) (hs f H p);cases b with
|true=>exact {_,fun g H' ⟨A,l⟩=>{_,l,rfl,A},q}
|false=>exact q
noncomputable abbrev R2:=V->V->Hp->VK->Prop
noncomputable def lN(X:Cx)(f:f9->f9->Sem f9)(r:R2):Prop:=
 ∀(ag:List (g6×Obj)) (s:i6) (σ:St) (H:Hp) (x y:V) (v u:f9) (Q:VK),aY X ag σ H s->bJ x v->bJ y u->r x y H Q ->
  j0 (j8 X.prog X.w) X.A (f v u) (EP X ag σ Q) X.xe s
noncomputable def Vr(X:Cx)(f:f9->Sem f9)(r:V->Hp->VK->Prop):Prop:=
 ∀(ag:List (g6×Obj)) (s:i6) (σ:St) (H:Hp) (x:V) (v:f9) (Q:VK),aY X ag σ H s->bJ x v->r x H Q ->
  j0 (j8 X.prog X.w) X.A (f v) (EP X ag σ Q) X.xe s
noncomputable def fK(X:Cx)(f:f9)(r:List V->Hp->VK->Prop):Prop:=
 ∀(ag:List (g6×Obj)) (s:i6) (σ:St) (H:Hp) (xs:List V) (us:List f9) (Q:VK),aY X ag σ H s->bH xs us->r xs H Q ->
  j0 (j8 X.prog X.w) X.A (jt f us) (EP X ag σ Q) X.xe s
noncomputable def Vs(X:Cx)(r:V->Hp->(Bool->Hp->Prop)->Prop):Prop:=
 ∀(ag:List (g6×Obj)) (s:i6) (σ:St) (H:Hp) (x:V) (v:f9) (Q:Bool->Hp->Prop),aY X ag σ H s->bJ x v->r x H Q ->
  j0 (j8 X.prog X.w) X.A (truthy v) (TP X ag σ Q) X.xe s
noncomputable def Od(r:R2)(ta tb:TE):TE:=fun σ H Q=>ta σ H fun x H1=>tb σ H1 fun y H2=>r x y H2 Q
noncomputable def Wd(r:V->Hp->VK->Prop)(ta:TE):TE:=fun σ H Q=>ta σ H fun x H1=>r x H1 Q
noncomputable def rI(C:Int->Int->Prop)(g:Int->Int->V):R2:=fun x y H Q=>∃i j,x=.int i/\y=.int j/\C i j/\Q (g i j) H
noncomputable def ZO(g:Int->Int->V):R2:=fun x y H Q=>∃i j,x=.int i/\y=.int j/\Q (g i j) H
noncomputable def rU(g:Int->V):V->Hp->VK->Prop:=fun x H Q=>∃i,x=.int i/\Q (g i) H
section
variable {X:Cx}{a b:D9}{ta tb:TE}{pos:Pos}
def Mr(D:PE X a ta)(E:PE X b tb){i:St}{H:Hp}{R:V->V->Hp->Prop}(I:aY X ag i H s)(h:ta i H fun x q=>tb i q fun y g=>R x y g){Q:f9->i6->Prop}{f:f9->f9->Sem f9}(G:∀v u s2 x y g,aY X ag i g s2->bJ x v->bJ y u->R x y g->j0 (j8 X.prog X.w) X.A (f v u) Q X.xe s2):
  j0 (j8 X.prog X.w) X.A (K3 a X.env) (fun v m=>j0 (j8 X.prog X.w) X.A (K3 b X.env) (fun u o=>j0 (j8 X.prog X.w) X.A (f v u) Q X.xe o) X.xe m) X.xe s:=by
 refine dD (D ag s i H _ I h) fun v O ⟨x,q,B,M,J⟩=>?_;refine dD (E ag O i q _ B J) fun u s2 ⟨y,g,C,N,K⟩=>?_;exact G v u s2 x y g C M N K
def aJ(w:lN X (R7 op) r)(m:PE X a ta)(o:PE X b tb):PE X (.BinOp a op b pos) (Od r ta tb):=by intro f s D H Q I h;exact wpAny_BinOp (Mr m o I h fun v u C x y g i A B q=>w f C D g x y v u Q i A B q)
def WI(q:Vr X (unaryOp op) r)(o:PE X a ta):PE X (.UnaryOp op a pos) (Wd r ta):=by intro f s g H Q I h;exact UnaryOp_ (dD (o f s g H _ I h) fun v B ⟨x,i,m,A,w⟩=>q f B g i x v Q m A w)
def Ra{f:f9->f9->Sem f9}{C:Int->Int->Prop}{g:Int->Int->Int}(m:∀(i j:Int)(t u:Tok)(s:i6)(Q:f9->i6->Prop)(E:f9->i6->Prop),C i j->Q (.int (g i j) s.toks) {s with toks:=s.toks+1}->j0 (j8 X.prog X.w) X.A (f (.int i t) (.int j u)) Q E s):
  lN X f (rI C fun i j=>.int (g i j)):=by
 intro o s K H x y v u Q I D G h;obtain ⟨i,j,rfl,rfl,B,q⟩:=h;obtain ⟨t,rfl⟩:=D;obtain ⟨J,rfl⟩:=G;exact m i j t J s _ _ B {.int (g i j),H,I.tok _,{_,rfl},q}
def Qz{f:f9->f9->Sem f9}{g:Int->Int->Int}(m:∀(i j:Int)(t u:Tok)(s:i6)(Q:f9->i6->Prop)(E:f9->i6->Prop),Q (.int (g i j) s.toks) {s with toks:=s.toks+1}->j0 (j8 X.prog X.w) X.A (f (.int i t) (.int j u)) Q E s):
  lN X f (ZO fun i j=>.int (g i j)):=by
 intro o s G H x y v u Q I B C h;obtain ⟨i,j,rfl,rfl,q⟩:=h;obtain ⟨t,rfl⟩:=B;obtain ⟨D,rfl⟩:=C;exact m i j t D s _ _ {.int (g i j),H,I.tok _,{_,rfl},q}
def Cf{f:f9->f9->Sem f9}{g:Int->Int->Bool}(m:∀(i j:Int)(t u:Tok)(s:i6)(Q:f9->i6->Prop)(E:f9->i6->Prop),Q (.bool (g i j)) s->j0 (j8 X.prog X.w) X.A (f (.int i t) (.int j u)) Q E s):
  lN X f (ZO fun i j=>.bl (g i j)):=by
 intro o s G H x y v u Q I B C h;obtain ⟨i,j,rfl,rfl,q⟩:=h;obtain ⟨t,rfl⟩:=B;obtain ⟨D,rfl⟩:=C;exact m i j t D s _ _ {.bl (g i j),H,I,rfl,q}
noncomputable def SI(i j:Int):Prop:=0<=j/\j<=1000000/\i.natAbs<2^64
noncomputable def Nb(i j:Int):Prop:=(-(2^64)<i/\i<2^64)∨(-(2^64)<j/\j<2^64)
def Nb.ok(h:Nb i j):IntMulOk i j:=by
 rcases h with ⟨f,g⟩|⟨f,g⟩
 ·exact .of_left (intBits_le_64 f g)
 ·exact .of_right (intBits_le_64 f g)
def Kw:lN X (R7 .Add) (ZO fun i j=>.int (i+j)):=Qz fun _ _ _ _ _ _ _ q=>add_int q
def lU:lN X (R7 .Sub) (ZO fun i j=>.int (i-j)):=Qz fun _ _ _ _ _ _ _ q=>sub_int q
def bQ:lN X (R7 .Mod) (rI (fun _ j=>0<j) fun i j=>.int (i%j)):=Ra fun i j _ _ _ _ _ f q=>by have g:(0:Int)<j:=f;exact mod_int' (by lia) (by rw[Int.fmod_eq_emod_of_nonneg i (by lia)];exact q)
def Cc:lN X (R7 .Mod) (rI (fun _ j=>j≠0) fun i j=>.int (i.fmod j)):=Ra fun _ _ _ _ _ _ _ f q=>mod_int' f q
def rC:lN X (R7 .Pow) (rI SI fun i j=>.int (i^j.toNat)):=Ra fun _ _ _ _ _ _ _ f q=>pow_int_small f.1 f.2.1 f.2.2 q
def unI{f:f9->Sem f9}{g:Int->Int}(m:∀(i:Int)(t:Tok)(s:i6)(Q:f9->i6->Prop)(E:f9->i6->Prop),Q (.int (g i) s.toks) {s with toks:=s.toks+1}->j0 (j8 X.prog X.w) X.A (f (.int i t)) Q E s):
  Vr X f (rU fun i=>.int (g i)):=by
 intro o s C H x v Q I B h;obtain ⟨i,rfl,q⟩:=h;obtain ⟨t,rfl⟩:=B;exact m i t s _ _ {.int (g i),H,I.tok _,{_,rfl},q}
def IZ:Vr X (unaryOp .USub) (rU fun i=>.int (-i)):=unI fun _ _ _ _ _ q=>neg_int q
end
noncomputable def Op:V->V->Bool
|.non,.non=>true|.non,.int _=>true|.int _,.non=>true|.non,.bl _=>true|.bl _,.non=>true|.non,.str _=>true|.str _,.non=>true
|.int _,.int _=>true|.bl _,.bl _=>true|.str _,.str _=>true|.byt _,.byt _=>true
|.int _,.str _=>true|.str _,.int _=>true|.bl _,.str _=>true|.str _,.bl _=>true
|_,_=>false
noncomputable def To:R2:=fun x y H Q=>Op x y=true/\Q (.bl (decide (x=y))) H
noncomputable def Tn:R2:=fun x y H Q=>Op x y=true/\Q (.bl (!decide (x=y))) H
def wF:decide (V.int i=V.int j)=(i==j):=by rw[ja];simp
def DU:decide (V.bl i=V.bl j)=(i==j):=by rw[ja];simp
def wE:decide (V.str i=V.str j)=(i==j):=by rw[ja];simp
def OR:decide (V.byt i=V.byt j)=(i.toList==j.toList):=by rw[ja];cases i;cases j;simp
section
variable {X:Cx}{a b c:D9}{ta tb tc:TE}{pos:Pos}
def cD(I:aY X ag σ H s)(q:Q (.bl k) H)(e:k=k'):EP X ag σ Q (.bool k') s:=by subst e;exact {.bl k,H,I,rfl,q}
def Qy:lN X (E7 .Eq) To:=by
 intro o s w H x y v u Q I m f h;obtain ⟨hs,q⟩:=h;cases x with
|non=>
  cases m;cases y with
 |non=>cases f;exact PySem.EqNone.eq_none_none (cD I q (by simp))
 |bl j=>cases f;exact PySem.EqNone.eq_none_bool (cD I q (by simp))
 |int j=>obtain ⟨g,rfl⟩:=f;exact PySem.EqNone.eq_none_int (cD I q (by simp))
 |str j=>obtain ⟨g,rfl⟩:=f;exact PySem.EqNone.eq_none_str (cD I q (by simp))
 |_=>exact absurd (show false=true from hs) j7
|bl i=>
  cases m;cases y with
 |non=>cases f;exact PySem.EqNone.eq_bool_none (cD I q (by simp))
 |bl j=>cases f;exact eq_bool (cD I q DU)
 |str j=>obtain ⟨g,rfl⟩:=f;exact PySem.EqMixed.eq_bool_str (cD I q (by simp))
 |_=>exact absurd (show false=true from hs) j7
|int i=>
  obtain ⟨t,rfl⟩:=m;cases y with
 |non=>cases f;exact PySem.EqNone.eq_int_none (cD I q (by simp))
 |int j=>obtain ⟨g,rfl⟩:=f;exact eq_int (cD I q wF)
 |str j=>obtain ⟨g,rfl⟩:=f;exact PySem.EqMixed.eq_int_str (cD I q (by simp))
 |_=>exact absurd (show false=true from hs) j7
|str i=>
  obtain ⟨t,rfl⟩:=m;cases y with
 |non=>cases f;exact PySem.EqNone.eq_str_none (cD I q (by simp))
 |bl j=>cases f;exact PySem.EqMixed.eq_str_bool (cD I q (by simp))
 |int j=>obtain ⟨g,rfl⟩:=f;exact PySem.EqMixed.eq_str_int (cD I q (by simp))
 |str j=>obtain ⟨g,rfl⟩:=f;exact eq_str (cD I q wE)
 |_=>exact absurd (show false=true from hs) j7
|byt i=>
  obtain ⟨t,rfl⟩:=m;cases y with
 |byt j=>obtain ⟨g,rfl⟩:=f;exact PySem.W.eq_bytes (cD I q OR)
 |_=>exact absurd (show false=true from hs) j7
|_=>cases y <;> exact absurd (show false=true from hs) j7
def Qx:lN X (E7 .NotEq) Tn:=by
 intro o s w H x y v u Q I m f h;obtain ⟨hs,q⟩:=h;cases x with
|non=>
  cases m;cases y with
 |non=>cases f;exact PySem.EqNone.ne_none_none (cD I q (by simp))
 |bl j=>cases f;exact PySem.EqNone.ne_none_bool (cD I q (by simp))
 |int j=>obtain ⟨g,rfl⟩:=f;exact PySem.EqNone.ne_none_int (cD I q (by simp))
 |str j=>obtain ⟨g,rfl⟩:=f;exact PySem.EqNone.ne_none_str (cD I q (by simp))
 |_=>exact absurd (show false=true from hs) j7
|bl i=>
  cases m;cases y with
 |non=>cases f;exact PySem.EqNone.ne_bool_none (cD I q (by simp))
 |bl j=>cases f;exact ne_bool (cD I q (congrArg not DU))
 |str j=>obtain ⟨g,rfl⟩:=f;exact PySem.EqMixed.ne_bool_str (cD I q (by simp))
 |_=>exact absurd (show false=true from hs) j7
|int i=>
  obtain ⟨t,rfl⟩:=m;cases y with
 |non=>cases f;exact PySem.EqNone.ne_int_none (cD I q (by simp))
 |int j=>obtain ⟨g,rfl⟩:=f;exact ne_int (cD I q (congrArg not wF))
 |str j=>obtain ⟨g,rfl⟩:=f;exact PySem.EqMixed.ne_int_str (cD I q (by simp))
 |_=>exact absurd (show false=true from hs) j7
|str i=>
  obtain ⟨t,rfl⟩:=m;cases y with
 |non=>cases f;exact PySem.EqNone.ne_str_none (cD I q (by simp))
 |bl j=>cases f;exact PySem.EqMixed.ne_str_bool (cD I q (by simp))
 |int j=>obtain ⟨g,rfl⟩:=f;exact PySem.EqMixed.ne_str_int (cD I q (by simp))
 |str j=>obtain ⟨g,rfl⟩:=f;exact ne_str (cD I q (congrArg not wE))
 |_=>exact absurd (show false=true from hs) j7
|byt i=>
  obtain ⟨t,rfl⟩:=m;cases y with
 |byt j=>obtain ⟨g,rfl⟩:=f;exact PySem.W.ne_bytes (cD I q (congrArg not OR))
 |_=>exact absurd (show false=true from hs) j7
|_=>cases y <;> exact absurd (show false=true from hs) j7
def sW:lN X (E7 .Lt) (ZO fun i j=>.bl (decide (i<j))):=Cf fun _ _ _ _ _ _ _ q=>lt_int q
def Gr:lN X (E7 .LtE) (ZO fun i j=>.bl (decide (i<=j))):=Cf fun _ _ _ _ _ _ _ q=>le_int q
def WP:lN X (E7 .Gt) (ZO fun i j=>.bl (decide (j<i))):=Cf fun _ _ _ _ _ _ _ q=>gt_int q
def GV:lN X (E7 .GtE) (ZO fun i j=>.bl (decide (j<=i))):=Cf fun _ _ _ _ _ _ _ q=>ge_int q
def Ks:lN X (E7 .Is) (fun x y H Q=>y=.non/\Q (.bl (decide (x=.non))) H):=by
 intro f s m H x y v u Q I g i h;obtain ⟨rfl,q⟩:=h;cases i;refine is_none_gen (cD I q ?_);cases x <;> first
 |(cases g;rfl)
 |(obtain ⟨t,rfl⟩:=g;rfl)
def Cb:lN X (E7 .IsNot) (fun x y H Q=>y=.non/\Q (.bl (!decide (x=.non))) H):=by
 intro f s m H x y v u Q I g i h;obtain ⟨rfl,q⟩:=h;cases i;refine isnot_none_gen (cD I q ?_);cases x <;> first
 |(cases g;rfl)
 |(obtain ⟨t,rfl⟩:=g;rfl)
def lN.or(h:lN X f r)(h':lN X f r'):lN X f (fun x y H Q=>r x y H Q∨r' x y H Q):=by
 intro g s o H x y v u Q I i m q;rcases q with q|q
 ·exact h g s o H x y v u Q I i m q
 ·exact h' g s o H x y v u Q I i m q
def WY(b:D9)(h:op≠.In:=by decide)(i:op≠.NotIn:=by decide):ef op b=false:=by
 have f:(op==CmpOp.In)=false:=by cases op <;> first|rfl|exact absurd rfl h
 have g:(op==CmpOp.NotIn)=false:=by cases op <;> first|rfl|exact absurd rfl i
 cases b <;> simp[ef,f,g]
def jR(A:lN X (E7 op) r)(m:PE X a ta)(o:PE X b tb)(w:ef op b=false:=by exact WY _):PE X (.Compare a [op] [b] pos) (Od r ta tb):=by intro f s E H Q I h;exact wpAny_Compare1 (Mr m o I h fun v u D x y g i B C q=>A f D E g x y v u Q i B C q) w
noncomputable def TN(t:TE):TT:=fun σ H Q=>t σ H fun x H'=>∃k,x=.bl k/\Q k H'
def aZ(E:lN X (E7 op) r)(B:PE X a ta)(C:PE X b tb)(D:ef op b=false:=by exact WY _):PT X (.Compare a [op] [b] pos) (TN (Od r ta tb)):=by
 intro f s g H Q I h;refine zj (dD (B f s g H _ I h) fun v P ⟨x,i,q,M,G⟩=>dD (C f P g i _ q G) fun u R ⟨y,m,w,N,J⟩=>
  dD (E f R g m x y v u _ w M N J) fun c S ⟨z,o,A,O,k,e,K⟩=>?_) D
 subst e;cases O;exact K9 {o,A,K}
noncomputable def TY(r r':R2)(ta tb tc:TE):TE:=fun σ H Q=>ta σ H fun x H1=>tb σ H1 fun y H2=>r x y H2 fun z H3=>∃k,z=.bl k /\
 (if k=true then tc σ H3 fun w' H4=>r' y w' H4 Q else Q (.bl false) H3)
def WB(T:lN X (E7 op) r)(i:lN X (E7 op') r')(O:PE X a ta)(P:PE X b tb)(R:PE X c tc)(S:lastMarks [op,op'] [b,c]=false:=by with_unfolding_all rfl):PT X (.Compare a [op,op'] [b,c] pos) (TN (TY r r' ta tb tc)):=by
 intro f s g H Q I h;refine isTrue_chain (dD (O f s g H _ I h) fun v s1 ⟨x,A,E,r1,W⟩=>test_link (dD (P f s1 g A _ E W) fun u s2 ⟨y,B,G,w,Y⟩=>
  dD (T f s2 g B x y v u _ G r1 w Y) fun d s3 ⟨z,m,o,r3,k,e,q⟩=>?_)) S
 subst e;cases r3;refine K9 ?_;cases k with
|false=>
  obtain ⟨k',M,U⟩:=q;cases M;exact ite_ff {m,o,U}
|true=>refine ite_tt (test_last (dD (R f s3 g m _ o q) fun w' s4 ⟨z',C,J,r4,Z⟩=>dD (i f s4 g C y z' u w' _ J w r4 Z) fun d' s5 ⟨z2,D,K,r5,k2,N,q5⟩=>?_));subst N;cases r5;exact K9 {D,K,q5}
noncomputable def zD(K:y8)(x:V)(H:Hp)(k:Bool):Prop:=
 match x with
|.non=>k=false
|.bl b=>k=b
|.int i=>k=(i !=0)
|.str y=>y.length<=n7/\k=((y.length:Int) !=0)
|.byt y=>y.size<=n7/\k=((y.size:Int) !=0)
|.ref p=>(∃xs,cS K H p xs/\k=!xs.isEmpty)∨(∃xs,vO K H p xs/\k=!xs.isEmpty)∨∃kvs,H p=some (.dK kvs)/\k=!kvs.isEmpty
|_=>False
def KF{κ:Type}{kvs:List (κ×V)}{vs:List (κ×f9)}(r:KV kvs vs):(!vs.isEmpty)=!kvs.isEmpty:=by cases r <;> rfl
def yK(r:bH xs its):(!its.toArray.isEmpty)=!xs.isEmpty:=by cases r <;> simp
def yG:(n7:Nat)<2^63:=by rw[B8];decide
def TJ:Vs X (fun x H Q=>∃k,zD X.K x H k/\Q k H):=by
 intro M s S H x v Q I B h;obtain ⟨k,e,q⟩:=h;have R:=yG;have hs:n7=16777216:=B8;cases x with
|non=>
  cases B;have f:k=false:=e;subst f;exact truthy_none {H,I,q}
|bl b=>
  cases B;have f:k=b:=e;subst f;exact K9 {H,I,q}
|int i=>
  obtain ⟨t,rfl⟩:=B;have f:k=(i !=0):=e;subst f;exact PySem.P.truthy_int {H,I,q}
|str y=>
  obtain ⟨t,rfl⟩:=B;obtain ⟨O,f⟩:y.length<=n7/\k=((y.length:Int) !=0):=e;subst f;exact PySem.P.truthy_str (by lia) {H,I.tok _,q}
|byt y=>
  obtain ⟨t,rfl⟩:=B;obtain ⟨O,f⟩:y.size<=n7/\k=((y.size:Int) !=0):=e;subst f;exact PySem.W.truthy_bytes (by lia) {H,I.tok _,q}
|ref p=>
  cases B;have f:(∃A,cS X.K H p A/\k=!A.isEmpty)∨(∃A,vO X.K H p A/\k=!A.isEmpty)∨∃g,H p=some (.dK g)/\k=!g.isEmpty:=e;rcases f with ⟨A,C,f⟩|⟨A,C,f⟩|⟨g,C,f⟩
  ·subst f;obtain ⟨E,r,G,J⟩:=I.list C;have o:=r.length;exact wpAny_truthy_list G.isList (by simp only[l8];lia) {H,I.tok _,by rw[yK r];exact q}
  ·subst f;obtain ⟨E,r,G,J⟩:=I.tuple C;have o:=r.length;exact truthy_tuple G (by simp only[l8];lia) {H,I.tok _,by rw[yK r];exact q}
  ·subst f;obtain ⟨J,N,D,r,m⟩:g.length<=n7/\(p==sysModules)=false/\∃D,KV g D/\s.heap.DictOf (bS X.prog X.w) p D:=I.hok p _ C;have o:g.length=D.length:=Paired.length r;exact wpAny_truthy_dict N m (by lia) {H,I.tok _,by rw[KF r];exact q}
|_=>exact (show False from e).elim
def WA(o:PE X a ta)(q:∀whole,isTrue a X.env whole=(do let v ←whole;nz a.pos;kj [v] (truthy v))):
  PT X a (fun g H Q=>ta g H fun x H'=>∃k,zD X.K x H' k/\Q k H'):=by
 intro f s g H Q I h;exact isTrue_plain (dD (o f s g H _ I h) fun v B ⟨x,i,m,A,w⟩=>TJ f B g i x v Q m A w) (q _)
def JS:lN X (R7 .Add) (fun x y H Q=>∃i j,x=.str i/\y=.str j/\i.length+j.length<=n7/\Q (.str (i++j)) H):=by intro f s A H x y v u Q I m o h;obtain ⟨i,j,rfl,rfl,g,q⟩:=h;obtain ⟨t,rfl⟩:=m;obtain ⟨w,rfl⟩:=o;exact add_str (fun w tk=>{.str (i++j),H,I.tok _,{_,rfl},q}) g
def ES(r:bH [x] us):∃u,us=[u]/\bJ x u:=by
 cases r with
|cons f g=>cases g;exact {_,rfl,f}
def Ek(r:bH [x,y] us):∃u f,us=[u,f]/\bJ x u/\bJ y f:=by
 cases r with
|cons g i=>
  cases i with
 |cons m o=>cases o;exact {_,_,rfl,g,m}
def YT:fK X (.builtin "abs") (fun xs H Q=>∃i,xs=[.int i]/\Q (.int (if i<0 then -i else i)) H):=by intro f s m H xs g Q I r h;obtain ⟨i,rfl,q⟩:=h;obtain ⟨u,rfl,t,rfl⟩:=ES r;exact call_abs_int fun u tk=>{.int (if i<0 then -i else i),H,I.tok _,{_,rfl},q}
def RO(m:X.calm=true):fK X (.builtin "max") (fun xs H Q=>∃i j,xs=[.int i,.int j]/\Q (.int (if j>i then j else i)) H):=by
 intro g s C H xs A Q I r h;obtain ⟨i,j,rfl,q⟩:=h;obtain ⟨u,B,rfl,⟨t,rfl⟩,⟨w,rfl⟩⟩:=Ek r;refine max_two_ints (I.ok.hd m) fun o tk k=>{_,H,I.kept k,?_,q}
 by_cases f:j>i
 ·rw[if_pos f,if_pos f];exact {_,rfl}
 ·rw[if_neg f,if_neg f];exact {_,rfl}
def RN(m:X.calm=true):fK X (.builtin "min") (fun xs H Q=>∃i j,xs=[.int i,.int j]/\Q (.int (if j<i then j else i)) H):=by
 intro g s C H xs A Q I r h;obtain ⟨i,j,rfl,q⟩:=h;obtain ⟨u,B,rfl,⟨t,rfl⟩,⟨w,rfl⟩⟩:=Ek r;refine min_two_ints (I.ok.hd m) fun o tk k=>{_,H,I.kept k,?_,q}
 by_cases f:j<i
 ·rw[if_pos f,if_pos f];exact {_,rfl}
 ·rw[if_neg f,if_neg f];exact {_,rfl}
def RP:fK X (.type "int") (fun xs H Q=>(∃i,xs=[.int i]/\Q (.int i) H)∨∃k,xs=[.bl k]/\Q (.int (if k then 1 else 0)) H):=by
 intro f s o H xs m Q I r h;rcases h with ⟨i,rfl,q⟩|⟨k,rfl,q⟩
 ·obtain ⟨u,rfl,t,rfl⟩:=ES r;exact call_int_int {.int i,H,I,{_,rfl},q}
 ·obtain ⟨u,rfl,g⟩:=ES r;cases g;exact call_int_bool {.int (if k then 1 else 0),H,I.tok _,{_,rfl},q}
noncomputable def Ta(K:y8)(x:V)(H:Hp)(n:Nat):Prop:=
 match x with
|.str y=>y.length<=n7/\n=y.length
|.byt y=>y.size<=n7/\n=y.size
|.ref p=>(∃xs,cS K H p xs/\n=xs.length)∨∃xs,vO K H p xs/\n=xs.length
|_=>False
def YS:fK X (.builtin "len") (fun xs H Q=>∃x n,xs=[x]/\Ta X.K x H n/\Q (.int n) H):=by
 intro B s J H xs G Q I r h;obtain ⟨x,n,rfl,e,q⟩:=h;obtain ⟨u,rfl,A⟩:=ES r;have E:=yG;have hs:n7=16777216:=B8;cases x with
|str y=>
  obtain ⟨t,rfl⟩:=A;obtain ⟨C,g⟩:y.length<=n7/\n=y.length:=e;subst g;exact len_str (by lia) {.int _,H,I.tok _,{_,rfl},q}
|byt y=>
  obtain ⟨t,rfl⟩:=A;obtain ⟨C,g⟩:y.size<=n7/\n=y.size:=e;subst g;exact PySem.W.len_bytes (by lia) {.int _,H,I.tok _,{_,rfl},q}
|ref p=>
  cases A;have g:(∃xs,cS X.K H p xs/\n=xs.length)∨∃xs,vO X.K H p xs/\n=xs.length:=e;rcases g with ⟨xs,i,g⟩|⟨xs,i,g⟩
  ·subst g;obtain ⟨m,w,o,D⟩:=I.list i;have f:=w.length;exact Calls.call_len_list o.isList (by simp only[l8];lia) {.int xs.length,H,I.tok _,{_,by simp only[l8];rw[f]},q}
  ·subst g;obtain ⟨m,w,o,D⟩:=I.tuple i;have f:=w.length;exact len_tuple o (by simp only[l8];lia) {.int xs.length,H,I.tok _,{_,by simp only[l8];rw[f]},q}
|_=>exact (show False from e).elim
end
structure LD(h:C3)(x dx C:g6)(mA:Str->Option f9):Prop where
 obj:h.get? x=some (on C dx)
 ns:h.Ns1 dx mA
 ne:dx≠x
def QR{h:C3}{dx:g6}{f:Str->Option f9}(n:h.Ns1 dx f):∃g,h.get? dx=some g/\∀name,lookIn name g=some (f name):=by
 obtain ⟨o,c,B,w,m,hk,_,s⟩:=n;refine {o,w,fun name=>?_};have e:=s name;unfold nsFind findBy at e;rw[←Array.find?_toList]at e;unfold lookIn;rw[m];dsimp only;split
 ·rename_i y q;rw[q]at e;exact congrArg some e
 ·rename_i q;rw[q]at e;have a:c.toList.any (·.refKey)=false:=by
   rw[List.any_eq_false];intro y A;obtain ⟨z,t,b⟩:=hk y (Array.mem_toList_iff.mp A);simp[DictEntry.refKey,b]
  have i:¬c.toList.any (·.refKey)=true:=by rw[a];exact j7
  rw[if_neg i];exact congrArg some e
def LD.look(I:LD h x dx C mA):∃b,InstAt h x (on C dx) C (some b)/\∀name,lookIn name b=some (mA name):=
 let ⟨b,f,c⟩:=QR I.ns
 {b,{I.obj,rfl,rfl,f},c}
section
variable {prog:m9}{w:w6}{A:B2}{E:f9->i6->Prop}{s:i6}{K:y8}{x dx C f:g6}{mA:Str->Option f9}{name:Str}{v:f9}
def Cz(X:K.In s.heap)(I:LD s.heap x dx C mA)(g:zv K C name=true)(i:hasDictIn K C=true)(c:N8 K (.ref C) name=some none)(o:mA name=some v)(b:handedIn v=true)(h:Q v {s with toks:=s.toks+1}):
  j0 (j8 prog w) A (getAttr (.ref x) name expr) Q E s:=by
 obtain ⟨q,J,m⟩:=I.look;exact PySem.W.get_value X J (zo g).1 (PySem.W.findObj_own i c rfl (by rw[m,o])) b h
def YG(X:K.In s.heap)(I:LD s.heap x dx C mA)(b:zv K C name=true)(c:N8 K (.ref C) name=some (some (.ref f)))(i:ul K (.ref f)=true)(m:mA name=none)(h:Q (.ref f,[.ref x]) s):
  j0 (j8 prog w) A (oo (.ref x) name pl) Q E s:=by
 obtain ⟨o,J,g⟩:=I.look;exact PySem.W.method_fn X J (zo b).1 (zo b).2 c (beq_iff_eq.mp i) (by show (lookIn name o).map (·.isSome)=some false;rw[g,m];rfl) h
def Ah(X:K.In s.heap)(I:LD s.heap x dx C mA)(hs:N8 K (.ref C) "__setattr__"=some (some (.builtin "object.__setattr__")))(hp:plainOver K C=true)(M:takerIn K C name=some none)(H:hasDictIn K C=true)(N:nj mA ns)(hsz:ns.length<=n7)(h:∀h',LD h' x dx C (fun y=>if y=name then some v else mA y)->Q4 dx s.heap h'->Q () {s with heap:=h',toks:=s.toks+2}):
  j0 (j8 prog w) A (setAttr (.ref x) name v) Q E s:=by
 obtain ⟨T,J,R⟩:=I.look;refine PySem.W.set_plain X J hs (PySem.W.osa_open (s:={s with toks:=s.toks+1}) (r:=none) X J hp M fun b=>?_);obtain ⟨P,G,m⟩:=PySem.W.any_some H;have O:s.heap.get? x=some {.ref C,some dx,.plain,#[]}:=I.obj;refine e9 (i8 (e9 (e9 (wpAny_loadPart O (e9 (PySem.W.Looks.here (s:={s with toks:=s.toks+1}) (PySem.W.looks_clsIn X G) ?_))))));rw[m];refine i8 (a:=some dx) (e9 (i8 (e9 ?_)));refine wpAny_nsSet1 (s:={s with toks:=s.toks+1}) I.ns fun h' c g=>?_;obtain ⟨S,D,B,q,o,i⟩:=c.count (nj.cons name v N);refine e9 (wpAny_lookBehind q (by rw[o];exact pastItsLine_dict (B9 i (by rw[K2];lia))) ?_);exact i8 (h _ {(g.2 _ (u7 I.ne)).trans I.obj,c,I.ne} g)
def XE(X:K.In s.heap)(m:pc K C=true)(i:N8 K (.ref C) "__init__"=some (some (.ref f)))(c:typeIn K (.ref f)=some (.type "function"))
  (h:X2 (j8 prog w) (A.under (.builtin "type.__call__" {.ref C::vs,kw})) (.call (.ref f) {.ref (s.heap.objs.size+1)::vs,kw}) (PySem.W.InitBack (s.heap.objs.size+1) R)
   {s with heap:=(s.heap.push dj).push (on C s.heap.objs.size)}) :
  X2 (j8 prog w) A (.call (.ref C) {vs,kw}) R s:=by
 obtain ⟨o,g,d,t,q⟩:=s;exact PySem.W.make_core (PySem.W.makes_of X m) (PySem.W.looks_findIn X i) (fun b=>PySem.W.bind_fn X b c) (.inl rfl) h
end
noncomputable def gY(f:Str)(v:V):List (Str×V)->List (Str×V)
|[]=>[(f,v)]
|(g,x)::r=>if g=f then (g,v)::r else (g,x)::gY f v r
theorem vA(f g:Str)(v:V):∀fs:List (Str×V),(gY f v fs).lookup g=if g=f then some v else fs.lookup g
|[]=>by
  show Q3 g [(f,v)]=_;by_cases h:g=f
  ·have b:(g==f)=true:=beq_iff_eq.mpr h;simp only[Q3,b,if_pos h]
  ·have b:(g==f)=false:=beq_eq_false_iff_ne.mpr h;simp only[Q3,b,if_neg h]
|(k,x)::r=>by
  have ih:=vA f g v r;rw[show gY f v ((k,x)::r)=(if k=f then (k,v)::r else (k,x)::gY f v r) from rfl];by_cases hk:k=f
  ·rw[if_pos hk];by_cases h:g=k
   ·have b:(g==k)=true:=beq_iff_eq.mpr h;simp only[Q3,b,if_pos (h.trans hk)]
   ·have b:(g==k)=false:=beq_eq_false_iff_ne.mpr h;simp only[Q3,b,if_neg (fun e:g=f=>h (e.trans hk.symm))]
  ·rw[if_neg hk];by_cases h:g=k
   ·have b:(g==k)=true:=beq_iff_eq.mpr h;simp only[Q3,b,if_neg (fun e:g=f=>hk (h.symm.trans e))]
   ·have b:(g==k)=false:=beq_eq_false_iff_ne.mpr h;simp only[Q3,b];exact ih
theorem uL(f:Str)(v:V):∀fs:List (Str×V),f∈(gY f v fs).map (·.1)/\∀g,g∈fs.map (·.1)->g∈(gY f v fs).map (·.1)
|[]=>{by simp[gY],fun g h=>by simp at h}
|(k,x)::r=>by
  obtain ⟨b,c⟩:=uL f v r;rw[show gY f v ((k,x)::r)=(if k=f then (k,v)::r else (k,x)::gY f v r) from rfl];by_cases hk:k=f
  ·rw[if_pos hk];subst hk;exact {by simp,fun g h=>by simpa using h}
  ·rw[if_neg hk];refine {?_,fun g h=>?_}
   ·rw[K1];exact E4 _ b
   ·rw[K1]at h ⊢;rcases x6.mp h with e|e
    ·exact x6.mpr (.inl e)
    ·exact E4 _ (c g e)
theorem vB(f:Str)(v:V):∀fs:List (Str×V),(gY f v fs).length<=fs.length+1
|[]=>by simp[gY]
|(k,x)::r=>by
  have ih:=vB f v r;rw[show gY f v ((k,x)::r)=(if k=f then (k,v)::r else (k,x)::gY f v r) from rfl];by_cases hk:k=f
  ·rw[if_pos hk,K2,K2];lia
  ·rw[if_neg hk,K2,K2];lia
def nQ.some_of(r:nQ (some v) o):∃u,o=some u/\bJ v u:=by
 cases o with
|none=>exact (show False from r).elim
|some u=>exact {u,rfl,r}
def nQ.none_of(r:nQ none o):o=none:=by
 cases o with
|none=>rfl
|some u=>exact (show False from r).elim
def RC(r:bJ v u):handedIn u=true:=by
 cases v with
|non=>cases (show u=M7 from r);rfl
|bl b=>cases (show u=rk b from r);rfl
|int i=>obtain ⟨t,e⟩:=(show ∃t,u=ei i t from r);cases e;rfl
|str x=>obtain ⟨t,e⟩:=(show ∃t,u=eh x t from r);cases e;rfl
|byt b=>obtain ⟨t,e⟩:=(show ∃t,u=f9.bytes b t from r);cases e;rfl
|flt b=>obtain ⟨t,e⟩:=(show ∃t,u=wu b t from r);cases e;rfl
|ref a=>cases (show u=n9 a from r);rfl
|ty n=>cases (show u=P0 n from r);rfl
section
variable {P:m9}{w:w6}{H:Hp}{h:C3}{a C dx:g6}{fs:List (Str×V)}
def wB(c:pL P w H h)(e:H a=some (.ins C dx fs)):∃b,LD h a dx C b/\(∀f,nQ (fs.lookup f) (b f))/\nj b (fs.map (·.1))/\fs.length<=1000/\H dx=some (.own a):=by
 obtain ⟨d,z,g,i,b,n,r,q⟩:=(show dJ P w H h a (.ins C dx fs) from c a _ e)
 exact {b,{i,n,g},r,q,z,d}
end
structure EK(K:y8)(C:g6):Prop where
 pg:zv K C Str.empty=true
 hd:hasDictIn K C=true
 po:plainOver K C=true
 sa:N8 K (.ref C) "__setattr__"=some (some (.builtin "object.__setattr__"))
def EK.get{K:y8}{C:g6}(c:EK K C)(f:Str):zv K C f=true:=c.pg
noncomputable def fP(K:y8)(C:g6)(f:Str):Prop:=N8 K (.ref C) f=some none
def fP.taker{K:y8}{C:g6}{f:Str}(n:fP K C f):takerIn K C f=some none:=by unfold takerIn;rw[show N8 K (.ref C) f=some none from n];rfl
structure ZF(K:y8)(C:g6)(m:Str)(f:g6):Prop where
 at_:N8 K (.ref C) m=some (some (.ref f))
 fn:ul K (.ref f)=true
 kp:C0 K (.ref f)=true
section
variable {X:Cx}{ag:List (g6×Obj)}{σ:St}{H:Hp}{s:i6}{a C dx:g6}{fs:List (Str×V)}{f:Str}{v:V}{A:B2}{E:f9->i6->Prop}
def KJ(I:aY X ag σ H s)(e:H a=some (.ins C dx fs))(c:EK X.K C)(n:fP X.K C f)(l:fs.lookup f=some v)(h:∀u s',aY X ag σ H s'->bJ v u->Q u s'):j0 (j8 X.prog X.w) A (getAttr (.ref a) f b) Q E s:=by obtain ⟨m,O,r,_,_,_⟩:=wB I.hok e;obtain ⟨u,i,g⟩:=nQ.some_of (v:=v) (o:=m f) (by rw[←l];exact r f);exact Cz I.kIn O (c.get f) c.hd n i (RC g) (h u _ (I.tok _) g)
def yL(I:aY X ag σ H s)(e:H a=some (.ins C dx fs))(c:EK X.K C)(k:ZF X.K C m g)(l:fs.lookup m=none)(h:Q (.ref g,[.ref a]) s):j0 (j8 X.prog X.w) A (oo (.ref a) m pl) Q E s:=by obtain ⟨b,O,r,_,_,_⟩:=wB I.hok e;have hn:b m=none:=nQ.none_of (by rw[←l];exact r m);exact YG I.kIn O (c.get m) k.at_ k.fn hn h
def JH(I:aY X ag σ H s)(e:H a=some (.ins C dx fs))(c:EK X.K C)(n:fP X.K C f)(U:fs.length<1000)(S:bJ y u)(h:∀s',aY X ag σ (upd H a (.ins C dx (gY f y fs))) s'->Q () s'):j0 (j8 X.prog X.w) A (setAttr (.ref a) f u) Q E s:=by
 obtain ⟨B,O,r,D,_,m⟩:=wB I.hok e;have R:(fs.map (·.1)).length<=n7:=by rw[j6,B8];lia
 refine Ah I.kIn O c.sa c.po n.taker c.hd D R fun J i T=>h _ ?_;have N:∃o,J.get? dx=some o:=let ⟨o,_,_,G,_⟩:=i.ns;{o,G};refine I.write (x:=a) (e:=dx) (by rw[e];exact N3) (.inr m) (fun b q M z=>(T.2 b M).trans z) N ?_;refine {by rw[aX O.ne];exact m,?_,O.ne,i.obj,_,i.ns,fun g=>?_,fun g P=>?_}
 ·have:=vB f y fs;lia
 ·show nQ ((gY f y fs).lookup g) (if g=f then some u else B g);rw[vA];by_cases q:g=f
  ·rw[if_pos q,if_pos q];exact S
  ·rw[if_neg q,if_neg q];exact r g
 ·by_cases q:g=f
  ·rw[q];exact (uL f y fs).1
  ·refine (uL f y fs).2 g (D g fun z=>P ?_);show (if g=f then some u else B g)=none;rw[if_neg q];exact z
def aY.made(I:aY X ag σ H s):aY X ag σ (upd (upd H s.heap.objs.size (.own (s.heap.objs.size+1))) (s.heap.objs.size+1) (.ins C s.heap.objs.size []))
  {s with heap:=(s.heap.push dj).push (on C s.heap.objs.size)}:=by
 have c:(s.heap.push dj).get? s.heap.objs.size=some dj:=o0 s.heap rfl;have m:((s.heap.push dj).push (on C s.heap.objs.size)).get? (s.heap.objs.size+1)=some (on C s.heap.objs.size):=by have:=o0 (s.heap.push dj) (o:=on C s.heap.objs.size) rfl;rwa[L5]at this
 have w:(s.heap.push dj).Ns s.heap.objs.size (fun _=>none):={dj,#[],_,c,rfl,(fun e B=>absurd B (by simp)),fun _=>rfl}
 have i:=I.laid (a:=s.heap.objs.size) (o:=.own (s.heap.objs.size+1)) (h':=s.heap.push dj) (t':=s.toks) (fun b u q=>i4 _ q) (k7 _) {_,c};refine i.laid (a:=s.heap.objs.size+1) (o:=.ins C s.heap.objs.size []) (t':=s.toks) (fun b u q=>i4 _ q) (jq (L5 _ _)) ?_;have g:s.heap.objs.size≠s.heap.objs.size+1:=q7 (M3 _);refine {by rw[aX g,aC],w4 _,g,m,fun _=>none,(C3.Ns1.of_empty w).at fun o q=>i4 _ q,fun _=>N3,fun y D=>absurd rfl D}
def Dv(b:R0 e f env (K3 e env)=K3 e env)(h:j0 (j8 prog w) A (K3 e env) (fun o s₁=>j0 (j8 prog w) A (getAttr o f true) Q E s₁) E s):j0 (j8 prog w) A (K3 (.Attribute e f pos) env) Q E s:=
 Attribute_any_ h (by rw[arm_eval_Attribute,b])
end
noncomputable def Hz(K:y8)(ta:TE)(f:Str):TE:=fun σ H Q=>ta σ H fun x H1=>∃a C dx fs v,x=.ref a/\H1 a=some (.ins C dx fs)/\EK K C/\fP K C f/\fs.lookup f=some v/\Q v H1
noncomputable def Ot(K:y8)(ta tv:TE)(f:Str):TS:=fun D σ H=>tv σ H fun y H1=>ta σ H1 fun x H2=>∃a C dx fs,x=.ref a/\H2 a=some (.ins C dx fs)/\EK K C/\fP K C f/\fs.length<1000 /\
 D.nx σ (upd H2 a (.ins C dx (gY f y fs)))
section
variable {X:Cx}{o e value:D9}{f:Str}{pos pos':Pos}{ta tv:TE}
def dU(D:PE X e ta)(B:R0 e f X.env (K3 e X.env)=K3 e X.env):PE X (.Attribute e f pos) (Hz X.K ta f):=by intro b s J H Q I h;refine Dv B (dD (D b s J H _ I h) fun u O ⟨x,g,i,G,a,C,M,N,v,A,w,c,n,l,q⟩=>?_);subst A;obtain rfl:u=n9 a:=G;exact KJ i w c n l fun R P m E=>{v,g,m,E,q}
def qZ(G:PE X o ta)(J:PE X value tv)(hs:ny value (some (.Attribute o f pos')) pos.line X.env=L3 false):PS X (.Assign [.Attribute o f pos'] value pos) (Ot X.K ta tv f):=by intro b s g H D I h;refine plainObj_wpAny_Assign_Attribute (dD (J b s g H _ I h) fun u Q ⟨y,i,m,P,q⟩=>dD (G b Q g i _ m q) fun M U ⟨x,R,w,O,a,C,S,T,E,B,c,n,l,N⟩=>?_) hs;subst E;obtain rfl:M=n9 a:=O;exact JH w B c n l P fun W A=>{g,_,A,N}
end
section
variable {X:Cx}{ag:List (g6×Obj)}{σ:St}{H:Hp}{s:i6}{A:B2}{E:f9->i6->Prop}{Q:f9->i6->Prop}{c:f9}{b:Bool}
inductive pJ (K:y8) (H:Hp):V->f9->Prop where
|non:pJ K H .non (.type "NoneType")
|bl (x:Bool):pJ K H (.bl x) (.type "bool")
|int (i:Int):pJ K H (.int i) (.type "int")
|str (x:Str):pJ K H (.str x) (.type "str")
|flt (x:UInt64):pJ K H (.flt x) (.type "float")
|lst {a:g6} {xs:List V} (e:H a=some (.lst xs)):pJ K H (.ref a) (.type "list")
|frz {a:g6} {o:Obj} {xs:List V} (e:H a=some (.frz o (.lst xs))):pJ K H (.ref a) (.type "list")
|tup {a:g6} {xs:List V} (e:H a=some (.tup xs)):pJ K H (.ref a) (.type "tuple")
|dK {a:g6} {kvs:List (aL×V)} (e:H a=some (.dK kvs)):pJ K H (.ref a) (.type "dict")
|dT {a:g6} {kvs:List (List aL×V)} (e:H a=some (.dT kvs)):pJ K H (.ref a) (.type "dict")
|ins {a C dx:g6} {fs:List (Str×V)} (e:H a=some (.ins C dx fs)) (cl:EK K C) (ha:N8 K (.ref C) "__class__"=some (some (.builtin "object.__class__")))
   (hn:PySem.W.specialIn K (.builtin "object.__class__") "__get__"=some (some (.builtin "getset_descriptor.__get__"))) (htk:PySem.W.takesIn K (.builtin "object.__class__")=some true)
   (hm:mroIn K C (.type "object")=some true):pJ K H (.ref a) (.ref C)
def QZ(I:aY X ag σ H s)(g:bJ x u)(ty:pJ X.K H x t)(e:W3 X.K t c=some b)(h:∀tk,Q (.bool b) {s with toks:=tk}):
  j0 (j8 X.prog X.w) A (jt (.builtin "isinstance") [u,c]) Q E s:=by
 cases ty with
|non=>cases (show u=M7 from g);exact gs PySem.W.kitx_none I.kIn N3 e (fun z=>nomatch z) h
|bl y=>cases (show u=rk y from g);exact gs PySem.W.kitx_bool I.kIn N3 e (fun z=>nomatch z) h
|int i=>obtain ⟨t,q⟩:=(show ∃t,u=ei i t from g);cases q;exact gs PySem.W.kitx_int I.kIn N3 e (fun z=>nomatch z) h
|str y=>obtain ⟨t,q⟩:=(show ∃t,u=eh y t from g);cases q;exact gs PySem.W.kitx_str I.kIn N3 e (fun z=>nomatch z) h
|flt y=>obtain ⟨t,q⟩:=(show ∃t,u=wu y t from g);cases q;exact gs PySem.W.kitx_float I.kIn N3 e (fun z=>nomatch z) h
|@lst a D f=>
  cases (show u=n9 a from g);obtain ⟨_,_,n,_,m⟩:=(show dJ X.prog X.w H s.heap a (.lst D) from I.hok a _ f)
  exact gs kitx_list I.kIn {_,m,rfl} e (fun z=>nomatch z) h
|@frz a T D f=>
  cases (show u=n9 a from g);obtain ⟨_,_,_,n,_,m⟩:=(show dJ X.prog X.w H s.heap a (.frz T (.lst D)) from I.hok a _ f)
  exact gs kitx_list I.kIn {_,m,rfl} e (fun z=>nomatch z) h
|@tup a D f=>
  cases (show u=n9 a from g);obtain ⟨_,_,_,p⟩:=(show dJ X.prog X.w H s.heap a (.tup D) from I.hok a _ f)
  obtain ⟨o,m,G,_⟩:=p;exact gs PySem.W.kitx_tuple I.kIn {o,m,G} e (fun z=>nomatch z) h
|@dK a B f=>
  cases (show u=n9 a from g);obtain ⟨_,_,vs,_,p⟩:=(show dJ X.prog X.w H s.heap a (.dK B) from I.hok a _ f)
  obtain ⟨o,P,N,m,G,_⟩:=p;exact gs kitx_dict I.kIn {o,m,G.1} e (fun z=>nomatch z) h
|@dT a B f=>
  cases (show u=n9 a from g);obtain ⟨_,_,D,_,o,P,N,m,G,_⟩:=(show dJ X.prog X.w H s.heap a (.dT B) from I.hok a _ f)
  exact gs kitx_dict I.kIn {o,m,G.1} e (fun z=>nomatch z) h
|@ins a C U Y f cl R hn M S=>cases (show u=n9 a from g);obtain ⟨Z,O,_⟩:=wB I.hok f;obtain ⟨od,J,_⟩:=O.look;exact gs (PySem.W.kitx_own (cl.get _) cl.hd R hn M S) I.kIn J e (fun z=>nomatch z) h
end
structure eP(k:Nat)(A:B2):Prop where
 hd:A.handled=none
 dp:A.depth+3*k+5<mm
 un:A.units+16*k+200<N2
 gd:A.guards=some []
def eP.mono(r:eP k A)(h:j<=k):eP j A:={r.hd,by have:=r.dp;lia,by have:=r.un;lia,r.gd}
def eP.deeper(r:eP (k+1) A)(env:Env):eP k (A.deeper env):=
 {r.hd,by have:=r.dp;show A.depth+1+3*k+5<_;lia,by have:=r.un;show A.units+3+16*k+200<_;lia,r.gd}
def KA{A:B2}{C:g6}{us:List f9}{b:List (Str×f9)}:(A.under (.builtin "type.__call__" {.ref C::us,b})).depth=A.depth+1:=by first|rfl|simp[uy,Bg.weight,Bg.isCreation,Bg.isGuard,Bg.isCaller,Bg.frames,we,guardIds]
def JZ{A:B2}{C:g6}{us:List f9}{b:List (Str×f9)}:(A.under (.builtin "type.__call__" {.ref C::us,b})).units=A.units+1:=by first|rfl|simp[uy,Bg.cUnits,Bg.frames,we]
def eP.make(r:eP (k+1) A)(C:g6)(us:List f9)(b:List (Str×f9)):eP k (A.under (.builtin "type.__call__" {.ref C::us,b})):=
 {r.hd,by have:=r.dp;rw[KA];lia,by have:=r.un;rw[JZ];lia,by rw[←r.gd];rfl}
def eP.depth(r:eP k A):A.depth<mm:=by have:=r.dp;lia
def eP.units(r:eP k A):A.units+64<N2:=by have:=r.un;lia
noncomputable def CF:TA:=fun _ H Q=>Q [] H
noncomputable def Ex(ta:TE)(tr:TA):TA:=fun σ H Q=>ta σ H fun x H1=>tr σ H1 fun xs H2=>Q (x::xs) H2
section
variable {X:Cx}{e:D9}{es:List D9}{te:TE}{t:TA}{pos:Pos}
def aD:PA X [] CF:=fun _ _ _ _ H Q I h=>S6 {[],H,I,.nil,h}
def aA(o:PE X e te)(q:PA X es t)(hs:v9 (e::es) X.env=(false,K3 e X.env)::v9 es X.env:=by rfl):PA X (e::es) (Ex te t):=by intro pos b s c H Q I h;rw[hs];show j0 _ _ (yp ((false,K3 e X.env)::O5 pos (v9 es X.env))) _ _ s;refine P4 (dD (o b s c H _ I h) fun u D ⟨x,f,i,B,w⟩=>?_);exact dD (q pos b D c f _ i w) fun J G ⟨E,g,m,C,A⟩=>{x::E,g,m,.cons B C,A}
noncomputable def Nu(t:TA):TE:=fun σ H Q=>t σ H fun xs H1=>xs.length<=n7/\∀p,H1 p=none->Q (.ref p) (upd H1 p (.tup xs))
noncomputable def PM(t:TA):TE:=fun σ H Q=>t σ H fun xs H1=>xs.length<=n7/\∀p,H1 p=none->Q (.ref p) (upd H1 p (.lst xs))
def bM{x1}(h:PA X es t):PE X (.Tuple es x1 pos) (Nu t):=by intro c s B H Q I o;refine wpAny_Tuple_spliced (dD (h pos c s B H _ I o) fun w f ⟨A,g,i,r,z,q⟩=>{by rw[←r.length];exact z,?_});have m:g f.heap.objs.size=none:=i.hok.fresh (k7 _);refine {.ref f.heap.objs.size,upd g f.heap.objs.size (.tup A),i.laid (t':=f.toks) (fun b u e=>i4 _ e) (k7 _) ?_,rfl,q _ m};exact {{z,_,o0 _ rfl,rfl},w,r,{_,o0 _ rfl,rfl,_,rfl}}
def cJ(h:PA X es t):PE X (.List es pos) (PM t):=by intro c s B H Q I o;refine wpAny_List_spliced (dD (h pos c s B H _ I o) fun w f ⟨A,g,i,r,z,q⟩=>{by rw[←r.length];exact z,?_});have m:g f.heap.objs.size=none:=i.hok.fresh (k7 _);refine {.ref f.heap.objs.size,upd g f.heap.objs.size (.lst A),i.laid (t':=f.toks) (fun b u e=>i4 _ e) (k7 _) ?_,rfl,q _ m};exact {z,w,0,r,o0 _ rfl}
end
noncomputable abbrev Sp:=List V->Hp->VK->XK->Prop
noncomputable abbrev zY:=List Env->Hp->i6->XK->f9->i6->Prop
structure vR(P:m9)(w:w6)(K:y8)(mg:Str->Option f9)(base:C3)(A:B2)(outer:List Env)(s:i6)(H:Hp):Prop where
 frames:A.frames=some outer
 mod:Mod K mg base
 bs:∀b o,base.get? b=some o->s.heap.get? b=some o/\H b=none
 bsz:base.objs.size<=s.heap.objs.size
 funs:s.heap.FunFrames base outer
 frf:∀b∈yN outer,H b=none
 hok:pL P w H s.heap
 bare:lg s.gens
noncomputable def CE(outer:List Env)(P:m9)(w:w6)(H:Hp)(s:i6)(Q:VK)(u:f9)(s':i6):Prop:=
 ∃v H',s'.os=s.os/\lg s'.gens/\Un (yN outer) [] H H' s.heap s'.heap/\pL P w H' s'.heap/\bJ v u/\Q v H'
noncomputable def CR(CX:zY)(outer:List Env)(P:m9)(w:w6)(H:Hp)(s:i6)(Q:VK)(E:XK)(r:Result)(s':i6):Prop:=
 match r with
|.ok (.ret u)=>CE outer P w H s Q u s'
|.ok _=>False
|.error e=>CX outer H s E e s'
structure jV(P:m9)(w:w6)(K:y8)(mg:Str->Option f9)(base:C3)(CX:zY)(k:Nat)(f:g6)(fd:M6)(ps:List Str)(sp:Sp):Prop where
 len:∀vs H Q E,sp vs H Q E->vs.length=ps.length
 run:∀ (A:B2) (outer:List Env) (s:i6)(H:Hp)(args:Args)(us:List f9)(vs:List V)(Q:VK)(E:XK),eP k A->vR P w K mg base A outer s H->X6 s fd args (ps.zip us)->bH vs us->sp vs H Q E ->
  X2 (j8 P w) A (.call (.ref f) args) (CR CX outer P w H s Q E) s
def jV.mono{P:m9}{w:w6}{K:y8}{m:Str->Option f9}{b:C3}{CX:zY}{j k:Nat}{f:g6}{i:M6}{ps:List Str}{sp:Sp}(F:jV P w K m b CX j f i ps sp)(h:j<=k):
  jV P w K m b CX k f i ps sp:={F.len,fun A c s H g q B Q E o=>F.run A c s H g q B Q E (o.mono h)}
def vR.make{P:m9}{w:w6}{K:y8}{f:Str->Option f9}{c:C3}{A:B2}{b:List Env}{s:i6}{H:Hp}(e:vR P w K f c A b s H)(C:g6)(us:List f9)(g:List (Str×f9)):
  vR P w K f c (A.under (.builtin "type.__call__" {.ref C::us,g})) b s H:={by first|exact e.frames|(simpa[uy,Bg.envs,we,pushEnvs] using e.frames),e.mod,e.bs,e.bsz,e.funs,e.frf,e.hok,e.bare}
section
variable {X:Cx}{ag:List (g6×Obj)}{σ:St}{H:Hp}{s s':i6}
def aY.env0(I:aY X ag σ H s):vR X.prog X.w X.K X.mg X.base X.A X.stack s H:=
 {I.ok.frames,I.ok.mod,I.bs,B9 I.ok.bsz I.sz,I.stack,I.stkFree,I.hok,I.bare}
def aY.after(I:aY X ag σ H s)(h:CE X.stack X.prog X.w H s Q u s'):EP X ag σ Q u s':=by obtain ⟨v,m,A,c,un,f,r,q⟩:=h;obtain ⟨o,g,d,t,i⟩:=s';obtain rfl:i=s.os:=A;exact {v,m,I.call (h':=o) (g':=g) (d':=d) (t':=t) (ch:=[]) un f c (fun b z=>absurd z (by simp)),r,q}
end
noncomputable def EZ(sp:Sp)(dvs:List V)(E:XK)(t:TA):TE:=fun σ H Q=>t σ H fun vs H1=>sp (vs++dvs) H1 Q E
noncomputable def EX(C:g6)(m:Str)(sp:Sp)(dvs:List V)(E:XK)(ta:TE)(t:TA):TE:=fun σ H Q=>ta σ H fun x H1=>∃a dx fs,x=.ref a/\H1 a=some (.ins C dx fs)/\fs.lookup m=none /\
 t σ H1 fun vs H2=>sp (x::(vs++dvs)) H2 Q E
noncomputable def LL(C:g6)(sp:Sp)(dvs:List V)(E:XK)(t:TA):TE:=fun σ H Q=>t σ H fun vs H1=>∀x dx,H1 x=none->H1 dx=none->dx≠x ->
 sp (.ref x::(vs++dvs)) (upd (upd H1 dx (.own x)) x (.ins C dx [])) (fun v H2=>v=.non/\Q (.ref x) H2) E
noncomputable def fG(K:y8)(fd:M6)(ps:List Str)(ds:List f9):Prop:=
 ∀(s:i6)(us:List f9),K.In s.heap->(us++ds).length=ps.length->X6 s fd {us,[]} (ps.zip (us++ds))
def fG.all{K:y8}{b:M6}{ps:List Str}(h:∀us:List f9,us.length=ps.length->wq b {us,[]}=L3 (ps.zip us)):fG K b ps []:=fun s us _ c=>by rw[K4]at c ⊢;exact .of_eq (h us c)
noncomputable def kR(CX:zY)(X:Cx)(E:XK):Prop:=∀(ag:List (g6×Obj)) (σ:St) (H:Hp) (s:i6) (e:f9) (s':i6),aY X ag σ H s->CX X.stack H s E e s'->X.xe e s'
section
variable {X:Cx}{CX:zY}{k:Nat}{f C:g6}{fd:M6}{ps:List Str}{sp:Sp}{dvs:List V}{ds:List f9}{E:XK}{x m:Str}{p pos bn:Pos}{e o:D9}{es:List D9}{ta:TE}{t:TA}
def JL(F:jV X.prog X.w X.K X.mg X.base CX k f fd ps sp)(D:eP k X.A)(i:fG X.K fd ps ds)(q:bH dvs ds)(G:kR CX X E)(I:aY X ag σ H s)(r:bH vs us)(h:sp (vs++dvs) H Q E):j0 (j8 X.prog X.w) X.A (jt (.ref f) us) (EP X ag σ Q) X.xe s:=by
 have c:bH (vs++dvs) (us++ds):=r.append q;have B:(us++ds).length=ps.length:=by rw[←c.length];exact F.len _ _ _ _ h
 refine wf (gu (F.run X.A X.stack s H {us,[]} (us++ds) (vs++dvs) Q E D I.env0 (i s us I.kIn B) c h) fun r J b=>?_);cases r with
|error e=>exact G ag σ H s e J I b
|ok g=>
  cases g with
 |ret u=>exact I.after b
 |next=>exact P3 b
 |brk=>exact P3 b
 |cont=>exact P3 b
def NY(F:jV X.prog X.w X.K X.mg X.base CX k f fd ps sp)(O:eP k X.A)(M:Gl X x)(N:X.mg x=some (.ref f))(hk:C0 X.K (.ref f)=true)(D:fG X.K fd ps ds)(G:bH dvs ds)(P:kR CX X E)(B:PA X (e::es) t)(c:(x==("__debug__":Str))=false:=by decide)(J:v9 (e::es) X.env=(false,K3 e X.env)::v9 es X.env:=by rfl)(g:(O5 pos (v9 es X.env)).any (·.1)=false:=by rfl):
  PE X (.Call (.Name x p) (e::es) [] pos) (EZ sp dvs E t):=by
 intro b s R H Q I h;refine S7 (OJ I M N ?_ c);refine callWith_K (h₀:=X.base) I.ok.mod.kin hk (dD (B pos b s R H _ I h) fun U T ⟨Y,S,i,r,q⟩=>{i.kIn,?_}) J g;exact JL F O D G P i r q
def Bw(W:PE X o ta)(c:EK X.K C)(G:ZF X.K C m f)(F:jV X.prog X.w X.K X.mg X.base CX k f fd ps sp)(Y:eP k X.A)(T:fG X.K fd ps ds)(U:bH dvs ds)(hx:kR CX X E)(S:PA X (e::es) t)(i:v9 (e::es) X.env=(false,K3 e X.env)::v9 es X.env:=by rfl)(g:(O5 pos (v9 es X.env)).any (·.1)=false:=by rfl)
  (Z:K3 (.Call (.Attribute o m bn) (e::es) [] pos) X.env=(do
   let ov ←K3 o X.env
   nz bn.atName
   let (f,first) ←kj [ov] (oo ov m pl)
   wn pos f first (O5 pos (v9 (e::es) X.env)) (ju pos (Y1 [] X.env))):=by rfl) :
  PE X (.Call (.Attribute o m bn) (e::es) [] pos) (EX C m sp dvs E ta t):=by
 intro b s N H Q I h;refine methodCall_KW (pl:=pl) (dD (W b s N H _ I h) fun u s1 ⟨x,O,B,rx,a,dx,fs,R,P,l,q⟩=>?_) Z;subst R;obtain rfl:u=n9 a:=rx;refine yL B P c G l ?_;refine callWith_K (first:=[.ref a]) (h₀:=X.base) I.ok.mod.kin G.kp (dD (S pos b s1 N O _ B q) fun J s2 ⟨M,H2,D,r,q2⟩=>{D.kIn,?_}) i g;exact JL (us:=.ref a::J) (vs:=.ref a::M) F Y T U hx D (.cons rfl r) q2
def WJ(M:PE X o ta)(c:EK X.K C)(i:ZF X.K C m f)(F:jV X.prog X.w X.K X.mg X.base CX k f fd ps sp)(N:eP k X.A)(G:fG X.K fd ps ds)(J:bH dvs ds)(P:kR CX X E)
  (O:K3 (.Call (.Attribute o m bn) [] [] pos) X.env=(do
   let ov ←K3 o X.env
   nz bn.atName
   let (f,first) ←kj [ov] (oo ov m pl)
   wn pos f first (O5 pos (v9 [] X.env)) (ju pos (Y1 [] X.env))):=by rfl) :
  PE X (.Call (.Attribute o m bn) [] [] pos) (EX C m sp dvs E ta CF):=by
 intro b s S H Q I h;refine methodCall_KW (pl:=pl) (dD (M b s S H _ I h) fun u Z ⟨x,T,g,R,a,U,Y,D,B,l,q⟩=>?_) O;subst D;obtain rfl:u=n9 a:=R;refine yL g B c i l ?_;exact PySem.W.callWith_K0 (first:=[.ref a]) g.kIn i.kp (JL (us:=[.ref a]) (vs:=[.ref a]) F N G J P g (.cons rfl .nil) q)
structure Mk(K:y8)(C f:g6):Prop where
 makes:pc K C=true
 init:N8 K (.ref C) "__init__"=some (some (.ref f))
 fn:ul K (.ref f)=true
 kp:C0 K (.ref C)=true
def VJ(M:Mk X.K C f)(F:jV X.prog X.w X.K X.mg X.base CX k f fd ps sp)(P:eP (k+1) X.A)(J:fG X.K fd ps ds)(N:bH dvs ds)(R:kR CX X E)(I:aY X ag σ H s)(r:bH vs us)(h:∀x dx,H x=none->H dx=none->dx≠x->sp (.ref x::(vs++dvs)) (upd (upd H dx (.own x)) x (.ins C dx [])) (fun v H2=>v=.non/\Q (.ref x) H2) E):
  j0 (j8 X.prog X.w) X.A (jt (.ref C) us) (EP X ag σ Q) X.xe s:=by
 have g:=h (s.heap.objs.size+1) s.heap.objs.size (I.hok.fresh (R6 _)) (I.hok.fresh (k7 _)) (q7 (M3 _));have c:=aY.made (C:=C) I;have i:bH (V.ref (s.heap.objs.size+1)::(vs++dvs)) (n9 (s.heap.objs.size+1)::(us++ds)):=.cons rfl (r.append N);have O:(n9 (s.heap.objs.size+1)::us++ds).length=ps.length:=by have e:=i.length;rw[F.len _ _ _ _ g]at e;exact e.symm
 refine wf (XE (f:=f) I.kIn M.makes M.init (beq_iff_eq.mp M.fn) (gu (F.run _ X.stack _ _ {n9 (s.heap.objs.size+1)::us,[]} (n9 (s.heap.objs.size+1)::(us++ds)) _ _ E (P.make C us [])
  (c.env0.make C us []) (J _ (n9 (s.heap.objs.size+1)::us) c.kIn O) i g) fun r T b=>?_))
 cases r with
|error e=>exact R ag σ _ _ e T c b
|ok G=>
  cases G with
 |ret u=>
   obtain ⟨v,q,B,rv,D,S⟩:=c.after b;subst D;exact {rv,{V.ref (s.heap.objs.size+1),q,B,rfl,S}}
 |next=>exact P3 b
 |brk=>exact P3 b
 |cont=>exact P3 b
def Bx(M:Mk X.K C f)(F:jV X.prog X.w X.K X.mg X.base CX k f fd ps sp)(P:eP (k+1) X.A)(N:Gl X x)(O:X.mg x=some (.ref C))(D:fG X.K fd ps ds)(G:bH dvs ds)(R:kR CX X E)(B:PA X (e::es) t)(c:(x==("__debug__":Str))=false:=by decide)(J:v9 (e::es) X.env=(false,K3 e X.env)::v9 es X.env:=by rfl)(g:(O5 pos (v9 es X.env)).any (·.1)=false:=by rfl):
  PE X (.Call (.Name x p) (e::es) [] pos) (LL C sp dvs E t):=by
 intro b s S H Q I h;refine S7 (OJ I N O ?_ c);refine callWith_K (h₀:=X.base) I.ok.mod.kin M.kp (dD (B pos b s S H _ I h) fun W U ⟨Y,T,i,r,q⟩=>{i.kIn,?_}) J g;exact VJ M F P D G R i r q
end
noncomputable def PK(X:Cx)(kws:List kx)(t:TA):Prop:=
 ∀(pos:Pos)(ag:List (g6×Obj)) (s:i6) (σ:St) (H:Hp) (Q:List V->Hp->Prop),aY X ag σ H s->t σ H Q->j0 (j8 X.prog X.w) X.A (evalAll ((ju pos (Y1 kws X.env)).map (·.2))) (AP X ag σ Q) X.xe s
structure aM(N P:List Str)(sc:di):Prop where
 kind:sc.kind=.function
 co:sc.isCoroutine=false
 gen:sc.isGenerator=false
 nd:N.Nodup
 pre:N.take P.length=P
 par:∀x∈P,sc.names.lookup x=some .local∨sc.names.lookup x=some .cell
 nofree:∀y∈sc.names,y.2≠.free
theorem BV{kindOf:Str->Option fj}:∀{b:List (Str×f9)}{m:Str->Option f9},(∀v,(x,v)∉b)->yk kindOf b m x=m x
|[],_,_=>rfl
|(n,v)::r,m,h=>by
  unfold yk;rw[BV fun w c=>h w (E4 _ c)];split
  ·have:x≠n:=by rintro rfl;exact h v L8
   simp[this]
  ·rfl
theorem BX{kindOf:Str->Option fj}:∀{b:List (Str×f9)}{m:Str->Option f9},(∀v,(x,v)∉b)->yl kindOf b m x=m x
|[],_,_=>rfl
|(n,v)::r,m,h=>by
  unfold yl;rw[BX fun w c=>h w (E4 _ c)];split
  ·rfl
  ·have:x≠n:=by rintro rfl;exact h v L8
   simp[this]
theorem BW{kindOf:Str->Option fj}:∀{P:List Str}{vs:List f9}{i:Nat}{m:Str->Option f9},P.Nodup->P[i]?=some x->vs[i]?=some v->kindOf x=some .local ->
  yk kindOf (P.zip vs) m x=some v
|[],_,_,_,_,h,_,_=>by simp at h
|_::_,[],_,_,_,_,h,_=>by simp at h
|p::P,w::vs,0,m,f,b,c,hk=>by
  simp at b c;subst b;subst c;show yk kindOf ((p,w)::P.zip vs) m p=_;unfold yk;rw[BV fun v g=>(T4.mp f).1 (of_mem_zip g).1,if_pos hk];simp
|p::P,w::vs,i+1,m,f,b,c,hk=>by show yk kindOf ((p,w)::P.zip vs) m x=_;unfold yk;exact BW (i:=i) (T4.mp f).2 (by simpa using b) (by simpa using c) hk
theorem BY{kindOf:Str->Option fj}:∀{P:List Str}{vs:List f9}{i:Nat}{m:Str->Option f9},P.Nodup->P[i]?=some x->vs[i]?=some v->kindOf x≠some .local ->
  yl kindOf (P.zip vs) m x=some v
|[],_,_,_,_,h,_,_=>by simp at h
|_::_,[],_,_,_,_,h,_=>by simp at h
|p::P,w::vs,0,m,f,b,c,hk=>by
  simp at b c;subst b;subst c;show yl kindOf ((p,w)::P.zip vs) m p=_;unfold yl;rw[BX fun v g=>(T4.mp f).1 (of_mem_zip g).1,if_neg hk];simp
|p::P,w::vs,i+1,m,f,b,c,hk=>by show yl kindOf ((p,w)::P.zip vs) m x=_;unfold yl;exact BY (i:=i) (T4.mp f).2 (by simpa using b) (by simpa using c) hk
noncomputable def start(N:List Str)(vs:List V):St:=vs.map some++C7 (N.length-vs.length) none
noncomputable def rL(CX:zY)(P:m9)(w:w6)(K:y8)(mg:Str->Option f9)(base:C3)(N:List Str)(qual:Str)(scope:di)(f:g6)(cd:f9)(A:B2)(outer:List Env)(s:i6)(H:Hp)(E:XK):Cx where
 prog:=P
 w:=w
 K:=K
 mg:=mg
 base:=base
 A:=A.deeper (ii qual scope s.heap.objs.size f cd)
 N:=N
 s₀:=s
 H₀:=H
 env:=ii qual scope s.heap.objs.size f cd
 outer:=outer
 stack:=ii qual scope s.heap.objs.size f cd::outer
 ex:=[]
 calm:=true
 fn:=fun _=>true
 pn:=[]
 xe:=fun e s'=>j0 (j8 P w) (A.deeper (ii qual scope s.heap.objs.size f cd)) (leaving (ii qual scope s.heap.objs.size f cd) e) (fun _ s''=>CX outer H s E e s'') (fun e' s''=>CX outer H s E e' s'') s'
def IH{sc:di}{n:Nat}{x:Str}(h:sc.names.lookup x=some .cell):∃c,(cellsFrom n sc.names []).lookup x=some c:=by have q:=cellsFrom_some sc.names n [] (.inl h);exact Option.isSome_iff_exists.mp q
def BN{CX:zY}{P:m9}{w:w6}{K:y8}{R:Str->Option f9}{C:C3}{N ps:List Str}{o:Str}{g:di}{f:g6}{M:f9}{A:B2}{m:List Env}{s U:i6}{H:Hp}{E:XK}{us:List f9}{vs:List V}(S:aM N ps g)(X:A.handled=none)(D:vR P w K R C A m s H)(hl:vs.length=ps.length)(r:bH vs us)(x:InCallC s s.heap.objs.size (yk (ii o g s.heap.objs.size f M).kindOf (ps.zip us) fun _=>none) (cellsFrom (s.heap.objs.size+1) g.names []) (yl (ii o g s.heap.objs.size f M).kindOf (ps.zip us) fun _=>none) U):
  aY (rL CX P w K R C N o g f M A m s H E) [] (start N vs) H U:=by
 have Y:ps.length<=N.length:=by have:=congrArg xq S.pre;rw[V8]at this;lia
 obtain ⟨O,tk,rfl,hk⟩:=x.done;have I:∀b:g6,b∉(rL CX P w K R C N o g f M A m s H E).ex:=fun b z=>absurd (show b∈([]:List g6) from z) (by simp);refine {{D.mod,S.kind,rfl,rfl,k7 _,fun y z c O B=>?_,fun y G=>?_,fun y c _ h=>?_,fun _=>X,B2.frames_deeper D.frames,.inr {rfl,rfl},fun b z=>absurd z (I b),D.bs,D.bsz,fun b _ _=>I b,fun b z=>absurd z (I b),D.funs,D.frf},
  rfl,D.bare,Un.kept hk,{_,x.toInCall.ns,fun i y v O B Z=>?_},fun y c h=>{_,x.cell y c h},D.hok.fresh (k7 _),fun y c h=>?_,fun p hp=>absurd (show p∈([]:List (g6×Obj)) from hp) (by simp),D.hok.kept hk,?_}
 ·exact name_of_addr x.apart (V3 O) (V3 B)
 ·have G:g.names.lookup y=some .cell∨g.names.lookup y=some .free:=G;rcases G with G|G
  ·exact IH G
  ·exact absurd rfl (S.nofree _ (V3 G))
 ·exact M5 (x.above y c (V3 h))
 ·have Q:i<vs.length:=by
   unfold start at B;by_cases Q:i<vs.length
   ·exact Q
   ·rw[C8 (by simpa using Q)]at B;rw[vg]at B;split at B <;> cases B
  have W:vs[i]?=some v:=by
   unfold start at B;rw[K7 (by simpa using Q),t5]at B;cases e:vs[i]? with
  |none=>rw[e]at B;cases B
  |some a=>rw[e]at B;cases B;rfl
  obtain ⟨u,T,rv⟩:=r.get W;have hp:ps[i]?=some y:=by rw[←S.pre,uv (by lia)];exact O
  have J:ps.Nodup:=by rw[←S.pre];exact S.nd.sublist (List.take_sublist _ _)
  refine {u,rv,?_};rcases S.par y (u8 hp) with k|k
  ·exact .inl {k,BW J hp T k}
  ·obtain ⟨c,e⟩:=IH (n:=s.heap.objs.size+1) k;refine .inr {.inl k,c,e,?_};have q:=x.cell y c e;rw[BY J hp T (by show g.names.lookup y≠_;rw[k];decide)]at q;exact q
 ·exact D.hok.fresh (M5 (x.above y c (V3 h)))
 ·unfold start;show _=N.length;rw[m8,j6,P8];lia
def yO{CX:zY}{P:m9}{w:w6}{K:y8}{Z:Str->Option f9}{B:C3}{k:Nat}{f:g6}{name i:Str}{C:Arguments}{D:List E2}{c:di}{dV kV R pm m ct oc:f9}{an od:Option g6}{c':Array (Option f9)}{N ps:List Str}{sp:Sp}(lk:K.lookup f=some {oc,od,.func (ik name i C D c dV kV R pm an m ct),c'})(a':F5 K m i=true)(S:aM N ps c)(Y:∀vs H Q E,sp vs H Q E->vs.length=ps.length)
  (M:∀ (A:B2)(g:List Env)(s:i6)(H:Hp)(vs:List V)(Q:VK)(E:XK),eP k (A.deeper (ii i c s.heap.objs.size f m))->sp vs H Q E ->
   ∃t,zJ (rL CX P w K Z B N i c f m A g s H E) D t/\t {nx:=fun _ H'=>Q .non H',rt:=Q} (start N vs) H) :
  jV P w K Z B CX (k+1) f (ik name i C D c dV kV R pm an m ct) ps sp:=by
 refine {Y,fun A g s H d' us vs Q E hr T hb r X=>?_};have hl:=Y _ _ _ _ X;have KX:K.In s.heap:=T.mod.kin.keeps fun b o e=>(T.bs b o e).1;have b':s.heap.NoLimit:=T.mod.nolimit.keeps fun b o e=>(T.bs b o e).1;have O:∀y∈ps.zip us,c.names.lookup y.1=some .local∨(c.names.lookup y.1=some .cell/\((cellsFrom (s.heap.objs.size+1) c.names []).lookup y.1).isSome=true):=fun ⟨n,v⟩ hy=>by
  rcases S.par n (of_mem_zip hy).1 with q|q
  ·exact .inl q
  ·exact .inr {q,cellsFrom_some _ _ _ (.inl q)}
 refine codeAny_call_function hr.depth (KX _ _ lk) rfl S.co S.gen rfl (PySem.W.codeRec_of KX a') (hb _ _ _ _ ?_);refine wpAny_newFunctionEnv_cells S.kind O fun e' he s1 x=>?_;subst he;refine {b'.keeps x.toInCall.keep,codeAny_func ?_};obtain ⟨t,ht,hq⟩:=M A g s H vs Q E (hr.deeper _) X;have I:aY (rL CX P w K Z B N i c f m A g s H E) [] (start N vs) H s1:=BN S hr.hd T hl r x;refine K0 (ht [] s1 (start N vs) H _ I hq) (fun fl s' hs=>?_) fun e s' hs=>hs;have U:∀{G:St}{H':Hp}{v:V}{u:f9},aY (rL CX P w K Z B N i c f m A g s H E) [] G H' s'->bJ v u->Q v H'->CE g P w H s Q u s':=
  fun {G H' v u} J rv q=>{v,H',J.os,J.bare,J.base,J.hok,rv,q}
 cases fl with
|ret u=>
  obtain ⟨v,G,H',J,rv,q⟩:=hs;exact U J rv q
|next=>
  obtain ⟨G,H',J,q⟩:=hs;exact U (v:=V.non) (u:=M7) J rfl q
|brk=>
  obtain ⟨_,_,_,q⟩:=hs;exact P3 q
|cont=>obtain ⟨_,_,_,q⟩:=hs;exact P3 q
section
variable {X:Cx}{x:Str}{p pos:Pos}{e:D9}{es:List D9}{t:TA}{id T:String}{r:List V->Hp->VK->Prop}
noncomputable def Tm(r:List V->Hp->VK->Prop)(t:TA):TE:=fun σ H Q=>t σ H fun vs H1=>r vs H1 Q
def bB(q:fK X (.builtin id) r)(A:Gl X x)(B:X.mg x=none)(C:C5 x=some (.builtin id))(o:PA X (e::es) t)(hn:x≠"__name__":=by decide)(c:(x==("__debug__":Str))=false:=by decide)(w:v9 (e::es) X.env=(false,K3 e X.env)::v9 es X.env:=by rfl)(f:(O5 pos (v9 es X.env)).any (·.1)=false:=by rfl):PE X (.Call (.Name x p) (e::es) [] pos) (Tm r t):=by intro b s g H Q I h;refine S7 (lX I A B C ?_ hn c);exact PyProof.Rows.callWith_builtin1 (dD (o pos b s g H _ I h) fun J G ⟨K,i,m,E,D⟩=>q b G g i K J Q m E D) w f
def jX(q:fK X (.type T) r)(A:Gl X x)(B:X.mg x=none)(C:C5 x=some (.type T))(o:PA X (e::es) t)(hn:x≠"__name__":=by decide)(c:(x==("__debug__":Str))=false:=by decide)(w:v9 (e::es) X.env=(false,K3 e X.env)::v9 es X.env:=by rfl)(f:(O5 pos (v9 es X.env)).any (·.1)=false:=by rfl):PE X (.Call (.Name x p) (e::es) [] pos) (Tm r t):=by intro b s g H Q I h;refine S7 (lX I A B C ?_ hn c);exact F6 (dD (o pos b s g H _ I h) fun J G ⟨K,i,m,E,D⟩=>q b G g i K J Q m E D) w f
end
end L2
namespace HT
open PySem PyProof.Rows
section
open PySem.SeqAt
open PySem.AutoSeq1 (wpAny_loadPart')
open PySem.MeetsSeq PySem.MeetsSeq2 PySem.MeetsSeq3
end
section
variable {prog:m9}{w:w6}{A:B2}{E:f9->i6->Prop}{s:i6}
def cat_tup(O:xf s.heap t vs.toArray)(N:xf s.heap b ws.toArray)(I:vs≠[])(K:ws=[]->Q (.ref t) s)(M:ws≠[]->Q (.ref s.heap.objs.size) {s with heap:=s.heap.push {cls:=.type "tuple",data:=.seq (vs++ws).toArray}})(hsz:vs.length+ws.length<=n7):j0 (j8 prog w) A (R7 .Add (.ref t) (.ref b)) Q E s:=by
 obtain ⟨⟨cls,D,data,J⟩,o,G,n,H⟩:=id O;obtain ⟨⟨C,f,B,m⟩,c,g,n2,i⟩:=id N;simp only at G H g i;subst G H g i;have e:vs.toArray++ws.toArray=(vs++ws).toArray:=by simp
 by_cases q:ws=[]
 ·exact concat_meets {_,o,rfl} {_,c,rfl} noFill_tuple_add seq_tuple_add slot_tuple_add sk (rn _ _)
   (tuple_addW1 t b vs.toArray ws.toArray n n2 D f J m (by simpa using I) (by simp[q])) {o,c,K q}
 ·refine concat_meets {_,o,rfl} {_,c,rfl} noFill_tuple_add seq_tuple_add slot_tuple_add sk (rn _ _)
   (tuple_addW2 t b vs.toArray ws.toArray n n2 D f J m (by simpa using I) (by simpa using q) (by rw[l8,l8];exact hsz)) {o,c,?_}
  rw[e];exact M q
end
end HT
namespace L2
open PySem PySem.Spec PyProof.Rows
noncomputable abbrev TO:=St->Hp->(Option Int->Hp->Prop)->Prop
noncomputable def PO(X:Cx)(e:Option D9)(t:TO):Prop:=
 ∀(ag:List (g6×Obj)) (s:i6) (σ:St) (H:Hp) (Q:Option Int->Hp->Prop),aY X ag σ H s->t σ H Q ->
  j0 (j8 X.prog X.w) X.A (evalPart e X.env) (fun u s'=>∃o H',aY X ag σ H' s'/\IsPart u o/\Q o H') X.xe s
noncomputable def LK:TO:=fun _ H Q=>Q none H
noncomputable def Em(t:TE):TO:=fun σ H Q=>t σ H fun x H1=>∃i,x=.int i/\Q (some i) H1
section
variable {X:Cx}{e:D9}{te:TE}{lo hi:Option D9}{tl th:TO}{pos p2:Pos}
def NQ:PO X none LK:=by intro b s c H Q I h;rw[yc];exact i8 {none,H,I,.none,h}
def NP(h:PE X e te):PO X (some e) (Em te):=by intro b s w H Q I g;rw[evalPart_some];refine dD (h b s w H _ I g) fun u A ⟨x,c,f,o,m⟩=>?_;obtain ⟨i,rfl,q⟩:=m;obtain ⟨t,rfl⟩:=o;exact {some i,c,f,.int i t,q}
noncomputable def Nh(X:Cx)(r:V->Option Int->Option Int->Hp->VK->Prop):Prop:=
 ∀(ag:List (g6×Obj)) (s:i6) (σ:St) (H:Hp) (x:V) (v vl vu:f9) (lo hi:Option Int) (sl:g6) (Q:VK),aY X ag σ H s->bJ x v->s.heap.IsSliceOf sl vl vu .none->IsPart vl lo->IsPart vu hi->r x lo hi H Q ->
  ∃T id,ke (.type T) "__getitem__"=L3 (some (.builtin id))/\s.TypeIs v T/\j0 (j8 X.prog X.w) X.A (rf v (.ref sl)) (EP X ag σ Q) X.xe s
noncomputable def Wf(r:V->Option Int->Option Int->Hp->VK->Prop)(te:TE)(tl th:TO):TE:=fun σ H Q=>te σ H fun x H1=>tl σ H1 fun l H2=>th σ H2 fun u H3=>r x l u H3 Q
def GQ(P:Nh X r)(M:PE X e te)(O:PO X lo tl)(S:PO X hi th):PE X (.Subscript e (.Slice lo hi none p2) pos) (Wf r te tl th):=by intro c s g H Q I h;refine qm (dD (M c s g H _ I h) fun v s1 ⟨x,B,D,r1,Y⟩=>?_);refine wpAny_Slice (dD (O c s1 g B _ D Y) fun i s2 ⟨l,C,E,U,Z⟩=>dD (S c s2 g C _ E Z) fun m f ⟨u,o,G,W,q3⟩=>?_);rw[yc];refine i8 ?_;have J:aY X c g o {f with heap:=f.heap.push {cls:=.type "slice",data:=.fields #[i,m,.none]}}:=G.kept (t':=f.toks) fun b ob q=>i4 _ q;obtain ⟨T,id,K,R,N⟩:=P c {f with heap:=f.heap.push {cls:=.type "slice",data:=.fields #[i,m,.none]}} g o x v i m l u f.heap.objs.size Q J r1 (C3.IsSliceOf.new ..) U W q3;show j0 (j8 X.prog X.w) X.A (xz e (.Slice lo hi none p2) v (.ref f.heap.objs.size)) (EP X c g Q) X.xe {f with heap:=f.heap.push {cls:=.type "slice",data:=.fields #[i,m,.none]}};exact tail_any (ops:=[.ref f.heap.objs.size,v]) R K N (by with_unfolding_all rfl)
noncomputable def Gj(K:y8):R2:=fun x y H Q=>∃a b xs ys,x=.ref a/\y=.ref b/\vO K H a xs/\vO K H b ys/\xs≠[]/\xs.length+ys.length<=n7 /\
 (ys=[]->Q (.ref a) H)/\(ys≠[]->∀p,H p=none->Q (.ref p) (upd H p (.tup (xs++ys))))
def bH.nil_iff(r:bH xs us):us=[]↔xs=[]:=by
 cases r with
|nil=>simp
|cons _ _=>simp
def Cd:lN X (R7 .Add) (Gj X.K):=by intro m s S H x y v u Q I M N h;obtain ⟨a,b,O,P,rfl,rfl,A,B,C,g,G,J⟩:=h;cases M;cases N;obtain ⟨D,f,E,_⟩:=I.tuple A;obtain ⟨i,c,p2,_⟩:=I.tuple B;refine HT.cat_tup E p2 (fun z=>C (f.nil_iff.mp z)) (fun z=>{.ref a,H,I,rfl,G (c.nil_iff.mp z)}) (fun z=>?_) (by rw[←f.length,←c.length];exact g);refine {.ref s.heap.objs.size,_,I.laid (t':=s.toks) (o:=.tup (O++P)) (fun b R q=>i4 _ q) (k7 _) ?_,rfl,J (fun w=>z (c.nil_iff.mpr w)) _ (I.hok.fresh (k7 _))};exact {{by rw[m8];exact g,_,o0 _ rfl,rfl},_,f.append c,xf.new _ _}
end
noncomputable def Nd(n:Nat)(i:Int):Option Nat:=if 0<=i then (if i<n then some i.toNat else none) else if -(n:Int)<=i then some (i+n).toNat else none
noncomputable def zA{α:Type}(xs:List α)(i:Int):Option α:=(Nd xs.length i).bind fun j=>xs[j]?
def Cv(h:Nd n i=some j):seqIndex? i n=some j/\j<n/\-(n:Int)<=i/\i<n:=by
 unfold Nd at h;by_cases c:0<=i
 ·rw[if_pos c]at h;by_cases b:i<n
  ·rw[if_pos b]at h;have e:i.toNat=j:=l7 h;exact {by rw[seqIndex_of c b,e],by lia,by lia,b}
  ·rw[if_neg b]at h;cases h
 ·rw[if_neg c]at h;by_cases b:-(n:Int)<=i
  ·rw[if_pos b]at h;have e:(i+n).toNat=j:=l7 h;exact {by rw[seqIndex_neg (by lia) b,e],by lia,b,by lia}
  ·rw[if_neg b]at h;cases h
def ED{b:Type}{xs:List b}{i:Int}{v:b}(h:zA xs i=some v):∃j,seqIndex? i xs.length=some j/\xs[j]?=some v/\j<xs.length/\-(xs.length:Int)<=i/\i<xs.length:=by
 unfold zA at h;cases e:Nd xs.length i with
|none=>rw[e]at h;cases h
|some j=>rw[e]at h;obtain ⟨c,f,g,m⟩:=Cv e;exact {j,c,h,f,g,m}
def iT{b:Type}{xs:List b}{j:Nat}{v:b}(h:xs[j]?=some v):zA xs (j:Int)=some v:=by
 have c:j<xs.length:=(i5.mp h).1;have e:Nd xs.length (j:Int)=some j:=by unfold Nd;rw[if_pos (by lia),if_pos (by lia)];simp
 unfold zA;rw[e];exact h
noncomputable def Ee(b:D9):Prop:=∀o i,uu b false o i=operate [o,i] (rf o i)
noncomputable def ZI(X:Cx)(r:R2):Prop:=
 ∀(value slice:D9)(ag:List (g6×Obj)) (s:i6) (σ:St) (H:Hp) (x y:V) (v u:f9) (Q:VK),aY X ag σ H s->bJ x v->bJ y u->r x y H Q ->
  uu slice false v u=operate [v,u] (rf v u)->j0 (j8 X.prog X.w) X.A (xz value slice v u) (EP X ag σ Q) X.xe s
noncomputable def Nk(X:Cx)(id:String)(r:V->List V->Hp->VK->Prop):Prop:=
 ∀(ag:List (g6×Obj)) (s:i6) (σ:St) (H:Hp) (x:V) (xs:List V) (v:f9) (us:List f9) (Q:VK),aY X ag σ H s->bJ x v->bH xs us->r x xs H Q ->
  j0 (j8 X.prog X.w) X.A (jt (.builtin id) (v::us)) (EP X ag σ Q) X.xe s
section
variable {X:Cx}{a b:D9}{ta tb:TE}{pos:Pos}
def ZI.or(h:ZI X r)(h':ZI X r'):ZI X (fun x y H Q=>r x y H Q∨r' x y H Q):=by
 intro f c g s o H x y v u Q I i m q hs;rcases q with q|q
 ·exact h f c g s o H x y v u Q I i m q hs
 ·exact h' f c g s o H x y v u Q I i m q hs
def aN(o:ZI X r)(i:PE X a ta)(m:PE X b tb)(hs:Ee b:=by intro _ _;rfl):PE X (.Subscript a b pos) (Od r ta tb):=by intro c s C H Q I h;exact qm (Mr i m I h fun v u B x y f g w A q=>o a b c B C f x y v u Q g w A q (hs _ _))
noncomputable def Bp(K:y8):R2:=fun x y H Q=>∃p xs i v,x=.ref p/\y=.int i/\cS K H p xs/\zA xs i=some v/\Q v H
noncomputable def Bo(K:y8):R2:=fun x y H Q=>∃p xs i v,x=.ref p/\y=.int i/\vO K H p xs/\zA xs i=some v/\Q v H
noncomputable def Ke:R2:=fun x y H Q=>∃z i c,x=.str z/\y=.int i/\z.length<=n7/\zA z.cps.toList i=some c/\Q (.str ⟨#[c]⟩) H
def Cu:ZI X (Bp X.K):=by
 intro D C c s J H x y v u Q I T U h hs;obtain ⟨p,xs,i,z,rfl,rfl,S,P,q⟩:=h;cases T;obtain ⟨t,rfl⟩:=U;obtain ⟨o,r,A,Z⟩:=I.list S;obtain ⟨j,g,M,Y,N,O⟩:=ED P;obtain ⟨w,E,B⟩:=r.get M;have R:=r.length;have hn:=yG;have f:EP X c J Q w s:={z,H,I,B,q}
 by_cases G:0<=i
 ·have m:i.toNat=j:=by
   rw[seqIndex_of G O]at g;exact l7 g
  exact item_listR A.isList G (by lia) (by rw[m];simpa using E) f hs
 ·have m:(i+(o.toArray.size:Int)).toNat=j:=by
   rw[seqIndex_neg (by lia) N]at g;rw[l8,←R];exact l7 g
  exact kf (x:=w) A.isList.typeIs slot_list_getitem.lookup
   (wpAny_getItem_list_neg (Q:=fun r W=>r=w/\EP X c J Q r W) A.isList (by lia) (by rw[l8] <;> lia) (by lia) (by rw[m];simpa using E) {rfl,f}) hs
def Lq:ZI X (Bo X.K):=by
 intro o m c s B H x y v u Q I O P h hs;obtain ⟨p,Y,i,z,rfl,rfl,M,G,q⟩:=h;cases O;obtain ⟨t,rfl⟩:=P;obtain ⟨N,r,A,W⟩:=I.tuple M;obtain ⟨j,D,E,S,T,U⟩:=ED G;obtain ⟨w,C,g⟩:=r.get E;have J:=r.length;have hn:=yG;have f:EP X c B Q w s:={z,H,I,g,q}
 exact kf (x:=w) A.typeIs slot_tuple_getitem.lookup
  (getItem_tuple (j:=j) (Q:=fun r R=>r=w/\EP X c B Q r R) A (by lia) (by lia) (by rw[l8,←J];exact D) (by simpa using C) {rfl,f}) hs
def Lr:ZI X Ke:=by
 intro g f o s P H x y v u Q I J K h hs;obtain ⟨z,i,c,rfl,rfl,N,E,q⟩:=h;obtain ⟨t,rfl⟩:=J;obtain ⟨O,rfl⟩:=K;obtain ⟨j,m,B,M,C,D⟩:=ED E;have G:z.cps.toList.length=z.length:=by simp[Str.length]
 rw[G]at m C D;have hn:=yG;exact tail_any (typeIs_str s z t) slot_str_getitem.lookup (getItem_str (c:=c) (by
  have w:decide (i < -(2^63:Int))=false:=decide_eq_false (by lia);have A:decide (i≥2^63)=false:=decide_eq_false (by lia);rw[w,A,uw]) (by rw[m];simpa using B) {.str ⟨#[c]⟩,H,I.tok _,{_,rfl},q}) hs
noncomputable def rIx(K:y8):R2:=fun x y H Q=>Bp K x y H Q∨Bo K x y H Q∨Ke x y H Q
def Ls:ZI X (rIx X.K):=Cu.or (Lq.or Lr)
noncomputable def oH:V->Bool
|.non=>true
|.bl _=>true
|.int _=>true
|.str _=>true
|_=>false
noncomputable def Hb:V->V->Bool
|.non,.non=>true
|.bl a,.bl b=>a==b
|.bl a,.int b=>(if a then 1 else 0)==b
|.int a,.bl b=>a==(if b then 1 else 0)
|.int a,.int b=>a==b
|.str a,.str b=>a==b
|_,_=>false
def Me(i:bJ y u)(c:bJ x v)(m:oH y=true)(g:oH x=true):C4 A s u v (Hb y x):=by
 cases y with
|non=>
  cases i;cases x with
 |non=>cases c;exact Y2 _
 |bl b=>cases c;exact rz b
 |int b=>obtain ⟨t,rfl⟩:=c;exact ug b t
 |str b=>obtain ⟨t,rfl⟩:=c;exact uf b t
 |_=>exact absurd (show false=true from g) j7
|bl a=>
  cases i;cases x with
 |non=>cases c;exact sf a
 |bl b=>cases c;exact si a b
 |int b=>obtain ⟨t,rfl⟩:=c;exact uk a b t
 |str b=>obtain ⟨t,rfl⟩:=c;exact uj a b t
 |_=>exact absurd (show false=true from g) j7
|int a=>
  obtain ⟨f,rfl⟩:=i;cases x with
 |non=>cases c;exact uh a f
 |bl b=>cases c;exact ui a f b
 |int b=>obtain ⟨t,rfl⟩:=c;exact C4.int_int a f b t
 |str b=>obtain ⟨t,rfl⟩:=c;exact jd a f b t
 |_=>exact absurd (show false=true from g) j7
|str a=>
  obtain ⟨f,rfl⟩:=i;cases x with
 |non=>cases c;exact uc a f
 |bl b=>cases c;exact ud a f b
 |int b=>obtain ⟨t,rfl⟩:=c;exact jb a f b t
 |str b=>obtain ⟨t,rfl⟩:=c;exact C4.str_str a f b t
 |_=>exact absurd (show false=true from g) j7
|_=>exact absurd (show false=true from m) j7
noncomputable def Dh(x:V)(u:f9):Bool:=match u with
|.none=>Hb .non x
|.bool b=>Hb (.bl b) x
|.int i _=>Hb (.int i) x
|.str z _=>Hb (.str z) x
|_=>false
def YL(r:bJ y u)(f:oH y=true):Dh x u=Hb y x:=by
 cases y with
|non=>cases r;rfl
|bl b=>cases r;rfl
|int i=>obtain ⟨t,rfl⟩:=r;rfl
|str z=>obtain ⟨t,rfl⟩:=r;rfl
|_=>exact absurd (show false=true from f) j7
theorem EG:∀{xs:List V}{us:List f9},bH xs us->xs.all oH=true->us.any (Dh x)=xs.any fun y=>Hb y x
|_,_,.nil,_=>rfl
|y::xs,u::us,.cons r t,f=>by rw[At,Y5]at f;rw[fi,fi,YL r f.1,EG t f.2]
theorem yF(i:bJ x v)(g:oH x=true):∀{xs:List V}{us:List f9},bH xs us->xs.all oH=true->∀u∈us,C4 A s u v (Dh x u)
|_,_,.nil,_=>fun u c=>by cases c
|y::xs,u::us,.cons r t,f=>fun m c=>by
  rw[At,Y5]at f;rcases x6.mp c with rfl|c
  ·rw[YL r f.1];exact Me r i f.1 g
  ·exact yF i g t f.2 m c
noncomputable def Ts(x:V)(xs:List V):Bool:=xs.any fun y=>Hb y x
noncomputable def Ux(K:y8)(neg:Bool):R2:=fun x y H Q=>∃p xs,y=.ref p/\(cS K H p xs∨vO K H p xs)/\oH x=true/\xs.all oH=true/\Q (.bl (if neg then !Ts x xs else Ts x xs)) H
def QG:lN X (E7 .In) (Ux X.K false):=by
 intro A s G H x y v u Q I B D h;obtain ⟨p,E,rfl,f,o,g,q⟩:=h;cases D;rcases f with f|f
 ·obtain ⟨c,r,m,C⟩:=I.list f;refine SeqAt.in_listAt (Dh x) m.isList (fun w i=>yF B o r g w (by simpa using i)) {.bl _,H,I,rfl,?_};rw[show c.toArray.any (Dh x)=c.any (Dh x) by simp,EG r g];exact q
 ·obtain ⟨c,r,m,C⟩:=I.tuple f;refine SeqAt.in_tupleAt (Dh x) m (fun w i=>yF B o r g w (by simpa using i)) {.bl _,H,I,rfl,?_};rw[show c.toArray.any (Dh x)=c.any (Dh x) by simp,EG r g];exact q
def DY:fK X (.type "list") (fun xs H Q=>∃p ys,xs=[.ref p]/\(cS X.K H p ys∨vO X.K H p ys)/\∀l,H l=none->Q (.ref l) (upd H l (.lst ys))):=by
 intro D s P H xs R Q I r h;obtain ⟨p,ys,rfl,B,q⟩:=h;obtain ⟨u,rfl,O⟩:=ES r;cases O;have m:∀(c:List f9),bH ys c->ys.length<=n7->∀(f:C3)(g:Nat),(∀b N,s.heap.get? b=some N->f.get? b=some N) ->
   f.get? s.heap.objs.size=some {cls:=.type "list",dict:=none,data:=.seq c.toArray g,slots:=#[]}->EP X D P Q (.ref s.heap.objs.size) {s with heap:=f}:=fun c i C f g kp e=>
  {.ref s.heap.objs.size,_,I.laid (t':=s.toks) kp (k7 _) (show dJ X.prog X.w _ f _ (.lst ys) from {C,c,g,i,e}),rfl,q _ (I.hok.fresh (k7 _))}
 rcases B with B|B
 ·obtain ⟨c,i,M,C⟩:=I.list B;have A:=i.length;obtain ⟨o,J,E,n,G⟩:=M.isList;exact call_list_seq p (.inl rfl) J E G (fun f g kp e=>m c i C f g kp e) (by simp only[l8] <;> lia)
 ·obtain ⟨c,i,M,C⟩:=I.tuple B;have A:=i.length;obtain ⟨o,J,E,n,G⟩:=M;exact call_list_seq p (.inr rfl) J E G (fun f g kp e=>m c i C f g kp e) (by simp only[l8] <;> lia)
noncomputable def Nt(K:y8)(T:String)(x:V)(H:Hp):Prop:=match x with
|.str _=>T="str"
|.int _=>T="int"
|.ref p=>(T="list"/\∃xs,cS K H p xs)∨(T="tuple"/\∃o,K.lookup p=some o/\o.cls=.type "tuple"/\o.dict=none) ∨
   (T="dict"/\((∃kvs,H p=some (.dK kvs))∨∃kvs,H p=some (.dT kvs)))∨(T="set"/\∃S n,H p=some (.set S n))
|_=>False
def Hm(I:aY X ag σ H s)(r:bJ x v)(ty:Nt X.K T x H):
  s.TypeIs v T/\∀a,v=.ref a->∃w,s.heap.get? a=some w/\w.dict=none:=by
 cases x with
|str z=>
  obtain ⟨t,rfl⟩:=r;cases (show T="str" from ty);exact {typeIs_str s z t,fun _ e=>nomatch e}
|int i=>
  obtain ⟨t,rfl⟩:=r;cases (show T="int" from ty);exact {typeIs_int s i t,fun _ e=>nomatch e}
|ref p=>
  cases r;rcases ty with ⟨rfl,E,C⟩|⟨rfl,o,hk,B,m⟩|⟨rfl,hk⟩|⟨rfl,S,n,hk⟩
  ·obtain ⟨D,_,A,_⟩:=I.list C;refine {A.isList.typeIs,fun a e=>?_};cases e;obtain ⟨o,n,e,c,m,_⟩:=A;exact {o,e,m}
  ·refine {{o,I.kIn p o hk,B},fun a e=>?_};cases e;exact {o,I.kIn _ o hk,m}
  ·have z:∃o,s.heap.get? p=some o/\o.ExactDict:=by
    rcases hk with ⟨q,hk⟩|⟨q,hk⟩
    ·obtain ⟨_,_,_,_,o,_,_,e,f,_⟩:=I.hok p _ hk;exact {o,e,f}
    ·obtain ⟨_,_,_,_,o,_,_,e,f,_⟩:=I.hok p _ hk;exact {o,e,f}
   obtain ⟨o,e,f⟩:=z;refine {{o,e,f.1},fun a g=>?_};cases g;exact {o,e,f.2.1}
  ·obtain ⟨o,_,_,_,e,f,_⟩:=I.hok p _ hk;refine {{o,e,f.1},fun a g=>?_};cases g;exact {o,e,f.2.1}
|_=>exact P3 ty
noncomputable def Wi(K:y8)(T:String)(r:V->List V->Hp->VK->Prop)(to:TE)(t:TA):TE:=fun σ H Q=>to σ H fun x H1=>Nt K T x H1/\t σ H1 fun xs H2=>r x xs H2 Q
variable {o e:D9}{es:List D9}{to:TE}{t:TA}{name:Str}{bn cc:Pos}{T id:String}{r:V->List V->Hp->VK->Prop}
def jO(R:PlainAttrs T)(slot:Slot T name id)(q:typeOf (.builtin id)=L3 (.type "method_descriptor"))(O:Nk X id r)(P:PE X o to)(N:PA X (e::es) t)(g:R0 o name X.env (K3 o X.env)=K3 o X.env:=by rfl)
  (m:((O5 cc (v9 (e::es) X.env)).all (fun x=>!x.1)&&(ju cc (Y1 [] X.env)).all (fun x=>x.1.isSome)
   && decide ((e::es).length+([]:List kx).length+(if ([]:List kx).isEmpty then 0 else 1)<30))=true:=by rfl)
  (i:(bn.endLine==cc.line)=true:=by rfl) (hs:v9 (e::es) X.env=(false,K3 e X.env)::v9 es X.env:=by rfl) (f:(O5 cc (v9 es X.env)).any (·.1)=false:=by rfl) :
  PE X (.Call (.Attribute o name bn) (e::es) [] cc) (Wi X.K T r to t):=by
 intro c s w H Q I h;refine wpAny_Call_method_late g m i rfl (dD (P c s w H _ I h) fun v Y ⟨x,D,A,C,ty,S⟩=>?_);obtain ⟨J,M⟩:=Hm A C ty;refine {T,id,R,slot,q,J,M,?_};have B:=N cc c Y w D _ A S;rw[hs]at B ⊢;refine W8 (by show (false||(O5 cc (v9 es X.env)).any (·.1))=false;rw[f] <;> rfl) (Z8 ?_);exact dD B fun us Z ⟨vs,E,G,W,U⟩=>O c Z w E x vs v us Q G C W U
end
noncomputable def MtM(X:Cx)(id:String)(r:V->List V->Hp->VK->Prop):Prop:=
 ∀(ag:List (g6×Obj)) (s:i6) (σ:St) (H:Hp) (x:V) (xs:List V) (v:f9) (us:List f9) (Q:VK),aY X ag σ H s->bJ x v->bH xs us->r x xs H Q ->
  j0 (j8 X.prog X.w) X.A (jt (.builtin id) (v::us)) (EP X ag σ Q) X.xe s
def bH.one:∀{x:V}{us:List f9},bH [x] us->∃u,us=[u]/\bJ x u
 :=fun h=>by cases h with|cons r h=>cases h;exact {_,rfl,r}
def bH.two:∀{x y:V}{us:List f9},bH [x,y] us->∃u v,us=[u,v]/\bJ x u/\bJ y v
 :=fun h=>by cases h with|cons r h=>cases h with|cons q h=>cases h;exact {_,_,rfl,r,q}
def bH.reverse(h:bH xs us):bH xs.reverse us.reverse:=by
 induction h with
|nil=>exact .nil
|cons r t ih=>rw[yt,yt];exact bH.append ih (.cons r .nil)
section
variable {X:Cx}{ag:List (g6×Obj)}{σ:St}{H:Hp}{s:i6}{l:g6}{xs ys:List V}
def aY.lset{c its':List f9}{n:Nat}{f:Array f9->Array f9}{t':Nat}(I:aY X ag σ H s)(g:H l=some (.lst xs))(e:s.heap.get? l=some {cls:=.type "list",data:=.seq c.toArray n})(m:f c.toArray=its'.toArray)(w:bH ys its')(hz:ys.length<=n7):
  aY X ag σ (upd H l (.lst ys)) {s with heap:=s.heap.update l (A8 f),toks:=t'}:=by
 have q:=PySem.IsL.update e f;rw[m]at q;refine I.write (x:=l) (e:=l) (by rw[g];exact trivial) (.inl rfl) (fun A u i o=>(D5 s.heap (A8 f) (u7 i)).trans o) {_,q} ?_;exact {hz,its',_,w,q}
def aY.lnew(I:aY X ag σ H s)(c:bH ys its)(hz:ys.length<=n7):
  aY X ag σ (upd H s.heap.objs.size (.lst ys)) {s with heap:=s.heap.push {cls:=.type "list",data:=.seq its.toArray},toks:=t'}:=
 I.laid (fun _ _ q=>i4 _ q) (k7 _) {hz,its,0,c,o0 _ rfl}
def aY.fresh(I:aY X ag σ H s):H s.heap.objs.size=none:=I.hok.fresh (k7 _)
def aY.lstM(I:aY X ag σ H s)(f:H l=some (.lst xs)):xs.length<=n7/\∃(c:List f9)(n:Nat),bH xs c/\xs.length=c.length/\s.heap.get? l=some {cls:=.type "list",data:=.seq c.toArray n}:=by obtain ⟨z,c,n,r,e⟩:=I.hok l _ f;exact {z,c,n,r,r.length,e}
end
section
variable {X:Cx}
noncomputable def NM:V->List V->Hp->VK->Prop:=fun x vs H Q=>∃l xs y,x=.ref l/\vs=[y]/\H l=some (.lst xs)/\xs.length<n7/\Q .non (upd H l (.lst (xs++[y])))
def cZ:MtM X "list.append" NM:=by intro f s C H x A v w Q I i rv h;obtain ⟨l,B,y,rfl,rfl,c,o,q⟩:=h;cases i;obtain ⟨u,rfl,g⟩:=rv.one;obtain ⟨z,b,n,r,m,e⟩:=I.lstM c;refine call_meets F.slot_list_append {_,e,rfl} F.entry_list_append (F.args_list_append_2 _ _) (PySem.list_append l b.toArray n u (by rw[l8];lia)) {e,?_};refine {.non,_,I.lset (its':=b++[u]) c e (by simp) (r.append (.cons g .nil)) ?_,rfl,q};rw[m8,jg];lia
noncomputable def Qr:R2:=fun x y H Q=>∃l b xs zs,x=.ref l/\y=.ref b/\H l=some (.lst xs)/\H b=some (.lst zs)/\xs.length+zs.length<=n7/\∀p,H p=none->Q (.ref p) (upd H p (.lst (xs++zs)))
def Kv:lN X (R7 .Add) Qr:=by
 intro g s N H x y v u Q I C D h;obtain ⟨l,b,J,M,rfl,rfl,w,o,G,q⟩:=h;cases C;cases D;obtain ⟨z,f,n,r,E,e⟩:=I.lstM w;obtain ⟨K,c,n2,B,A,i⟩:=I.lstM o;refine PySem.P.add_list e i ?_ (by rw[l8,l8];lia);have m:f.toArray++c.toArray=(f++c).toArray:=by simp
 rw[m];exact {.ref _,_,I.lnew (t':=s.toks) (r.append B) (by rw[m8];lia),rfl,q _ I.fresh}
end
end L2
namespace Att
open PySem PySem.W PySem.Calls PyProof.Rows
def vJ:∀(ns:List Int)(vs:List f9),WellAll P h vs (ns.map WData.int)->X3 vs ns:=by
 intro ns
 induction ns with
|nil=>
  intro vs w;rw[vw]at w;cases w;exact .nil
|cons n ns ih=>
  intro vs w;rw[K1]at w;cases w with
 |cons a b=>cases a;exact .cons _ _ (ih _ b)
def PX{l:OpenLaw}{n:Nat}(hn:l.most=some n){P:Params}{h:C3}{args:List WData}{c:List f9}(b:l.row.toRowW.claim.pre args=true)(s:WellAll P h c args):
  ∃a vs ns,c=[n9 a]/\args=[WData.list (ns.map WData.int)]/\h.get? a=some {cls:=.type "list",data:=.seq vs.toArray}/\X3 vs ns/\ns.length<=n:=by
 have o:WShape.hasAll [] args [.list .int]=true:=(pre_splitW b).1;have w:l.pre.holds [] {args:=args}=true:=(pre_splitW b).2;obtain ⟨d,r,rfl,A,B⟩:=hasAllW_cons o;obtain rfl:=hasAllW_nil B;obtain ⟨I,rfl,C⟩:=hasW_list A;obtain ⟨ns,rfl⟩:=items_int C;have g:ns.length<=n:=by
  unfold OpenLaw.pre at w;have i:(WTm.not (.lt (.lit (.int (n:Int))) (.len (.arg 0)))).holds [] {args:=[.list (ns.map .int)]}=true:=by have i:=(holds_andW w).1;rw[hn]at i;exact i
  have m:=condW_of i (w_not (w_lt w_lit (w_len_list (w_arg rfl))));rw[j6]at m;refine Nat.le_of_not_lt fun q=>?_;have E:(n:Int)<((ns.length:Nat):Int):=by omega
  first
  |(rw[decide_eq_true E]at m;exact absurd m (by decide))
  |(simp at m;omega)
 cases s with
|cons G H=>
  cases H;cases G with
 |list D f=>exact {_,_,ns,rfl,rfl,D,vJ ns _ f,g}
def QC(l:OpenLaw)(args:List WData):l.row.toRowW.claim.post args (.bool true) args=true:=
 postW_of (r:=l.row.toRowW) (X:=(true==true))
  (show WShape.has [] (.bool true) .bool=true by first|rfl|decide|simp[WShape.has,WShape.arms,WShape.armsAll])
  (show (WTm.eq .res (.lit (.bool true))).value [] {args:=args,res:=some (.bool true),after:=args}=some (.bool (true==true)) from w_eq_bool (w_res rfl) w_lit) rfl
def attach_call{l:OpenLaw}{n:Nat}{q:m9}{c:List Str}{P:(Str->Option f9)->C3->Prop}{Q:w6->C3->Prop}{d:DefRec}(hn:l.most=some n)(J:d.params.defaults=[])
  (s:∀ (w:w6) (g b:i6) (E N:Str->Option f9)(fa:g6)(o:Obj)(O D i:f9)(a:g6)(vs:List f9)(ns:List Int),
   Ground q c [] P w g E N b.heap->Q w b.heap ->
   b.heap.get? fa=some o->o.data=.func (docDef d.name d.params d.body d.scope O D i)->b.heap.CodeRec D d.name->E d.name=some (.ref fa) ->
   b.heap.get? a=some {cls:=.type "list",data:=.seq vs.toArray}->X3 vs ns->ns.length<=n->b.gens=#[] ->
   X2 (j8 l.prog w) rj (.call (.ref fa) {[.ref a],[]}) (fun r H=>r=.ok (.ret (.bool true))/\OldK b.heap H.heap/\H.os=b.os/\lg H.gens) b) :
  WalkO q c P Q l.row.toRowW d [] (fun f vs=>PySem.call f vs):=by
 intro w g b E N G Y fa o O D i W kV ho hd I S K hg R U as C T b' M a';obtain rfl:W=.none:=Dflts.none S J;obtain rfl:kV=.none:=Dflts.noKw S;obtain ⟨a,vs,ns,rfl,rfl,B,m,A⟩:=PX hn C M;refine enter_call (gu (s w g b E N fa o O D i a vs ns G Y ho (fd_plain hd) I K B m A hg) fun r H hq=>?_);obtain ⟨rfl,X,Z,h4⟩:=hq;exact {.inl {.bool true,.bool true,[],rfl,fun _=>rfl,.bool true,QC l _,fun _=>{Z9,fun _ hm=>(nomatch hm)}},X,Z,h4}
noncomputable def noObjs(h:C3):C3:={h with objs:=#[]}
def noObjs_get(h:C3)(b:g6):(noObjs h).get? b=none:=by
 cases e:(noObjs h).get? b with
|none=>rfl
|some o=>exact absurd (p7 e) (R9 _)
noncomputable def ledger(h:C3)(L d:g6):List (g6×Obj):=(y9 h.objs.size).filterMap fun a=>if a=L∨a=d then none else (h.get? a).map fun o=>(a,o)
def mem_ledger:(a,o)∈ledger h L d↔a≠L/\a≠d/\h.get? a=some o:=by
 unfold ledger;rw[dy];constructor
 ·rintro ⟨b,_,e⟩;split at e
  ·cases e
  ·rename_i f;obtain ⟨m,c,g⟩:=A9.mp e;cases g;exact {fun q=>f (.inl q),fun q=>f (.inr q),c}
 ·rintro ⟨i,n2,c⟩;refine {a,oj.mpr (p7 c),?_};rw[if_neg (show ¬(a=L∨a=d) from fun q=>q.elim i n2),c] <;> rfl
end Att
namespace L2
open PySem PySem.Spec PyProof.Rows
theorem tU:∀{vs:List f9}{ns:List Int},X3 vs ns->bH (ns.map V.int) vs
|_,_,.nil=>.nil
|_,_,.cons n t h=>.cons {t,rfl} (tU h)
noncomputable def cH(s:E2):Arguments:=match s with
|.FunctionDef _ a _ _ _ _ _ _ _ _=>a
|_=>{posonlyargs:=[],args:=[],vararg:=none,kwonlyargs:=[],kw_defaults:=[],kwarg:=none,defaults:=[]}
noncomputable def bP(s:E2):List E2:=match s with
|.FunctionDef _ _ b _ _ _ _ _ _ _=>b
|_=>[]
noncomputable def aG(s:E2):di:=match s with
|.FunctionDef _ _ _ _ _ _ sc _ _ _=>sc
|_=>{kind:=.function,names:=[],isGenerator:=false,isCoroutine:=false}
noncomputable abbrev mB:zY:=fun _ _ _ _ _ _=>False
noncomputable abbrev E0:XK:=fun _ _ _=>False
def fV:kR mB X E0:=fun _ _ _ _ _ _ _ h=>h.elim
structure Nn(K:y8)(x qual:Str)(st:E2)(f:g6)(fd:M6):Prop where
 ex:∃(oc:f9)(od:Option g6)(kV doc pm:f9)(an:Option g6)(cm ct:f9)(osl:Array (Option f9)),
  fd=ik x qual (cH st) (bP st) (aG st) .none kV doc pm an cm ct/\K.lookup f=some {oc,od,.func fd,osl}/\F5 K cm qual=true
 kp:C0 K (.ref f)=true
section
variable {P:m9}{w:w6}{K:y8}{mg:Str->Option f9}{base:C3}
def Nn.ok{x c:Str}{st:E2}{f:g6}{C:M6}{N ps:List Str}{k:Nat}{sp:Sp}(F:Nn K x c st f C)(S:aM N ps (aG st))(B:∀vs H Q E,sp vs H Q E->vs.length=ps.length)
  (i:∀ (g:f9) (A:B2)(b:List Env)(s:i6)(H:Hp)(vs:List V)(Q:VK)(E:XK),eP k (A.deeper (ii c (aG st) s.heap.objs.size f g))->sp vs H Q E ->
   ∃t,zJ (rL mB P w K mg base N c (aG st) f g A b s H E).nox (bP st) t/\t {nx:=fun _ H'=>Q .non H',rt:=Q} (start N vs) H):jV P w K mg base mB (k+1) f C ps sp:=by
 obtain ⟨R,T,kV,D,U,M,g,O,J,rfl,I,m⟩:=F.ex;refine yO I m S B fun A b s H vs Q E G o=>?_;obtain ⟨t,h,q⟩:=i g A b s H vs Q E G o;exact {t,h.nox,q}
def Lz{x b:Str}{st:E2}{f:g6}{A:f9}{B o:Option g6}{m:Array (Option f9)}{kV i s g q:f9}(l:K.lookup f=some {A,B,.func (ik x b (cH st) (bP st) (aG st) .none kV i s o g q),m})(c:F5 K g b=true)(k:C0 K (.ref f)=true):Nn K x b st f (ik x b (cH st) (bP st) (aG st) .none kV i s o g q):={{A,B,kV,i,s,o,g,q,m,rfl,l,c},k}
end
def eR(h:n<=1000):n<n7:=E6 h (by decide)
section
variable {X:Cx}
def pv(i:Nat)(c:X.N[i]?=some x:=by rfl)(g:Tx X.env.scope x:=by first|exact J8 rfl|exact J5 (J8 rfl)|exact J5 (J5 rfl))(f:(x==("__debug__":Str))=false:=by decide)(b:(x==("__classdict__":Str))=false:=by decide):PE X (.Name x pos) (Hv i):=Kk c g f b
end
def Rn{A B:Prop}(h:B):if false=true then A else B:=by rw[if_neg j7];exact h
def Rm{A B:Prop}(h:A):if true=true then A else B:=by rw[if_pos rfl];exact h
noncomputable def aK(H H':Hp):Prop:=∀b o,H b=some o->H' b=some o
def aK.refl(H:Hp):aK H H:=fun _ _ h=>h
def aK.trans(a:aK H H1)(b:aK H1 H2):aK H H2:=fun c o h=>b c o (a c o h)
def aK.free(e:aK H H')(h:H' l=Option.none):H l=Option.none:=by
 cases q:H l with
|none=>rfl
|some o=>
  rw[e l o q]at h;cases h
def aK.seq{K:y8}{H H':Hp}{a:g6}{xs:List V}(e:aK H H')(h:cS K H a xs):cS K H' a xs:=by
 rcases h with (h|⟨o,h⟩)|h
 ·exact .inl (.inl (e _ _ h))
 ·exact .inl (.inr {o,e _ _ h})
 ·exact .inr h
end L2
set_option Elab.async false
set_option linter.all false
set_option maxRecDepth 100000
namespace L2
open PySem PySem.Spec PyProof.Rows
section
variable {κ:Type}[DecidableEq κ]
noncomputable def bI(kvs:List (κ×V))(k:κ):Option V:=(kvs.find? fun kv=>decide (kv.1=k)).map (·.2)
noncomputable def eI(kvs:List (κ×V))(k:κ)(v:V):List (κ×V):=
 if (kvs.any fun kv=>decide (kv.1=k))=true then kvs.map (fun kv=>if kv.1=k then (kv.1,v) else kv) else kvs++[(k,v)]
noncomputable def eV(kvs:List (κ×V))(k:κ):List (κ×V):=kvs.filter fun kv=>decide (kv.1≠k)
def dE{p:κ×V}{r:List (κ×V)}{k:κ}(e:p.1=k):bI (p::r) k=some p.2:=by simp[bI,Q2,e]
def cY{p:κ×V}{r:List (κ×V)}{k:κ}(e:¬p.1=k):bI (p::r) k=bI r k:=by simp[bI,Q2,e]
theorem rT(k:κ):∀kvs:List (κ×V),(kvs.any fun kv=>decide (kv.1=k))=(bI kvs k).isSome
|[]=>rfl
|p::r=>by
  rw[fi];by_cases e:p.1=k
  ·simp only[dE e,decide_eq_true e,Bool.true_or,Option.isSome_some]
  ·rw[cY e,decide_eq_false e,Bool.false_or];exact rT k r
def lJ(kvs:List (κ×V))(k:κ)(v:V):(eI kvs k v).length<=kvs.length+1:=by
 unfold eI;split
 ·rw[j6];lia
 ·rw[m8,K2,List.length_nil];lia
def nQ.isSome_eq(r:nQ o u):o.isSome=u.isSome:=by
 cases o with
|none=>cases u with
 |none=>rfl
 |some _=>exact (show False from r).elim
|some _=>cases u with
 |none=>exact (show False from r).elim
 |some _=>rfl
def nQ.getD(r:nQ o u)(b:bJ d d'):bJ (o.getD d) (u.getD d'):=by
 cases o with
|none=>cases u with
 |none=>exact b
 |some _=>exact (show False from r).elim
|some _=>cases u with
 |none=>exact (show False from r).elim
 |some _=>exact r
def KV.val(r:KV kvs vs)(k:κ):nQ (bI kvs k) (Y8 vs k):=by
 unfold KV at r
 induction r with
|nil=>exact N3
|@cons p q m f h t ih=>
  obtain ⟨g,i⟩:=h;by_cases e:p.1=k
  ·have c:q.1=k:=g.symm.trans e;have b:Y8 (q::f) k=some q.2:=by simp[Y8,Q2,c]
   rw[dE e,b];exact i
  ·have c:¬q.1=k:=fun z=>e (g.trans z);have b:Y8 (q::f) k=Y8 f k:=by simp[Y8,Q2,c]
   rw[cY e,b];exact ih
def KV.any(r:KV kvs vs)(k:κ):(kvs.any fun kv=>decide (kv.1=k))=vs.any fun kv=>decide (kv.1=k):=by
 unfold KV at r
 induction r with
|nil=>rfl
|cons h t ih=>rw[fi,fi,ih,h.1]
def KV.repl(r:KV kvs vs)(k:κ)(f:bJ y u):
  KV (kvs.map fun kv=>if kv.1=k then (kv.1,y) else kv) (vs.map fun kv=>if kv.1=k then (kv.1,u) else kv):=by
 unfold KV at r⊢
 induction r with
|nil=>exact .nil
|@cons p q g i h t ih=>
  rw[K1,K1];refine .cons ?_ ih;obtain ⟨b,c⟩:=h;by_cases e:p.1=k
  ·rw[if_pos e,if_pos (b.symm.trans e)];exact {b,f}
  ·rw[if_neg e,if_neg (fun z=>e (b.trans z))];exact {b,c}
def KV.put(r:KV kvs vs)(k:κ)(b:bJ y u):KV (eI kvs k y) (tf vs k u):=by
 unfold eI tf;rw[r.any k];by_cases e:(vs.any fun kv=>decide (kv.1=k))=true
 ·rw[if_pos e,if_pos e];exact r.repl k b
 ·rw[if_neg e,if_neg e];exact Paired.snoc r {rfl,b}
def KV.drop(r:KV kvs vs)(k:κ):KV (eV kvs k) (without vs k):=by
 unfold KV at r⊢;unfold eV without
 induction r with
|nil=>exact .nil
|@cons p q i m h t ih=>
  obtain ⟨c,g⟩:=h;rw[V9,V9];by_cases e:p.1=k
  ·have a:¬decide (p.1≠k)=true:=by simp[e]
   have b:¬decide (q.1≠k)=true:=by simp[c.symm.trans e]
   rw[if_neg a,if_neg b];exact ih
  ·have f:¬q.1=k:=fun z=>e (c.trans z);have a:decide (p.1≠k)=true:=by simp[e]
   have b:decide (q.1≠k)=true:=by simp[f]
   rw[if_pos a,if_pos b];exact .cons {c,g} ih
def KV.keys{kvs:List (κ×V)}{vs:List (κ×f9)}(r:KV kvs vs):kvs.map (·.1)=vs.map (·.1):=by
 unfold KV at r
 induction r with
|nil=>rfl
|cons h t ih=>rw[K1,K1,ih,h.1]
def KV.length(r:KV kvs vs):kvs.length=vs.length:=Paired.length r
def YO(kvs:List (κ×V))(k:κ):(eV kvs k).length<=kvs.length:=jh _ _
end
def pE(r:bJ (kV k) u):(bS P w).is k u=true:=by
 cases k with
|inl i=>obtain ⟨t,e⟩:=(show ∃t,u=ei i t from r);subst e;exact HP P w i t
|inr x=>obtain ⟨t,e⟩:=(show ∃t,u=eh x t from r);subst e;exact HN P w x t
theorem BM:∀{b:List aL}{us:List f9},bH (b.map kV) us->ItemsAre (bS P w) b us
|[],_,r=>by rw[vw]at r;cases r;exact .nil
|k::b,_,r=>by
  rw[K1]at r;cases r with
 |cons h t=>exact .cons (pE h) (BM t)
noncomputable abbrev KT(H:Hp):List (List aL×V)->List (List aL×g6×f9)->Prop:=Paired fun p q=>p.1=q.1/\H q.2.1=some (.tup (p.1.map kV))/\bJ p.2 q.2.2
def KT.val(r:KT H kvs xs)(k:List aL):nQ (bI kvs k) ((wt xs k).map (·.2)):=by
 induction r with
|nil=>exact N3
|@cons p q m f h t ih=>
  obtain ⟨g,_,i⟩:=h;by_cases e:p.1=k
  ·have c:q.1=k:=g.symm.trans e;have b:wt (q::f) k=some q.2:=by simp[wt,Q2,c]
   rw[dE e,b];exact i
  ·have c:¬q.1=k:=fun z=>e (g.trans z);have b:wt (q::f) k=wt f k:=by simp[wt,Q2,c]
   rw[cY e,b];exact ih
def KT.repl(r:KT H kvs xs)(k:List aL)(g:bJ y u):
  KT H (kvs.map fun kv=>if kv.1=k then (kv.1,y) else kv) (xs.map (putAt k u)):=by
 induction r with
|nil=>exact .nil
|@cons p q i m h t ih=>
  rw[K1,K1];refine .cons ?_ ih;obtain ⟨b,c,f⟩:=h;unfold putAt;by_cases e:p.1=k
  ·rw[if_pos e,if_pos (b.symm.trans e)];exact {b,c,g}
  ·rw[if_neg e,if_neg (fun z=>e (b.trans z))];exact {b,c,f}
def KT.put(r:KT H kvs xs)(k:List aL)(f:H b=some (.tup (k.map kV)))(c:bJ y u):
  KT H (eI kvs k y) (storedH xs k b u):=by
 have e:(kvs.any fun kv=>decide (kv.1=k))=(wt xs k).isSome:=by rw[rT,(r.val k).isSome_eq,md]
 unfold eI storedH;rw[e];by_cases q:(wt xs k).isSome=true
 ·rw[if_pos q,if_pos q];exact r.repl k c
 ·rw[if_neg q,if_neg q];exact Paired.snoc r {rfl,f,c}
def KT.keeps(r:KT H kvs xs)(c:∀b ys,H b=some (.tup ys)->H' b=some (.tup ys)):KT H' kvs xs:=
 Paired.mapP r fun _ _ z=>{z.1,c _ _ z.2.1,z.2.2}
section
variable {P:m9}{w:w6}{H:Hp}{h:C3}{a:g6}
def Fw(ok:pL P w H h)(e:Rd H a u):dJ P w H h a u:=e.ok ok
def vF(ok:pL P w H h)(e:Rd H a (.dK kvs)):kvs.length<=n7/\(a==sysModules)=false/\∃vs,KV kvs vs/\h.DictOf (bS P w) a vs:=
 show dJ P w H h a (.dK kvs) from Fw ok e
def yU(ok:pL P w H h)(e:H a=some (.dK kvs)):kvs.length<=n7/\(a==sysModules)=false/\∃vs,KV kvs vs/\h.DictOf (bS P w) a vs:=vF ok (.inl e)
def rG(ok:pL P w H h)(e:H a=some (.tup (ks.map kV))):(jn (bS P w)).is h ks a:=by
 obtain ⟨_,b,r,o,c,f,n,g⟩:=(show dJ P w H h a (.tup (ks.map kV)) from ok a _ e)
 exact {o,b.toArray,n,c,f,g,by simpa using BM r}
def vD(ok:pL P w H h)(e:Rd H a (.dT kvs)):kvs.length<=n7/\(a==sysModules)=false /\
  ∃xs,KT H kvs xs/\h.DictOfH (jn (bS P w)) a xs:=by
 obtain ⟨z,y,xs,r,o,i,g,s,A,B,C,D⟩:=(show dJ P w H h a (.dT kvs) from Fw ok e)
 refine {z,y,xs,r,o,i,g,s,A,B,C,fun x b=>?_,D};have c:∀{l:List (List aL×V)} {m:List (List aL×g6×f9)},KT H l m->∀x∈m,(jn (bS P w)).is h x.1 x.2.1:=by
  intro l m q
  induction q with
 |nil=>intro x b;exact nomatch b
 |@cons p q E G f t ih=>
   intro x b;rcases x6.mp b with e|b
   ·subst e;exact rG ok (by rw[←f.1];exact f.2.1)
   ·exact ih x b
 exact c r x b
def Rz(ok:pL P w H h)(e:H a=some (.dT kvs)):kvs.length<=n7/\(a==sysModules)=false /\
  ∃xs,KT H kvs xs/\h.DictOfH (jn (bS P w)) a xs:=vD ok (.inl e)
end
noncomputable def lZ(H:Hp)(a:g6)(y:V)(r:Option V):Prop:=
 (∃kvs k,Rd H a (.dK kvs)/\y=kV k/\r=bI kvs k)∨∃kvs k b,Rd H a (.dT kvs)/\y=.ref b/\H b=some (.tup (k.map kV))/\r=bI kvs k
noncomputable def IV(H:Hp)(a:g6)(y v:V)(H':Hp):Prop:=
 (∃kvs k,H a=some (.dK kvs)/\y=kV k/\kvs.length<n7/\H'=upd H a (.dK (eI kvs k v))) ∨
 ∃kvs k b,H a=some (.dT kvs)/\y=.ref b/\H b=some (.tup (k.map kV))/\kvs.length<n7/\H'=upd H a (.dT (eI kvs k v))
def IV.k{H:Hp}{a:g6}{kvs:List (aL×V)}{k:aL}{v:V}(e:H a=some (.dK kvs))(b:kvs.length<n7):IV H a (kV k) v (upd H a (.dK (eI kvs k v))):=.inl {kvs,k,e,rfl,b,rfl}
section
variable {X:Cx}{ag:List (g6×Obj)}{σ:St}{H:Hp}{s:i6}{a:g6}{y v:V}{u r:f9}{o:Option V}{A:B2}{E:f9->i6->Prop}
def aY.big(I:aY X ag σ H s):sysModules<s.heap.objs.size:=by have h:C2<s.heap.objs.size:=(I.mod.glob.keeps I.bk).lt;exact jp (by decide) h
def RL(M:A.units+1<N2)(I:aY X ag σ H s)(g:lZ H a y (some v))(G:bJ y u)(h:∀i s',aY X ag σ H s'->bJ v i->Q i s'):
  j0 (j8 X.prog X.w) A (rf (.ref a) u) Q E s:=by
 rcases g with ⟨D,k,e,q,l⟩|⟨D,k,b,e,q,J,l⟩
 ·subst q;obtain ⟨z,K,N,c,m⟩:=vF I.hok e;obtain ⟨i,C,f⟩:=nQ.some_of (v:=v) (o:=Y8 N k) (by rw[l];exact c.val k);exact wpAny_getItem_of (pE G) m.mapOf C (h i _ (I.tok _) f)
 ·subst q;cases (show u=n9 b from G);obtain ⟨z,K,O,c,m⟩:=vD I.hok e;obtain ⟨i,C,f⟩:=nQ.some_of (v:=v) (o:=(wt O k).map (·.2)) (by rw[l];exact c.val k);obtain ⟨p,hp,B⟩:=A9.mp C;refine wpAny_getItem_heap (S8 M) (rG I.hok J) m hp ?_;rw[B];exact h i _ (I.tok _) f
def Vo(G:A.units+1<N2)(I:aY X ag σ H s)(g:lZ H a y o)(C:bJ y u)(h:∀s',aY X ag σ H s'->Q (.bool o.isSome) s'):
  j0 (j8 X.prog X.w) A (E7 .In u (.ref a)) Q E s:=by
 rcases g with ⟨B,k,e,i,l⟩|⟨B,k,b,e,i,D,l⟩
 ·subst i;obtain ⟨z,m,J,c,f⟩:=vF I.hok e;refine wpAny_in_of (pE C) m f.mapOf ?_;rw[←(c.val k).isSome_eq,←l];exact h _ (I.tok _)
 ·subst i;cases (show u=n9 b from C);obtain ⟨z,m,K,c,f⟩:=vD I.hok e;refine wpAny_in_heap (S8 G) (rG I.hok D) m f ?_;have q:=(c.val k).isSome_eq;rw[md]at q;rw[←q,←l];exact h _ (I.tok _)
def Dp(G:A.units+1<N2)(I:aY X ag σ H s)(g:lZ H a y o)(C:bJ y u)(h:∀s',aY X ag σ H s'->Q (.bool (!o.isSome)) s'):
  j0 (j8 X.prog X.w) A (E7 .NotIn u (.ref a)) Q E s:=by
 rcases g with ⟨B,k,e,i,l⟩|⟨B,k,b,e,i,D,l⟩
 ·subst i;obtain ⟨z,m,J,c,f⟩:=vF I.hok e;refine wpAny_notIn_of (pE C) m f.mapOf ?_;rw[←(c.val k).isSome_eq,←l];exact h _ (I.tok _)
 ·subst i;cases (show u=n9 b from C);obtain ⟨z,m,K,c,f⟩:=vD I.hok e;refine wpAny_notIn_heap (S8 G) (rG I.hok D) m f ?_;have q:=(c.val k).isSome_eq;rw[md]at q;rw[←q,←l];exact h _ (I.tok _)
def tN(I:aY X ag σ H s)(mu:Sx (H a))(hs:Q4 a s.heap h')(f:∃q,h'.get? a=some q)(new:dJ X.prog X.w (upd H a ob) h' a ob):
  aY X ag σ (upd H a ob) {s with heap:=h',toks:=t'}:=
 I.write (x:=a) (e:=a) mu (.inl rfl) (fun b q c z=>(hs.2 b c).trans z) f new
def yV(z:kvs.length<=n7)(f:(a==sysModules)=false)(b:KV kvs vs)(c:h'.DictOf (bS P w) a vs):
  dJ P w H' h' a (.dK kvs):={z,f,vs,b,c}
def RK(hu:A.units+1<N2)(I:aY X ag σ H s)(g:IV H a y v H')(R:bJ y u)(rv:bJ v r)(h:∀s',aY X ag σ H' s'->Q () s'):
  j0 (j8 X.prog X.w) A (setItem (.ref a) u r) Q E s:=by
 rcases g with ⟨f,k,e,G,l,D⟩|⟨f,k,b,e,G,N,l,D⟩
 ·subst G D;obtain ⟨z,J,vs,i,C⟩:=yU I.hok e;have M:vs.length<=n7:=by rw[←i.length];exact z
  have K:(eI f k v).length<=n7:=by have:=lJ f k v;lia
  refine wpAny_setItem_pairs (hsz:=M) (pE R) C fun P m hs=>h _ ?_;have he:∃q,P.get? a=some q:=let ⟨q,_,_,B,_⟩:=m;{q,B};exact tN I (by rw[e];exact N3) hs he (yV K J (i.put k rv) m)
 ·subst G D;cases (show u=n9 b from R);obtain ⟨z,J,xs,i,C⟩:=Rz I.hok e;have M:xs.length<=n7:=by rw[←Paired.length i];exact z
  have K:(eI f k v).length<=n7:=by have:=lJ f k v;lia
  refine wpAny_setItem_heap (hsz:=M) (S8 hu) (rG I.hok N) C fun P m hs=>h _ ?_;obtain ⟨q,T,S,B,U,W,Y,_,Z⟩:=m;refine tN I (by rw[e];exact N3) hs {q,B} {K,J,_,(i.put k N rv).keeps fun c ys O=>?_,q,T,S,B,U,W,Y,Z};rw[aX (fN O e (fun z=>nomatch z))];exact O
end
section
variable {X:Cx}{ag:List (g6×Obj)}{σ:St}{H:Hp}{s:i6}{a:g6}{kvs:List (aL×V)}{k:aL}{u:f9}{A:B2}{E:f9->i6->Prop}
def Sc(I:aY X ag σ H s)(e:H a=some (.dK kvs))(m:bJ (kV k) u)(l:bI kvs k=some v)(C:more=[]∨∃x,more=[x])(h:∀f s',aY X ag σ (upd H a (.dK (eV kvs k))) s'->bJ v f->Q f s'):j0 (j8 X.prog X.w) A (jt (.builtin "dict.pop") (.ref a::u::more)) Q E s:=by
 obtain ⟨z,K,D,b,B⟩:=yU I.hok e;obtain ⟨f,O,g⟩:=nQ.some_of (v:=v) (o:=Y8 D k) (by rw[←l];exact b.val k);have hp:(keyPart u).isSome=true:=by
  cases k with
 |inl i=>obtain ⟨t,q⟩:=(show ∃t,u=ei i t from m);subst q;rfl
 |inr x=>obtain ⟨t,q⟩:=(show ∃t,u=eh x t from m);subst q;rfl
 have J:zc "dict.pop" {.ref a::u::more,[]}:=by
  rcases C with q|⟨x,q⟩
  ·subst q;exact PySem.F.args_dict_pop_2 _ _
  ·subst q;exact PySem.F.args_dict_pop_3 _ _ _
 refine Z7 slot_dict_pop B.typeIs PySem.F.entry_dict_pop J (meets_dict_pop_there (bS X.prog X.w) a (pE m) more C hp)
  {D,f,B,by rw[←b.length];exact z,O,fun G c hs=>h f _ ?_ g}
 have M:∃q,G.get? a=some q:=let ⟨q,_,_,N,_⟩:=c;{q,N};exact tN I (by rw[e];exact N3) hs M (yV (B9 (YO kvs k) z) K (b.drop k) c)
end
noncomputable def Sv(i:D9):Prop:=∀ov iv,uu i false ov iv=operate [ov,iv] (rf ov iv)
def Ae{prog:m9}{w:w6}{A:B2}{E:f9->i6->Prop}{s:i6}{env:Env}{c b:D9}{pos:Pos}{T id:String}{Q:f9->i6->Prop}(H:ke (.type T) "__getitem__"=L3 (some (.builtin id)))(hs:Sv b)(h:j0 (j8 prog w) A (K3 c env) (fun o m=>j0 (j8 prog w) A (K3 b env) (fun i f=>f.TypeIs o T/\j0 (j8 prog w) A (rf o i) Q E f) E m) E s):
  j0 (j8 prog w) A (K3 (.Subscript c b pos) env) Q E s:=by
 refine qm (K0 h (fun o m C=>K0 C (fun i f g=>?_) fun _ _ x=>x) fun _ _ x=>x);obtain ⟨G,g⟩:=g;unfold xz;refine e9 ?_;rw[getitemInPython_of_ne G.not_modules];refine e9 (gg G H ?_);have B:j0 (j8 prog w) A (uu b false o i) (fun r q=>j0 (j8 prog w) A (letTemporaryGo c o r >>= fun _=>L3 r) Q E q) E f:=by rw[hs o i];exact wpAny_operating (K0 g (fun r q D=>e9 (wpAny_letTemporaryGo (i8 D))) fun _ _ x=>x)
 first
 |exact i8 (e9 B)
 |exact e9 (i8 (e9 B))
 |exact e9 B
def HZ(I:aY X ag σ H s)(g:lZ H a y o):s.TypeIs (.ref a) "dict":=by
 rcases g with ⟨f,k,e,_,_⟩|⟨f,k,b,e,_,_,_⟩
 ·obtain ⟨_,_,i,_,c⟩:=vF I.hok e;exact c.typeIs
 ·obtain ⟨_,_,m,_,c⟩:=vD I.hok e;exact c.typeIs
noncomputable def Eu(td ty:TE):TE:=fun σ H Q=>td σ H fun x H1=>ty σ H1 fun y H2=>∃a v,x=.ref a/\lZ H2 a y (some v)/\Q v H2
noncomputable def Og(ty td:TE):TE:=fun σ H Q=>ty σ H fun y H1=>td σ H1 fun x H2=>∃a o,x=.ref a/\lZ H2 a y o/\Q (.bl o.isSome) H2
noncomputable def LM(ty td:TE):TE:=fun σ H Q=>ty σ H fun y H1=>td σ H1 fun x H2=>∃a o,x=.ref a/\lZ H2 a y o/\Q (.bl (!o.isSome)) H2
noncomputable def Ft(td ty tv:TE):TS:=fun D σ H=>tv σ H fun v H1=>td σ H1 fun x H2=>ty σ H2 fun y H3=>∃a H4,x=.ref a/\IV H3 a y v H4/\D.nx σ H4
section
variable {X:Cx}{o i value:D9}{pos pos':Pos}{td ty tv:TE}
def aS(J:X.A.units+1<N2)(G:PE X o td)(E:PE X i ty)(hs:Sv i:=by intro _ _;rfl):PE X (.Subscript o i pos) (Eu td ty):=by intro b s m H Q I h;refine Ae PySem.F.slot_dict_getitem.lookup hs (dD (G b s m H _ I h) fun u P ⟨x,q,B,N,K⟩=>dD (E b P m q _ B K) fun R S ⟨y,w,f,O,a,v,D,g,M⟩=>?_);subst D;obtain rfl:u=n9 a:=N;exact {HZ f g,RL J f g O fun U T C c=>{v,w,C,c,M}}
def CW(G:X.A.units+1<N2)(D:PE X i ty)(E:PE X o td):PC X .In i o (Og ty td):=by intro b s c H Q I h;refine dD (D b s c H _ I h) fun R P ⟨y,f,q,O,K⟩=>dD (E b P c f _ q K) fun u S ⟨x,m,w,N,a,J,C,g,M⟩=>?_;subst C;obtain rfl:u=n9 a:=N;exact Vo G w g O fun T B=>{.bl J.isSome,m,B,rfl,M}
def uE(G:X.A.units+1<N2)(D:PE X i ty)(E:PE X o td):PC X .NotIn i o (LM ty td):=by intro b s c H Q I h;refine dD (D b s c H _ I h) fun R P ⟨y,f,q,O,K⟩=>dD (E b P c f _ q K) fun u S ⟨x,m,w,N,a,J,C,g,M⟩=>?_;subst C;obtain rfl:u=n9 a:=N;exact Dp G w g O fun T B=>{.bl (!J.isSome),m,B,rfl,M}
def iN(M:X.A.units+1<N2)(K:PE X o td)(J:PE X i ty)(N:PE X value tv)(hs:ny value (some (.Subscript o i pos')) pos.line X.env=L3 false):
  PS X (.Assign [.Subscript o i pos'] value pos) (Ft td ty tv):=by
 intro b s c H D I h;refine wpAny_Assign_Subscript (dD (N b s c H _ I h) fun r T ⟨v,f,w,rv,O⟩=>dD (K b T c f _ w O) fun u U ⟨x,m,B,R,P⟩=>dD (J b U c m _ B P) fun Y Z ⟨y,W,C,S,a,q,G,g,Q⟩=>?_) hs;subst G;obtain rfl:u=n9 a:=R;exact RK M C g S rv fun s4 E=>{c,q,E,Q}
end
def HY(h:C3)(b:sysModules<h.objs.size):dJ P w H (h.push {cls:=.type "dict",data:=.dict #[]}) h.objs.size (.dK []):=
 {w4 _,beq_eq_false_iff_ne.mpr (u7 (q7 b)),[],.nil,C3.DictOf.new h}
noncomputable def TR:TE:=fun _ H Q=>∀p,H p=none->Q (.ref p) (upd H p (.dK []))
section
variable {X:Cx}{pos:Pos}
def mF:PE X (.Dict [] [] pos) TR:=fun b s c H Q I h=>wpAny_Dict_empty {.ref s.heap.objs.size,_,I.laid (a:=s.heap.objs.size) (o:=.dK []) (t':=s.toks) (fun _ _ q=>i4 _ q) (k7 _) (HY s.heap I.big),rfl,h _ (I.hok.fresh (k7 _))}
end
noncomputable def JF:List (TE×TE)->St->Hp->(List (V×V)->Hp->Prop)->Prop
|[],_,H,Q=>Q [] H
|(tk,tv)::r,σ,H,Q=>tk σ H fun x H1=>tv σ H1 fun y H2=>JF r σ H2 fun ps H3=>Q ((x,y)::ps) H3
noncomputable abbrev VV:List (V×V)->List (f9×f9)->Prop:=Paired fun p q=>bJ p.1 q.1/\bJ p.2 q.2
noncomputable def Ss(X:Cx)(pos:Pos)(keys:List (Option D9))(values:List D9)(trs:List (TE×TE)):Prop:=
 ∀(ag:List (g6×Obj)) (s:i6) (σ:St) (H:Hp) (Q:List (V×V)->Hp->Prop),aY X ag σ H s->JF trs σ H Q ->
  j0 (j8 X.prog X.w) X.A (evalPairs (pairTrees keys values X.env pos)) (fun vs s'=>∃ps H',aY X ag σ H' s'/\VV ps vs/\Q ps H') X.xe s
def Bv:Ss X pos [] [] []:=fun b s c H Q I h=>pairTrees_nil_walk {[],H,I,.nil,h}
def oW(hk:PE X k tk)(B:PE X v tv)(A:Ss X pos ks vs trs):
  Ss X pos (some k::ks) (v::vs) ((tk,tv)::trs):=fun b s f H Q I h=>
 pairTrees_cons_walk (dD (hk b s f H _ I h) fun u M ⟨x,g,o,J,D⟩=>dD (B b M f g _ o D) fun P N ⟨y,i,q,K,E⟩=>
  dD (A b N f i _ q E) fun R O ⟨C,m,w,c,G⟩=>{(x,y)::C,m,w,.cons {J,K} c,G})
noncomputable def gB(kvs more:List (aL×V)):List (aL×V):=more.foldl (fun cu kv=>eI cu kv.1 kv.2) kvs
def KV.merge:∀{b:List (aL×V)}{c:List (aL×f9)}{kvs:List (aL×V)}{vs:List (aL×f9)},KV b c->KV kvs vs->KV (gB kvs b) (merged vs c):=by
 intro b c kvs vs r;unfold KV at r
 induction r generalizing kvs vs with
|nil=>intro q;exact q
|@cons p q g i h t ih=>
  intro f;have e:KV (eI kvs p.1 p.2) (tf vs q.1 q.2):=by have:=f.put p.1 h.2;rw[←h.1];exact this
  exact ih e
theorem lW:∀(b kvs:List (aL×V)),(gB kvs b).length<=kvs.length+b.length
|[],kvs=>by show kvs.length<=kvs.length+0;lia
|p::r,kvs=>by have c:=lW r (eI kvs p.1 p.2);have f:=lJ kvs p.1 p.2;show (gB (eI kvs p.1 p.2) r).length<=_;rw[K2];lia
theorem yW:∀{kvs:List (aL×V)}{g:List (f9×f9)},VV (kvs.map fun kv=>(kV kv.1,kv.2)) g->∃f,Carries (bS P w) g f/\KV kvs f
|[],_,r=>by rw[vw]at r;cases r;exact {[],N3,.nil}
|p::kvs,_,r=>by
  rw[K1]at r;cases r with
 |@cons a b as o h t=>obtain ⟨f,c,q⟩:=yW (P:=P) (w:=w) t;obtain ⟨m,i⟩:=b;exact {(p.1,i)::f,{pE h.1,rfl,c},.cons {rfl,h.2} q}
noncomputable def Et(trs:List (TE×TE)):TE:=fun σ H Q=>∀p,H p=none->JF trs σ (upd H p (.dK [])) fun ps H2=>H2 p=some (.dK [])/\∃kvs:List (aL×V),ps=kvs.map (fun kv=>(kV kv.1,kv.2))/\kvs.length<=15/\Q (.ref p) (upd H2 p (.dK (gB [] kvs)))
def Ca(h:Ss X pos keys values trs)(f:keys.all (·.isSome)=true)(O:keys.length=values.length)(J:keys≠[])(m:keys.length<=15):PE X (.Dict keys values pos) (Et trs):=by
 intro i s σ H Q I q;have hn:=I.hok.fresh (k7 s.heap.objs.size);have D:=I.laid (a:=s.heap.objs.size) (o:=.dK []) (h':=s.heap.push {cls:=.type "dict",data:=.dict #[]}) (t':=s.toks) (fun _ _ q=>i4 _ q) (k7 _) (HY s.heap I.big);refine wpAny_Dict_walk (knd:=bS X.prog X.w) f O J m (dD (h i _ σ _ _ D (q _ hn)) fun ws s2 ⟨ps,H2,B,A,e,g,G,lk,T⟩=>?_);subst G;obtain ⟨Y,c,W⟩:=yW (P:=X.prog) (w:=X.w) A;obtain ⟨z,M,Z,U,E⟩:=yU B.hok e;cases U;refine {Y,c,E,fun C b hs=>{.ref s.heap.objs.size,_,?_,rfl,T}};have S:(gB [] g).length<=n7:=by have K:=lW g [];rw[List.length_nil]at K;rw[B8];lia
 have N:∃q,C.get? s.heap.objs.size=some q:=let ⟨q,_,_,R,_⟩:=b;{q,R};exact tN B (by rw[e];exact N3) hs N (yV S M (W.merge .nil) b)
structure M1(X:Cx)(o:D9)(m:Str)(bn:Pos)(e:D9)(cc:Pos):Prop where
 base:R0 o m X.env (K3 o X.env)=K3 o X.env
 few:((O5 cc (v9 [e] X.env)).all (fun x=>!x.1)&&(ju cc (Y1 [] X.env)).all (fun x=>x.1.isSome)
  && decide (([e]:List D9).length+([]:List kx).length+(if ([]:List kx).isEmpty then 0 else 1)<30))=true
 line:(bn.endLine==cc.line)=true
 trees:O5 cc (v9 [e] X.env)=[(false,K3 e X.env)]
structure M2(X:Cx)(o:D9)(m:Str)(bn:Pos)(e f:D9)(cc:Pos):Prop where
 base:R0 o m X.env (K3 o X.env)=K3 o X.env
 few:((O5 cc (v9 [e,f] X.env)).all (fun x=>!x.1)&&(ju cc (Y1 [] X.env)).all (fun x=>x.1.isSome)
  && decide (([e,f]:List D9).length+([]:List kx).length+(if ([]:List kx).isEmpty then 0 else 1)<30))=true
 line:(bn.endLine==cc.line)=true
 trees:O5 cc (v9 [e,f] X.env)=[(false,K3 e X.env),(false,K3 f X.env)]
noncomputable def Eg(H:Hp)(a:g6):Prop:=(∃kvs,Rd H a (.dK kvs))∨∃kvs,Rd H a (.dT kvs)
def KG(I:aY X ag σ H s)(d:Eg H a):
  s.TypeIs (.ref a) "dict"/\(∀b,n9 a=.ref b->∃c,s.heap.get? b=some c/\c.dict=none)/\(a==sysModules)=false:=by
 rcases d with ⟨o,e⟩|⟨o,e⟩
 ·obtain ⟨_,m,w,_,f⟩:=vF I.hok e;refine {f.typeIs,fun b q=>?_,m};cases q;obtain ⟨c,_,_,g,i,_⟩:=f;exact {c,g,i.2.1}
 ·obtain ⟨_,m,A,_,f⟩:=vD I.hok e;refine {f.typeIs,fun b q=>?_,m};cases q;obtain ⟨c,_,_,g,i,_⟩:=f;exact {c,g,i.2.1}
section
variable {X:Cx}{ag:List (g6×Obj)}{σ:St}{H:Hp}{s:i6}{a:g6}{y d:V}{u r:f9}{o:Option V}{A:B2}{E:f9->i6->Prop}
def Mi(D:A.units+1<N2)(I:aY X ag σ H s)(g:lZ H a y o)(B:bJ y u)(h:∀w' s',aY X ag σ H s'->bJ (o.getD .non) w'->Q w' s'):
  j0 (j8 X.prog X.w) A (jt (.builtin "dict.get") [.ref a,u]) Q E s:=by
 rcases g with ⟨q,k,e,i,l⟩|⟨q,k,b,e,i,C,l⟩
 ·subst i;obtain ⟨z,m,J,c,f⟩:=vF I.hok e;refine Z7 dw f.typeIs ng (ss _ _) (meets_dict_get (bS X.prog X.w) a (pE B) m) {_,f.mapOf,h _ _ (I.tok _) ?_};rw[l];exact (c.val k).getD rfl
 ·subst i;cases (show u=n9 b from B);obtain ⟨z,m,G,c,f⟩:=vD I.hok e;refine Z7 dw f.typeIs ng (ss _ _) (meetsH_dict_get (jn (bS X.prog X.w)) a b m) {S8 D,k,G,rG I.hok C,f,h _ _ (I.tok _) ?_};rw[l];exact (c.val k).getD rfl
def Mh(G:A.units+1<N2)(I:aY X ag σ H s)(g:lZ H a y o)(C:bJ y u)(B:bJ d r)(h:∀w' s',aY X ag σ H s'->bJ (o.getD d) w'->Q w' s'):
  j0 (j8 X.prog X.w) A (jt (.builtin "dict.get") [.ref a,u,r]) Q E s:=by
 rcases g with ⟨q,k,e,i,l⟩|⟨q,k,b,e,i,D,l⟩
 ·subst i;obtain ⟨z,m,K,c,f⟩:=vF I.hok e;refine Z7 dw f.typeIs ng (sq _ _ _) (meets_dict_get_default (bS X.prog X.w) a (pE C) m r) {_,f.mapOf,h _ _ (I.tok _) ?_};rw[l];exact (c.val k).getD B
 ·subst i;cases (show u=n9 b from C);obtain ⟨z,m,J,c,f⟩:=vD I.hok e;refine Z7 dw f.typeIs ng (sq _ _ _) (meetsH_dict_get_default (jn (bS X.prog X.w)) a b m r) {S8 G,k,J,rG I.hok D,f,h _ _ (I.tok _) ?_};rw[l];exact (c.val k).getD B
end
noncomputable def TV(td ty:TE):TE:=fun σ H Q=>td σ H fun x H1=>∃a,x=.ref a/\Eg H1 a/\ty σ H1 fun y H2=>∃o,lZ H2 a y o/\Q (o.getD .non) H2
noncomputable def TU(td ty tx:TE):TE:=fun σ H Q=>td σ H fun x H1=>∃a,x=.ref a/\Eg H1 a/\ty σ H1 fun y H2=>tx σ H2 fun z H3=>∃o,lZ H3 a y o/\Q (o.getD z) H3
noncomputable def TQ(td ty:TE):TE:=fun σ H Q=>td σ H fun x H1=>∃a,x=.ref a/\Eg H1 a/\ty σ H1 fun y H2=>∃kvs k v,H2 a=some (.dK kvs)/\y=kV k/\bI kvs k=some v/\Q v (upd H2 a (.dK (eV kvs k)))
section
variable {X:Cx}{o e f:D9}{bn cc:Pos}{td ty tx:TE}
def GS(K:X.A.units+1<N2)(J:PE X o td)(G:PE X e ty)(m:M1 X o "get" bn e cc):PE X (.Call (.Attribute o "get" bn) [e] [] cc) (TV td ty):=by intro b s q H Q I h;refine io m.base m.few m.line X0 dw type_dict_get (dD (J b s q H _ I h) fun u R ⟨x,w,i,O,a,E,d,M⟩=>?_);subst E;obtain rfl:u=n9 a:=O;obtain ⟨S,T,_⟩:=KG i d;refine {S,T,?_};rw[m.trees];refine W8 rfl (Z8 (P4 (dD (G b R q w _ i M) fun U Y ⟨y,B,C,P,W,g,N⟩=>S6 ?_)));exact Mi K C g P fun w' Z D c=>{_,B,D,c,N}
def gZ(O:X.A.units+1<N2)(N:PE X o td)(K:PE X e ty)(M:PE X f tx)(m:M2 X o "get" bn e f cc):PE X (.Call (.Attribute o "get" bn) [e,f] [] cc) (TU td ty tx):=by
 intro b s i H Q I h;refine io m.base m.few m.line X0 dw type_dict_get (dD (N b s i H _ I h) fun u Y ⟨x,w,q,T,a,J,d,P⟩=>?_);subst J;obtain rfl:u=n9 a:=T;obtain ⟨t1,t2,_⟩:=KG q d;refine {t1,t2,?_};rw[m.trees];refine W8 rfl (Z8 (P4 (dD (K b Y i w _ q P) fun iv Z ⟨y,B,D,U,R⟩=>
  P4 (dD (M b Z i B _ D R) fun fv s3 ⟨z,C,E,W,ov,g,S⟩=>S6 ?_))))
 exact Mh O E g U W fun w' s4 G c=>{_,C,G,c,S}
def WK(G:PE X o td)(E:PE X e ty)(m:M1 X o "pop" bn e cc):PE X (.Call (.Attribute o "pop" bn) [e] [] cc) (TQ td ty):=by intro b s i H Q I h;refine io m.base m.few m.line X0 slot_dict_pop PySem.F.type_dict_pop (dD (G b s i H _ I h) fun u P ⟨x,q,g,N,a,C,d,K⟩=>?_);subst C;obtain rfl:u=n9 a:=N;obtain ⟨R,S,_⟩:=KG g d;refine {R,S,?_};rw[m.trees];refine W8 rfl (Z8 (P4 (dD (E b P i q _ g K) fun U W ⟨y,T,w,O,J,k,v,B,D,l,M⟩=>S6 ?_)));subst D;exact Sc w B O l (.inl rfl) fun Z Y A c=>{v,_,A,c,M}
end
section
variable {κ:Type}[DecidableEq κ]
def RH{p:κ×V}{r:List (κ×V)}{k:κ}(e:p.1=k):eV (p::r) k=eV r k:=by unfold eV;rw[V9,if_neg (by simp[e])]
def RI{p:κ×V}{r:List (κ×V)}{k:κ}(e:¬p.1=k):eV (p::r) k=p::eV r k:=by unfold eV;rw[V9,if_pos (by simp[e])]
end
noncomputable def Sm(n:Nat)(x:Int):Prop:=x.natAbs<2^n
def Sm.mono(h:Sm m x)(l:m<=n):Sm n x:=j3 h (W2 (by decide) l)
def Sm.bits(h:Sm n x):su x<=n:=by
 unfold su;split
 ·exact w4 _
 ·have hn:x.natAbs<2^n:=h;rename_i c;have b:x.natAbs≠0:=fun e=>c (by rw[show x=0 by lia];rfl);have:x.natAbs.log2<n:=(Nat.log2_lt b).mpr hn;lia
def Sm.mulOk(c:Sm m a)(f:Sm n b)(h:m+n<=134217728):IntMulOk a b:=PyProof.Rows.mulOk_of_bits c.bits f.bits h
def Sm.log2(h:Sm n x):x.natAbs.log2<n+1:=by
 have hn:x.natAbs<2^n:=h;by_cases b:x.natAbs=0
 ·rw[b,Nat.log2_zero];lia
 ·have:=(Nat.log2_lt b).mpr hn;lia
def Sm.of{n:Nat}{x:Int}(b:-(2^n:Nat)<x)(c:x<(2^n:Nat)):Sm n x:=by unfold Sm;generalize 2^n=k at *;omega
def Sm.mul(c:Sm m a)(f:Sm n b):Sm (m+n) (a*b):=by unfold Sm at *;rw[J7,Nat.pow_add];exact Nat.mul_lt_mul'' c f
def Sm.le(h:a.natAbs<=b.natAbs)(c:Sm n b):Sm n a:=E6 h c
section
variable {X:Cx}
noncomputable def pN(_ j:Int):Prop:=j≠0/\Sm 8000 j
def bE:lN X (R7 .FloorDiv) (rI pN fun i j=>.int (i.fdiv j)):=Ra fun _ _ _ _ _ _ _ b q=>floordiv_int b.1 q (.inl (PyProof.noPylong_of_log2 (jp b.2.log2 (by decide))))
noncomputable def fF(i j:Int):Prop:=Nb i j∨(Sm 60000000 i/\Sm 60000000 j)
def fF.ok(h:fF i j):IntMulOk i j:=by
 rcases h with h|⟨b,c⟩
 ·exact h.ok
 ·exact b.mulOk c (by decide)
def fF.l(b:-(2^64)<i)(c:i<2^64):fF i j:=.inl (.inl {b,c})
def fF.r(b:-(2^64)<j)(c:j<2^64):fF i j:=.inl (.inr {b,c})
def fF.s(b:Sm m i)(c:Sm n j)(f:m<=60000000)(hn:n<=60000000):fF i j:=.inr {b.mono f,c.mono hn}
def cK:lN X (R7 .Mult) (rI fF fun i j=>.int (i*j)):=Ra fun _ _ _ _ _ _ _ b q=>mul_int q b.ok
noncomputable def Gh(K:y8)(T:String):List V->Hp->VK->Prop:=fun xs H Q=>∃x t b,xs=[x,.ty T]/\pJ K H x t/\W3 K t (.type T)=some b/\Q (.bl b) H
def pZ:fK X (.builtin "isinstance") (Gh X.K T):=by intro c s m H i g Q I r h;obtain ⟨x,t,b,rfl,ty,e,q⟩:=h;obtain ⟨u,v,rfl,f,rv⟩:=bH.two r;obtain rfl:v=P0 T:=rv;exact QZ I f ty e fun tk=>{.bl b,H,I.tok tk,rfl,q}
end
section
variable {σ:St}{H:Hp}{Q:VK}{D:gM}{t u:TS}{te ta tb:TE}{v w x:V}{i j:Int}{b c:Bool}{X:Cx}{K:y8}
def Ov(h:σ[n]?=some (some v))(k:Q v H):Hv n σ H Q:={v,h,k}
def r_c(k:Q v H):tC v σ H Q:=k
def lF(k:t {u D,D.rt,D.bk,D.ct} σ H):Nw t u D σ H:=k
def xM{n r b' c'}(k:n σ H):gM.nx {n,r,b',c'} σ H:=k
def Uj{n r b' c'}(k:r v H):gM.rt {n,r,b',c'} v H:=k
def Up{n r b' c'}(k:c' σ H):gM.ct {n,r,b',c'} σ H:=k
def Iz(k:D.nx σ H):Eo D σ H:=k
def Ju(k:D.ct σ H):Ew D σ H:=k
def Qi(k:te σ H fun x H1=>g x σ H1 D.nx):TZ te g D σ H:=k
def Ax(k:R (σ.set n (some v)) H):iD n v σ H R:=k
def Ul(k:ta σ H fun x H1=>tb σ H1 fun y H2=>r x y H2 Q):Od r ta tb σ H Q:=k
def Ug{r}(k:ta σ H fun x H1=>r x H1 Q):Wd r ta σ H Q:=k
def Ql{g}(k:Q (g i j) H):ZO g (.int i) (.int j) H Q:={i,j,rfl,rfl,k}
def Bj{C g}(c:C i j)(k:Q (g i j) H):rI C g (.int i) (.int j) H Q:={i,j,rfl,rfl,c,k}
def r_U{g}(k:Q (g i) H):rU g (.int i) H Q:={i,rfl,k}
noncomputable def bK(R:Bool->Hp->Prop):VK:=fun x H=>∃k,x=.bl k/\R k H
def Us(k:R b H):bK R (.bl b) H:={b,rfl,k}
def Ii(k:te σ H (bK R)):TN te σ H R:=k
def Uh(k:te σ H (bK R)):tB te σ H R:=k
def Pt(k:tc σ H fun b H1=>if b=true then t D σ H1 else u D σ H1):Of tc t u D σ H:=k
def Uo(k:tc σ H fun b H1=>if b=true then ta σ H1 Q else tb σ H1 Q):Wh tc ta tb σ H Q:=k
def Qj(k:ca σ H fun c H1=>if c=true then cb σ H1 R else R false H1):Oh ca cb σ H R:=k
def Uk(k:ca σ H fun c H1=>if c=true then R true H1 else cb σ H1 R):Wg ca cb σ H R:=k
def Pi(k:ca σ H fun c H1=>R (!c) H1):Oe ca σ H R:=k
noncomputable def Sh(tb:TE)(σ:St)(Q:VK):VK:=fun x H1=>∃c,x=.bl c/\if c=true then tb σ H1 Q else Q (.bl false) H1
noncomputable def Wm(tb:TE)(σ:St)(Q:VK):VK:=fun x H1=>∃c,x=.bl c/\if c=true then Q (.bl true) H1 else tb σ H1 Q
noncomputable def Re(Q:VK):VK:=fun x H1=>∃c,x=.bl c/\Q (.bl (!c)) H1
def Ka(k:ta σ H (Sh tb σ Q)):Ey ta tb σ H Q:=k
def Pc(k:ta σ H (Wm tb σ Q)):Ob ta tb σ H Q:=k
def Iu(k:ta σ H (Re Q)):En ta σ H Q:=k
def Kb(k:if c=true then tb σ H Q else Q (.bl false) H):Sh tb σ Q (.bl c) H:={c,rfl,k}
def Pg(k:if c=true then Q (.bl true) H else tb σ H Q):Wm tb σ Q (.bl c) H:={c,rfl,k}
def Iv(k:Q (.bl (!c)) H):Re Q (.bl c) H:={c,rfl,k}
def Pa(k:te σ H D.rt):Nz te D σ H:=k
def Jq(k:te σ H fun _ H1=>D.nx σ H1):Es te D σ H:=k
def Fx(k:R [] H):CF σ H R:=k
def Jv(k:ta σ H fun x H1=>tr σ H1 fun xs H2=>R (x::xs) H2):Ex ta tr σ H R:=k
noncomputable def Hn(Q:VK):List V->Hp->Prop:=fun xs H1=>xs.length<=n7/\∀p,H1 p=none->Q (.ref p) (upd H1 p (.tup xs))
noncomputable def Lf(Q:VK):List V->Hp->Prop:=fun xs H1=>xs.length<=n7/\∀p,H1 p=none->Q (.ref p) (upd H1 p (.lst xs))
def vZ(h:n<=1000):n<=n7:=M5 (eR h)
def Ow(k:tr σ H (Hn Q)):Nu tr σ H Q:=k
def Fy(k:tr σ H (Lf Q)):PM tr σ H Q:=k
def bD(k:∀p,H p=none->Q (.ref p) (upd H p (.tup xs)))(h:xs.length<=1000:=by exact F4 rfl):Hn Q xs H:={vZ h,k}
def dH(k:∀p,H p=none->Q (.ref p) (upd H p (.lst xs)))(h:xs.length<=1000:=by exact F4 rfl):Lf Q xs H:={vZ h,k}
def Jx(k:tr σ H fun vs f=>sp vs f Q E):EZ sp [] E tr σ H Q:=by
 show tr σ H fun vs f=>sp (vs++[]) f Q E;have e:(fun(vs:List V) f=>sp (vs++[]) f Q E)=fun vs f=>sp vs f Q E:=by funext vs f;rw[K4]
 rw[e];exact k
def Ut{r}(k:tr σ H fun vs H1=>r vs H1 Q):Tm r tr σ H Q:=k
def Pb{f:TA}(k:f σ H fun vs H1=>∃v w,vs=[v,w]/\D.nx ((σ.set n (some v)).set m (some w)) H1):Oa n m f D σ H:=k
def Px(k:Q (.bl (decide (i=j))) H):To (.int i) (.int j) H Q:={rfl,by rw[wF,xj];exact k}
def Pj(k:Q (.bl (!decide (i=j))) H):Tn (.int i) (.int j) H Q:={rfl,by rw[wF,xj];exact k}
def Fz(h:cS K H p xs)(e:zA xs i=some v)(k:Q v H):Bp K (.ref p) (.int i) H Q:={p,xs,i,v,rfl,rfl,h,e,k}
def Pr(h:vO K H p xs)(e:zA xs i=some v)(k:Q v H):Bo K (.ref p) (.int i) H Q:={p,xs,i,v,rfl,rfl,h,e,k}
noncomputable def BA(K:y8):R2:=fun x y H Q=>Bp K x y H Q∨Bo K x y H Q∨Ke x y H Q
def aQ:ZI X (BA X.K):=Ls
def iW(h:H p=some (.lst xs))(e:zA xs i=some v)(k:Q v H):BA K (.ref p) (.int i) H Q:=.inl (Fz (cS.of h) e k)
def NE(h:H p=some (.tup xs))(e:zA xs i=some v)(k:Q v H):BA K (.ref p) (.int i) H Q:=.inr (.inl (Pr (vO.of h) e k))
def Wo{A B:Prop}(h:A):if true=true then A else B:=Rm h
def Wp{A B:Prop}(h:B):if false=true then A else B:=Rn h
def Lx{p A B:Prop}[Decidable p](hp:p)(h:A):if decide p=true then A else B:=by rw[decide_eq_true hp];exact Rm h
def Rp{p A B:Prop}[Decidable p](hp:¬p)(h:B):if decide p=true then A else B:=by rw[decide_eq_false hp];exact Rn h
def rH{p A B:Prop}[Decidable p](f:p->A)(g:¬p->B):if decide p=true then A else B:=by
 by_cases h:p
 ·exact Lx h (f h)
 ·exact Rp h (g h)
def Lv{A B:Prop}(h:if b=true then B else A):if (!b)=true then A else B:=by cases b <;> exact h
def uN{A B:Prop}(f:b=true)(h:A):if b=true then A else B:=by rw[f];exact Wo h
def jH{A B:Prop}(f:b=false)(h:B):if b=true then A else B:=by rw[f];exact Wp h
end
noncomputable def Kp(p:g6)(H H':Hp):Prop:=∀b o,b≠p->H b=some o->H' b=some o
def Kp.refl(p:g6)(H:Hp):Kp p H H:=fun _ _ _ h=>h
def Kp.trans(a:Kp p H H1)(b:Kp p H1 H2):Kp p H H2:=fun c o n h=>b c o n (a c o n h)
def Kp.upd:Kp p H (upd H p o):=fun c u n h=>by rw[aX n];exact h
def Kp.new(b:H q=none):Kp p H (L2.upd H q o):=fun c u n h=>by rw[aX (aB h b)];exact h
def aK.new(b:H q=none):aK H (upd H q o):=fun c u h=>by rw[aX (aB h b)];exact h
def aK.kp(s:aK H H'):Kp p H H':=fun c o _ h=>s c o h
noncomputable def EI(H:Hp)(p:g6)(n:Int):Prop:=∃a b c:Int,H p=some (.lst [.int a,.int b,.int c])/\0<=a/\0<=b/\b<=n
structure Df(K:y8)(mg:Str->Option f9)(x:Str)(st:E2)(ps:List Str):Prop where
 ex:∃(f:g6)(fd:M6),(∃(oc:f9)(od:Option g6)(dV kV doc pm:f9)(an:Option g6)(cm ct:f9)(osl:Array (Option f9)),
  fd=ik x x (cH st) (bP st) (aG st) dV kV doc pm an cm ct/\K.lookup f=some {oc,od,.func fd,osl}/\F5 K cm x=true)/\C0 K (.ref f)=true/\mg x=some (.ref f)/\fG K fd ps []
structure cB(P:m9)(w:w6)(K:y8)(mg:Str->Option f9)(base:C3)(k:Nat)(x:Str)(ps:List Str)(sp:Sp):Prop where
 ex:∃(f:g6)(fd:M6),mg x=some (.ref f)/\C0 K (.ref f)=true/\fG K fd ps []/\jV P w K mg base mB k f fd ps sp
def cB.mono{P:m9}{w:w6}{K:y8}{i:Str->Option f9}{g:C3}{j k:Nat}{x:Str}{ps:List Str}{sp:Sp}(o:cB P w K i g j x ps sp)(h:j<=k):cB P w K i g k x ps sp:=
 let ⟨f,m,a,b,c,d⟩:=o.ex;{f,m,a,b,c,d.mono h}
def cB.of{P:m9}{w:w6}{K:y8}{D:Str->Option f9}{i:C3}{k:Nat}{x:Str}{st:E2}{N ps:List Str}{sp:Sp}(d:Df K D x st ps)(S:aM N ps (aG st))(C:∀vs H Q E,sp vs H Q E->vs.length=ps.length)
  (m:∀ (f:g6) (g:f9) (A:B2)(c:List Env)(s:i6)(H:Hp)(vs:List V)(Q:VK)(E:XK),eP k (A.deeper (ii x (aG st) s.heap.objs.size f g))->sp vs H Q E ->
   ∃t,zJ (rL mB P w K D i N x (aG st) f g A c s H E).nox (bP st) t/\t {nx:=fun _ H'=>Q .non H',rt:=Q} (start N vs) H):cB P w K D i (k+1) x ps sp:=by
 obtain ⟨f,U,⟨W,X,T,kV,G,Y,O,g,R,M,rfl,J,o⟩,kp,a,b⟩:=d.ex;refine {f,_,a,kp,b,yO J o S C fun A c s H vs Q E I B=>?_};obtain ⟨t,h,q⟩:=m f g A c s H vs Q E I B;exact {t,h.nox,q}
def df_mk{K:y8}{A:Str->Option f9}{h:C3}{x:Str}{st:E2}{ps:List Str}{f:g6}{B:f9}{C o:Option g6}{m:Array (Option f9)}{s kV i w g q:f9}(X:K.In h)(G:h.Ns C2 A)(a:nsIn K C2 x=some (some (.ref f)))(l:K.lookup f=some {B,C,.func (ik x x (cH st) (bP st) (aG st) s kV i w o g q),m})(c:F5 K g x=true)(k:C0 K (.ref f)=true)(b:∀us:List f9,us.length=ps.length->wq (ik x x (cH st) (bP st) (aG st) s kV i w o g q) {us,[]}=L3 (ps.zip us)):Df K A x st ps:=
 {f,_,{B,C,s,kV,i,w,o,g,q,m,rfl,l,c},k,mg_of X G a,.all b}
structure Hh(K:y8)(mg:Str->Option f9)(x:Str)(st:E2)(ps:List Str)(dvs:List V):Prop where
 ex:∃(f:g6)(fd:M6),(∃(oc:f9)(od:Option g6)(dV kV doc pm:f9)(an:Option g6)(cm ct:f9)(osl:Array (Option f9)),
  fd=ik x x (cH st) (bP st) (aG st) dV kV doc pm an cm ct/\K.lookup f=some {oc,od,.func fd,osl}/\F5 K cm x=true)/\C0 K (.ref f)=true/\mg x=some (.ref f)/\fG K fd ps []/\∃ds,bH dvs ds/\fG K fd ps ds
structure oK(P:m9)(w:w6)(K:y8)(mg:Str->Option f9)(base:C3)(k:Nat)(x:Str)(ps:List Str)(dvs:List V)(sp:Sp):Prop where
 ex:∃(f:g6)(fd:M6),mg x=some (.ref f)/\C0 K (.ref f)=true/\fG K fd ps []/\(∃ds,bH dvs ds/\fG K fd ps ds)/\jV P w K mg base mB k f fd ps sp
def oK.mono{P:m9}{w:w6}{K:y8}{m:Str->Option f9}{g:C3}{j k:Nat}{x:Str}{ps:List Str}{i:List V}{sp:Sp}(o:oK P w K m g j x ps i sp)(h:j<=k):oK P w K m g k x ps i sp:=
 let ⟨f,q,a,b,c,e,d⟩:=o.ex;{f,q,a,b,c,e,d.mono h}
def oK.f{P:m9}{w:w6}{K:y8}{m:Str->Option f9}{g:C3}{k:Nat}{x:Str}{ps:List Str}{i:List V}{sp:Sp}(o:oK P w K m g k x ps i sp):cB P w K m g k x ps sp:=
 let ⟨f,q,a,b,c,_,d⟩:=o.ex;{f,q,a,b,c,d}
def oK.of{P:m9}{w:w6}{K:y8}{G:Str->Option f9}{i:C3}{k:Nat}{x:Str}{st:E2}{N ps:List Str}{o:List V}{sp:Sp}(d:Hh K G x st ps o)(S:aM N ps (aG st))(D:∀vs H Q E,sp vs H Q E->vs.length=ps.length)
  (m:∀ (f:g6) (g:f9) (A:B2)(c:List Env)(s:i6)(H:Hp)(vs:List V)(Q:VK)(E:XK),eP k (A.deeper (ii x (aG st) s.heap.objs.size f g))->sp vs H Q E ->
   ∃t,zJ (rL mB P w K G i N x (aG st) f g A c s H E).nox (bP st) t/\t {nx:=fun _ H'=>Q .non H',rt:=Q} (start N vs) H):oK P w K G i (k+1) x ps o sp:=by
 obtain ⟨f,X,⟨Y,Z,W,kV,J,pm,T,g,U,R,rfl,O,B⟩,kp,a,b,I⟩:=d.ex;refine {f,_,a,kp,b,I,yO O B S D fun A c s H vs Q E M C=>?_};obtain ⟨t,h,q⟩:=m f g A c s H vs Q E M C;exact {t,h.nox,q}
def KR{K:y8}{E:Str->Option f9}{h:C3}{x:Str}{st:E2}{ps:List Str}{f T:g6}{H:f9}{I w:Option g6}{q:Array (Option f9)}{kV i C g A:f9}{o:Obj}{items:Array f9}{n:Nat}{m:List V}{ds:List f9}(X:K.In h)(G:h.Ns C2 E)(a:nsIn K C2 x=some (some (.ref f)))(l:K.lookup f=some {H,I,.func (ik x x (cH st) (bP st) (aG st) (.ref T) kV i C w g A),q})(c:F5 K g x=true)(k:C0 K (.ref f)=true)(t:K.lookup T=some o)(N:o.data=.seq items n)(b:∀(s:i6)(us:List f9),s.heap.get? T=some o->us.length=ps.length->X6 s (ik x x (cH st) (bP st) (aG st) (.ref T) kV i C w g A) {us,[]} (ps.zip us))(M:bH m ds)(J:∀(s:i6)(us:List f9),s.heap.get? T=some o->(us++ds).length=ps.length->X6 s (ik x x (cH st) (bP st) (aG st) (.ref T) kV i C w g A) {us,[]} (ps.zip (us++ds))):Hh K E x st ps m:=
 {f,_,{H,I,.ref T,kV,i,C,w,g,A,q,rfl,l,c},k,mg_of X G a,fun s us D B=>by rw[K4]at B ⊢;exact b s us (D T o t) B,ds,M,fun s us D B=>J s us (D T o t) B}
section
variable {X:Cx}{k:Nat}{x:Str}{ps:List Str}{dvs:List V}{sp:Sp}{p pos:Pos}{e:D9}{es:List D9}{t:TA}
def WM(o:oK X.prog X.w X.K X.mg X.base k x ps dvs sp)(B:eP k X.A)(s:Gl X x)(m:PA X (e::es) t)(g:(x==("__debug__":Str))=false:=by decide)(q:v9 (e::es) X.env=(false,K3 e X.env)::v9 es X.env:=by rfl)(i:(O5 pos (v9 es X.env)).any (·.1)=false:=by rfl):
  PE X (.Call (.Name x p) (e::es) [] pos) (EZ sp dvs E0 t):=by
 obtain ⟨f,E,a,b,_,⟨D,C,c⟩,d⟩:=o.ex;exact NY d B s a b c C fV m g q i
def Bh(k:tr σ H fun vs H1=>sp (vs++dvs) H1 Q E):EZ sp dvs E tr σ H Q:=k
end
section
variable {X:Cx}{k:Nat}{x:Str}{ps:List Str}{sp:Sp}{p pos:Pos}{e:D9}{es:List D9}{t:TA}
def aI(o:cB X.prog X.w X.K X.mg X.base k x ps sp)(B:eP k X.A)(s:Gl X x)(m:PA X (e::es) t)(g:(x==("__debug__":Str))=false:=by decide)(q:v9 (e::es) X.env=(false,K3 e X.env)::v9 es X.env:=by rfl)(i:(O5 pos (v9 es X.env)).any (·.1)=false:=by rfl):
  PE X (.Call (.Name x p) (e::es) [] pos) (EZ sp [] E0 t):=by
 obtain ⟨f,C,a,b,c,d⟩:=o.ex;exact NY d B s a b c .nil fV m g q i
end
section
variable {σ:St}{H:Hp}{Q:VK}{D:gM}{v:V}{i j:Int}{K:y8}
def Pq(h:cS K H p xs)(e:zA xs i=some v)(k:Q v H):BA K (.ref p) (.int i) H Q:=.inl (Fz h e k)
def oV(h:0<j)(k:Q (.int (i%j)) H):rI (fun _ j=>0<j) (fun i j=>.int (i%j)) (.int i) (.int j) H Q:=Bj h k
def oB(h:fF i j)(k:Q (.int (i*j)) H):rI fF (fun i j=>.int (i*j)) (.int i) (.int j) H Q:=Bj h k
def pN.of(b:0<j)(c:j<2^64):pN i j:={by lia,Sm.mono (m:=64) (Sm.of (by lia) (by lia)) (by decide)}
def iH(h:pN i j)(k:Q (.int (i.fdiv j)) H):rI pN (fun i j=>.int (i.fdiv j)) (.int i) (.int j) H Q:=Bj h k
def Ip(k:Q (.int 1000000000) H):rI SI (fun i j=>.int (i^j.toNat)) (.int 10) (.int 9) H Q:=Bj {by decide,by decide,by decide} k
def Ir(k:D.nx ((σ.set n (some v)).set m (some w)) H):∃b c,[v,w]=[b,c]/\D.nx ((σ.set n (some b)).set m (some c)) H:={v,w,rfl,k}
end
def YV:C5 "int"=some (.type "int"):=by k_is
def Ds:C5 "bool"=some (.type "bool"):=by k_is
def Mp:C5 "str"=some (.type "str"):=by k_is
def OV:C5 "list"=some (.type "list"):=by k_is
def YU:C5 "tuple"=some (.type "tuple"):=by k_is
def EB:C5 "dict"=some (.type "dict"):=by k_is
def Mq:C5 "set"=some (.type "set"):=by k_is
def EA:C5 "enumerate"=some (.type "enumerate"):=by k_is
def Mn:C5 "zip"=some (.type "zip"):=by k_is
def fA:C5 "len"=some (.builtin "len"):=by k_is
def EC:C5 "abs"=some (.builtin "abs"):=by k_is
def yY:C5 "max"=some (.builtin "max"):=by k_is
def DZ:C5 "min"=some (.builtin "min"):=by k_is
def iR:C5 "isinstance"=some (.builtin "isinstance"):=by k_is
def qB:C5 "sorted"=some (.builtin "sorted"):=by k_is
structure Bl(mg:Str->Option f9):Prop where
 z_int:mg "int"=none
 z_bool:mg "bool"=none
 z_str:mg "str"=none
 z_list:mg "list"=none
 z_tuple:mg "tuple"=none
 z_dict:mg "dict"=none
 z_set:mg "set"=none
 z_range:mg "range"=none
 z_enumerate:mg "enumerate"=none
 z_zip:mg "zip"=none
 z_reversed:mg "reversed"=none
 z_len:mg "len"=none
 z_abs:mg "abs"=none
 z_max:mg "max"=none
 z_min:mg "min"=none
 z_isinstance:mg "isinstance"=none
 z_sorted:mg "sorted"=none
 z_all:mg "all"=none
 z_any:mg "any"=none
 z_sum:mg "sum"=none
section
variable {K:y8}{H:Hp}{Q:VK}
def zR:W3 K (.type "bool") (.type "bool")=some true:=by first|rfl|with_unfolding_all rfl|decide
def DL:W3 K (.type "bool") (.type "int")=some true:=by first|rfl|with_unfolding_all rfl|decide
def jS:W3 K (.type "int") (.type "bool")=some false:=by first|rfl|with_unfolding_all rfl|decide
def lK:W3 K (.type "int") (.type "int")=some true:=by first|rfl|with_unfolding_all rfl|decide
def DK:W3 K (.type "str") (.type "bool")=some false:=by first|rfl|with_unfolding_all rfl|decide
def HU:W3 K (.type "str") (.type "int")=some false:=by first|rfl|with_unfolding_all rfl|decide
def HS:W3 K (.type "str") (.type "str")=some true:=by first|rfl|with_unfolding_all rfl|decide
def oG:W3 K (.type "tuple") (.type "tuple")=some true:=by first|rfl|with_unfolding_all rfl|decide
def tF:W3 K (.type "NoneType") (.type "bool")=some false:=by first|rfl|with_unfolding_all rfl|decide
def uK:W3 K (.type "NoneType") (.type "int")=some false:=by first|rfl|with_unfolding_all rfl|decide
def tZ(ty:pJ K H x t)(e:W3 K t (.type T)=some b)(k:Q (.bl b) H):Gh K T [x,.ty T] H Q:={x,t,b,rfl,ty,e,k}
end
section
variable {X:Cx}{K:y8}{σ:St}{H:Hp}{Q:VK}{D:gM}{i j:Int}{b:Bool}
noncomputable def Qs:List V->Hp->VK->Prop:=fun xs H Q=>∃i,xs=[.int i]/\Q (.int (if i<0 then -i else i)) H
def OU:fK X (.builtin "abs") Qs:=YT
def Qk(k:Q (.int (if i<0 then -i else i)) H):Qs [.int i] H Q:={i,rfl,k}
noncomputable def Gg:List V->Hp->VK->Prop:=fun xs H Q=>∃i j,xs=[.int i,.int j]/\Q (.int (if j>i then j else i)) H
def IJ(c:X.calm=true):fK X (.builtin "max") Gg:=RO c
def Pp(k:Q (.int (if j>i then j else i)) H):Gg [.int i,.int j] H Q:={i,j,rfl,k}
noncomputable def Gf:List V->Hp->VK->Prop:=fun xs H Q=>∃i j,xs=[.int i,.int j]/\Q (.int (if j<i then j else i)) H
def OT(c:X.calm=true):fK X (.builtin "min") Gf:=RN c
def Po(k:Q (.int (if j<i then j else i)) H):Gf [.int i,.int j] H Q:={i,j,rfl,k}
noncomputable def Bm(K:y8):List V->Hp->VK->Prop:=fun xs H Q=>∃x n,xs=[x]/\Ta K x H n/\Q (.int n) H
def hX:fK X (.builtin "len") (Bm X.K):=YS
def xP(h:cS K H p xs)(k:Q (.int xs.length) H):Bm K [.ref p] H Q:={_,_,rfl,.inl {xs,h,rfl},k}
def xO(h:H p=some (.lst xs))(k:Q (.int xs.length) H):Bm K [.ref p] H Q:=xP (cS.of h) k
def Jc(h:H p=some (.tup xs))(k:Q (.int xs.length) H):Bm K [.ref p] H Q:={_,_,rfl,.inr {xs,vO.of h,rfl},k}
noncomputable def Gi:List V->Hp->VK->Prop:=fun xs H Q=>(∃i,xs=[.int i]/\Q (.int i) H)∨∃k,xs=[.bl k]/\Q (.int (if k then 1 else 0)) H
def Sf:fK X (.type "int") Gi:=RP
def Jj(k:Q (.int (if b then 1 else 0)) H):Gi [.bl b] H Q:=.inr {b,rfl,k}
noncomputable def HX(g:TG)(tb:TS)(D:gM)(σ:St):It->Hp->Prop:=fun J H1=>∃W:Nat->Nat->St->Hp->Prop,(∃m,W 0 m σ H1)/\∀i m σ H,W i m σ H ->
 (J.stop i H/\D.nx σ H)∨(J.go i H/\∃N:St->Hp->Prop,(∀σ' H',N σ' H'->∃m',m'<m/\W (i+1) m' σ' H')/\∀x H',J.yld i H x H'->g x σ H' fun σ2 H2=>tb {D with nx:=N,ct:=N,bk:=D.nx} σ2 H2)
def Pu(k:wi σ H (HX g tb D σ)):Hy wi g tb D σ H:=k
noncomputable def Fv(R:It->Hp->Prop):List V->Hp->Prop:=fun vs H1=>∃j:Int,vs=[.int j]/\-(2^62)<=j/\j<2^62/\R (OY 0 j.toNat) H1
noncomputable def Fu(R:It->Hp->Prop):List V->Hp->Prop:=fun vs H1=>∃i j:Int,vs=[.int i,.int j]/\(-(2^62)<=i/\i<2^62/\-(2^62)<=j/\j<2^62)/\R (OY i (j-i).toNat) H1
def Im(k:ta σ H (Fv R)):Gx ta σ H R:=k
def Il(k:ta σ H (Fu R)):Gw ta σ H R:=k
def pR(c:-(2^62)<=j)(f:j<2^62)(k:R (OY 0 j.toNat) H):Fv R [.int j] H:={j,rfl,c,f,k}
def ND(c:-(2^62)<=i)(f:i<2^62)(g:-(2^62)<=j)(m:j<2^62)(k:R (OY i (j-i).toNat) H):Fu R [.int i,.int j] H:={i,j,rfl,{c,f,g,m},k}
def Jo{lo:Int}{n:Nat}{g:TG}{f:TS}(c:Nat->St->Hp->Prop)(m:c 0 σ H)(hs:∀i σ H,i<n->c i σ H->g (.int (lo+i)) σ H fun σ2 H2=>f {c (i+1),D.rt,D.nx,c (i+1)} σ2 H2)(o:∀σ H,c n σ H->D.nx σ H):HX g f D σ (OY lo n) H:=RE c m hs o
noncomputable def Gu(K:y8)(R:It->Hp->Prop):VK:=fun x H1=>∃a,x=.ref a/\(∃xs,cS K H1 a xs)/\R (SC K a) H1
def Au(k:tl σ H (Gu K R)):Gy K tl σ H R:=k
def cV(h:cS K H a xs)(k:R (SC K a) H):Gu K R (.ref a) H:={a,rfl,{xs,h},k}
def JN(c:Nat->St->Hp->Prop)(f:c 0 σ H)(o:∀i σ H,i<=xs.length->c i σ H->cS K H a xs)(hs:∀i x σ H,xs[i]?=some x->c i σ H->g x σ H fun σ2 H2=>tb {c (i+1),D.rt,D.nx,c (i+1)} σ2 H2)(m:∀σ H,c xs.length σ H->D.nx σ H):HX g tb D σ (SC K a) H:=YJ c f o hs m
end
end L2
namespace L2
open PySem
noncomputable def sg(t b:Int):Int:=if b<0 then 0-(m7 t b:Int) else (m7 t b:Int)
noncomputable def dS(t b:Int):Int:=t.fdiv (sg t b)
noncomputable def eJ(t b:Int):Int:=b.fdiv (sg t b)
def tG(h:b≠0):0<m7 t b:=Nat.pos_of_ne_zero fun e=>h (ly.mp e).2
def AS(h:b≠0):sg t b≠0:=by have:=tG (t:=t) h;unfold sg;split <;> omega
def UZ(t b:Int):sg t b∣t:=by
 unfold sg;split
 ·exact (Int.zero_sub _▸Int.neg_dvd.mpr (V6 ..))
 ·exact V6 ..
def UY(t b:Int):sg t b∣b:=by
 unfold sg;split
 ·exact (Int.zero_sub _▸Int.neg_dvd.mpr (X9 ..))
 ·exact X9 ..
def wC{a g:Int}(b:g≠0)(h:g∣a):a.fdiv g*g=a:=by obtain ⟨c,rfl⟩:=h;rw[Q8 _ b,O6]
def tE(h:b≠0):dS t b*sg t b=t:=wC (AS h) (UZ t b)
def iZ(h:b≠0):eJ t b*sg t b=b:=wC (AS h) (UY t b)
def tW(t b:Int):(sg t b).natAbs=m7 t b:=by unfold sg;split <;> lia
def iY(h:b≠0):0<eJ t b:=by
 have e:=iZ (t:=t) h;have hp:=tG (t:=t) h;by_cases c:b<0
 ·have hs:sg t b<0:=by unfold sg;rw[if_pos c];lia
  rcases iz 0 (eJ t b) with q|q
  ·exact q
  ·have:0<=eJ t b*sg t b:=Int.mul_nonneg_of_nonpos_of_nonpos q (R8 hs);lia
 ·have hs:0<sg t b:=by unfold sg;rw[if_neg c];lia
  rcases iz 0 (eJ t b) with q|q
  ·exact q
  ·have:eJ t b*sg t b<=0:=W4 q (R8 hs);lia
def OG(h:b≠0):m7 (dS t b) (eJ t b)=1:=by
 have c:=tE (t:=t) h;have f:=iZ (t:=t) h;have hp:=tG (t:=t) h;have e:m7 (dS t b*sg t b) (eJ t b*sg t b)=m7 (dS t b) (eJ t b)*(sg t b).natAbs:=pk ..;rw[c,f,tW]at e;have:1*m7 t b=m7 (dS t b) (eJ t b)*m7 t b:=by lia
 exact (gm hp this).symm
def QQ(h:b≠0):t*eJ t b=b*dS t b:=by
 have c:=tE (t:=t) h;have f:=iZ (t:=t) h
 calc t*eJ t b=(dS t b*sg t b)*eJ t b:=by rw[c]
  _=(eJ t b*sg t b)*dS t b:=by rw[mf,O6 (sg t b),←mf,O6 (dS t b),mf,O6 (dS t b),←mf]
  _=b*dS t b:=by rw[f]
def fS{a g c:Int}(b:g≠0)(e:a*g=c):a.natAbs<=c.natAbs:=by rw[←e,J7];exact R1 _ (by lia)
def pX(h:b≠0):(dS t b).natAbs<=t.natAbs:=fS (AS h) (tE h)
def YH(h:0<other):m7 other (one%other)=m7 one other:=by
 have e:one%other=one-(one/other)*other:=by rw[Int.emod_def,O6]
 rw[e,Y0 other,uo]
def RD(h:other≠0):m7 other (one.fmod other)=m7 one other:=by
 have e:one.fmod other=one-(one.fdiv other)*other:=by rw[Int.fmod_def,O6]
 rw[e,Y0 other,uo]
def Uz{ns:List Int}{i:Int}(c:0<=i)(f:i<ns.length):∃z,z∈ns/\zA (ns.map V.int) i=some (.int z):=by
 have hk:i.toNat<ns.length:=by omega
 have b:i=((i.toNat:Nat):Int):=by omega
 have q:zA (ns.map V.int) ((i.toNat:Nat):Int)=some (.int ns[i.toNat]):=iT (by rw[t5,i7 hk] <;> rfl);rw[←b]at q;exact {ns[i.toNat],O8 hk,q}
def Ja(h:j≠0)(k:Q (.int (i.fmod j)) H):rI (fun _ j=>j≠0) (fun i j=>.int (i.fmod j)) (.int i) (.int j) H Q:=Bj h k
def Dc{a b:Int}(h:b≠0):(a.fmod b).natAbs<b.natAbs:=by
 have e:=Int.fmod_eq_emod (a:=a) (b:=b);have f:=r9 a h;have g:=Int.emod_lt a h;rw[e];by_cases c:0<=b∨b∣a
 ·rw[if_pos c];lia
 ·rw[if_neg c];have i:a%b≠0:=fun z=>c (.inr (Int.dvd_of_emod_eq_zero z));lia
noncomputable def Rs:V->V->Bool
|.int a,.int b=>decide (1<=b)&&decide (m7 a b=1)
|_,_=>false
def mK(h:b≠0):dS t b*b=t*eJ t b:=by rw[QQ h,O6]
end L2
namespace L2
open PySem PySem.Spec PyProof.Rows
inductive Dt where
|non|bl (b:Bool)|int (i:Int)|str (x:Str)|tup (xs:List Dt)|lst (xs:List Dt)
mutual
noncomputable def oM(H:Hp):Dt->V->Prop
|.non,v=>v=.non
|.bl b,v=>v=.bl b
|.int i,v=>v=.int i
|.str x,v=>v=.str x
|.tup ds,v=>∃p vs,v=.ref p/\H p=some (.tup vs)/\kU H ds vs
|.lst ds,v=>∃p vs,v=.ref p/\H p=some (.lst vs)/\kU H ds vs
noncomputable def kU(H:Hp):List Dt->List V->Prop
|[],vs=>vs=[]
|d::ds,vs=>∃v r,vs=v::r/\oM H d v/\kU H ds r
end
mutual
noncomputable def SL:Dt->Dt->Bool
|.non,.non=>true
|.bl a,.bl b=>a==b
|.bl a,.int b=>(if a then 1 else 0)==b
|.int a,.bl b=>a==(if b then 1 else 0)
|.int a,.int b=>a==b
|.str a,.str b=>a==b
|.tup xs,.tup ys=>vL xs ys
|.lst xs,.lst ys=>vL xs ys
|_,_=>false
noncomputable def vL:List Dt->List Dt->Bool
|[],[]=>true
|x::xs,y::ys=>SL x y&&vL xs ys
|_,_=>false
end
mutual
noncomputable def uO:Dt->Nat
|.tup xs=>jB xs+1
|.lst xs=>jB xs+1
|_=>0
noncomputable def jB:List Dt->Nat
|[]=>0
|x::xs=>max (uO x) (jB xs)
end
theorem kU.length:∀{ds:List Dt}{vs:List V},kU H ds vs->ds.length=vs.length
|[],vs,h=>by rw[show vs=[] from h];rfl
|d::ds,vs,h=>by obtain ⟨v,r,rfl,_,t⟩:=h;rw[K2,K2,kU.length t]
mutual
theorem oM.same_eq{H:Hp}:∀(d e:Dt){x:V},oM H d x->oM H e x->SL d e=true
|.tup ds,.tup es,x,g,f=>by
  obtain ⟨p,vs,rfl,a,b⟩:=g;obtain ⟨q,m,i,c,d⟩:=f;cases i;rw[a]at c;cases c;exact kU.same_eq ds es b d
|.lst ds,.lst es,x,g,f=>by
  obtain ⟨p,vs,rfl,a,b⟩:=g;obtain ⟨q,m,i,c,d⟩:=f;cases i;rw[a]at c;cases c;exact kU.same_eq ds es b d
|.tup ds,.lst es,x,g,f=>by
  obtain ⟨p,vs,rfl,a,b⟩:=g;obtain ⟨q,m,i,c,d⟩:=f;cases i;rw[a]at c;cases c
|.lst ds,.tup es,x,g,f=>by
  obtain ⟨p,vs,rfl,a,b⟩:=g;obtain ⟨q,m,i,c,d⟩:=f;cases i;rw[a]at c;cases c
|.non,e,x,g,f=>by
  have g:x=.non:=g;subst g;cases e <;> first|rfl|(have f:V.non=_:=f;cases f)|(obtain ⟨_,_,z,_⟩:=f;cases z)
|.bl b,e,x,g,f=>by
  have g:x=.bl b:=g;subst g;cases e <;> first|(have f:V.bl b=_:=f;cases f;exact beq_self_eq_true b)|(have f:V.bl b=_:=f;cases f;done)|(obtain ⟨_,_,z,_⟩:=f;cases z)
|.int b,e,x,g,f=>by
  have g:x=.int b:=g;subst g;cases e <;> first|(have f:V.int b=_:=f;cases f;exact beq_self_eq_true b)|(have f:V.int b=_:=f;cases f;done)|(obtain ⟨_,_,z,_⟩:=f;cases z)
|.str b,e,x,g,f=>by
  have g:x=.str b:=g;subst g;cases e <;> first|(have f:V.str b=_:=f;cases f;exact beq_self_eq_true b)|(have f:V.str b=_:=f;cases f;done)|(obtain ⟨_,_,z,_⟩:=f;cases z)
|.tup ds,.non,x,g,f=>by obtain ⟨p,vs,rfl,_⟩:=g;have f:V.ref p=_:=f;cases f
|.tup ds,.bl _,x,g,f=>by obtain ⟨p,vs,rfl,_⟩:=g;have f:V.ref p=_:=f;cases f
|.tup ds,.int _,x,g,f=>by obtain ⟨p,vs,rfl,_⟩:=g;have f:V.ref p=_:=f;cases f
|.tup ds,.str _,x,g,f=>by obtain ⟨p,vs,rfl,_⟩:=g;have f:V.ref p=_:=f;cases f
|.lst ds,.non,x,g,f=>by obtain ⟨p,vs,rfl,_⟩:=g;have f:V.ref p=_:=f;cases f
|.lst ds,.bl _,x,g,f=>by obtain ⟨p,vs,rfl,_⟩:=g;have f:V.ref p=_:=f;cases f
|.lst ds,.int _,x,g,f=>by obtain ⟨p,vs,rfl,_⟩:=g;have f:V.ref p=_:=f;cases f
|.lst ds,.str _,x,g,f=>by obtain ⟨p,vs,rfl,_⟩:=g;have f:V.ref p=_:=f;cases f
theorem kU.same_eq{H:Hp}:∀(ds es:List Dt){xs:List V},kU H ds xs->kU H es xs->vL ds es=true
|[],[],xs,_,_=>rfl
|[],e::es,xs,c,f=>by
  have c:xs=[]:=c;subst c;obtain ⟨_,_,z,_⟩:=f;cases z
|d::ds,[],xs,c,f=>by
  have f:xs=[]:=f;subst f;obtain ⟨_,_,z,_⟩:=c;cases z
|d::ds,e::es,xs,c,f=>by obtain ⟨v,r,rfl,a,b⟩:=c;obtain ⟨o,m,z,g,i⟩:=f;cases z;show (SL d e&&vL ds es)=true;rw[oM.same_eq d e a g,kU.same_eq ds es b i];rfl
end
noncomputable def WX(ds es:List Dt)(j:Nat):Bool:=match ds[j]?,es[j]? with
|some d,some e=>SL d e
|_,_=>false
theorem gH:∀(ds es:List Dt),((y9 (min ds.length es.length)).all (WX ds es)&&ds.length==es.length)=vL ds es
|[],[]=>rfl
|[],e::es=>by show (_&&(0==es.length+1))=false;simp
|d::ds,[]=>by show (_&&(ds.length+1==0))=false;simp
|d::ds,e::es=>by
  have ih:=gH ds es;show _=(SL d e&&vL ds es)
  rw[←ih];have b:min (d::ds).length (e::es).length=min ds.length es.length+1:=by simp only[K2];lia
  rw[b,List.range_succ_eq_map,At,List.all_map];have c:(WX (d::ds) (e::es)) ∘ Nat.succ=WX ds es:=by funext j;rfl
  rw[c];have f:WX (d::ds) (e::es) 0=SL d e:=rfl;rw[f];have g:((d::ds).length==(e::es).length)=(ds.length==es.length):=by simp
  rw[g,Bool.and_assoc]
section
variable {X:Cx}{ag:List (g6×Obj)}{σ:St}{H:Hp}{s:i6}
def jY(I:aY X ag σ H s)(h:H p=some (.tup vs)):∃b:List f9,bH vs b/\s.heap.IsTuple p b.toArray:=by
 obtain ⟨_,b,r,q⟩:=(show dJ X.prog X.w H s.heap p (.tup vs) from I.hok p _ h)
 exact {b,r,q}
def kI(I:aY X ag σ H s)(h:H p=some (.lst vs)):∃b:List f9,bH vs b/\s.heap.IsList p b.toArray:=by
 obtain ⟨_,b,n,r,q⟩:=(show dJ X.prog X.w H s.heap p (.lst vs) from I.hok p _ h)
 exact {b,r,_,q,rfl,_,rfl}
def DN{A:B2}{ds:List Dt}(h:A.units+uO (.tup ds)<N2):A.in1.units+jB ds<N2:=by
 have e:uO (.tup ds)=jB ds+1:=by simp[uO]
 show A.units+1+jB ds<N2;lia
def DO{A:B2}{ds:List Dt}(h:A.units+uO (.lst ds)<N2):A.in1.units+jB ds<N2:=by
 have e:uO (.lst ds)=jB ds+1:=by simp[uO]
 show A.units+1+jB ds<N2;lia
mutual
theorem KM(I:aY X ag σ H s):∀(d e:Dt){x y:V}{u v:f9}{A:B2},oM H d x->oM H e y->bJ x u->bJ y v->A.units+uO d<N2->C4 A s u v (SL d e)
|.tup ds,e,x,y,u,v,A,J,g,K,m,N=>by
  obtain ⟨p,vs,rfl,a,b⟩:=J;cases K;obtain ⟨O,r,t⟩:=jY I a;have f:A.units<N2:=by lia
  cases e with
 |tup o=>
   obtain ⟨q,M,rfl,B,C⟩:=id g;cases m;by_cases E:p=q
   ·subst E;have:=oM.same_eq (.tup ds) (.tup o) (x:=.ref p) {p,vs,rfl,a,b} g;rw[this];exact Y2 _
   ·obtain ⟨i,D,w⟩:=jY I B;have z:=rm.tuples (e:=WX ds o) t w f (fun j T U=>rK I ds o b C r D (DN N) j (by simpa using T) (by simpa using U));have R:O.length=ds.length:=by rw[b.length,r.length]
    have S:i.length=o.length:=by rw[C.length,D.length]
    rw[l8,l8,R,S,gH]at z;exact jc E z
 |lst o=>
   obtain ⟨q,M,rfl,B,C⟩:=id g;cases m;obtain ⟨i,D,w⟩:=kI I B;exact C4.tuple_list t w f
 |non=>cases (show y=.non from g);cases m;exact C4.tuple_none t f
 |bl b=>cases (show y=.bl b from g);cases m;exact C4.tuple_bool b t f
 |int b=>cases (show y=.int b from g);obtain ⟨tk,rfl⟩:=m;exact C4.tuple_int b tk t f
 |str b=>cases (show y=.str b from g);obtain ⟨tk,rfl⟩:=m;exact C4.tuple_str b tk t f
|.lst ds,e,x,y,u,v,A,J,g,K,m,N=>by
  obtain ⟨p,vs,rfl,a,b⟩:=J;cases K;obtain ⟨O,r,t⟩:=kI I a;have f:A.units<N2:=by lia
  cases e with
 |lst o=>
   obtain ⟨q,M,rfl,B,C⟩:=id g;cases m;by_cases E:p=q
   ·subst E;have:=oM.same_eq (.lst ds) (.lst o) (x:=.ref p) {p,vs,rfl,a,b} g;rw[this];exact Y2 _
   ·obtain ⟨i,D,w⟩:=kI I B;have R:O.length=ds.length:=by rw[b.length,r.length]
    have S:i.length=o.length:=by rw[C.length,D.length]
    by_cases Q:ds.length=o.length
    ·have z:=rm.lists (e:=WX ds o) t w (by rw[l8,l8,R,S,Q]) f (fun j T U=>rK I ds o b C r D (DO N) j (by simpa using T) (by simpa using U));have P:=gH ds o;rw[Q,mw,beq_self_eq_true,ux]at P;rw[l8,R,Q,P]at z;exact jc E z
    ·have z:=qg t w (by rw[l8,l8,R,S];simpa using Q) f;have P:=gH ds o;rw[show (ds.length==o.length)=false from by simpa using Q,kc]at P;have W:SL (.lst ds) (.lst o)=false:=by show vL ds o=false;exact P.symm
     rw[W];exact jc E z
 |tup o=>
   obtain ⟨q,M,rfl,B,C⟩:=id g;cases m;obtain ⟨i,D,w⟩:=jY I B;exact C4.list_tuple t w f
 |non=>cases (show y=.non from g);cases m;exact C4.list_none t f
 |bl b=>cases (show y=.bl b from g);cases m;exact C4.list_bool b t f
 |int b=>cases (show y=.int b from g);obtain ⟨tk,rfl⟩:=m;exact C4.list_int b tk t f
 |str b=>cases (show y=.str b from g);obtain ⟨tk,rfl⟩:=m;exact C4.list_str b tk t f
|.non,e,x,y,u,v,A,J,g,K,m,N=>by
  cases (show x=.non from J);cases K;have f:A.units<N2:=by lia
  cases e with
 |tup o=>obtain ⟨q,M,rfl,B,C⟩:=id g;cases m;obtain ⟨i,D,w⟩:=jY I B;exact C4.none_tuple w f
 |lst o=>obtain ⟨q,M,rfl,B,C⟩:=id g;cases m;obtain ⟨i,D,w⟩:=kI I B;exact C4.none_list w f
 |non=>cases (show y=.non from g);cases m;exact Y2 _
 |bl b=>cases (show y=.bl b from g);cases m;exact rz b
 |int b=>cases (show y=.int b from g);obtain ⟨tk,rfl⟩:=m;exact ug b tk
 |str b=>cases (show y=.str b from g);obtain ⟨tk,rfl⟩:=m;exact uf b tk
|.bl c,e,x,y,u,v,A,J,g,K,m,N=>by
  cases (show x=.bl c from J);cases K;have f:A.units<N2:=by lia
  cases e with
 |tup o=>obtain ⟨q,M,rfl,B,C⟩:=id g;cases m;obtain ⟨i,D,w⟩:=jY I B;exact C4.bool_tuple c w f
 |lst o=>obtain ⟨q,M,rfl,B,C⟩:=id g;cases m;obtain ⟨i,D,w⟩:=kI I B;exact C4.bool_list c w f
 |non=>cases (show y=.non from g);cases m;exact sf c
 |bl b=>cases (show y=.bl b from g);cases m;exact si c b
 |int b=>cases (show y=.int b from g);obtain ⟨tk,rfl⟩:=m;exact uk c b tk
 |str b=>cases (show y=.str b from g);obtain ⟨tk,rfl⟩:=m;exact uj c b tk
|.int c,e,x,y,u,v,A,J,g,K,m,N=>by
  cases (show x=.int c from J);obtain ⟨G,rfl⟩:=K;have f:A.units<N2:=by lia
  cases e with
 |tup o=>obtain ⟨q,M,rfl,B,C⟩:=id g;cases m;obtain ⟨i,D,w⟩:=jY I B;exact C4.int_tuple c G w f
 |lst o=>obtain ⟨q,M,rfl,B,C⟩:=id g;cases m;obtain ⟨i,D,w⟩:=kI I B;exact C4.int_list c G w f
 |non=>cases (show y=.non from g);cases m;exact uh c G
 |bl b=>cases (show y=.bl b from g);cases m;exact ui c G b
 |int b=>cases (show y=.int b from g);obtain ⟨tk,rfl⟩:=m;exact C4.int_int c G b tk
 |str b=>cases (show y=.str b from g);obtain ⟨tk,rfl⟩:=m;exact jd c G b tk
|.str c,e,x,y,u,v,A,J,g,K,m,N=>by
  cases (show x=.str c from J);obtain ⟨G,rfl⟩:=K;have f:A.units<N2:=by lia
  cases e with
 |tup o=>obtain ⟨q,M,rfl,B,C⟩:=id g;cases m;obtain ⟨i,D,w⟩:=jY I B;exact C4.str_tuple c G w f
 |lst o=>obtain ⟨q,M,rfl,B,C⟩:=id g;cases m;obtain ⟨i,D,w⟩:=kI I B;exact C4.str_list c G w f
 |non=>cases (show y=.non from g);cases m;exact uc c G
 |bl b=>cases (show y=.bl b from g);cases m;exact ud c G b
 |int b=>cases (show y=.int b from g);obtain ⟨tk,rfl⟩:=m;exact jb c G b tk
 |str b=>cases (show y=.str b from g);obtain ⟨tk,rfl⟩:=m;exact C4.str_str c G b tk
theorem rK(I:aY X ag σ H s):∀(ds es:List Dt){xs ys:List V}{us vs:List f9}{A:B2},kU H ds xs->kU H es ys->bH xs us->bH ys vs->A.units+jB ds<N2 ->
  ∀(j:Nat)(m:j<us.length)(o:j<vs.length),C4 A s us[j] vs[j] (WX ds es j)
|[],es,xs,ys,us,vs,A,c,f,g,i,q=>fun j m o=>by
  have c:xs=[]:=c;subst c;cases g;exact absurd m (R9 _)
|d::ds,[],xs,ys,us,vs,A,c,f,g,i,q=>fun j m o=>by
  have f:ys=[]:=f;subst f;cases i;exact absurd o (R9 _)
|d::ds,e::es,xs,ys,us,vs,A,c,f,g,i,q=>fun j m o=>by
  obtain ⟨x,G,rfl,a,b⟩:=c;obtain ⟨y,J,rfl,w,B⟩:=f;cases g with
 |cons C g=>
   cases i with
  |cons D i=>
    have E:jB (d::ds)=max (uO d) (jB ds):=by simp[jB]
    cases j with
   |zero=>exact KM I d e a w C D (by lia)
   |succ j=>exact rK I ds es b B g i (by lia) j (by simpa using m) (by simpa using o)
end
noncomputable def Qq:R2:=fun x y H Q=>∃d e,oM H d x/\oM H e y/\uO d<=60/\((∃ds es,d=.tup ds/\e=.tup es)∨∃ds es,d=.lst ds/\e=.lst es)/\Q (.bl (SL d e)) H
noncomputable def Qo:R2:=fun x y H Q=>∃d e,oM H d x/\oM H e y/\uO d<=60/\((∃ds es,d=.tup ds/\e=.tup es)∨∃ds es,d=.lst ds/\e=.lst es)/\Q (.bl (!SL d e)) H
def Ku(Z:X.A.units+64<N2):lN X (E7 .Eq) Qq:=by
 intro O s σ H x y v u Q I P R h;obtain ⟨d,e,M,N,Y,k,q⟩:=h;rcases k with ⟨c,f,rfl,rfl⟩|⟨c,f,rfl,rfl⟩
 ·obtain ⟨p,U,rfl,a,b⟩:=M;obtain ⟨T,W,rfl,G,m⟩:=N;cases P;cases R;obtain ⟨i,r,t⟩:=jY I a;obtain ⟨g,C,E⟩:=jY I G;have z:=rm.tuples (A:=X.A) (e:=WX c f) t E (by lia) (fun j J K=>rK I c f b m r C (DN (by lia)) j (by simpa using J) (by simpa using K));have B:i.length=c.length:=by rw[b.length,r.length]
  have D:g.length=f.length:=by rw[m.length,C.length]
  rw[l8,l8,B,D,gH]at z;exact z _ _ _ _ {.bl _,H,I,rfl,q}
 ·obtain ⟨p,U,rfl,a,b⟩:=M;obtain ⟨T,W,rfl,G,m⟩:=N;cases P;cases R;obtain ⟨i,r,t⟩:=kI I a;obtain ⟨g,C,E⟩:=kI I G;have B:i.length=c.length:=by rw[b.length,r.length]
  have D:g.length=f.length:=by rw[m.length,C.length]
  by_cases w:c.length=f.length
  ·have z:=rm.lists (A:=X.A) (e:=WX c f) t E (by rw[l8,l8,B,D,w]) (by lia) (fun j J K=>rK I c f b m r C (DO (by lia)) j (by simpa using J) (by simpa using K));have o:=gH c f;rw[w,mw,beq_self_eq_true,ux]at o;rw[l8,B,w,o]at z;exact z _ _ _ _ {.bl _,H,I,rfl,q}
  ·have z:=qg (A:=X.A) t E (by rw[l8,l8,B,D];simpa using w) (by lia);have o:=gH c f;rw[show (c.length==f.length)=false from by simpa using w,kc]at o;have S:SL (.lst c) (.lst f)=false:=by show vL c f=false;exact o.symm
   rw[S]at q;exact z _ _ _ _ {.bl _,H,I,rfl,q}
def Kr(Z:X.A.units+64<N2):lN X (E7 .NotEq) Qo:=by
 intro O s σ H x y v u Q I P R h;obtain ⟨d,e,M,N,Y,k,q⟩:=h;rcases k with ⟨c,f,rfl,rfl⟩|⟨c,f,rfl,rfl⟩
 ·obtain ⟨p,U,rfl,a,b⟩:=M;obtain ⟨T,W,rfl,G,m⟩:=N;cases P;cases R;obtain ⟨i,r,t⟩:=jY I a;obtain ⟨g,C,E⟩:=jY I G;have z:=vd.tuples (A:=X.A) (e:=WX c f) t E (by lia) (fun j J K=>rK I c f b m r C (DN (by lia)) j (by simpa using J) (by simpa using K));have B:i.length=c.length:=by rw[b.length,r.length]
  have D:g.length=f.length:=by rw[m.length,C.length]
  rw[l8,l8,B,D,gH]at z;exact z _ _ _ _ {.bl _,H,I,rfl,q}
 ·obtain ⟨p,U,rfl,a,b⟩:=M;obtain ⟨T,W,rfl,G,m⟩:=N;cases P;cases R;obtain ⟨i,r,t⟩:=kI I a;obtain ⟨g,C,E⟩:=kI I G;have B:i.length=c.length:=by rw[b.length,r.length]
  have D:g.length=f.length:=by rw[m.length,C.length]
  by_cases w:c.length=f.length
  ·have z:=vd.lists (A:=X.A) (e:=WX c f) t E (by rw[l8,l8,B,D,w]) (by lia) (fun j J K=>rK I c f b m r C (DO (by lia)) j (by simpa using J) (by simpa using K));have o:=gH c f;rw[w,mw,beq_self_eq_true,ux]at o;rw[l8,B,w,o]at z;exact z _ _ _ _ {.bl _,H,I,rfl,q}
  ·have z:=vd.lists_lengths (A:=X.A) t E (by rw[l8,l8,B,D];simpa using w) (by lia);have o:=gH c f;rw[show (c.length==f.length)=false from by simpa using w,kc]at o;have S:SL (.lst c) (.lst f)=false:=by show vL c f=false;exact o.symm
   rw[S]at q;exact z _ _ _ _ {.bl _,H,I,rfl,q}
noncomputable def QA:R2:=fun x y H Q=>To x y H Q∨Qq x y H Q
noncomputable def JO:R2:=fun x y H Q=>Tn x y H Q∨Qo x y H Q
def gA(b:X.A.units+64<N2):lN X (E7 .Eq) QA:=Qy.or (Ku b)
def xV(b:X.A.units+64<N2):lN X (E7 .NotEq) JO:=Qx.or (Kr b)
end
section
variable {H:Hp}{Q:VK}{i j:Int}{b:Bool}{x y:Str}{u v:V}
def Ry(k:Q (.bl (decide (i=j))) H):QA (.int i) (.int j) H Q:=.inl (Px k)
def Rh(k:Q (.bl (!decide (i=j))) H):JO (.int i) (.int j) H Q:=.inl (Pj k)
def Rw(k:Q (.bl (x==y)) H):QA (.str x) (.str y) H Q:=.inl {rfl,by rw[wE];exact k}
def Rx(f:oM H (.lst ds) u)(g:oM H (.lst es) v)(m:jB ds<=50)(k:Q (.bl (vL ds es)) H):QA u v H Q:=
 .inr {_,_,f,g,by simp[uO];lia,.inr {_,_,rfl,rfl},k}
def Rg(f:oM H (.lst ds) u)(g:oM H (.lst es) v)(m:jB ds<=50)(k:Q (.bl (!vL ds es)) H):JO u v H Q:=
 .inr {_,_,f,g,by simp[uO];lia,.inr {_,_,rfl,rfl},k}
def Vn{a b:Int}(h:H p=some (.tup [.int a,.int b])):oM H (.tup [.int a,.int b]) (.ref p):={p,_,rfl,h,_,_,rfl,rfl,_,_,rfl,rfl,rfl}
end
section
variable {X:Cx}{K:y8}{H:Hp}{Q:VK}{i j:Int}{σ:St}
noncomputable def Gm:R2:=fun x y H Q=>∃i j,x=.str i/\y=.str j/\i.length+j.length<=n7/\Q (.str (i++j)) H
def Ce:lN X (R7 .Add) Gm:=JS
noncomputable def GO(K:y8):R2:=fun x y H Q=>ZO (fun i j=>.int (i+j)) x y H Q∨Qr x y H Q∨Gj K x y H Q∨Gm x y H Q
def bG:lN X (R7 .Add) (GO X.K):=Kw.or (Kv.or (Cd.or Ce))
def Si(k:Q (.int (i+j)) H):GO K (.int i) (.int j) H Q:=.inl (Ql k)
def CB(b:H p=some (.lst xs))(c:H q=some (.lst ys))(f:xs.length+ys.length<=1000)(k:∀l,H l=none->Q (.ref l) (upd H l (.lst (xs++ys)))):GO K (.ref p) (.ref q) H Q:=
 .inr (.inl {p,q,xs,ys,rfl,rfl,b,c,vZ f,k})
noncomputable def NL(K:y8):List V->Hp->VK->Prop:=fun xs H Q=>∃p ys,xs=[.ref p]/\(cS K H p ys∨vO K H p ys)/\∀l,H l=none->Q (.ref l) (upd H l (.lst ys))
def Mm:fK X (.type "list") (NL X.K):=DY
def Rl(h:H p=some (.lst xs))(k:∀l,H l=none->Q (.ref l) (upd H l (.lst xs))):NL K [.ref p] H Q:={p,xs,rfl,.inl (cS.of h),k}
noncomputable def Gq(R:Option Int->Hp->Prop):VK:=fun x H1=>∃i,x=.int i/\R (some i) H1
def Iq(k:t σ H (Gq R)):Em t σ H R:=k
def As(k:R (some i) H):Gq R (.int i) H:={i,rfl,k}
def VQ(k:R none H):LK σ H R:=k
def Ui(k:te σ H fun x H1=>tl σ H1 fun l H2=>th σ H2 fun u H3=>r x l u H3 Q):Wf r te tl th σ H Q:=k
def aO(c:H q=none)(h:H b=some u):upd H q o b=some u:=by rw[aX (aB h c)];exact h
noncomputable def isI:V->Bool
|.int _=>true
|_=>false
def OM(h:oH v=true):∃t b c,pJ K H v t/\W3 K t (.type "int")=some b/\W3 K t (.type "bool")=some c/\(b&&!c)=isI v:=by
 cases v with
|non=>exact {_,_,_,.non,uK,tF,rfl}
|bl b=>exact {_,_,_,.bl b,DL,zR,rfl}
|int b=>exact {_,_,_,.int b,lK,jS,rfl}
|str b=>exact {_,_,_,.str b,HU,DK,rfl}
|_=>exact absurd (show false=true from h) j7
noncomputable def NT(K:y8)(H:Hp)(x:V):Prop:=∃t,pJ K H x t/\W3 K t (.type "tuple")=some false
noncomputable def Frq(K:y8)(H:Hp)(x:V)(r:Bool):Prop:=
 (NT K H x/\r=false)∨(∃p xs,x=.ref p/\H p=some (.tup xs)/\xs.length≠2/\r=false) ∨
  ∃p v w,x=.ref p/\H p=some (.tup [v,w])/\oH v=true/\oH w=true/\(∀a b,v=.int a->w=.int b->Sm 8000 a/\Sm 8000 b)/\r=Rs v w
end
noncomputable def bU(X:Cx)(scope:di)(cl:List (Str×g6))(N:List Str)(C:g6)(s0:i6)(H0:Hp)(ex:List g6):Cx:=
 {X with N:=N,s₀:=s0,H₀:=H0,env:=compEnvC scope cl C X.env,outer:=X.stack,stack:=X.stack,ex:=ex,fn:=fun _=>false,pn:=[],xe:=fun _ _=>False}
noncomputable def cF(env:Env)(names:List Str):List (Str×g6):=names.filterMap fun n=>(env.cells.lookup n).map fun c=>(n,c)
theorem nN:∀{names:List Str}{x:Str}{c:g6},(cF env names).lookup x=some c->env.cells.lookup x=some c
|[],x,c,h=>by simp[cF]at h
|n::r,x,c,h=>by
  unfold cF at h;rw[Z5]at h;cases e:env.cells.lookup n with
 |none=>
   rw[e]at h;exact nN (names:=r) h
 |some d=>
   rw[e]at h;have b:Q3 x ((n,d)::cF env r)=some c:=h;rw[iq]at b;by_cases f:x=n
   ·subst f;rw[beq_self_eq_true]at b;cases b;exact e
   ·rw[beq_eq_false_iff_ne.mpr f]at b;exact nN (names:=r) b
theorem rN:∀{names:List Str}{x:Str}{c:g6},x∈names->env.cells.lookup x=some c->(cF env names).lookup x=some c
|[],x,c,h,_=>by cases h
|n::r,x,c,h,e=>by
  unfold cF;rw[Z5];by_cases b:x=n
  ·subst b;rw[e];show Q3 x ((x,c)::_)=some c;rw[iq,beq_self_eq_true]
  ·have f:x∈r:=(x6.mp h).resolve_left b;have ih:=rN (env:=env) f e;cases e2:env.cells.lookup n with
  |none=>exact ih
  |some d=>show Q3 x ((n,d)::cF env r)=some c;rw[iq,beq_eq_false_iff_ne.mpr b];exact ih
noncomputable def qD(σ:St)(is:List Nat):St:=is.map fun i=>(σ[i]?).join
noncomputable def mM(te:TE)(tc:Option TT)(g:TG)(ts:St)(a7:St)(Q:VK):It->Hp->Prop:=fun J H1=>∀cu,H1 cu=none ->
 ∃W:Nat->Nat->List V->Hp->Prop,(∃m,W 0 m [] (upd H1 cu (.lst [])))/\∀i m ys H,W i m ys H ->
  H cu=some (.lst ys)/\((J.stop i H/\Q (.ref cu) H)∨(ys.length<n7/\J.go i H/\∀(us:St) x H',us.length=ts.length->J.yld i H x H'->g x (us++a7) H' fun σ2 H2=>
   (∃us2,us2.length=ts.length/\σ2=us2++a7) /\
   let made:=te σ2;let next:=fun y H3=>H3 cu=some (.lst ys)/\∃m',m'<m/\W (i+1) m' (ys++[y]) (upd H3 cu (.lst (ys++[y])))
   match tc with
  |none=>made H2 next
   | some c=>c σ2 H2 fun b H3=>if b=true then made H3 next else ∃m',m'<m/\W (i+1) m' ys H3))
noncomputable def EY(wi:TI)(te:TE)(tc:Option TT)(g:TG)(k:Nat)(is:List Nat):TE:=fun σ H Q=>wi σ H (mM te tc g (C7 k none) (qD σ is) Q)
section
variable {X:Cx}{scope:di}{N tn names:List Str}{is:List Nat}{elt iter tg:D9}{ifs:List D9}{pos:Pos}{wi:TI}{te:TE}{tc:Option TT}{g:TG}
structure rR(X:Cx)(scope:di)(tn names:List Str)(is:List Nat):Prop where
 cls:(∀x∈names,∃c,X.env.cells.lookup x=some c)->qi scope X.env=L3 (cF X.env names)
 nocell:∀y∈scope.names,y.2≠.cell
 kind:scope.kind=.function
 nms:∀y∈scope.names,y.2=.local->scope.names.lookup y.1=some .local
 slots:∀(j i:Nat)(x:Str),is[j]?=some i->names[j]?=some x->X.N[i]?=some x
 len:is.length=names.length
 outk:∀x∈names,X.env.kindOf x=some .cell∨X.env.kindOf x=some .free
 ink:∀x∈names,(rc scope X.env).names.lookup x=some .cell∨(rc scope X.env).names.lookup x=some .free
 free:∀x,((rc scope X.env).names.lookup x=some .cell∨(rc scope X.env).names.lookup x=some .free)->x∈names
theorem rM:∀(l:List (Str×fj)) (b:List (Str×g6)),(∀x∈(l.filter fun y=>y.2==.free).map (·.1),∃c,env.cells.lookup x=some c) ->
  (forIn l b fun(x:Str×fj)(i:List (Str×g6))=>(if (x.2==.free)=true then (do let a ←yz env x.1;L3 (L4 ((x.1,a)::i))) else L3 (L4 i)):Sem (List (Str×g6)))
   = L3 ((((l.filter fun y=>y.2==.free).map (·.1)).reverse.filterMap fun n=>(env.cells.lookup n).map fun c=>(n,c))++b)
|[],b,_=>rfl
|(n,k)::r,b,h=>by
  rw[forIn_cons];by_cases hk:(k==qw)=true
  ·have f:((n,k)::r).filter (fun y=>y.2==.free)=(n,k)::r.filter fun y=>y.2==.free:=by rw[V9];exact if_pos hk
   rw[f]at h ⊢;obtain ⟨c,e⟩:=h n (by simp);have o:yz env n=L3 c:=by unfold yz;rw[e]
   show (((if (k==qw)=true then (do let a ←yz env n;L3 (L4 ((n,a)::b))) else L3 (L4 b)):Sem _) >>= _)=_;rw[if_pos hk,o];have ih:=rM r ((n,c)::b) fun x m=>h x (by simp at m⊢;exact .inr m);have q:(((n,k)::r.filter fun y=>y.2==.free).map (·.1)).reverse.filterMap (fun n=>(env.cells.lookup n).map fun c=>(n,c))=((r.filter fun y=>y.2==.free).map (·.1)).reverse.filterMap (fun n=>(env.cells.lookup n).map fun c=>(n,c))++[(n,c)]:=by rw[K1,yt,xc,Z5,e];rfl
   rw[q,D6];exact ih
  ·have f:((n,k)::r).filter (fun y=>y.2==.free)=r.filter fun y=>y.2==.free:=by rw[V9];exact if_neg hk
   rw[f]at h ⊢;show (((if (k==qw)=true then (do let a ←yz env n;L3 (L4 ((n,a)::b))) else L3 (L4 b)):Sem _) >>= _)=_;rw[if_neg hk];exact rM r b h
def vM(hn:((scope.names.filter fun y=>y.2==.free).map (·.1)).reverse=names)(h:∀x∈names,∃c,env.cells.lookup x=some c):
  qi scope env=L3 (cF env names):=by
 unfold qi cF;have q:=rM (env:=env) scope.names [] fun x s=>h x (by rw[←hn];exact S3.mpr s);rw[hn,K4]at q;show (_ >>= fun r=>L3 r)=_;have o:(forIn scope.names ([]:List (Str×g6)) fun(x:Str×fj)(m:List (Str×g6))=>match x with
   | (b,i)=>(if (i==.free)=true then (do let a ←yz env b;L3 (L4 ((b,a)::m))) else L3 (L4 m)):Sem (List (Str×g6)))=L3 (names.filterMap fun n=>(env.cells.lookup n).map fun c=>(n,c)):=q
 first
 |exact (f (fun z=>z >>= fun r=>L3 r) o)
 |simpa using o
noncomputable def NC(scope sc:di):di:={scope with names:=scope.names.map fun (n,k)=>if (k==.free&&sc.kind==.function&&sc.names.lookup n==some .cell) then (n,.cell) else (n,k)}
def dO(sc)(N)(tn)(names)(is)(f:X.env.scope=sc:=by rfl)(I:X.N=N:=by rfl)(B:((scope.names.filter fun y=>y.2==.free).map (·.1)).reverse=names:=by k_is)(C:∀y∈scope.names,y.2≠.cell:=by k_is)(D:scope.kind=.function:=by rfl)(E:∀y∈scope.names,y.2=.local->scope.names.lookup y.1=some .local:=by k_is)(m:(is.map fun i=>N[i]?)=names.map some:=by rfl)(G:∀x∈names,sc.names.lookup x=some .cell∨sc.names.lookup x=some .free:=by k_is)(H:∀x∈names,(NC scope sc).names.lookup x=some .cell∨(NC scope sc).names.lookup x=some .free:=by k_is)(o:∀y∈(NC scope sc).names,(y.2=.cell∨y.2=.free)->y.1∈names:=by k_is):rR X scope tn names is:=by
 subst f I;have s:rc scope X.env=NC scope X.env.scope:=rfl;refine {vM B,C,D,E,fun j i x w A=>?_,?_,G,?_,fun x b=>?_}
 ·have q:=congrArg (fun l=>l[j]?) m;simp only[t5,w,A,Option.map_some]at q;exact l7 q
 ·have q:=congrArg xq m;simpa using q
 ·rw[s];exact H
 ·rw[s]at b;have c:∀{l:List (Str×fj)} {k:fj},l.lookup x=some k->(x,k)∈l:=fun {l} {k}=>by
   induction l with
  |nil=>intro e;cases e
  |cons y r ih=>
    intro e;obtain ⟨n,J⟩:=y;rw[iq]at e;by_cases b:x=n
    ·subst b;rw[beq_self_eq_true]at e;cases e;exact L8
    ·rw[beq_eq_false_iff_ne.mpr b]at e;exact E4 _ (ih e)
  rcases b with b|b
  ·exact o _ (c b) (.inl rfl)
  ·exact o _ (c b) (.inr rfl)
def Dq(C:rR X scope tn names is)(I:aY X ag σ H s)(f:aY X ag σ (upd H cu (.lst [])) s3)(O:∀b∈fp,vQ X ag H b)(P:∀b∈fp,b<s3.heap.objs.size)(S:∀b∈fp,b≠cu)(ns:h1.Ns s3.heap.objs.size fun _=>none)(kp:∀b o,s3.heap.get? b=some o->h1.get? b=some o):
    aY (bU X scope (cF X.env names) (tn++names) s3.heap.objs.size s3 (upd H cu (.lst [])) fp) [] (C7 tn.length none++qD σ is) (upd H cu (.lst [])) {s3 with heap:=h1,toks:=t4}:=by
  have ok:=f.ok;have E:∀x c,(cF X.env names).lookup x=some c->X.env.cells.lookup x=some c:=fun x c h=>nN h;have K:∀x c,X.env.cells.lookup x=some c->c<s3.heap.objs.size:=fun x c e=>let ⟨v,z⟩:=f.cell x c e;z.lt;refine {{ok.mod,?_,ok.glob,ok.blt,k7 _,fun x y c a b=>ok.inj x y c (E _ _ a) (E _ _ b),fun x D=>?_,fun _ _ z=>absurd z (by simp[bU]),ok.hd,ok.frames,.inl rfl,fun b A=>?_,fun b o e=>f.bs b o e,B9 ok.bsz f.sz,fun b o e A=>?_,fun b A z=>?_,f.stack,fun b A=>f.stkFree b A},
    rfl,f.bare,Un.kept kp,{_,ns,fun i x v B w e3=>?_},fun x c e=>?_,?_,fun x c e=>f.freeC x c (E _ _ e),fun p hp=>absurd hp (by simp[bU]),f.hok.kept kp,?_}
  . show (rc scope X.env).kind=.function
    exact C.kind
  . have Q:=C.free x D
    obtain ⟨c,e⟩:=ok.has x (C.outk x Q);exact {c,rN Q e}
  . refine {q7 (P b A),fun x c e=>(O b A).2.2.2.2.1 x c (E _ _ e)}
  . rcases (O b A).2.2.2.1 with z|z
    . exact ok.noex b o e z
    . have:=j3 (p7 e) ok.bsz
      lia
  . have:=f.stkSub b z
    rcases x6.mp this with q|q
    . exact (O b A).2.1 q
    . exact (O b A).2.2.1 q
  . by_cases T:i<tn.length
    . rw[K7 (by rw[P8];exact T),vg]at w
      rw[if_pos T]at w;cases w
    . have B:(tn++names)[i]?=some x:=B
      rw[C8 (by lia)]at B;rw[C8 (by rw[P8];lia),P8]at w;generalize hj:i-tn.length=j at B w;unfold qD at w;rw[t5]at w;cases e4:is[j]? with
     |none=>rw[e4]at w;cases w
     |some G=>
        rw[e4]at w;have M:(σ[G]?).join=some v:=l7 w;have U:σ[G]?=some (some v):=by
          cases q:σ[G]? with
         |none=>rw[q]at M;cases M
         |some o=>rw[q]at M;exact congrArg some M
        have D:x∈names:=u8 B;obtain ⟨m,Q,J⟩:=f.loc;have Y:Tx X.env.scope x:=by
          rcases C.outk x D with q|q
          . exact .inr (.inl q)
          . exact .inr (.inr q)
        obtain ⟨u,ru,Z⟩:=J G x v (C.slots j G x e4 B) U Y;refine {u,ru,.inr {C.ink x D,?_}};rcases Z with ⟨q,_⟩|⟨_,c,W,z⟩
        . rcases C.outk x D with R|R <;> (rw[q]at R;cases R)
        . exact {c,rN D W,let ⟨o,a,b⟩:=z;{o,kp _ _ a,b}}
  . obtain ⟨v,o,a,b⟩:=f.cell x c (E _ _ e)
    exact {v,o,kp _ _ a,b}
  . exact f.hok.fresh (k7 _)
  . show (C7 tn.length none++qD σ is).length=(tn++names).length
    rw[m8,m8,P8];unfold qD;rw[j6,C.len]
def DV(I:Nat->i6->Prop)
  (M:∀n s,I n s->j0 (j8 prog w) A (S9 it) (fun r f=>match r with
  |none=>R (.ok .next) f
   | some v=>j0 (j8 prog w) A (gj target it v) (fun _ i=>j0 (j8 prog w) A (ub target env v) (fun _ C=>
     j0 (j8 prog w) A (forIn ifs true fun c r=>if r=true then do let ok ←isTrue c env (K3 c env);L3 (L4 ok) else L3 (L4 r)) (fun ok o=>
      if ok=true then j0 (j8 prog w) A (K3 elt env) (fun x D=>
       j0 (j8 prog w) A (jt (.builtin "list.append") [cu,x]) (fun _ E=>∃m,m<n/\I m E) (fun _ _=>False) D) (fun _ _=>False) o
      else ∃m,m<n/\I m o) (fun _ _=>False) C) (fun _ _=>False) i) (fun _ _=>False) f) (fun _ _=>False) s)
  (n:Nat) (h:I n s) :
  X2 (j8 prog w) A (.compLoop (.ListComp elt [{target,iter,ifs,0}] scope pos) 0 it cu env) R s:=by
 refine codeAny_loop rfl I (fun n s O=>?_) n h;show j0 _ A ((compTurn (.ListComp elt [{target,iter,ifs,0}] scope pos) 0 it cu env).onRaise (fun x=>do noteFrame x env;theTreesLotGoes x)) _ _ s;refine wpAny_noted ?_;rw[compTurn_list];refine e9 (qe (e9 (K0 (M n s O) (fun r f q=>?_) fun _ _ b=>b.elim)));cases r with
|none=>exact i8 q
|some v=>
  refine e9 (K0 q (fun _ i G=>?_) fun _ _ b=>b.elim);refine e9 (K0 G (fun _ C H=>e9 (K0 H (fun ok o B=>?_) fun _ _ b=>b.elim)) fun _ _ b=>b.elim);cases ok with
 |false=>exact i8 {rfl,B}
 |true=>exact e9 (e9 (K0 B (fun x D J=>e9 (K0 J (fun _ E K=>i8 (i8 {rfl,K})) fun _ _ b=>b.elim)) fun _ _ b=>b.elim))
noncomputable def Ef(X':Cx)(ifs:List D9)(tc:Option TT):Prop:=match ifs,tc with
|[],none=>True
|[c],some t=>PT X' c t
|_,_=>False
def fB:Ef X' [] none:=trivial
def lG(h:PT X' c t):Ef X' [c] (some t):=h
structure Sk(ok:Cx->Prop)(P:m9)(w:w6)(K:y8)(tg:D9)(J:It)(fp:List g6)(it:g6)(tn:Nat->C3->Prop):Prop where
 mem:it∈fp
 obj:∀i h,tn i h->∀b∈fp,∃o,h.get? b=some o/\∀v,o.data≠.cell v
 keep:∀i h h',tn i h->(∀b∈fp,∀o,h.get? b=some o->h'.get? b=some o)->tn i h'
 item:∀(X:Cx),X.prog=P->X.w=w->X.K=K->ok X->∀(i:Nat)(ag:List (g6×Obj)) (s:i6) (σ:St) (H:Hp) (E:f9->i6->Prop),aY X ag σ H s->(∀b∈fp,vQ X ag H b)->tn i s.heap->J.go i H ->
  j0 (j8 P w) X.A (S9 (.ref it)) (fun r s1=>∃u,r=some u/\j0 (j8 P w) X.A (gj tg (.ref it) u) (fun _ s2=>∃x H',aY X ag σ H' s2/\bJ x u/\J.yld i H x H'/\tn (i+1) s2.heap/\∀b∈fp,H' b=none) E s1) E s
 done:∀(X:Cx),X.prog=P->X.w=w->X.K=K->ok X->∀(i:Nat)(ag:List (g6×Obj)) (s:i6) (σ:St) (H:Hp) (E:f9->i6->Prop),aY X ag σ H s->(∀b∈fp,vQ X ag H b)->tn i s.heap->J.stop i H ->
  j0 (j8 P w) X.A (S9 (.ref it)) (fun r s1=>r=none/\aY X ag σ H s1) E s
 self:∀(A:B2)(i:Nat)(s:i6)(Q:f9->i6->Prop)(E:f9->i6->Prop),tn i s.heap->Q (.ref it) s->j0 (j8 P w) A (wl (.ref it)) Q E s
noncomputable def Su(ok:Cx->Prop)(X:Cx)(ag:List (g6×Obj))(σ:St)(tg:D9)(R:It->Hp->Prop)(itv:f9)(s2:i6):Prop:=
 ∃(it:g6)(fp:List g6)(tn:Nat->C3->Prop)(J:It)(H':Hp),itv=.ref it/\aY X ag σ H' s2/\Sk ok X.prog X.w X.K tg J fp it tn/\tn 0 s2.heap/\(∀b∈fp,vQ X ag H' b)/\R J H'
def Go(h:Vv X ag σ tg R itv s2):Su (fun X=>X.calm=true) X ag σ tg R itv s2:=
 let ⟨m,i,tn,J,f,a,b,T,c,d,e⟩:=h;{m,i,tn,J,f,a,b,{T.mem,T.obj,T.keep,T.item,T.done,T.self},c,d,e}
def IC{ok:Cx->Prop}(ck:rR X scope tn names is)(hc:∀C s0 H0 ex,ok (bU X scope (cF X.env names) (tn++names) C s0 H0 ex)){te:TE}{g:TG}(hg:∀C s0 H0 ex,PG (bU X scope (cF X.env names) (tn++names) C s0 H0 ex) tg g)(he:∀C s0 H0 ex,PE (bU X scope (cF X.env names) (tn++names) C s0 H0 ex) elt te)(ht:∀C s0 H0 ex,Ef (bU X scope (cF X.env names) (tn++names) C s0 H0 ex) ifs tc){P:St}{Q:VK}{E:f9->i6->Prop}(h2:Su ok X ag P tg (mM te tc g (C7 tn.length none) (qD P is) Q) itv s2){RR:f9->g6->Result->i6->Prop}
    (R':∀(R C:g6)(H':Hp)(s':i6)(m:Str->Option f9),aY X ag P H' s'->s'.heap.Ns C m->H' C=none->C≠X.env.locals->(∀x c,X.env.cells.lookup x=some c->c≠C)->(∀p∈X.pn++ag,p.1≠C)->X.s₀.heap.objs.size<=C->Q (.ref R) H' ->
      RR (.ref R) C (.ok .next) s') :
    j0 (j8 X.prog X.w) X.A (yx []) (fun R L'=>j0 (j8 X.prog X.w) X.A (newFunctionEnv scope X.env.globals (cF X.env names) [] X.env.qual none .none (some X.env)) (fun i' Y=>
      X2 (j8 X.prog X.w) X.A (.compStart (.ListComp elt [{tg,iter,ifs,0}] scope pos) 0 itv R {i' with scope:=rc scope X.env}) (RR R i'.locals) Y) E L') E s2:=by
  obtain ⟨it,M,Z,J,H2,rfl,I2,T,G',f2,hK⟩:=h2;have j':H2 s2.heap.objs.size=none:=I2.hok.fresh (k7 _);refine M0 ?_ (by show 0<=n7;decide);have b':∀b∈M,b<s2.heap.objs.size:=fun b B=>let ⟨o,e,_⟩:=T.obj 0 _ G' b B;p7 e;generalize c':({s2 with heap:=s2.heap.push {cls:=.type "list",data:=.seq ([]:List f9).toArray}}:i6)=D;have E':D.heap.objs.size=s2.heap.objs.size+1:=by rw[←c'];exact L5 ..
  have I:∀b o,s2.heap.get? b=some o->D.heap.get? b=some o:=fun b o e=>by rw[←c'];exact i4 _ e
  have I3:aY X ag P (upd H2 s2.heap.objs.size (.lst [])) D:=by rw[←c'];exact I2.laid (t':=s2.toks) (fun b u e=>i4 _ e) (k7 _) {w4 _,[],0,.nil,o0 _ rfl}
  refine zl ck.nocell (by intro y hy;simp at hy) (fun h1 ns sb=>?_) ck.kind;have kp:∀b o,D.heap.get? b=some o->h1.get? b=some o:=fun b o e=>sb.extBut b o (q7 (p7 e)) (i4 _ e);have f':∀b:g6,b<s2.heap.objs.size->b<D.heap.objs.size:=fun b B=>j3 B (by rw[E'];exact R6 _);have β:h1.Ns D.heap.objs.size fun _=>none:=ns;have I4:=Dq (t4:=D.toks+([]:List (Str×f9)).length) ck I2 I3 f2 (fun b B=>f' b (b' b B)) (fun b B=>q7 (b' b B)) β kp;generalize f:bU X scope (cF X.env names) (tn++names) D.heap.objs.size D (upd H2 s2.heap.objs.size (.lst [])) M=s at I4;have hA:s.A=X.A:=by rw[←f];rfl
  have hP:s.prog=X.prog:=by rw[←f];rfl
  have hW:s.w=X.w:=by rw[←f];rfl
  have x':s.K=X.K:=by rw[←f];rfl
  have z':ok s:=by rw[←f];exact hc _ _ _ _
  have B':s.fs=yN X.stack:=by rw[←f];rfl
  have A':s.ex=M:=by rw[←f];rfl
  have S:s.env.locals=D.heap.objs.size:=by rw[←f];rfl
  have D':s.s₀=D:=by rw[←f];rfl
  have T':s.H₀=upd H2 s2.heap.objs.size (.lst []):=by rw[←f];rfl
  have e':s.xe=fun _ _=>False:=by rw[←f];rfl
  have k':s.env=compEnvC scope (cF X.env names) D.heap.objs.size X.env:=by rw[←f];rfl
  have W':PG s tg g:=by rw[←f];exact hg _ _ _ _
  have V':PE s elt te:=by rw[←f];exact he _ _ _ _
  have d':Ef s ifs tc:=by rw[←f];exact ht _ _ _ _
  have a':∀x c,s.env.cells.lookup x=some c->X.env.cells.lookup x=some c:=fun x c e=>by rw[k']at e;exact nN e
  obtain ⟨W,⟨m0,w0⟩,M'⟩:=hK _ j';have U:∀{H':Hp},(∀b∈M,H' b=none)->∀b∈M,vQ s [] H' b:=fun {H'} hn b B=>by
    refine {hn b B,?_,?_,.inl (by rw[A'];exact B),fun x c e=>(f2 b B).2.2.2.2.1 x c (a' x c e),fun p hp=>?_}
    . rw[S];exact q7 (f' b (b' b B))
    . rw[B']
      intro z;rcases x6.mp (I2.stkSub b z) with q|q
      . exact (f2 b B).2.1 q
      . exact (f2 b B).2.2.1 q
    . rw[←f]at hp
      exact absurd hp (by simp[bU])
  have F':∀s4:i6,aY s [] (C7 tn.length none++qD P is) (upd H2 s2.heap.objs.size (.lst [])) s4->Z 0 s4.heap ->
      X2 (j8 X.prog X.w) X.A (.compLoop (.ListComp elt [{tg,iter,ifs,0}] scope pos) 0 (.ref it) (.ref s2.heap.objs.size) s.env) (RR (.ref s2.heap.objs.size) D.heap.objs.size) s4:=by
    intro s4 J4 g';refine DV (fun n s'=>∃i ys ts H',aY s [] (ts++qD P is) H' s'/\ts.length=tn.length/\Z i s'.heap/\(∀b∈M,H' b=none)/\W i n ys H') ?_ m0
      {0,[],_,_,J4,P8 ..,g',fun b B=>by rw[aX (q7 (b' b B))];exact (f2 b B).1,w0}
    rintro n s5 ⟨i,ys,ts,H5,I5,Z',I',w',w5⟩;obtain ⟨U',o'⟩:=M' i n ys H5 w5;have H:∀{α:Type}{m:Sem α}{Q':α->i6->Prop}{s':i6},j0 (j8 s.prog s.w) s.A m Q' (fun _ _=>False) s'->j0 (j8 X.prog X.w) X.A m Q' (fun _ _=>False) s':=fun {α m Q' s'} z=>by rw[hP,hW,hA]at z;exact z
    rcases o' with ⟨K',qn⟩|⟨C',go,J'⟩
    . have z:=T.done s hP hW x' z' i [] s5 _ H5 (fun _ _=>False) I5 (U w') I' K'
      rw[hA]at z;refine dD z fun r s6 ⟨hr,I6⟩=>?_;subst hr;have δ:Un (yN X.stack) M H2 (upd H2 s2.heap.objs.size (.lst [])) s2.heap D.heap:=Un.laid I (k7 _) j';have ε:Un (yN X.stack) M (upd H2 s2.heap.objs.size (.lst [])) H5 D.heap s6.heap:=by have b:=I6.base;rw[B',A',D',T']at b;exact b
      have Y':s6.os=s2.os:=by have b:=I6.os;rw[D',←c']at b;exact b
      have IO:aY X ag P H5 s6:=I2.call' Y' (δ.trans ε) (by have b:=I6.hok;rw[hP,hW]at b;exact b) I6.bare fun b B=>by obtain ⟨_,f1,θ,f3,f4,f5⟩:=f2 b B;exact {f3,f1,fun x c e=>f4 x c e,fun p hp=>f5 p hp}
      obtain ⟨m,hm,_⟩:=I6.loc;rw[S]at hm;have fC:H5 D.heap.objs.size=none:=by have b:=I6.free;rw[S]at b;exact b
      refine R' _ _ H5 s6 m IO hm fC ?_ (fun x c e=>?_) (fun p hp=>?_) ?_ qn
      . exact C6 (j3 I2.lt (by lia))
      . obtain ⟨v,z⟩:=I2.cell x c e
        exact q7 (f' c z.lt)
      . exact q7 (f' p.1 (p7 (I2.pin p hp).1))
      . exact B9 I2.sz (by lia)
    . have z:=T.item s hP hW x' z' i [] s5 _ H5 (fun _ _=>False) I5 (U w') I' go
      rw[hA]at z;refine dD z fun r s6 ⟨u,hr,h6⟩=>?_;subst hr;refine dD h6 fun _ s7 ⟨x,H7,I7,r7,y7,r',S'⟩=>?_;have O':=I7.pinned (U S') (T.obj _ _ r');have zg:=W' _ s7 _ H7 x u _ O' r7 (J' ts x H7 (by rw[Z',P8]) y7);rw[e']at zg;refine dD (H zg) fun _ s8 ⟨κ,H8,I8,⟨O,q',e8⟩,q8⟩=>?_;subst e8;rw[P8]at q';have h':∀{s9:i6}{H9:Hp},aY s ([]++rB M s7.heap) (O++qD P is) H9 s9->Z (i+1) s9.heap/\∀b∈M,H9 b=none:=fun {s9 H9} I9=>by refine {T.keep _ _ _ r' fun b B o e=>(I9.pin (b,o) (x9 _ (x9 _ (nI B e)))).1,fun b B=>?_};obtain ⟨o,e,d⟩:=T.obj _ _ r' b B;exact (I9.pin (b,o) (x9 _ (x9 _ (nI B e)))).2.1
      have l':∀{s9:i6}{H9:Hp},aY s ([]++rB M s7.heap) (O++qD P is) H9 s9->te (O++qD P is) H9 (fun y H3=>H3 s2.heap.objs.size=some (.lst ys)/\∃m',m'<n/\W (i+1) m' (ys++[y]) (upd H3 s2.heap.objs.size (.lst (ys++[y])))) ->
          j0 (j8 X.prog X.w) X.A (K3 elt s.env) (fun x Y=>j0 (j8 X.prog X.w) X.A (jt (.builtin "list.append") [.ref s2.heap.objs.size,x]) (fun _ n'=>∃m,m<n/\∃i ys ts H',aY s [] (ts++qD P is) H' n'/\ts.length=tn.length/\Z i n'.heap/\(∀b∈M,H' b=none)/\W i m ys H') (fun _ _=>False) Y) (fun _ _=>False) s9:=fun {s9 H9} I9 q9=>by
        have ze:=V' _ s9 _ H9 _ I9 q9;rw[e']at ze;refine dD (H ze) fun y γ ⟨yv,u',N',ry,y',m',p',ζ⟩=>?_;have za:=(cZ (X:=s)) ([]++rB M s7.heap) γ (O++qD P is) u' (.ref s2.heap.objs.size) [yv] (.ref s2.heap.objs.size) [y] (fun v H'=>v=.non/\H'=upd u' s2.heap.objs.size (.lst (ys++[yv]))) N' rfl (.cons ry .nil)
          {_,ys,yv,rfl,rfl,y',C',rfl,rfl}
        rw[e']at za;refine dD (H za) fun _ ι ⟨_,η,v',_,_,P'⟩=>?_;subst P';obtain ⟨b1,b2⟩:=h' v';exact {m',p',i+1,_,O,_,v'.unpinned,q',b1,b2,ζ}
      cases ifs with
     |nil=>
        cases tc with
       |some t=>exact d'.elim
       |none=>exact wpAny_tests_nil (by rw[if_pos rfl];exact l' I8 q8)
     |cons c0 iV=>
        cases iV with
       |cons _ _=>cases tc <;> exact d'.elim
       |nil=>
          cases tc with
         |none=>exact d'.elim
         |some t=>
            have zt:=(show PT s c0 t from d') _ s8 _ H8 _ I8 q8;rw[e']at zt;refine wpAny_tests_one (dD (H zt) fun ok s9 ⟨H9,I9,q9⟩=>?_);cases ok with
           |true=>rw[if_pos rfl];rw[if_pos rfl]at q9;exact l' I9 q9
           |false=>rw[if_neg j7];rw[if_neg j7]at q9;obtain ⟨m',p',w9⟩:=q9;obtain ⟨b1,b2⟩:=h' I9;exact {m',p',i+1,_,O,_,I9.unpinned,q',b1,b2,w9}
  have g':Z 0 h1:=T.keep _ _ _ G' fun b B o e=>kp b o (I b o e);have G:=F' _ I4 g';rw[k']at G;refine codeAny_compStart_list G (T.self X.A 0 _ _ _ g' G)
def eZ(i:rR X scope tn names is)(T:X.calm=true)(Y:PI X tg iter wi)(W:∀C s0 H0 ex,PG (bU X scope (cF X.env names) (tn++names) C s0 H0 ex) tg g)(U:∀C s0 H0 ex,PE (bU X scope (cF X.env names) (tn++names) C s0 H0 ex) elt te)(Z:∀C s0 H0 ex,Ef (bU X scope (cF X.env names) (tn++names) C s0 H0 ex) ifs tc)(hs:∀x,V1 iter X.env x=L3 x:=by intro _;rfl):
  PE X (.ListComp elt [{tg,iter,ifs,0}] scope pos) (EY wi te tc g tn.length is):=by
 intro c s G H Q I h;rw[eval_ListComp];refine xy (use:=none) rfl hs (i.cls fun x hx=>I.ok.has x (i.outk x hx)) i.kind i.nms (dD (Y c s G H _ I h) fun v s1 M=>dD M fun a' s2 O=>?_);refine IC (RR:=fun f C=>compPost (j8 X.prog X.w) X.A X.xe none (EP X c G Q) f C) (ok:=fun X=>X.calm=true) i (fun _ _ _ _=>T) W U Z (Go O) fun f C J s' m K hn P R B D E q=>?_;refine {m,hn,fun h' sb=>{.ref f,J,?_,rfl,q}};exact K.turned (t':=s'.toks) (fun b o S e=>sb.extBut b o S e) P R (.inr E) B D
def vW(hN:X.N.Nodup)(M:X.N[i]?=some x)(T:Mz X.env.scope x)(E:rR X scope tn names is)(hc:X.calm=true)(hi:PI X tg iter wi)(hg:∀C s0 H0 ex,PG (bU X scope (cF X.env names) (tn++names) C s0 H0 ex) tg g)(he:∀C s0 H0 ex,PE (bU X scope (cF X.env names) (tn++names) C s0 H0 ex) elt te)(ht:∀C s0 H0 ex,Ef (bU X scope (cF X.env names) (tn++names) C s0 H0 ex) ifs tc)(hs:∀x,V1 iter X.env x=L3 x:=by intro _;rfl)(R:ny (.ListComp elt [{tg,iter,ifs,0}] scope pos) (some (.Name x pos')) spos.line X.env=L3 true:=by rfl)(hf:X.fn x=true∨X.env.scope.names.lookup x=some .local:=by first|exact .inl rfl|exact .inr rfl|assumption):
  PS X (.Assign [.Name x pos'] (.ListComp elt [{tg,iter,ifs,0}] scope pos) spos) (TZ (EY wi te tc g tn.length is) (iD i)):=by
 intro c s σ H D I h;rw[exec_Assign_Name_used _ _ _ _ R];refine e9 (qe (e9 ?_));show j0 _ X.A (do let _ ←comprehension (.ListComp elt [{tg,iter,ifs,0}] scope pos) scope X.env _ (yx []) false (K3 iter X.env) (some (ub (.Name x pos') X.env))) _ _ s;refine e9 (K0 (xy (use:=some (ub (.Name x pos') X.env)) (Q:=fun _ B=>SP X c D .next B) rfl hs (E.cls fun x T=>I.ok.has x (E.outk x T)) E.kind E.nms
  (dD (hi c s σ H _ I h) fun v s1 h1=>dD h1 fun a' s2 h2=>?_)) (fun _ B hq=>i8 (i8 hq)) fun _ _ e=>e)
 refine IC (RR:=fun f C=>compPost (j8 X.prog X.w) X.A X.xe (some (ub (.Name x pos') X.env)) (fun _ B=>SP X c D .next B) f C) (ok:=fun X=>X.calm=true) E (fun _ _ _ _=>hc) hg he ht (Go h2) fun f C H' B m I' hn hC Z G P S q=>?_;show j0 _ X.A (ub (.Name x pos') X.env (.ref f)) _ _ B;refine wpAny_assign_Name (AC I' hN M T (v:=.ref f) rfl (fun U J W=>?_) hf);obtain ⟨a,W,K⟩:=W;have O:C≠a:=by
  rcases K with rfl|K
  ·exact Z
  ·exact fun z=>G x a K z.symm
 refine {m,hn.sameBut W O,fun h' Y=>{_,H',J.turned (t':=U.toks) (fun b o hb e=>Y.extBut b o hb e) hC Z (.inr S) G P,q}}
end
section
variable {te:TE}{Q:VK}{H:Hp}{σ a7:St}{wi:TI}{K:y8}
def Jw(h:wi σ H (mM te o g (C7 k none) (qD σ is) Q)):EY wi te o g k is σ H Q:=h
def XM{us:St}(h:us.length=1):∃o,us=[o]:=by
 cases us with
|nil=>cases h
|cons o r=>
  cases r with
 |nil=>exact {o,rfl}
 |cons _ _=>simp at h
noncomputable def cW(n:Nat)(cu:g6)(Pv:Nat->List V->Hp->Prop):Nat->Nat->List V->Hp->Prop:=fun i m ys H1=>m=n-i/\i<=n/\ys.length=i/\H1 cu=some (.lst ys)/\Pv i ys H1
noncomputable def IK(n:Nat)(cu:g6)(Pv:Nat->List V->Hp->Prop)(ys:List V)(i:Nat):VK:=fun y H3=>H3 cu=some (.lst ys)/\∃m',m'<n-i/\cW n cu Pv (i+1) m' (ys++[y]) (upd H3 cu (.lst (ys++[y])))
def jJ(b:i<n)(f:ys.length=i)(c:H3 cu=some (.lst ys))(p:Pv (i+1) (ys++[y]) (upd H3 cu (.lst (ys++[y])))):IK n cu Pv ys i y H3:=
 {c,n-(i+1),by lia,rfl,b,by rw[m8,f];rfl,aC,p}
def pU(hn:xs.length<=1000)(g:g6->Nat->List V->Hp->Prop)(C:∀b,H b=none->g b 0 [] (upd H b (.lst [])))(w:∀b i ys f,H b=none->i<=xs.length->g b i ys f->cS K f a xs)(hs:∀b i ys f x,H b=none->xs[i]?=some x->ys.length=i->f b=some (.lst ys)->g b i ys f->te (some x::a7) f (IK xs.length b (g b) ys i))(D:∀b ys f,H b=none->f b=some (.lst ys)->ys.length=xs.length->g b xs.length ys f->Q (.ref b) f):mM te none (iD 0) (C7 1 none) a7 Q (SC K a) H:=by
 intro b c;refine {cW xs.length b (g b),{xs.length,by simp,w4 _,rfl,aC,C b c},?_};rintro i m ys f ⟨rfl,E,B,s,p⟩;have q:=w b i ys f c E p;refine {s,?_};by_cases A:i<xs.length
 ·refine .inr {eR (by lia),{xs,xs[i],q,by simp[A]},fun J x I G y=>?_};obtain ⟨e,y⟩:=y;subst e;obtain ⟨o,rfl⟩:=XM G;exact {{[some x],rfl,rfl},hs b i ys _ x c (y xs q) B s p}
 ·have e:i=xs.length:=by lia
  subst e;exact .inl {{xs,q,k7 _},D b ys f c s B p}
end
end L2
namespace L2
open PySem
end L2
namespace L2
def OS(b:m7 x y=1)(c:m7 x z=1):m7 x (y*z)=1:=by unfold m7 at *;rw[J7];exact Nat.Coprime.mul_right b c
def wG(h:x'∣x)(b:m7 x y=1):m7 x' y=1:=by unfold m7 at *;exact Nat.Coprime.coprime_dvd_left (jw.mpr h) b
def VO(o:b≠0)(q:0<g)(c:m7 f g=1)(e:f*b=t*g):(m5 t b).num=f/\((m5 t b).den:Int)=g:=by
 obtain ⟨n,rfl⟩:∃n:Nat,g=n:={g.toNat,by lia}
 have i:m5 t b=m5 f n:=(Q7 o (by lia)).mpr e.symm;have m:m5 f n=Rat.mk' f n (by lia) c:=C9 (Rat.mk' f n (by lia) c);rw[i,m];exact {rfl,rfl}
def yP{a g:Int}(b:g≠0)(h:g∣a):a.fdiv g*g=a:=by obtain ⟨c,rfl⟩:=h;rw[Q8 _ b,O6]
def tJ(h:k∣n*m)(g:m7 k n=1):k∣m:=by have q:=Int.dvd_gcd_mul_iff_dvd_mul.mpr h;rw[g]at q;simpa using q
def yM(h:∀k:Int,k∣x->k∣y->k∣1):m7 x y=1:=by
 have b:=h (m7 x y) (V6 ..) (X9 ..);have:=mh (by decide) b;have c:m7 x y≠0:=by intro z;rw[z]at b;simp at b
 lia
def RV(W:0<b)(hd:0<d)(T:m7 a b=1)(U:m7 c d=1)(hs:s=(m7 b d:Int))(Y:u=d.fdiv s)(Z:v=b.fdiv s)(hk:k=(m7 (a*u+c*v) s:Int))(X:f=(a*u+c*v).fdiv k):
  0<s/\0<k/\s<=b/\k<=s/\(0<b.fdiv k*u/\m7 f (b.fdiv k*u)=1/\f*(b*d)=(a*d+c*b)*(b.fdiv k*u)) /\
   u.natAbs<=d.natAbs/\v.natAbs<=b.natAbs/\f.natAbs<=(a*u+c*v).natAbs/\(b.fdiv k).natAbs<=b.natAbs:=by
 have i:∀{a g c:Int},g≠0->a*g=c->a.natAbs<=c.natAbs:=fun {a g c} hg e=>by rw[←e,J7];exact R1 _ (by lia)
 have N:0<s:=by
  rw[hs];have:m7 b d≠0:=fun e=>by have:=(ly.mp e).1;lia
  lia
 have O:s∣b:=hs▸V6 ..;have sd:s∣d:=hs▸X9 ..;have D:u*s=d:=Y▸yP (by lia) sd;have w:v*s=b:=Z▸yP (by lia) O;have k0:0<k:=by
  rw[hk];have:m7 (a*u+c*v) s≠0:=fun e=>by have:=(ly.mp e).2;lia
  lia
 have kt:k∣a*u+c*v:=hk▸V6 ..;have ks:k∣s:=hk▸X9 ..;have G:f*k=a*u+c*v:=X▸yP (by lia) kt;obtain ⟨m,C⟩:=ks;have m0:0<m:=by
  rcases iz 0 m with q|q
  ·exact q
  ·have:k*m<=0:=Int.mul_nonpos_of_nonneg_of_nonpos (by lia) q;lia
 have u0:0<u:=by
  rcases iz 0 u with q|q
  ·exact q
  ·have:u*s<=0:=W4 q (by lia);lia
 have v0:0<v:=by
  rcases iz 0 v with q|q
  ·exact q
  ·have:v*s<=0:=W4 q (by lia);lia
 have o:b.fdiv k=v*m:=by
  have:b=k*(v*m):=by rw[←w,C];grind
  rw[this,Q8 _ (by lia)]
 have B:m7 u v=1:=by
  have e:m7 (u*s) (v*s)=m7 u v*s.natAbs:=pk ..;rw[D,w,Y0]at e;have:s.natAbs=m7 b d:=by lia
  rw[this]at e;have H:0<m7 b d:=by lia
  have:1*m7 b d=m7 u v*m7 b d:=by lia
  exact (gm H this).symm
 have Q:m7 (a*u+c*v) u=1:=by refine yM fun z E A=>?_;have I:z∣c*v:=(Int.dvd_add_right (vo A)).mp E;have J:m7 z c=1:=wG (vj A {s,D.symm}) (by rw[Y0];exact U);have K:z∣v:=tJ I J;have:=Int.dvd_coe_gcd A K;rw[B]at this;exact this
 have R:m7 (a*u+c*v) v=1:=by refine yM fun z E A=>?_;have I:z∣a*u:=(Int.dvd_add_left (vo A)).mp E;have J:m7 z a=1:=wG (vj A {s,w.symm}) (by rw[Y0];exact T);have K:z∣u:=tJ I J;have:=Int.dvd_coe_gcd K A;rw[B]at this;exact this
 have P:m7 f m=1:=by
  have e:m7 (f*k) (m*k)=m7 f m*k.natAbs:=pk ..;have:m*k=s:=by rw[C,O6]
  rw[G,this]at e;have E:k.natAbs=m7 (a*u+c*v) s:=by lia
  rw[E]at e;have H:0<m7 (a*u+c*v) s:=by lia
  have:1*m7 (a*u+c*v) s=m7 f m*m7 (a*u+c*v) s:=by lia
  exact (gm H this).symm
 have M:f∣a*u+c*v:={k,G.symm}
 refine {N,k0,mh W O,mh N {m,C},{?_,?_,?_},i (by lia) D,i (by lia) w,i (by lia) G,i (g:=k) (by lia) (by rw[o,←w,C];grind)}
 ·rw[o];exact dh (dh v0 m0) u0
 ·rw[o];exact OS (OS (wG M R) P) (wG M Q)
 ·rw[o];have S:a*d+c*b=(f*k)*s:=by rw[G,←D,←w];grind
  rw[S,←D,←w];have:f*(v*s*(u*s))=f*s*v*u*s:=by grind
  rw[this];have:f*k*s*(v*m*u)=f*s*v*u*(k*m):=by grind
  rw[this,←C]
noncomputable def Sz(n:Nat)(q:Rat):Prop:=q.num.natAbs<2^n/\q.den<2^n
def Sz.mono(h:Sz m q)(l:m<=n):Sz n q:=
 have:=W2 (n:=2) (by decide) l
 {j3 h.1 this,j3 h.2 this}
def Sz.divInt(f:b≠0)(A:t.natAbs<2^n)(hs:b.natAbs<2^n):Sz n (m5 t b):=by
 have e:m5 (m5 t b).num (m5 t b).den=m5 t b:=C9 _;have g:((m5 t b).den:Int)≠0:=by have:=(m5 t b).den_pos;lia
 rw[Q7 g f]at e;generalize B:m5 t b=q at *;have w:m7 q.num q.den=1:=q.reduced;have s:(q.den:Int)∣b:=tJ (k:=q.den) (n:=q.num) {t,by rw[e,O6]} (by rw[Y0];exact w);obtain ⟨m,c⟩:=s;have o:t=q.num*m:=by
  have:t*q.den=(q.num*m)*q.den:=by rw[←e,c];grind
  exact Int.eq_of_mul_eq_mul_right g this
 have C:m≠0:=by rintro rfl;simp at c;exact f c
 have i:1<=m.natAbs:=by lia
 constructor
 ·refine E6 ?_ A;rw[o,J7];exact R1 _ i
 ·refine E6 ?_ hs;rw[c,J7];have:(q.den:Int).natAbs=q.den:=by lia
  rw[this];exact R1 _ i
def zC(q r:Rat):q+r=m5 (q.num*r.den+r.num*q.den) (q.den*r.den):=by
 have b:(q.den:Int)≠0:=by have:=q.den_pos;lia
 have c:(r.den:Int)≠0:=by have:=r.den_pos;lia
 have:=xm q.num r.num b c;rw[C9,C9]at this;exact this
def JY(q r:Rat):q*r=m5 (q.num*r.num) (q.den*r.den):=by have:=T9 q.num r.num (d₁:=q.den) (d₂:=r.den);rw[C9,C9]at this;exact this
def KO(q r:Rat):q/r=m5 (q.num*r.den) (q.den*r.num):=by rw[ko,Rat.inv_def];have:=T9 q.num r.den (d₁:=q.den) (d₂:=r.num);rw[C9]at this;exact this
def nE(b:x<2^m)(c:y<2^n):x*y<2^(m+n):=by rw[Nat.pow_add];exact Nat.mul_lt_mul'' b c
def Sz.add(b:Sz m q)(c:Sz n r):Sz (m+n+1) (q+r):=by
 rw[zC];have s:=q.den_pos;have w:=r.den_pos;refine Sz.divInt (Int.ne_of_gt (dh (by lia) (by lia))) ?_ ?_
 ·have g:=nE b.1 c.2;have i:=nE c.1 b.2;have f:(q.num*r.den).natAbs=q.num.natAbs*r.den:=by rw[J7];rfl
  have o:(r.num*q.den).natAbs=r.num.natAbs*q.den:=by rw[J7];rfl
  rw[Nat.add_comm n m]at i;rw[pow_succ];refine E6 (Int.natAbs_add_le _ _) ?_;rw[f,o];lia
 ·have g:=nE b.2 c.2;have f:((q.den:Int)*r.den).natAbs=q.den*r.den:=by rw[J7];rfl
  rw[pow_succ];lia
def Sz.neg(h:Sz n q):Sz n (-q):={by rw[qr,Int.natAbs_neg];exact h.1,h.2}
def Sz.sub(b:Sz m q)(c:Sz n r):Sz (m+n+1) (q-r):=by rw[Rat.sub_eq_add_neg];exact b.add c.neg
def Sz.mul(b:Sz m q)(c:Sz n r):Sz (m+n) (q*r):=by
 rw[JY];have i:=q.den_pos;have o:=r.den_pos;refine Sz.divInt (Int.ne_of_gt (dh (by lia) (by lia))) ?_ ?_
 ·rw[J7];exact nE b.1 c.1
 ·have f:=nE b.2 c.2;have g:((q.den:Int)*r.den).natAbs=q.den*r.den:=by rw[J7];rfl
  lia
def Sz.div(b:Sz m q)(c:Sz n r)(o:r≠0):Sz (m+n) (q/r):=by
 rw[KO];have s:=q.den_pos;have i:r.num≠0:=fun e=>o (Rat.num_eq_zero.mp e);refine Sz.divInt (dv (by omega) i) ?_ ?_
 ·have f:=nE b.1 c.2;have g:(q.num*(r.den:Int)).natAbs=q.num.natAbs*r.den:=by rw[J7];rfl
  omega
 ·have f:=nE b.2 c.1;have g:((q.den:Int)*r.num).natAbs=q.den*r.num.natAbs:=by rw[J7];rfl
  rw[Nat.add_comm]at *;omega
def XL(q r:Rat):decide (q.num*r.den<r.num*q.den)=decide (q<r):=by
 by_cases h:q<r
 ·rw[decide_eq_true h,decide_eq_true ((Rat.lt_iff q r).mp h)]
 ·rw[decide_eq_false h,decide_eq_false (fun z=>h ((Rat.lt_iff q r).mpr z))]
end L2
namespace L2
noncomputable def Bd(D M:Nat)(q:Rat):Prop:=q.den∣D/\-((M:Nat):Rat)<=q/\q<=((M:Nat):Rat)
def OI{a b:Int}(c:0<=a)(f:1<=b):a<=a*b:=by have:=Int.mul_le_mul_of_nonneg_left f c;lia
def OQ(c:b≠0):((m5 t b).den:Int)∣b:=by
 have e:m5 (m5 t b).num (m5 t b).den=m5 t b:=C9 _;have g:((m5 t b).den:Int)≠0:=by have:=(m5 t b).den_pos;lia
 rw[Q7 g c]at e;have f:m7 (m5 t b).num (m5 t b).den=1:=(m5 t b).reduced;exact tJ (n:=(m5 t b).num) {t,by rw[e,O6]} (by rw[Y0];exact f)
def Ko{D:Nat}{q:Rat}(h:q.den∣D)(c:D≠0):∃a:Int,q=m5 a D:=by
 obtain ⟨m,e⟩:=h;refine {q.num*m,?_};have f:=q.den_pos;have b:m5 (q.num*m) D=m5 q.num q.den:=by
  rw[Q7 (by lia) (by lia),e]
  push_cast
  grind
 rw[b,C9]
def tM{D:Nat}{q r:Rat}(c:D≠0)(f:q.den∣D)(g:r.den∣D):(q+r).den∣D:=by
 obtain ⟨a,rfl⟩:=Ko f c;obtain ⟨b,rfl⟩:=Ko g c;rw[xm a b (by lia) (by lia)];have e:m5 (a*D+b*D) (D*D)=m5 (a+b) D:=by rw[Q7 (dv (by lia) (by lia)) (by lia)];grind
 rw[e];exact R3.mp (OQ (by lia))
def Bd.add(i:D≠0)(f:Bd D M q)(g:Bd D N r):Bd D (M+N) (q+r):=by
 obtain ⟨b,m,o⟩:=f;obtain ⟨c,s,w⟩:=g;refine {tM i b c,?_,?_}
 ·have e:(((M+N:Nat)):Rat)=(M:Rat)+(N:Rat):=by push_cast;rfl
  rw[e];grind
 ·have e:(((M+N:Nat)):Rat)=(M:Rat)+(N:Rat):=by push_cast;rfl
  rw[e];grind
def Bd.mono(h:Bd D M q)(l:M<=N):Bd D N q:=by
 obtain ⟨b,c,f⟩:=h;have e:(M:Rat)<=(N:Rat):=by rw[iw];simp;omega
 exact {b,by grind,by grind}
def Bd.sz(h:Bd D M q)(A:D≠0)(s:D<2^n)(w:M*D<2^n):Sz n q:=by
 obtain ⟨c,f,g⟩:=h;have b:=tu (by omega) c;have B:q.num<=M*q.den:=by have:=(iw q (M:Rat)).mp g;simpa using this
 have C:-(M*q.den:Int)<=q.num:=by
  have:=(iw (-(M:Rat)) q).mp f;have i:(-(M:Rat)).num=-(M:Int):=by rw[qr];simp
  have m:(-(M:Rat)).den=1:=by rw[ye];simp
  rw[i,m]at this;simp at this;have o:-(M:Int)*q.den=-((M:Int)*q.den):=by grind
  omega
 refine {?_,by omega};have E:M*q.den<=M*D:=X1 _ b;have G:((M*q.den:Nat):Int)=(M:Int)*q.den:=by push_cast;rfl
 omega
def Bd.of(h:q.num.natAbs<=M):Bd q.den M q:=by
 have hp:=q.den_pos;refine {Nat.dvd_refl _,?_,?_}
 ·rw[iw];have b:(-(M:Rat)).num=-(M:Int):=by rw[qr];simp
  have c:(-(M:Rat)).den=1:=by rw[ye];simp
  rw[b,c];have:(M:Int)<=(M:Int)*q.den:=OI (by lia) (by lia);have f:-(M:Int)*q.den=-((M:Int)*q.den):=by grind
  simp;lia
 ·rw[iw];have:(M:Int)<=(M:Int)*q.den:=OI (by lia) (by lia);simp;lia
def Bd.dvd(h:Bd D M q)(d:D∣E):Bd E M q:={dvd_trans h.1 d,h.2}
end L2
namespace L2
open PySem
noncomputable def IW(xs:Array Nat):Prop:=xs.toList.Pairwise (· < ·)
def IW.lt(h:IW xs)(b:i<j)(c:j<xs.size):xs[i]'(jp b c)<xs[j]:=by have:=V4.mp h i j (by simpa using jp b c) (by simpa using c) b;simpa using this
def IW.le(h:IW xs)(b:i<=j)(f:j<xs.size):xs[i]'(E6 b f)<=xs[j]:=by
 rcases Nat.lt_or_eq_of_le b with c|c
 ·exact M5 (h.lt c f)
 ·subst c;exact k7 _
noncomputable def IR(xs:Array Nat)(j r:Nat):Prop:=r<=xs.size/\(∀k (hk:k<xs.size),k<r->xs[k]<j)/\∀k (hk:k<xs.size),r<=k->j<=xs[k]
theorem yZ(h:IW xs):∀(fuel lo b:Nat),b-lo<=fuel->lo<=b->b<=xs.size->(∀k (hk:k<xs.size),k<lo->xs[k]<j)->(∀k (hk:k<xs.size),b<=k->j<=xs[k])->IR xs j (V2 xs j fuel lo b)
|0,lo,b,w,A,o,i,m=>by
  have:lo=b:=by omega
  subst this;unfold V2;exact {o,i,m}
|fuel+1,lo,b,w,A,o,i,m=>by
  unfold V2;by_cases g:lo<b
  ·rw[if_pos g];have q:(lo+b)/2<xs.size:=by omega
   have s:xs.getD ((lo+b)/2) j=xs[(lo+b)/2]:=by simp[Array.getD,q]
   show IR xs j (if xs.getD ((lo+b)/2) j<j then V2 xs j fuel ((lo+b)/2+1) b else V2 xs j fuel lo ((lo+b)/2));rw[s];by_cases c:xs[(lo+b)/2]<j
   ·rw[if_pos c];exact yZ h fuel ((lo+b)/2+1) b (by omega) (by omega) o (fun k hk f=>E6 (h.le (show k<=(lo+b)/2 by omega) q) c) m
   ·rw[if_neg c];exact yZ h fuel lo ((lo+b)/2) (by omega) (by omega) (by omega) i fun k hk f=>B9 (Nat.le_of_not_lt c) (h.le f hk)
  ·rw[if_neg g];have:lo=b:=by omega
   subst this;exact {o,i,m}
def pI(j:Nat)(h:IW xs):IR xs j (L1 xs j):=
 yZ h xs.size 0 xs.size (by lia) (w4 _) (k7 _) (fun _ _ z=>absurd z (R9 _)) fun k hk z=>absurd hk (yw.mpr z)
def AD(h:IR xs j r)(h':IR xs j r'):r=r':=by
 rcases Nat.lt_trichotomy r r' with c|c|c
 ·have hk:r<xs.size:=j3 c h'.1;exact absurd (h'.2.1 r hk c) (yw.mpr (h.2.2 r hk (k7 _)))
 ·exact c
 ·have hk:r'<xs.size:=j3 c h.1;exact absurd (h.2.1 r' hk c) (yw.mpr (h'.2.2 r' hk (k7 _)))
def KU(h:IW xs):L1 xs 0=0:=
 AD (pI 0 h) {w4 _,fun _ _ z=>absurd z (R9 _),fun _ _ _=>w4 _}
def KW(h:IW xs)(b:i<xs.size):L1 xs (xs[i]+1)=i+1:=
 AD (pI _ h) {b,fun k hk z=>Nat.lt_succ_of_le (h.le (Nat.le_of_lt_succ z) b),fun k hk z=>Nat.succ_le_of_lt (h.lt z hk)}
def An(h:IW xs)(hn:xs[L1 xs j]?≠some j):IW (G8.insertAt xs (L1 xs j) j):=by
 have st:=pI j h;generalize L1 xs j=p at st hn;unfold IW;rw[G8.toList_insertAt];have g:∀a∈xs.toList.take p,a<j:=fun a c=>by obtain ⟨k,hk,e⟩:=lu c;rw[V8]at hk;rw[U0,xl]at e;rw[←e];exact st.2.1 k (by simp at hk;lia) (by lia)
 have i:∀a∈xs.toList.drop p,j<a:=fun a c=>by
  obtain ⟨k,hk,e⟩:=lu c;rw[my,m6]at hk;rw[U1,xl]at e;have hp:p<xs.size:=by lia
  have m:=st.2.2 p hp (k7 _);have o:xs[p]≠j:=fun z=>hn (by rw[K6 hp,z]);have q:=h.le (show p<=p+k by lia) (by lia);rw[←e];lia
 refine U4.mpr {h.sublist (List.take_sublist ..),W5.mpr {i,h.sublist (List.drop_sublist ..)},fun a c b f=>?_};rcases x6.mp f with rfl|f
 ·exact g a c
 ·exact jp (g a c) (i b f)
noncomputable def Tb(w:w6)(t:G8)(_n:Nat):Prop:=t.led=!(w.params.followText "set-order")/\IW t.place/\t.dummies=#[]
def pQ(n:Nat):IW (Array.range n):=by unfold IW;rw[Array.toList_range];exact ir
def OL(j:Nat):rr #[] j=false:=by unfold rr;simp
theorem xR(g:t.dummies=#[]):∀(fuel:Nat)(p:G8.Probe)(j:Nat)(d:Option Nat),G8.probe.go t f h fuel p=some (.empty j d)->p.dummy=none->t.slot j=.empty/\d=none
|0,p,j,d,e,b=>nomatch e
|fuel+1,p,j,d,e,b=>by
  have c:(t.advance p).dummy=none:=by
   unfold G8.advance;split
   ·exact b
   ·exact b
  unfold G8.probe.go at e;cases hs:t.slot p.j with
 |empty=>
   rw[hs]at e;have e:=l7 e;injection e with e1 e2
   exact {by rw[←e1];exact hs,by rw[←e2];exact b}
 |dummy=>
   exfalso;unfold G8.slot at hs;dsimp only at hs;rw[g,OL,if_neg j7]at hs;split at hs <;> cases hs
 |live i=>
   rw[hs]at e;dsimp only at e;split at e
   ·exact nomatch l7 e
   ·exact xR g fuel _ j d e c
def PQ{t:G8}{j:Nat}(h:t.slot j=.empty):t.place[L1 t.place j]?≠some j:=fun e=>by
 unfold G8.slot at h;dsimp only at h;rw[e,if_pos (by simp)]at h;cases h
def QU(es:Array (Int×f9))(h:Int)(x:f9)(q:Tb w t n):Tb w (layNew t es h x).2.1 m:=by
 obtain ⟨c,o,f⟩:=q;unfold layNew;split
 ·rename_i b s e;dsimp only;have hp:Tb w (t.put b).1 m:=by
   have hs:t.place[L1 t.place b]?≠some b:=by
    unfold G8.freeSlot at e;split at e
    ·rename_i j d g;have:=xR f _ _ _ _ g rfl;rw[this.2]at e;have e:=l7 e;have i:j=b:=congrArg Prod.fst e;rw[←i];exact PQ this.1
    ·cases e
   unfold G8.put;refine {c,An o hs,?_};show (if rr t.dummies b then _ else t.dummies)=#[];rw[f,OL,if_neg j7]
  unfold G8.orStandIn;split
  ·exact hp
  ·exact {c,pQ _,rfl}
 ·exact {c,pQ _,rfl}
def VN(es:Array (Int×f9))(k:Nat)(s:Tb w t n):Tb w (qz t es k).2.1 m:=by
 obtain ⟨c,A,B⟩:=s;unfold qz;split
 ·rename_i D g e;unfold G8.relaid G8.laid at e;cases hc:G8.layClean (G8.sizeAbove k-1) (Array.map (fun x=>x.fst) es) with
 |none=>
   rw[hc]at e;exact nomatch e
 |some C=>
  rw[hc]at e;have i:=congrArg Prod.fst (l7 e);dsimp only at i;subst i;dsimp only;split
  ·refine {c,?_,rfl};unfold IW;dsimp only;refine P5.mpr (ij.mpr (ir.imp fun {a b} f x o y q=>?_));simp only[A9]at o q;obtain ⟨_,_,rfl⟩:=o;obtain ⟨_,_,rfl⟩:=q;exact f
  ·exact {c,pQ _,rfl}
 ·exact {c,pQ _,rfl}
section
variable {prog:m9}{w:w6}{K:Type}[DecidableEq K]{knd:KeyKind prog w K}{A:B2}{E:f9->i6->Prop}{s:i6}
def ZC(M:x.scannable=true)(I:knd.is k x=true)(P:s.heap.get? a=some o)(b':o.ExactSet)(G:o.data=.set es ep t)(H:ElemsOf knd es.toList)(hb:es.size+1<og)(hf:t.fits es.size=true)(ht:Tb w t es.size)(h1:(∃e∈es.toList,knd.is k e.2=true)->Q false s)
  (h2:(∀e∈es.toList,knd.is k e.2=false)->∀(h':C3)(es':Array (Int×f9)) (t':G8) (ep':Nat),Q4 a s.heap h'->h'.get? a=some {o with data:=.set es' ep' t'}->ku es'.toList (es.toList++[(knd.hash k,x)]) ->
   t'.fits es'.size=true->Tb w t' es'.size->Q true {s with heap:=h'}):j0 (j8 prog w) A (yr a x (knd.hash k)) Q E s:=by
 unfold yr setAddHashedIn;refine E9 (e9 (V0 P G hf ?_));dsimp only;rw[byScan_of M (by lia) H,if_pos rfl];unfold setAddByScan;refine e9 (e9 (L9 (e9 (wpAny_setScan_of I P G hf H ?_))));cases hr:List.findIdx? (fun e=>knd.is k e.2) es.toList with
|some j=>
  obtain ⟨hj,X,_⟩:=List.findIdx?_eq_some_iff_getElem.mp hr;exact i8 (i8 (h1 {_,O8 hj,X}))
|none=>
  have J:=List.findIdx?_eq_none_iff.mp hr;have gw:∀(b:Bool){i:i6}{Z:Unit->i6->Prop},Z () i->j0 (j8 prog w) A (match b with|true=>rule "set.scan.the-table-gave-way"|false=>L3 ()) Z E i:=fun b _ _ hq=>by
   cases b
   ·exact i8 hq
   ·exact L9 hq
  dsimp only;have B:=layNew_perm t es (knd.hash k) x;have D:=layNew_fits t es (knd.hash k) x;have N:=fun m=>QU (m:=m) es (knd.hash k) x ht;generalize layNew t es (knd.hash k) x=L at B D N ⊢;obtain ⟨c,t1,wd,a'⟩:=L;dsimp only at B D N ⊢;rw[L6]at B;have hz:c.size=es.size+1:=by have:=B.length_eq;simpa using this
  refine e9 (gw _ ?_);have q:∀f:G8,f.fits c.size=true->(∀m,Tb w f m)->j0 (j8 prog w) A (do
    storeSet a c f
    if (!wd&&f.tooFull)=true then do
      (match (qz f c (S4 c.size)).2.2 with|true=>rule "set.scan.the-table-gave-way"|false=>L3 ())
      storeSet a (qz f c (S4 c.size)).1 (qz f c (S4 c.size)).2.1
      L3 (some true)
     else L3 (some true)) (fun r i=>j0 (j8 prog w) A (match r with | some added=>L3 added | none=>setAddHashedIn a x (knd.hash k) 99999) Q E i) E s:=by
   intro f f2 l2;refine e9 (wpAny_storeSet_of P G ?_ (rg (by lia)));have U:(s.heap.update a (ix c f)).get? a=some {o with data:=.set c (ep+1) f}:=by have z:=J1 (ix c f) P (by rw[yj c f G];rfl);rw[yj c f G]at z;exact z
   have O:=E8 s.heap a (ix c f);split
   ·have S:=relayAll_perm f c (S4 c.size);have T:=relayAll_fits f c (S4 c.size);have Y:=fun m=>VN (m:=m) c (S4 c.size) (l2 0);generalize qz f c (S4 c.size)=R at S T Y ⊢;obtain ⟨g,C,W⟩:=R;dsimp only at S T Y ⊢;have c':g.size=c.size:=by
     have:=S.length_eq;simpa using this
    refine e9 (gw _ ?_);refine e9 (wpAny_storeSet_of U rfl ?_ (rg (by lia)));have g2:((s.heap.update a (ix c f)).update a (ix g C)).get? a=some {o with data:=.set g (ep+1+1) C}:=by have z:=J1 (ix g C) U (by rw[yj g C rfl];rfl);rw[yj g C rfl]at z;exact z
    exact i8 (i8 (h2 J _ g C _ (O.trans (E8 _ a _)) g2 (S.trans B) T (Y _)))
   ·exact i8 (i8 (h2 J _ c f _ O U B f2 (l2 _)))
  split
  ·refine e9 ?_;rw[hashByValue_scannable 8 M];refine i8 ?_;cases plainKind x with
  |true=>
    rw[if_pos rfl];exact q t1 D N
  |false=>rw[if_neg j7];exact q _ (G8.fits_plain_off D) N
  ·refine e9 (i8 ?_);rw[if_pos rfl];exact q t1 D N
end
end L2
namespace L2
open PySem
section
variable {A:B2}{E:f9->i6->Prop}{s:i6}
def RJ(hn:n≠0)(h:∀i d,i<n->Q i {s with drawn:=d}):j0 M A (choose src n) Q E s:=by intro b p _;show Sem.wp M b (.choose src n .pure) _ _ p s;rw[Sem.wp_choose];exact {hn,by rw[Sem.wp];exact h _ _ (mod_lt _ (Nat.pos_of_ne_zero hn))}
theorem nM{b:Type}:∀{l:List b}{i:Nat}{x:b},l[i]?=some x->(x::l.eraseIdx i).Perm l
|[],i,x,h=>by simp at h
|a::l,0,x,h=>by simp at h;subst h;exact .refl _
|a::l,i+1,x,h=>by have ih:=nM (l:=l) (i:=i) (x:=x) (by simpa using h);show (x::a::l.eraseIdx i).Perm (a::l);exact (ku.swap ..).trans (ih.cons a)
theorem BE{f:Type}:∀(n:Nat)(xs:List f)(s:i6)(Q:List f->i6->Prop),xs.length=n->(∀ys d,ys.Perm xs->Q ys {s with drawn:=d})->j0 M A (drawOrder n xs) Q E s
|0,xs,s,Q,b,h=>by
  have:xs=[]:=Q1.mp b;subst this;exact i8 (h [] s.drawn (.refl _))
|n+1,[],s,Q,b,h=>by cases b
|n+1,x::xs,s,Q,b,h=>by
  unfold drawOrder;refine e9 (RJ (by simp) fun i d m=>?_);obtain ⟨y,c⟩:∃y,(x::xs)[i]?=some y:={_,i7 m}
  rw[c];refine e9 (BE n _ _ _ ?_ fun ys g hp=>i8 (h _ g ?_))
  ·have:=(nM c).length_eq;simp at this b⊢;lia
  ·exact (hp.cons y).trans (nM c)
theorem NS{g:Type}(next:Nat->Nat):∀(fuel k:Nat)(left:List g)(out:Array g),left.length=fuel->(rd next fuel k left out).toList.Perm (out.toList++left)
|0,k,left,out,c=>by
  have:left=[]:=Q1.mp c;subst this;unfold rd;simp
|fuel+1,k,left,out,c=>by
  unfold rd;have b:next k%left.length<left.length:=mod_lt _ (by lia)
  obtain ⟨y,f⟩:∃y,left[next k%left.length]?=some y:={_,i7 b}
  rw[f];dsimp only;have hp:=nM f;have ih:=NS next fuel (k+1) (left.eraseIdx (next k%left.length)) (out.push y) (by
   have:=hp.length_eq;simp at this;lia)
  refine ih.trans ?_;rw[L6,D6];exact ku.append_left _ hp
def QD{b:Type}(next:Nat->Nat)(xs:Array b):(oh next xs).toList.Perm xs.toList:=by
 unfold oh;have:=NS next xs.size 0 xs.toList #[] (by simp)
 simpa using this
def jP:Slot "set_iterator" "__next__" "set_iterator.__next__":=
 .of (owner:="set_iterator") (n:="__next__") (by rw[gh,U8];kernel_rfl) (by k_is) (by k_is) (by k_is) (by first|exact .inl (by k_is)|exact .inr (by k_is)) (by rw[mz];kernel_rfl)
def zU:rh table "set_iterator.__next__"=some J0.«set_iterator.__next__»:=ua (by kernel_rfl)
def DT:rh table "set.__iter__"=some J0.«frozenset.__iter__»:=entryFor_alias (id':="frozenset.__iter__") (by kernel_rfl) rfl (by k_is) (by kernel_rfl)
def EF(a:f9):zc "set_iterator.__next__" {[a],[]}:=by
 unfold zc
 kernel_rfl
end
end L2
namespace L2
open PySem
noncomputable def fH(es:Array (Int×f9))(ep:Nat)(t:G8):Obj:={cls:=.type "set",dict:=none,data:=.set es ep t,slots:=#[]}
noncomputable def qH(h:C3)(it:g6)(first:f9)(i:Nat)(a:g6)(n ep:Nat):Prop:=
 ∃o,h.get? it=some o/\o.cls=.type "set_iterator"/\o.data=.fields #[first,.int i 0,.ref a,.int n 0,.int ep 0]
def qH.typeIs{s:i6}{it a:g6}{first:f9}{i n ep:Nat}(x:qH s.heap it first i a n ep):s.TypeIs (.ref it) "set_iterator":=let ⟨o,c,b,_⟩:=x;{o,c,b}
section
variable {prog:m9}{w:w6}{A:B2}{E:f9->i6->Prop}{s:i6}
def vU(f:s.TypeIs (.ref it) "set_iterator")(h:j0 (j8 prog w) A.in1 (J0.«set_iterator.__next__» {[.ref it],[]}) (fun c b=>∃v,c=.done (.ret v)/\Q (some v) b) (fun e b=>j0 (j8 prog w) A (do if ←isInstance e (.type "StopIteration") then L3 none else throw e) Q E b) s):
  j0 (j8 prog w) A (S9 (.ref it)) Q E s:=by
 unfold S9;have g:j0 (j8 prog w) A (callSpecial? (.ref it) (K5 "__next__")) (fun r b=>∃v,r=some v/\Q (some v) b) (fun e b=>j0 (j8 prog w) A (do if ←isInstance e (.type "StopIteration") then L3 none else throw e) Q E b) s:=
  jl (name:=K5 "__next__") f jP (P7 jP f zU (K0 h (fun c b ⟨v,e,q⟩=>{v,e,v,rfl,q}) fun _ _ e=>e) (EF _))
 refine e9 (iu (K0 g (fun r b m=>?_) fun e b i=>i));obtain ⟨v,rfl,q⟩:=m;exact i8 q
def MS(b:s.TypeIs e "StopIteration")(h:Q none s):j0 (j8 prog w) A (do if ←isInstance e (.type "StopIteration") then L3 none else throw e) Q E s:=by refine e9 (jk b isSubtype_stop ?_);exact i8 h
def GC{c:Type}{Q:c->i6->Prop}(f:A.handled=none)(h:∀e h',(∀b o,s.heap.get? b=some o->h'.get? b=some o)->Y3 {s with heap:=h'} e "StopIteration"->E e {s with heap:=h'}):
  j0 (j8 prog w) A (do jo (←tj (.type "StopIteration") []):Sem c) Q E s:=by
 refine e9 ?_;simp only[tj,newTuple];refine e9 (M0 ?_ (by size_fits));refine e9 (m:=firstArgMember _ _) (wpAny_of_eq (a:=M7) (by first|rfl|(simp only[firstArgMember];rfl)) ?_);refine M0 ?_ (by size_fits);simp only[jo];refine e9 (wpAny_handled ?_);rw[f];refine e9 (i8 (wpAny_throw ?_));exact h (.ref _) _ (fun b o e=>i4 _ (i4 _ e)) {_,o0 _ rfl,rfl}
variable {a it:g6}{es:Array (Int×f9)}{ep i:Nat}{t:G8}{first:f9}
def vS{Q:Fin->i6->Prop}(g:qH s.heap it first i a es.size ep)(b:s.heap.get? a=some (fH es ep t))(f:t.fits es.size=true)
  (h:j0 (j8 prog w) A (if let .int slot _:=first then do
    match ←ki a slot.toNat i ep with
   |some (x,next)=>
     O2 (.ref it) 0 (D4 next)
     O2 (.ref it) 1 (D4 ((i:Int)+1))
     ret x
   |none=>O2 (.ref it) 2 .none;jo (←tj (.type "StopIteration") [])
   else do
    let some places ←oe first|em "internal:set_iterator"
    match places[i]? with
   |some (.int place _)=>
     let x ←kh a place.toNat ep
     O2 (.ref it) 1 (D4 ((i:Int)+1))
     ret x
   |some _=>em "internal:set_iterator"
    | none=>O2 (.ref it) 0 (D4 0);O2 (.ref it) 2 .none;jo (←tj (.type "StopIteration") [])) Q E s) :
  j0 (j8 prog w) A (J0.«set_iterator.__next__» {[.ref it],[]}) Q E s:=by
 obtain ⟨o,q,B,c⟩:=g;unfold J0.«set_iterator.__next__»;refine e9 (m:=slotArgs _ _ _) (i8 ?_);refine e9 (wpAny_fieldsOf q c ?_);dsimp only;refine e9 (Aw b rfl f ?_);rw[if_neg (by simp)];exact h
def CI(h:C3)(c:h.get? it=some o)(b:o.data=.fields vs):(h.update it (Obj.mapFields (·.setIfInBounds k v))).get? it=some (o.mapFields (·.setIfInBounds k v)):=
 J1 _ c (Obj.isFreed_of_fields (P6 b _))
def PR{tp:g6}{places:List Nat}{p:Nat}{x:Int×f9}{Q:Option f9->i6->Prop}(f:qH s.heap it (.ref tp) i a es.size ep)(g:s.heap.get? a=some (fH es ep t))(m:t.fits es.size=true)(I:it≠a)(J:it≠tp)(H:∃o k,s.heap.get? tp=some o/\o.data=.seq (places.map fun j=>D4 (j:Nat)).toArray k)(hp:places[i]?=some p)(K:es[p]?=some x)(h:∀h',qH h' it (.ref tp) (i+1) a es.size ep->Q4 it s.heap h'->Q (some x.2) {s with heap:=h'}):j0 (j8 prog w) A (S9 (.ref it)) Q E s:=by
  refine vU f.typeIs (vS f g m ?_);obtain ⟨o,q,G,c⟩:=f;obtain ⟨N,M,C,D⟩:=H;show j0 (j8 prog w) A.in1 (do
        let some places ←oe (.ref tp)|em "internal:set_iterator"
        match places[i]? with
       |some (.int b _)=>
          let x ←kh a b.toNat ep
          O2 (.ref it) 1 (D4 ((i:Int)+1))
          ret x
       |some _=>em "internal:set_iterator"
        | none=>O2 (.ref it) 0 (D4 0);O2 (.ref it) 2 .none;jo (←tj (.type "StopIteration") [])) _ _ s
  unfold oe;refine e9 (e9 (ig C ?_));rw[D];refine i8 ?_;have B:(places.map fun j=>D4 (j:Nat)).toArray[i]?=some (D4 (p:Nat)):=by simp[hp]
  dsimp only;rw[B];show j0 (j8 prog w) A.in1 (do
          let x ←kh a ((p:Int)).toNat ep
          O2 (.ref it) 1 (D4 ((i:Int)+1))
          ret x) _ _ s
  unfold kh;refine e9 (e9 (V0 g rfl m ?_));dsimp only;rw[if_neg (by simp),ic,K];refine i8 ?_;refine e9 (Y7 q c (by simp) ?_);refine i8 {_,rfl,h _ {_,CI s.heap q c,(pj ..).trans G,?_} (E8 ..)};rw[P6 c];simp[D4]
def UW{tp:g6}{places:List Nat}{Q:Option f9->i6->Prop}(M:A.handled=none)(g:qH s.heap it (.ref tp) i a es.size ep)(J:s.heap.get? a=some (fH es ep t))(K:t.fits es.size=true)(N:∃o k,s.heap.get? tp=some o/\o.data=.seq (places.map fun j=>D4 (j:Nat)).toArray k)(hp:places[i]?=none)(h:∀h',C3.ExtBut it s.heap h'->Q none {s with heap:=h'}):j0 (j8 prog w) A (S9 (.ref it)) Q E s:=by
  refine vU g.typeIs (vS g J K ?_);obtain ⟨o,q,P,f⟩:=g;obtain ⟨S,R,G,H⟩:=N;show j0 (j8 prog w) A.in1 (do
        let some places ←oe (.ref tp)|em "internal:set_iterator"
        match places[i]? with
       |some (.int c _)=>
          let x ←kh a c.toNat ep
          O2 (.ref it) 1 (D4 ((i:Int)+1))
          ret x
       |some _=>em "internal:set_iterator"
        | none=>O2 (.ref it) 0 (D4 0);O2 (.ref it) 2 .none;jo (←tj (.type "StopIteration") [])) _ _ s
  unfold oe;refine e9 (e9 (ig G ?_));rw[H];refine i8 ?_;have C:(places.map fun j=>D4 (j:Nat)).toArray[i]?=none:=by simpa using hp
  dsimp only;rw[C];refine e9 (Y7 q f (by simp) ?_);have D:=CI (k:=0) (v:=D4 0) s.heap q f;refine e9 (Y7 D (P6 f _) (by simp) ?_);refine GC (by simpa using M) fun e h' k I=>?_;refine MS I (h h' fun b O m B=>k b O ?_);exact (D5 _ _ (u7 m)).trans ((D5 _ _ (u7 m)).trans B)
def AR{slot next:Nat}{Q:Option f9->i6->Prop}(c:qH s.heap it (.int slot 0) i a es.size ep)(m:s.heap.get? a=some (fH es ep t))(B:t.fits es.size=true)(hn:∀(A:B2)(E:f9->i6->Prop)(Q:Option (f9×Nat)->i6->Prop),Q (some (x,next)) s->j0 (j8 prog w) A (ki a slot i ep) Q E s)(h:∀h',qH h' it (.int next 0) (i+1) a es.size ep->Q4 it s.heap h'->Q (some x) {s with heap:=h'}):j0 (j8 prog w) A (S9 (.ref it)) Q E s:=by
  refine vU c.typeIs (vS c m B ?_);obtain ⟨o,g,q,b⟩:=c;show j0 (j8 prog w) A.in1 (do
        match ←ki a ((slot:Int)).toNat i ep with
       |some (x,next)=>
          O2 (.ref it) 0 (D4 next)
          O2 (.ref it) 1 (D4 ((i:Int)+1))
          ret x
        | none=>O2 (.ref it) 2 .none;jo (←tj (.type "StopIteration") [])) _ _ s
  rw[ic];refine e9 (hn _ _ _ ?_);refine e9 (Y7 g b (by simp) ?_);have f:=CI (k:=0) (v:=D4 next) s.heap g b;refine e9 (Y7 f (P6 b _) (by simp) ?_);refine i8 {_,rfl,h _ {_,CI _ f (P6 b _),(pj ..).trans ((pj ..).trans q),?_} ((E8 ..).trans (E8 ..))};rw[P6 (P6 b _)];simp[D4]
def GD{slot:Nat}{Q:Option f9->i6->Prop}(D:A.handled=none)(c:qH s.heap it (.int slot 0) i a es.size ep)(m:s.heap.get? a=some (fH es ep t))(C:t.fits es.size=true)(hn:∀(A:B2)(E:f9->i6->Prop)(Q:Option (f9×Nat)->i6->Prop),Q none s->j0 (j8 prog w) A (ki a slot i ep) Q E s)(h:∀h',C3.ExtBut it s.heap h'->Q none {s with heap:=h'}):j0 (j8 prog w) A (S9 (.ref it)) Q E s:=by
  refine vU c.typeIs (vS c m C ?_);obtain ⟨o,G,I,B⟩:=c;show j0 (j8 prog w) A.in1 (do
        match ←ki a ((slot:Int)).toNat i ep with
       |some (x,next)=>
          O2 (.ref it) 0 (D4 next)
          O2 (.ref it) 1 (D4 ((i:Int)+1))
          ret x
        | none=>O2 (.ref it) 2 .none;jo (←tj (.type "StopIteration") [])) _ _ s
  rw[ic];refine e9 (hn _ _ _ ?_);refine e9 (Y7 G B (by simp) ?_);refine GC (by simpa using D) fun e h' k g=>?_;refine MS g (h h' fun b H q f=>k b H ?_);exact (D5 _ _ (u7 q)).trans f
end
end L2
namespace L2
open PySem
section
variable {prog:m9}{w:w6}{A:B2}{E:f9->i6->Prop}{s:i6}{a it:g6}{es:Array (Int×f9)}{ep i n:Nat}{t:G8}
def qA(h:Q (w.params.followText "set-order") s):j0 (j8 prog w) A setsByText Q E s:=by unfold setsByText;exact e9 (sy (i8 h))
def BF(f:w.params.followText "set-order"=true)(b:s.heap.get? a=some (fH es ep t))(c:t.fits es.size=true)(h:Q (((oh (w.params.setOrder a ep) es)[i]?).map fun e=>(e.2,slot)) s):j0 (j8 prog w) A (ki a slot i ep) Q E s:=by unfold ki;refine e9 (V0 b rfl c ?_);dsimp only;refine e9 (qA ?_);rw[f,if_pos rfl,if_neg (by simp)];unfold setWalk;refine e9 (e9 (V0 b rfl c ?_));dsimp only;refine e9 (qA ?_);rw[f,if_pos rfl];exact e9 (sy (i8 (i8 h)))
def HJ(m:w.params.followText "set-order"=false)(g:t.led=true)(c:(!t.plain&&decide (es.size>1))=false)(b:s.heap.get? a=some (fH es ep t))(f:t.fits es.size=true)(h:Q (match es[L1 t.place slot]?,t.place[L1 t.place slot]? with|some (_,x),some j=>some (x,j+1)|_,_=>none) s):j0 (j8 prog w) A (ki a slot i ep) Q E s:=by unfold ki;refine e9 (V0 b rfl f ?_);dsimp only;refine e9 (qA ?_);rw[m,if_neg j7];show j0 (j8 prog w) A (if (!t.plain&&decide (es.size>1))=true then _ else _) Q E s;rw[if_neg (by rw[c];exact j7)];refine e9 ?_;show j0 (j8 prog w) A (if (!t.led&&!es.isEmpty)=true then em "set:maker-not-led" else L3 ()) _ _ s;rw[if_neg (by rw[g];simp)];exact i8 (i8 h)
structure wH(prog:m9)(w:w6)(A:B2)(it:g6)(fp:List g6)(ord:List f9)(St:Nat->C3->Prop):Prop where
 ws:Walks prog w A it fp [it] ord.length (fun i v=>ord[i]?=some v) St
 ty:∀i (s:i6),St i s.heap->s.TypeIs (.ref it) "set_iterator"
def CJ(f:qH s.heap it first i a n ep)(h:Q (.ref it) s)(slot:Slot "set_iterator" "__iter__" "set_iterator.__iter__")(b:rh table "set_iterator.__iter__"=some J0.«dict_keyiterator.__iter__»)(c:zc "set_iterator.__iter__" {[.ref it],[]}):j0 (j8 prog w) A (wl (.ref it)) Q E s:=by refine qx f.typeIs slot (P7 slot f.typeIs b ?_ c);show j0 _ _ (ret (.ref it)) _ _ s;exact i8 {_,rfl,"set_iterator",_,f.typeIs,jP.lookup,h}
end
def mV:Slot "set_iterator" "__iter__" "set_iterator.__iter__":=
 .of (owner:="set_iterator") (n:="__iter__") (by rw[gh,U8];kernel_rfl) (by k_is) (by k_is) (by k_is) (by first|exact .inl (by k_is)|exact .inr (by k_is)) (by rw[mz];kernel_rfl)
def lY:rh table "set_iterator.__iter__"=some J0.«dict_keyiterator.__iter__»:=entryFor_alias (id':="dict_keyiterator.__iter__") (by kernel_rfl) rfl (by k_is) (by kernel_rfl)
def nO(a:f9):zc "set_iterator.__iter__" {[a],[]}:=by
 unfold zc
 kernel_rfl
section
variable {prog:m9}{w:w6}{A:B2}{E:f9->i6->Prop}{s:i6}{a it:g6}{es:Array (Int×f9)}{ep i n:Nat}{t:G8}
def qH.at(x:qH h it first i a n ep)(e:∀o,h.get? it=some o->h'.get? it=some o):qH h' it first i a n ep:=let ⟨o,b,r⟩:=x;{o,e _ b,r}
def PD(J:A.handled=none)(D:a≠it)(G:w.params.followText "set-order"=true)(m:t.fits es.size=true):
  wH prog w A it [it,a] ((oh (w.params.setOrder a ep) es).toList.map (·.2)) (fun i h=>qH h it (.int (0:Nat) 0) i a es.size ep/\h.get? a=some (fH es ep t)) where
 ws:={
  sub:=fun b c=>by simp at c;simp[c]
  frame:=fun _ _ _ st hk=>{st.1.at fun o e=>hk it (by simp) o e,hk a (by simp) _ st.2}
  item:=fun i s Q E K st f=>by
   have g:i<(oh (w.params.setOrder a ep) es).size:=by simpa using K
   refine AR (slot:=0) (next:=0) (x:=((oh (w.params.setOrder a ep) es)[i]).2) st.1 st.2 m (fun A E Q q=>BF G st.2 m (by simpa[g] using q)) fun B C H=>?_;exact f _ B s.toks (by simp[g]) {C,(H.2 a D).trans st.2} fun b o c e=>(H.2 b (by simpa using c)).trans e
  done:=fun s Q E st f=>by refine GD (slot:=0) J st.1 st.2 m (fun A E Q q=>BF G st.2 m (by simpa using q)) fun B I=>?_;exact f B s.toks fun b o c e=>I b o (by simpa using c) e
  self:=fun _ _ _ _ st f=>CJ st.1 f mV lY (nO _)}
 ty:=fun _ _ st=>st.1.typeIs
def SY(S:A.handled=none)(K:a≠it)(O:w.params.followText "set-order"=false)(N:t.led=true)(M:(!t.plain&&decide (es.size>1))=false)(U:IW t.place)(B:t.fits es.size=true):
  wH prog w A it [it,a] (es.toList.map (·.2)) (fun i h=>(∃slot:Nat,qH h it (.int slot 0) i a es.size ep/\L1 t.place slot=i)/\h.get? a=some (fH es ep t)) where
 ws:={
  sub:=fun b g=>by simp at g;simp[g]
  frame:=fun _ _ _ ⟨⟨G,st,r⟩,c⟩ hk=>{{G,st.at fun o e=>hk it (by simp) o e,r},hk a (by simp) _ c}
  item:=fun i s Q E T st m=>by
   obtain ⟨⟨G,f,H⟩,c⟩:=st;have C:i<es.size:=by simpa using T
   have D:i<t.place.size:=by have:=B;unfold G8.fits at this;simp at this;lia
   refine AR (slot:=G) (next:=t.place[i]+1) (x:=es[i].2) f c B (fun A E Q q=>HJ O N M c B ?_) fun I J P=>?_
   ·rw[H,K6 C,K6 D];exact q
   ·exact m _ I s.toks (by simp[C]) {{_,J,KW U D},(P.2 a K).trans c} fun b o g e=>(P.2 b (by simpa using g)).trans e
  done:=fun s Q E st m=>by
   obtain ⟨⟨G,f,H⟩,c⟩:=st;rw[j6,m6]at f H;refine GD (slot:=G) S f c B (fun A E Q q=>HJ O N M c B ?_) fun I R=>?_
   ·rw[H,Array.getElem?_eq_none (k7 _)];exact q
   ·exact m I s.toks fun b o g e=>R b o (by simpa using g) e
  self:=fun _ _ _ _ ⟨⟨_,st,_⟩,_⟩ m=>CJ st m mV lY (nO _)}
 ty:=fun _ _ ⟨⟨_,st,_⟩,_⟩=>st.typeIs
def IY{tp:g6}{places:List Nat}(M:A.handled=none)(B:a≠it)(C:tp≠it)(J:t.fits es.size=true)(hp:∀p∈places,p<es.size):
  wH prog w A it [it,a,tp] (places.map fun p=>((es[p]?).getD (0,.none)).2) (fun i h=>qH h it (.ref tp) i a es.size ep/\h.get? a=some (fH es ep t)/\∃o k,h.get? tp=some o/\o.data=.seq (places.map fun j=>D4 (j:Nat)).toArray k) where
 ws:={
  sub:=fun b m=>by simp at m;simp[m]
  frame:=fun _ _ _ ⟨st,c,o,k,e,d⟩ hk=>{st.at fun o e=>hk it (by simp) o e,hk a (by simp) _ c,o,k,hk tp (by simp) _ e,d}
  item:=fun i s Q E N st q=>by
   have g:i<places.length:=by simpa using N
   have D:=hp _ (O8 g);obtain ⟨f,c,o,k,e,d⟩:=st;refine PR (p:=places[i]) (x:=es[places[i]]) f c J B.symm C.symm {o,k,e,d} (by simp[g]) (by simp[D]) fun G H I=>?_;exact q _ G s.toks (by simp[g,D]) {H,(I.2 a B).trans c,o,k,(I.2 tp C).trans e,d} fun b o m e=>(I.2 b (by simpa using m)).trans e
  done:=fun s Q E st q=>by obtain ⟨f,c,o,k,e,d⟩:=st;rw[j6]at f;refine UW M f c J {o,k,e,d} (by simp) fun G K=>?_;exact q G s.toks fun b o m e=>K b o (by simpa using m) e
  self:=fun _ _ _ _ st q=>CJ st.1 q mV lY (nO _)}
 ty:=fun _ _ st=>st.1.typeIs
end
end L2
namespace L2
open PySem
def zN{c:Type}(es:Array c)(d:c):(y9 es.size).map (fun p=>(es[p]?).getD d)=es.toList:=by
 apply List.ext_getElem
 ·simp
 ·intro i b f;simp at b f⊢;simp[b]
section
variable {prog:m9}{w:w6}{A A₂:B2}{E:f9->i6->Prop}{s:i6}{a it:g6}{es:Array (Int×f9)}{ep i:Nat}{t:G8}
def AT(b:s.heap.get? a=some (fH es ep t)):s.TypeIs (.ref a) "set":={_,b,rfl}
def XV(N:A₂.handled=none)(g:s.heap.get? a=some (fH es ep t))(G:t.fits es.size=true)(O:Tb w t es.size)(B:es.size<=n7)
  (h:∀it h' d fp ord St,wH prog w A₂ it fp ord St->ord.Perm (es.toList.map (·.2))->St 0 h'->(∀b o,s.heap.get? b=some o->h'.get? b=some o)->(∀b∈fp,(b=a∨s.heap.objs.size<=b)/\b<h'.objs.size)->it∈fp->it≠a ->
   Q (.ref it) {s with heap:=h',drawn:=d}):j0 (j8 prog w) A (wl (.ref a)) Q E s:=by
 have T:=AT g;have c:a<s.heap.objs.size:=p7 g;refine qx T F.slot_set_iter (P7 F.slot_set_iter T DT ?_ (F.args_set_iter_1 _));unfold J0.«frozenset.__iter__»;refine e9 (m:=J0.Frozenset.slot0 _ _) (i8 ?_);refine e9 ?_;show j0 _ _ (do return (←setEntries a).size) _ _ s;refine e9 (Aw g rfl G (i8 ?_));refine e9 ?_;unfold setDrawn;refine e9 (V0 g rfl G ?_);dsimp only;refine e9 (qA (i8 ?_));have f:∀(first:f9)(H:i6),H.heap.get? a=some (fH es ep t)->(∀(S:Q (.ref H.heap.objs.size) {H with heap:=H.heap.push {cls:=.type "set_iterator",data:=.fields #[first,.int (0:Nat) 0,.ref a,.int es.size 0,.int ep 0]}}),
   j0 (j8 prog w) A.in1 (do ret (←newFields "set_iterator" [first,D4 0,.ref a,D4 es.size,D4 (←setEpoch a)])) (fun f U=>∃v,f=.done (.ret v)/\∃R r,U.TypeIs v R/\ke (.type R) "__next__"=L3 (some r)/\Q v U) E H):=fun first H I S=>by
  refine e9 (wpAny_setEpoch_of I rfl G ?_);refine e9 (M0 (i8 {_,rfl,"set_iterator",_,{_,o0 _ rfl,rfl},jP.lookup,?_}));exact S
 by_cases D:w.params.followText "set-order"=true
 ·rw[D,if_neg (by simp)];refine e9 (i8 (f _ s g ?_));have W:=PD (prog:=prog) (w:=w) (A:=A₂) (a:=a) (it:=s.heap.objs.size) (es:=es) (ep:=ep) (t:=t) N (q7 c) D G;refine h _ (s.heap.push _) s.drawn _ _ _ W ?_ {{_,o0 _ rfl,rfl,rfl},i4 _ g} (fun b o e=>i4 _ e) (fun b B=>?_) (by simp) (C6 c)
  ·exact (QD _ es).map _
  ·rw[L5];simp at B;rcases B with rfl|rfl
   ·exact {.inr (k7 _),M3 _}
   ·exact {.inl rfl,B5 c}
 ·have C:w.params.followText "set-order"=false:=by simpa using D
  rw[C];have J:t.led=true:=by rw[O.1,C];rfl
  show j0 _ _ (if (!false&&(!t.plain&&decide (es.size>1)))=true then _ else _) _ _ s;by_cases I:(!t.plain&&decide (es.size>1))=false
  ·have M:(!false&&(!t.plain&&decide (es.size>1)))=false:=by rw[I];rfl
   rw[if_neg (by rw[M];exact j7)];refine e9 (i8 (f _ s g ?_));have W:=SY (prog:=prog) (w:=w) (A:=A₂) (a:=a) (it:=s.heap.objs.size) (es:=es) (ep:=ep) (t:=t) N (q7 c) C J I O.2.1 G;refine h _ (s.heap.push _) s.drawn _ _ _ W (.refl _) {{0,{_,o0 _ rfl,rfl,rfl},KU O.2.1},i4 _ g} (fun b o e=>i4 _ e) (fun b B=>?_) (by simp) (C6 c);rw[L5];simp at B;rcases B with rfl|rfl
   ·exact {.inr (k7 _),M3 _}
   ·exact {.inl rfl,B5 c}
  ·have M:(!false&&(!t.plain&&decide (es.size>1)))=true:=by rw[Bool.not_false,Bool.true_and];simpa using I
   rw[if_pos M];refine e9 (BE es.size (y9 es.size) s _ (by simp) fun K d hp=>?_);unfold newTuple;refine e9 (M0 ?_ ?hs)
   case hs=>show (ka (fun(i:Nat)=>D4 i) K).toArray.size<=n7;have:=hp.length_eq;simp at this⊢;lia
   refine f (.ref s.heap.objs.size) _ (i4 _ g) ?_;have P:∀p∈K,p<es.size:=fun p Y=>by simpa using hp.mem_iff.mp Y
   have W:=IY (prog:=prog) (w:=w) (A:=A₂) (a:=a) (it:=(s.heap.push {cls:=.type "tuple",data:=.seq (ka (fun(i:Nat)=>D4 i) K).toArray}).objs.size) (tp:=s.heap.objs.size) (es:=es) (ep:=ep) (t:=t) (places:=K) N
    (by rw[L5];exact q7 (B5 c)) (by rw[L5];exact q7 (M3 _)) G P
   refine h _ _ d _ _ _ W ?_ {{_,o0 _ rfl,rfl,rfl},i4 _ (i4 _ g),_,0,i4 _ (o0 _ rfl),rfl} (fun b o e=>i4 _ (i4 _ e)) (fun b B=>?_) (by simp) (by rw[L5];exact C6 (B5 c))
   ·have q:=hp.map (fun p=>((es[p]?).getD (0,.none)).2);have X:(y9 es.size).map (fun p=>((es[p]?).getD (0,.none)).2)=es.toList.map (·.2):=by
     have:=congrArg (ka (·.2)) (zN es (0,M7));rw[R5]at this;exact this
    rw[X]at q;exact q
   ·rw[L5,L5];simp at B;rcases B with rfl|rfl|rfl
    ·exact {.inr (R6 _),M3 _}
    ·exact {.inl rfl,B5 (B5 c)}
    ·exact {.inr (k7 _),B5 (M3 _)}
end
end L2
namespace L2
open PySem
def FB:splitId "set.__len__"=some ("set","__len__"):=by kernel_rfl
def Ac:isSubtype (.type "set") (.type "set")=L3 true:=by rw[mz];kernel_rfl
section
variable {prog:m9}{w:w6}{A A₂:B2}{E:f9->i6->Prop}{s:i6}{a it:g6}{es:Array (Int×f9)}{ep:Nat}{t:G8}
def YA(c:s.heap.get? a=some (fH es ep t))(h:Q false s):j0 (j8 prog w) A (O0 (.ref a)) Q E s:=by unfold O0;have b:=AT c;refine e9 (gg b F.slot_set_len.lookup ?_);dsimp only;rw[FB];dsimp only;refine e9 (jk b Ac ?_);rw[if_neg (by simp)];show j0 (j8 prog w) A (if true=true then _ else _) Q E s;rw[if_pos rfl];refine e9 (Y6 b ?_);exact i8 h
def IG(hh:A.handled=none)(P:s.heap.get? a=some (fH es ep t))(hf:t.fits es.size=true)(ht:Tb w t es.size)(C:es.size<=n7)(h:∀vs h' d tk,vs.Perm (es.toList.map (·.2))->(∀b o,s.heap.get? b=some o->h'.get? b=some o)->s.heap.objs.size<=h'.objs.size->Q vs {s with heap:=h',drawn:=d,toks:=tk}):j0 (j8 prog w) A (ri (.ref a)) Q E s:=by
 have N:a<s.heap.objs.size:=p7 P;unfold ri;refine e9 (ml (C1 ld ?_));rw[z9 lc _];show j0 _ A.in1 (yx [] >>= fun l=>again (.builtin "list.__iadd__" {[l,.ref a],[]})) _ _ s;refine e9 (M0 ?_);refine i8 {F0 U7 _,C1 qp ?_};rw[z9 U7 _];generalize O:s.heap.objs.size=S at *;have g0:(s.heap.push {cls:=.type "list",data:=.seq ([]:List f9).toArray}).get? S=some {cls:=.type "list",data:=.seq ([]:List f9).toArray}:=O▸o0 _ rfl;have f:∀b o,s.heap.get? b=some o->(s.heap.push {cls:=.type "list",data:=.seq ([]:List f9).toArray}).get? b=some o:=fun b o e=>i4 _ e;have z0:(s.heap.push {cls:=.type "list",data:=.seq ([]:List f9).toArray}).objs.size=S+1:=by rw[L5,O]
 generalize s.heap.push {cls:=.type "list",data:=.seq ([]:List f9).toArray}=h0 at g0 f z0⊢;show j0 _ A.in1 (K8 (.ref S) (.ref a) (.ref S)) _ _ _;unfold K8;have T:Y3 {s with heap:=h0} (.ref a) "set":={_,f _ _ P,rfl}
 refine e9 (Y6 T ?_);have h1:L7 (.ref S) (.ref a)=false:=by simp[L7];exact C6 N
 have h2:(P0 "set"==P0 "list")=false:=by decide
 have R:(P0 "set"==P0 "tuple")=false:=by decide
 simp only[h1,h2,R,uw,J6,if_false];refine e9 (XV (A₂:=A.in1) (by simpa using hh) (show (i6.heap {s with heap:=h0}).get? a=_ from f _ _ P) hf ht C fun it h' d fp g St W hp st kp G Z Y=>?_);have hz:g.length=es.size:=by have:=hp.length_eq;simpa using this
 have U:h'.get? a=some (fH es ep t):=kp _ _ (f _ _ P);have gS:h'.get? S=some {cls:=.type "list",data:=.seq ([]:List f9).toArray}:=kp _ _ g0;have K:S∉fp:=fun D=>by
  rcases (G S D).1 with e|e
  ·exact C6 N e
  ·have e:S+1<=S:=z0▸e;exact Nat.not_succ_le_self _ e
 refine e9 (E9 (YA U ?_));show j0 _ A.in1 (if (false||_)=true then _ else _) _ _ _;rw[if_pos (by first|rfl|decide)];refine e9 (L9 ?_);refine e9 ?_;show j0 _ A.in1 (jm S (·.push .none) >>= fun _=>jm S (·.pop)) _ _ _;refine e9 (U2 gS rfl ?_);have H:=J1 (A8 (·.push M7)) gS rfl;refine U2 H rfl ?_;have I:=J1 (A8 (·.pop)) H rfl;have B:∀b o,b≠S->h'.get? b=some o->((h'.update S (A8 (·.push M7))).update S (A8 (·.pop))).get? b=some o:=
  fun b o C e=>(D5 _ _ (u7 C)).trans ((D5 _ _ (u7 C)).trans e)
 generalize (h'.update S (A8 (·.push M7))).update S (A8 (·.pop))=R at I B ⊢;refine i8 {F0 R4 _,zz W.ws.toS (by lia) S K _ g.length 0 _ _ _ rfl (w4 _)
  (W.ws.frame 0 h' R st fun b C o e=>B b o (fun z=>K (z▸C)) e) I (ItemsOf.nil _) fun s' c c' D J m=>?_}
 show j0 _ A (load S >>= _) _ _ s';refine e9 (ig J ?_);refine i8 ?_;obtain ⟨h4,g4,d4,t4,o4⟩:=s';have eg:g4=s.gens:=D.gens;have ed:d4=d:=D.drawn;have eo:o4=s.os:=D.os;subst eg ed eo;have ev:c.toList=g:=by
  apply gt;intro j;by_cases hj:j<c.size
  ·have:=m.2 j c[j] (by simp[hj]);rw[this];simp[hj]
  ·have e1:c.toList[j]?=none:=by simp;lia
   have q:g[j]?=none:=by have:=m.1;simp;lia
   rw[e1,q]
 rw[ev];refine h g h4 d4 t4 hp (fun b o e=>?_) (M5 (p7 J));have M:b≠S:=q7 (O▸p7 e);have X:b≠it:=fun z=>by
  subst z;rcases (G b Z).1 with q|q
  ·exact Y q
  ·have q:S+1<=b:=z0▸q;have e3:b<S:=O▸p7 e;exact om _ (j3 e3 (Nat.le_of_succ_le q))
 exact D.heap b o (by simp[M,X]) (B b o M (kp _ _ (f _ _ e)))
end
end L2
namespace L2
open PySem
noncomputable def JA(prog:m9)(w:w6):KeyKind prog w Str where
 is:=O4
 hash:=hashStr w
 inj:=f9.isStrOf_inj
 byValue:=fun k v h=>by obtain ⟨t,rfl⟩:=O3 h;rfl
 pyHash:=fun hv h=>by obtain ⟨t,rfl⟩:=O3 hv;exact sx h
 eqBool:=fun hu hv h=>by obtain ⟨t,rfl⟩:=O3 hu;obtain ⟨u,rfl⟩:=O3 hv;exact wpAny_eqBool_str h
 «strs»:=fun k x t v h=>by obtain ⟨u,e⟩:=O3 h;cases e;cases v <;> rfl
noncomputable def EU:f9->Str
|.str x _=>x
|_=>⟨#[]⟩
noncomputable def jD(w:w6)(h:C3)(a:g6)(xs:List Str):Prop:=
 ∃es ep t,h.get? a=some (fH es ep t)/\(∀e∈es.toList,∃y u,e=(hashStr w y,eh y u))/\es.toList.map (fun e=>EU e.2)=xs/\xs.Nodup/\es.size<og/\t.fits es.size=true/\Tb w t es.size
def jD.at(x:jD w h a xs)(e:∀o,h.get? a=some o->h'.get? a=some o):jD w h' a xs:=
 let ⟨c,b,t,g,r⟩:=x;{c,b,t,e _ g,r}
section
variable {prog:m9}{w:w6}{A:B2}{E:f9->i6->Prop}{s:i6}{a:g6}
def Mt(U:jD w s.heap a xs)(hb:xs.length+1<og)(N:y∈xs->Q false s)(O:y∉xs->∀h' xs',Q4 a s.heap h'->xs'.Perm (xs++[y])->jD w h' a xs'->Q true {s with heap:=h'}):j0 (j8 prog w) A (yr a (.str y tk) (hashStr w y)) Q E s:=by
 obtain ⟨D,ep,t,g,f,c,H,S,R,T⟩:=U;have hl:xs.length=D.size:=by rw[←c];simp
 have P:ElemsOf (JA prog w) D.toList:=fun e b=>by obtain ⟨z,u,rfl⟩:=f e b;exact {{z,by show O4 z (.str z u)=true;simp[O4],rfl},rfl}
 have i:∀e∈D.toList,((JA prog w).is y e.2=true↔EU e.2=y):=fun e b=>by
  obtain ⟨z,u,rfl⟩:=f e b;constructor
  ·intro q;obtain ⟨u',W⟩:=O3 (show O4 y (.str z u)=true from q);cases W;rfl
  ·intro q;have q:z=y:=q;subst q;show O4 z (.str z u)=true;simp[O4]
 refine ZC (knd:=JA prog w) (k:=y) rfl (by show O4 y (.str y tk)=true;simp[O4]) g {rfl,rfl,rfl} rfl P (by lia) R T (fun ⟨e,b,q⟩=>N ?_) fun B h' o Y C X M hp G I=>O ?_ h' (o.toList.map fun e=>EU e.2) X ?_ {o,C,Y,M,?_,rfl,?_,?_,G,I}
 ·rw[←c];exact w8.mpr {e,b,(i e b).mp q}
 ·intro J;rw[←c]at J;obtain ⟨e,b,q⟩:=w8.mp J;have:=B e b;rw[(i e b).mpr q]at this;cases this
 ·have q:=hp.map fun e=>EU e.2;rw[B6,c]at q;exact q
 ·intro e b;rcases u9.mp (hp.mem_iff.mp b) with q|q
  ·exact f e q
  ·rw[i9]at q;exact {y,tk,q}
 ·have q:=hp.map fun e=>EU e.2;rw[B6,c]at q;refine q.nodup_iff.mpr (Z3.mpr {H,by simp,fun z K Z m=>?_});have m:Z=y:=by simpa[EU] using m
  subst m;rintro rfl;rw[←c]at K;obtain ⟨e,b,q⟩:=w8.mp K;have:=B e b;rw[(i e b).mpr q]at this;cases this
 ·have:=hp.length_eq;simp at this;lia
end
section
variable {prog:m9}{w:w6}{A:B2}{R:Result->i6->Prop}{I:g6}{fp wr:List g6}{G:Array GenState->Array GenState->Prop}{n:Nat}{P:Nat->f9->Prop}{St:Nat->i6->Prop}
def qQ:rh table "set.update.loop"=some J0.«set.update.loop»:=ua (by kernel_rfl)
def iO:plainId "set.update.loop"=true:=by k_is
def Dd(W:WalksS prog w A.in1 I fp wr G n P St)(S:g6)(M:S∉fp)(c:Nat->Str)(O:∀i v,P i v->∃t,v=.str (c i) t)(E:n+1<og):
  ∀(k i:Nat)(s:i6)(xs:List Str),n-i=k->i<=n->St i s->jD w s.heap S xs->xs.length<=i->(∀z,z∈xs↔∃j,j<i/\c j=z) ->
   (∀f m,Moved (S::wr) G s f->jD w f.heap S m->(∀z,z∈m↔∃j,j<n/\c j=z)->R (.ok (.ret .none)) f) ->
   X2 (j8 prog w) A (.builtin "set.update.loop" {[.ref S,.ref I],[]}) R s:=by
 have N:S∉wr:=fun h=>M (W.sub _ h);have D:∀b∈wr,b∈S::wr:=fun b E=>E4 _ E;intro k
 induction k with
|zero=>
  intro i s xs hk hi C T hl Y Q;have:i=n:=by lia
  subst this;refine C1 qQ ?_;rw[z9 iO _];show j0 _ A.in1 (S9 (.ref I) >>= _) _ _ s;refine e9 (W.done s _ _ C fun f H=>i8 (Q f xs (H.mono D) (T.at fun o e=>H.heap S _ N e) Y))
|succ k ih=>
  intro i s xs hk hi C T hl Y Q;have X:i<n:=by lia
  refine C1 qQ ?_;rw[z9 iO _];show j0 _ A.in1 (S9 (.ref I) >>= _) _ _ s;refine e9 (W.item i s _ _ X C fun v f hP B H=>?_);obtain ⟨tk,rfl⟩:=O i v hP;have K:jD w f.heap S xs:=T.at fun o e=>H.heap S _ N e;show j0 _ A.in1 (kj [eh (c i) tk] (setAdd S (.str (c i) tk)) >>= _) _ _ f;refine e9 (E9 ?_);unfold setAdd;refine E9 (e9 (sx ?_));have go:∀(J:i6)(g:List Str),Moved (S::wr) G s J->St (i+1) J->jD w J.heap S g->g.length<=i+1->(∀z,z∈g↔z∈xs∨z=c i)->X2 (j8 prog w) A (.builtin "set.update.loop" {[.ref S,.ref I],[]}) R J:=fun J g Z b' t2 l2 m2=>by
   refine ih (i+1) J g (by lia) (by lia) b' t2 l2 (fun z=>?_) fun s3 c' a' t3 m3=>Q s3 c' (Moved.trans W.gtrans Z a') t3 m3;rw[m2,Y];constructor
   ·rintro (⟨j,hj,e⟩|rfl)
    ·exact {j,by lia,e}
    ·exact {i,by lia,rfl}
   ·rintro ⟨j,hj,e⟩;by_cases q:j<i
    ·exact .inl {j,q,e}
    ·have:j=i:=by lia
     subst this;exact .inr e.symm
  refine Mt (s:={f with toks:=f.toks+1}) K (by lia) (fun U=>?_) fun d' h' m sb hp ht=>?_
  ·refine i8 {F0 iO _,go _ xs ((H.mono D).then_heap (R6 _) fun b o _ e=>e) ?_ K (by lia) fun z=>{.inl,fun q=>q.elim id fun e=>e▸U}};exact W.frame _ f _ _ B (R6 _) fun b _ o e=>e
  ·refine i8 {F0 iO _,go _ m ((H.mono D).then_heap (R6 _) fun b o E e=>?_) ?_ ht ?_ fun z=>?_}
   ·rw[sb.2 b (fun q:b=S=>E (by rw[q];exact L8))];exact e
   ·exact W.frame _ f _ _ B (R6 _) fun b E o e=>by rw[sb.2 b (fun q:b=S=>M (by rw[←q];exact E))];exact e
   ·have:=hp.length_eq;simp at this;lia
   ·rw[hp.mem_iff];simp
end
end L2
namespace L2
open PySem
section
variable {prog:m9}{w:w6}{A:B2}{E:f9->i6->Prop}{s:i6}
noncomputable abbrev eM(w:w6):Obj:=fH #[] 0 (.fresh 0 0 (!(w.params.followText "set-order")))
def VA(a:f9)(h:Q₁ (.ref s.heap.objs.size) {s with heap:=s.heap.push (eM w)}):
  X2 (j8 prog w) A (.call (.builtin "set.__new__") {[.type "set",a],[]}) (wants Q₁ E) s:=by
 refine codeAny_of_tree ?_;show j0 _ A.in1 (checkBuiltinCall "set.__new__" {[.type "set",a],[]} >>= fun _=>again (.builtin "set.__new__" {[.type "set",a],[]})) _ _ s;refine e9 (wpAny_of_eq (F.newCall_set_1 a) (i8 {F0 F.plain_set_new _,C1 F.entry_set_new ?_}));rw[z9 F.plain_set_new _];unfold J0.«set.__new__» J0.Frozenset.newClass;have b:=sub_set_self;obtain ⟨hp,g,d,tk,c⟩:=s;dsimp only
 wp_walk
 refine sy (i8 ?_);dsimp only;simp only[newObj];exact e9 (wpAny_alloc (i8 (i8 h)))
def PF(g:h.get? a=some (eM w)):jD w h a []:=
 {#[],0,_,g,fun e b=>by simp at b,rfl,nodup_nil,by decide,rfl,rfl,Z9,rfl}
set_option maxRecDepth 100000 in
set_option maxHeartbeats 3200000 in
def PU{l:g6}{items:Array f9}{xs:List Str}{Q:f9->i6->Prop}(hh:A.handled=none)(hl:s.heap.IsList l items)(hi:∀(i:Nat)(v:f9),items[i]?=some v->∃t,v=.str (xs.getD i ⟨#[]⟩) t)(m:items.size=xs.length)(U:xs.length+1<og)(h:∀h' tk ys,jD w h' s.heap.objs.size ys->(∀z,z∈ys↔z∈xs)->(∀b o,b<s.heap.objs.size->s.heap.get? b=some o->h'.get? b=some o)->Q (.ref s.heap.objs.size) {s with heap:=h',toks:=tk}):
  j0 (j8 prog w) A (jt (.type "set") [.ref l]) Q E s:=by
 obtain ⟨c,tl,k'⟩:=W0.mro;have e':=W0.made;have n':=W0.sub;refine wf (codeAny_of_tree ?_);show j0 _ _ (callAny (.type "set") _) _ _ _;refine i8 {Bg.quiet_builtin _ (by k_is),C1 F.entry_type_call ?_};rw[B2.under_plain (weight_type_call_type "set" [.ref l] []) rfl];have h1:=W0.notType;have h2:=W0.canCreate;have q':=F.typeCall_set_1 (.ref l)
 repeat (any_goals (first|assumption|wp_step))
 refine gu (VA (.ref l) (E:=E) (Q₁:=fun S q=>S=.ref s.heap.objs.size/\q={s with heap:=s.heap.push (eM w)}) {rfl,rfl}) fun r q hr=>?_;cases r with
|error e=>exact hr
|ok fl=>
  cases fl with
 |ret S=>
   obtain ⟨rfl,rfl⟩:=hr;have hS:(s.heap.push (eM w)).get? s.heap.objs.size=some (eM w):=o0 _ rfl;have hT:Y3 {s with heap:=s.heap.push (eM w)} (.ref s.heap.objs.size) "set":={_,hS,rfl}
   have r':=W0.init.lookup;have p':=W0.init.bind (.ref s.heap.objs.size)
   repeat (any_goals (first|assumption|wp_step))
   refine gu (codeAny_call_builtin (R:=wants (fun r B=>r=.none/\∃h' tk ys,B={s with heap:=h',toks:=tk}/\jD w h' s.heap.objs.size ys/\(∀z,z∈ys↔z∈xs) /\
     (∀b o,b<s.heap.objs.size->s.heap.get? b=some o->h'.get? b=some o)) E) W0.init.plain F.entry_set_init (check_set_init_1 hT ?_)) fun T B f=>?_
   ·obtain ⟨ol,O,G,nl,H⟩:=hl;obtain ⟨o',D,f',g⟩:=ol;simp only at G H;subst G;subst H;have P:(s.heap.push (eM w)).get? l=some {cls:=.type "list",dict:=D,data:=.seq items nl,slots:=g}:=i4 _ O;have m':=F.sub_list_set;have l':=F.sub_list_frozenset;have t':(P0 "list"==P0 "dict")=false:=by decide
    have J:(s.heap.push (eM w)).IsList l items:={_,P,rfl,nl,rfl}
    unfold J0.«set.__init__» noKeywords J0.Frozenset.updateFrom;generalize X:wl=PI
    wp_walk
    subst X;refine qy J ?_;refine e9 (ml ?_);have K:l<s.heap.objs.size:=p7 O;have c':A.in1.in1.in1.handled=none:=by simp[hh]
    have zP:(s.heap.push (eM w)).objs.size=s.heap.objs.size+1:=L5 ..;have N:l≠(s.heap.push (eM w)).objs.size:=by rw[zP];exact q7 (B5 K)
    have Z:s.heap.objs.size∉[(s.heap.push (eM w)).objs.size,l]:=by rw[zP];simp only[x6,ew,or_false,not_or];exact {q7 (M3 _),C6 K}
    refine Dd ((Walks.list c' _ l N items).toS) s.heap.objs.size Z (fun i=>xs.getD i ⟨#[]⟩) hi (by rw[m];exact U) (items.size-0) 0 _ [] (by lia) (w4 _)
     {{_,o0 _ rfl,rfl,rfl},(J.push _)} (PF (i4 _ hS)) (k7 _) (fun z=>by simp) fun s' ys W Y M=>?_
    obtain ⟨h',g',d',j',i'⟩:=s';have eg:g'=s.gens:=W.gens;have ed:d'=s.drawn:=W.drawn;have eo:i'=s.os:=W.os;subst eg ed eo;refine i8 ?_;refine i8 {rfl,h',j',ys,rfl,Y,fun z=>?_,fun b o U e=>?_}
    ·rw[M,m];constructor
     ·rintro ⟨j,I,rfl⟩;have:xs.getD j ⟨#[]⟩=xs[j]:=by simp[List.getD,I]
      rw[this];exact O8 I
     ·intro hz;obtain ⟨j,I,e⟩:=lu hz;exact {j,I,by simp[List.getD,I,e]}
    ·have a':b≠s.heap.objs.size:=q7 U;have b':b≠(s.heap.push (eM w)).objs.size:=by rw[zP];exact q7 (B5 U)
     exact W.heap b o (by simp only[x6,ew,or_false,not_or];exact {a',b'}) (i4 _ (i4 _ e))
   ·cases T with
   |error e=>exact f
   |ok C=>
     cases C with
    |ret r=>
      obtain ⟨rfl,h',tk,ys,rfl,q1,q2,q3⟩:=f
      repeat (any_goals (first|assumption|wp_step))
      exact h _ _ _ q1 q2 q3
    |_=>exact f.elim
 |_=>exact hr.elim
end
end L2
namespace L2
open PySem PyProof.Rows
theorem wM:∀{vs:List f9} ,(∀v∈vs,∃y u,v=.str y u)->ow vs (vs.map EU)
|[],_=>.nil
|v::vs,h=>by obtain ⟨y,u,rfl⟩:=h v (L8 ..);exact .cons y u (wM fun x b=>h x (E4 _ b))
section
variable {prog:m9}{w:w6}{A:B2}{E:f9->i6->Prop}{s:i6}
def qV(K:xs.length<64)(M:∀(A':B2)(Q':List f9->i6->Prop),A'.handled=A.handled->(∀vs h' d tk,(∃B,ow vs B/\B.Perm xs)->(∀b o,s.heap.get? b=some o->h'.get? b=some o)->s.heap.objs.size<=h'.objs.size->Q' vs {s with heap:=h',drawn:=d,toks:=tk})->j0 (j8 prog w) A' (ri (.ref a)) Q' E s)(h:∀h' d tk L its ys n,s.heap.objs.size<=L->ow its ys->ys.Perm xs->yq ys=true->h'.get? L=some (seqObj "list" its.toArray n)->(∀b o,s.heap.get? b=some o->h'.get? b=some o)->Q (.ref L) {s with heap:=h',drawn:=d,toks:=tk}):
  j0 (j8 prog w) A (jt (.builtin "sorted") [.ref a]) Q E s:=by
 refine Calls.call_function_entry kind_sorted plain_sorted entry_sorted (args_sorted1 _) ?_;unfold J0.«sorted»;refine e9 (m:=checkCount "sorted" 1 1 _) (i8 ?_);refine e9 (M _ _ (by simp) fun vs f d tk ⟨B,g,hp⟩ kp q=>?_);have S:vs.length=xs.length:=by rw[←hp.length_eq,←g.strs,j6]
 refine e9 (xw ?_ (by rw[B8];lia));have i:(f.push (seqObj "list" vs.toArray 0)).get? f.objs.size=some (seqObj "list" vs.toArray 0):=o0 _ rfl;show j0 _ _ _ _ _ {s with heap:=f.push (seqObj "list" vs.toArray 0),drawn:=d,toks:=tk};refine e9 (E9 (P7 slot_list_sort {_,i,rfl} entry_list_sort (list_sort_treeK strKind_oneLt i g.keysOf (fun G H iV e=>keyKind_strs (by rw[←e];exact g)) (by lia) fun C I J=>{_,rfl,?_}) (args_list_sort _)));refine i8 {_,rfl,?_};obtain ⟨ys,O,P,R⟩:=sorted_out_str g I J;obtain ⟨e,N⟩:=sortedHeap_at (vs:=vs) (out:=(arrOf C).map (·.2)) i;refine h _ d tk f.objs.size _ ys e q O (P.trans hp) R (by rw[jx];exact N) fun b o D=>?_;have c:=p7 (kp b o D);rw[sortedHeap_old (q7 c) (by rw[qh];exact B5 c)];exact i4 _ (kp b o D)
def PN(H:A.handled=none)(M:jD w s.heap a xs)(c:xs.length<64)(h:∀h' d tk L its ys n,s.heap.objs.size<=L->ow its ys->ys.Perm xs->yq ys=true->h'.get? L=some (seqObj "list" its.toArray n)->(∀b o,s.heap.get? b=some o->h'.get? b=some o)->Q (.ref L) {s with heap:=h',drawn:=d,toks:=tk}):
  j0 (j8 prog w) A (jt (.builtin "sorted") [.ref a]) Q E s:=by
 refine qV c (fun O P C q=>?_) h;obtain ⟨S,R,t,g,f,B,I,m,G,J⟩:=M;refine IG (C.trans H) g G J (rg m) fun N h' d tk hp kp i=>q N h' d tk {_,wM fun v K=>?_,?_} kp i
 ·obtain ⟨e,D,rfl⟩:=w8.mp (hp.mem_iff.mp K);obtain ⟨y,u,rfl⟩:=f e D;exact {y,u,rfl}
 ·have:=hp.map EU;rw[R5]at this;rw[←B];exact this
end
end L2
namespace L2
open PySem PyProof.Rows
def FC:splitId "dict.__len__"=some ("dict","__len__"):=by kernel_rfl
def Ad:isSubtype (.type "dict") (.type "dict")=L3 true:=by rw[mz];kernel_rfl
section
variable {prog:m9}{w:w6}{K:Type}[DecidableEq K]{knd:KeyKind prog w K}{A:B2}{E:f9->i6->Prop}{s:i6}{a:g6}{kvs:List (K×f9)}{ep:Nat}
def RA(b:s.TypeIs (.ref a) "dict")(h:Q false s):j0 (j8 prog w) A (O0 (.ref a)) Q E s:=by unfold O0;refine e9 (gg b F.slot_dict_len.lookup ?_);dsimp only;rw[FC];dsimp only;refine e9 (jk b Ad ?_);rw[if_neg (by simp)];show j0 (j8 prog w) A (if true=true then _ else _) Q E s;rw[if_pos rfl];refine e9 (Y6 b ?_);exact i8 h
def DW(hh:A.handled=none)(hd:(a==sysModules)=false)(hm:s.heap.DictAt knd a kvs ep)(G:kvs.length<=n7)(h:∀vs h' tk,vs.length=kvs.length->(∀(i:Nat)(v:f9),vs[i]?=some v->∃k x,kvs[i]?=some (k,x)/\knd.is k v=true)->(∀b o,s.heap.get? b=some o->h'.get? b=some o)->s.heap.objs.size<=h'.objs.size->Q vs {s with heap:=h',toks:=tk}):
  j0 (j8 prog w) A (ri (.ref a)) Q E s:=by
 have m:a<s.heap.objs.size:=hm.lt_size;unfold ri;refine e9 (ml (C1 ld ?_));rw[z9 lc _];show j0 _ A.in1 (yx [] >>= fun l=>again (.builtin "list.__iadd__" {[l,.ref a],[]})) _ _ s;refine e9 (M0 ?_);refine i8 {F0 U7 _,C1 qp ?_};rw[z9 U7 _];generalize T:s.heap.objs.size=S at *;have Y:(s.heap.push {cls:=.type "list",data:=.seq ([]:List f9).toArray}).get? S=some {cls:=.type "list",data:=.seq ([]:List f9).toArray}:=T▸o0 _ rfl;have B:∀b o,s.heap.get? b=some o->(s.heap.push {cls:=.type "list",data:=.seq ([]:List f9).toArray}).get? b=some o:=fun b o e=>i4 _ e;have P:(s.heap.push {cls:=.type "list",data:=.seq ([]:List f9).toArray}).objs.size=S+1:=by rw[L5,T]
 generalize s.heap.push {cls:=.type "list",data:=.seq ([]:List f9).toArray}=c at Y B P ⊢;have q:c.DictAt knd a kvs ep:=hm.keep B;show j0 _ A.in1 (K8 (.ref S) (.ref a) (.ref S)) _ _ _;unfold K8;have U:Y3 {s with heap:=c} (.ref a) "dict":=q.dictOf.typeIs;refine e9 (Y6 U ?_);have h1:L7 (.ref S) (.ref a)=false:=by simp[L7];exact C6 m
 have h2:(P0 "dict"==P0 "list")=false:=by decide
 have R:(P0 "dict"==P0 "tuple")=false:=by decide
 simp only[h1,h2,R,uw,J6,if_false];refine e9 (wpAny_pyIter_dict (s:={s with heap:=c}) hd q ?_);have X:a≠c.objs.size:=by rw[P];exact q7 (B5 m)
 have W:=Walks.dictKeys (prog:=prog) (w:=w) (knd:=knd) (A:=A.in1) (by simpa using hh) c.objs.size a X kvs ep;have st:(c.push {cls:=.type "dict_keyiterator",data:=.fields #[.ref a,.int (0:Nat) 0,.int kvs.length 0,.int ep 0]}).IsKeyIter c.objs.size a 0 kvs.length ep /\
   (c.push {cls:=.type "dict_keyiterator",data:=.fields #[.ref a,.int (0:Nat) 0,.int kvs.length 0,.int ep 0]}).DictAt knd a kvs ep:={{_,o0 _ rfl,rfl,rfl},q.push _}
 have C:∀b o,c.get? b=some o->(c.push {cls:=.type "dict_keyiterator",data:=.fields #[.ref a,.int (0:Nat) 0,.int kvs.length 0,.int ep 0]}).get? b=some o:=fun b o e=>i4 _ e;show j0 _ A.in1 _ _ _ {s with heap:=c.push {cls:=.type "dict_keyiterator",data:=.fields #[.ref a,.int (0:Nat) 0,.int kvs.length 0,.int ep 0]}};generalize c.push {cls:=.type "dict_keyiterator",data:=.fields #[.ref a,.int (0:Nat) 0,.int kvs.length 0,.int ep 0]}=h' at st C ⊢;have Z:h'.get? S=some {cls:=.type "list",data:=.seq ([]:List f9).toArray}:=C _ _ Y;have N:S∉[c.objs.size,a]:=by rw[P];simp only[x6,ew,or_false,not_or];exact {q7 (M3 _),C6 m}
 refine e9 (E9 (RA (show Y3 {s with heap:=h'} (.ref a) "dict" from st.2.dictOf.typeIs) ?_));show j0 _ A.in1 (if (false||_)=true then _ else _) _ _ _;rw[if_pos (by first|rfl|decide)];refine e9 (L9 ?_);refine e9 ?_;show j0 _ A.in1 (jm S (·.push .none) >>= fun _=>jm S (·.pop)) _ _ _;refine e9 (U2 Z rfl ?_);have I:=J1 (A8 (·.push M7)) Z rfl;refine U2 I rfl ?_;have J:=J1 (A8 (·.pop)) I rfl;have D:∀b o,b≠S->h'.get? b=some o->((h'.update S (A8 (·.push M7))).update S (A8 (·.pop))).get? b=some o:=
  fun b o G e=>(D5 _ _ (u7 G)).trans ((D5 _ _ (u7 G)).trans e)
 generalize (h'.update S (A8 (·.push M7))).update S (A8 (·.pop))=R at J D ⊢;refine i8 {F0 R4 _,zz W.toS G S N _ kvs.length 0 _ _ _ rfl (w4 _)
  (W.frame 0 h' R st fun b G o e=>D b o (fun z=>N (z▸G)) e) J (ItemsOf.nil _) fun s' H c' O M f=>?_}
 show j0 _ A (load S >>= _) _ _ s';refine e9 (ig M ?_);refine i8 ?_;obtain ⟨h4,g4,d4,t4,o4⟩:=s';have eg:g4=s.gens:=O.gens;have ed:d4=s.drawn:=O.drawn;have eo:o4=s.os:=O.os;subst eg ed eo;refine h H.toList h4 t4 (by rw[m6];exact f.1) (fun i v hv=>f.2 i v (by simpa using hv)) (fun b o e=>?_) (M5 (p7 M));have g:b<S:=T▸p7 e;exact O.heap b o (by
  rw[P];simp only[x6,ew,or_false,not_or];exact {q7 g,q7 (B5 g)}) (D b o (q7 g) (C _ _ (B _ _ e)))
end
end L2
namespace L2
open PySem PyProof.Rows
def DJ:ke (.type "list") "keys"=L3 none:=by rw[gh,U8];kernel_rfl
def qR:rh table "dict.update.loop"=some J0.«dict.update.loop»:=ua (by kernel_rfl)
def iP:plainId "dict.update.loop"=true:=by k_is
section
variable {prog:m9}{w:w6}{A:B2}{E:f9->i6->Prop}{s:i6}
def QW(m:s.heap.get? l=some {cls:=.type "list",data:=.seq xs k})(B:A.handled=none)(h:∀h' tk,(∀b o,s.heap.get? b=some o->h'.get? b=some o)->Q none {s with heap:=h',toks:=tk}):j0 (j8 prog w) A (getAttr? (.ref l) "keys") Q E s:=by
 obtain ⟨hp,g,d,tk,C⟩:=s;have i:∀c,({hp,g,d,c,C}:i6).TypeIs (.ref l) "list":=fun _=>{_,m,rfl}
 have D:=sub_AttributeError;have G:=il.lookup;have H:=il.bind (.ref l);have I:=am_list_getattr_none;unfold getAttr? getAttrBy? getAttrBy
 repeat (any_goals (first|assumption|exact i _|((with_reducible show j0 _ _ (jt (f9.builtin "list.__getattribute__") _ _) _ _ _);refine call_meets il (i _) am_entry_list_getattribute (F.args_list_getattribute_2 _ _) (meets_getattribute_miss_list l xs k #[] (K5 "keys") _ DJ (by decide)) {m,by simpa using B,fun h' c e f=>?_})|wp_step))
 obtain ⟨K,M,J⟩:=f.there;show j0 _ _ (getattributeRaised _ _ _ _ _ _ _) _ _ _;unfold getattributeRaised
 repeat (any_goals (first|assumption|wp_step))
 exact h h' c fun b o q=>f.keeps b o q
variable {K:Type}[DecidableEq K]{knd:KeyKind prog w K}
noncomputable def wA(kvs:List (K×f9))(ps:List (K×f9)):List (K×f9):=ps.foldl (fun m p=>tf m p.1 p.2) kvs
def QF{R:Result->i6->Prop}{I l D:g6}{items:Array f9}{ps:List (K×f9)}(hh:A.handled=none)(hI:l≠I)(B:D≠I)(b':D≠l)(O:items.size=ps.length)(e':∀(h:C3)(i:Nat)(v:f9),items[i]?=some v->(∀b o,s.heap.get? b=some o->b≠I->b≠D->h.get? b=some o)->∃a c k x,v=.ref a/\h.IsTuple a #[c,x]/\ps[i]?=some (k,x)/\knd.is k c=true)(hsz:ps.length<=1000):
  ∀(n i:Nat)(h:C3)(tk:Nat)(kvs:List (K×f9)),items.size-i=n->i<=items.size->h.IsListIter I l i->h.IsList l items->h.DictOf knd D kvs->kvs.length<=i->(∀b o,s.heap.get? b=some o->b≠I->b≠D->h.get? b=some o) ->
   (∀h' g',h'.DictOf knd D (wA kvs (ps.drop i))->(∀b o,s.heap.get? b=some o->b≠I->b≠D->h'.get? b=some o)->R (.ok (.ret .none)) {s with heap:=h',toks:=g'}) ->
   X2 (j8 prog w) A (.builtin "dict.update.loop" {[.ref D,.ref I,D4 (i:Nat),.none],[]}) R {s with heap:=h,toks:=tk}:=by
 intro n
 induction n with
|zero=>
  intro i h tk kvs hn hi C S X hk kp hR;have:i=items.size:=by lia
  subst this;refine C1 qR ?_;rw[z9 iP _];show j0 _ A.in1 (S9 (.ref I) >>= _) _ _ _;refine e9 (zd (by simpa using hh) C S (by simp) fun h' eb=>?_);show j0 _ A.in1 (J0.Dict.addKeywords D [] >>= _) _ _ _;refine e9 (i8 (i8 (hR h' tk ?_ fun b o e m H=>eb b o m (kp b o e m H))));rw[O,List.drop_length];obtain ⟨o,W,U,g,r⟩:=X;exact {o,W,U,eb _ _ B g,r}
|succ n ih=>
  intro i h tk kvs hn hi C S X hk kp hR;have d':i<items.size:=by lia
  refine C1 qR ?_;rw[z9 iP _];show j0 _ A.in1 (S9 (.ref I) >>= _) _ _ _;obtain ⟨v,hv⟩:∃v,items[i]?=some v:={_,K6 d'}
  refine e9 (yn C S hv fun h' M sb=>?_);have P:∀b o,s.heap.get? b=some o->b≠I->b≠D->h'.get? b=some o:=fun b o e m H=>(sb.2 b m).trans (kp b o e m H);obtain ⟨a,c,k,x,rfl,ht,hp,N⟩:=e' h' i v hv P;have Y:h'.DictOf knd D kvs:=by obtain ⟨o,W,U,g,r⟩:=X;exact {o,W,U,(sb.2 _ B).trans g,r}
  have c':h'.IsList l items:=by obtain ⟨o,g,r⟩:=S;exact {o,(sb.2 _ hI).trans g,r}
  refine e9 (E9 ?_);refine e9 (wpAny_tryCatch (K0 (Q:=fun r s'=>r=[c,x]/\s'={s with heap:=h',toks:=tk}) (E:=fun _ _=>False) ?_ (fun r s' q=>?_) fun _ _ z=>z.elim))
  ·unfold J0.Dict.pairItems;obtain ⟨ot,g,hc,nt,hd⟩:=ht;refine e9 (Y6 (T:="tuple") {ot,g,hc} ?_);rw[if_pos (by decide)];unfold oe;refine e9 (e9 (ig g ?_));rw[hd];exact i8 (i8 {rfl,rfl})
  ·obtain ⟨rfl,rfl⟩:=q;show j0 _ A.in1 (kj [c,x] (dictSet D c x)) _ _ _;refine E9 (wpAny_dictSet_pairs N Y (fun H Z G=>?_) (by rw[B8];lia));have eD:ps.drop i=(k,x)::ps.drop (i+1):=by
    have f:i<ps.length:=by lia
    rw[um f];have:ps[i]=(k,x):=by have:=hp;rw[i7 f]at this;exact l7 this
    rw[this]
   refine i8 {F0 iP _,?_};have:=ih (i+1) H (tk+1) (tf kvs k x) (by lia) (by lia) (by
     obtain ⟨o,g,r⟩:=M;exact {o,(G.2 _ B.symm).trans g,r}) (by
     obtain ⟨o,g,r⟩:=c';exact {o,(G.2 _ b'.symm).trans g,r}) Z (by
     have:(tf kvs k x).length<=kvs.length+1:=by unfold tf;split <;> simp
     lia) (fun b o e m J=>(G.2 b J).trans (P b o e m J)) fun h3 ZM a' f'=>hR h3 ZM (by rw[eD];exact a') f'
   exact this
def KP(hh:A.handled=none)(hl:s.heap.get? l=some {cls:=.type "list",data:=.seq items k})(M:items.size=ps.length)(W:∀(h:C3)(i:Nat)(v:f9),items[i]?=some v->(∀b o,s.heap.get? b=some o->h.get? b=some o)->∃a q k x,v=.ref a/\h.IsTuple a #[q,x]/\ps[i]?=some (k,x)/\knd.is k q=true)(hsz:ps.length<=1000)(h:∀h' tk,h'.DictOf knd s.heap.objs.size (wA [] ps)->(∀b o,s.heap.get? b=some o->h'.get? b=some o)->Q (.ref s.heap.objs.size) {s with heap:=h',toks:=tk}):j0 (j8 prog w) A (jt (.type "dict") [.ref l]) Q E s:=by
 refine callType_codes (Q₁:=fun P B=>P=.ref s.heap.objs.size/\B={s with heap:=s.heap.push {cls:=.type "dict",data:=.dict #[]}}) F.kt_called_dict (F.kt_typeCall_dict_1 _) F.entry_dict_init (kt_code_dict_new _ {rfl,rfl}) ?_;rintro P B ⟨rfl,rfl⟩;have N:l<s.heap.objs.size:=p7 hl;have z0:(s.heap.push {cls:=.type "dict",data:=.dict #[]}).objs.size=s.heap.objs.size+1:=L5 ..;have c:(s.heap.push {cls:=.type "dict",data:=.dict #[]}).DictOf knd s.heap.objs.size []:=C3.DictOf.new s.heap;have m:(s.heap.push {cls:=.type "dict",data:=.dict #[]}).get? l=some {cls:=.type "list",data:=.seq items k}:=i4 _ hl;have O:∀b o,s.heap.get? b=some o->(s.heap.push {cls:=.type "dict",data:=.dict #[]}).get? b=some o:=fun b o e=>i4 _ e;generalize s.heap.push {cls:=.type "dict",data:=.dict #[]}=h0 at z0 c m O ⊢;refine {c.typeIs,F.args_dict_init_2 _ _,?_};unfold J0.«dict.__init__»;refine e9 ?_;unfold J0.Dict.selfAndRest;refine e9 (zi c.typeIs ?_);show j0 _ _ (L3 (s.heap.objs.size,[n9 l])) _ _ _;refine i8 ?_;show j0 _ _ (qc "dict.__init__" s.heap.objs.size (.ref l) [] .none) _ _ _;unfold qc;refine e9 (Y6 (T:="list") {_,m,rfl} ?_);rw[if_pos (by decide)];refine e9 (QW m (by simpa using hh) fun G Z C=>?_);rw[if_pos (by rfl)];refine e9 (L9 ?_);have J:G.get? l=some {cls:=.type "list",data:=.seq items k}:=C _ _ m;have H:G.DictOf knd s.heap.objs.size []:=by obtain ⟨o,es,ep,g,r⟩:=c;exact {o,es,ep,C _ _ g,r}
 have f:s.heap.objs.size<G.objs.size:=by obtain ⟨o,es,ep,g,r⟩:=H;exact p7 g
 refine e9 (qy {_,J,rfl,k,rfl} ?_);refine i8 {F0 iP _,?_};have q:=QF (A:=A.in1) (knd:=knd) (s:=s) (R:=wants (fun r S=>r=.none/\Q (.ref s.heap.objs.size) S) E) (I:=G.objs.size) (l:=l) (D:=s.heap.objs.size) (items:=items) (ps:=ps) (by simpa using hh) (q7 (jp N f)) (q7 f) (C6 N) M
  (fun h i v hv kp=>W h i v hv fun b o e=>kp b o e (q7 (jp (p7 e) f)) (q7 (p7 e))) hsz items.size 0 (G.push {cls:=.type "list_iterator",data:=.fields #[.ref l,.int 0 0]}) Z [] rfl (w4 _)
  {_,o0 _ rfl,rfl,rfl} {_,i4 _ J,rfl,k,rfl} (H.push _) (w4 _) (fun b o e _ _=>i4 _ (C _ _ (O _ _ e)))
  fun h' Y U X=>{rfl,h h' Y (by simpa using U) fun b o e=>X b o e (q7 (jp (p7 e) f)) (q7 (p7 e))}
 exact q
end
end L2
namespace L2
open PySem PyProof.Rows
section
variable {prog:m9}{w:w6}{K:Type}[DecidableEq K]{knd:KeyKind prog w K}{A:B2}{E:f9->i6->Prop}{s:i6}{d:g6}{kvs:List (K×f9)}{k:K}{key dflt:f9}
def CK(c:knd.is k key=true)(N:s.heap.DictOf knd d kvs)(hsz:kvs.length<=n7)(T:∀v,Y8 kvs k=some v->Q v {s with toks:=s.toks+1})(U:Y8 kvs k=none->∀h',h'.DictOf knd d (kvs++[(k,dflt)])->Q4 d s.heap h'->Q dflt {s with heap:=h',toks:=s.toks+1}):
  j0 (j8 prog w) A (dictSetDefault d key dflt) Q E s:=by
 obtain ⟨o,g,P,G,Y,m,a',Z⟩:=N.mapOf;obtain ⟨o',S,R,H,X,q,hk,hp,hn⟩:=N;rw[G]at H;cases H;rw[m]at q;cases q;have J:g.size<=n7:=by have O:=hp.length;simp at O;lia
 unfold dictSetDefault;refine E9 (e9 (knd.pyHash c ?_));refine e9 (wpAny_dictFind_of (s:={s with toks:=s.toks+1}) c G m hk ?_);have C:(g.findIdx? fun e=>knd.is k e.key)=kvs.findIdx? fun kv=>decide (kv.1=k):=by rw[←hp.findIdx k];obtain ⟨l⟩:=g;simp
 have f:=Z k;rw[findBy_of_findIdx?]at f;cases hi:g.findIdx? fun e=>knd.is k e.key with
|some i=>
  rw[hi]at f;have M:i<g.size:=(Array.findIdx?_eq_some_iff_findIdx_eq.mp hi).1;have B:g[i]?=some g[i]:=K6 M;refine e9 (wpAny_dictEntries (s:={s with toks:=s.toks+1}) G m ?_);rw[B];refine e9 (L9 (i8 (T _ ?_)));rw[←f];simp[B]
|none=>
  rw[hi]at f;have D:k∉kvs.map (·.1):=not_mem_of_findIdx_none (C▸hi);refine e9 (L9 (e9 (wpAny_updateDictKeys (hz:=J) (s:={s with toks:=s.toks+1}) G m (i8 (U f.symm _ {_,_,P+1,J1 _ G (Obj.isFreed_of_dict (yg m _)),
   X.mapDictKeys _,yg m _,hk.push c _,?_,?_} (E8 ..))))))
  ·have:=hp.append c (knd.hash k) dflt;obtain ⟨l⟩:=g;simpa using this
  ·rw[B6,Z3];refine {hn,by simp,fun a W b I=>?_};have I:b=k:=by simpa using I
   subst I;exact fun e=>D (e▸W)
def II(b:knd.is k key=true)(hs:(d==sysModules)=false)(f:s.heap.DictOf knd d kvs)(hsz:kvs.length<=n7)(g:∀v,Y8 kvs k=some v->Q v {s with toks:=s.toks+1})(i:Y8 kvs k=none->∀h',h'.DictOf knd d (kvs++[(k,dflt)])->Q4 d s.heap h'->Q dflt {s with heap:=h',toks:=s.toks+1}):
  j0 (j8 prog w) A (jt (.builtin "dict.setdefault") [.ref d,key,dflt]) Q E s:=by
 refine P7 F.slot_dict_setdefault f.typeIs F.entry_dict_setdefault ?_ (F.args_dict_setdefault_3 _ _ _);unfold J0.«dict.setdefault»;refine e9 ?_;unfold J0.Dict.keyAndDefault;refine e9 (zi f.typeIs ?_);show j0 _ _ (L3 (d,key,some dflt)) _ _ s;refine i8 ?_;show j0 _ _ (if (d==sysModules)=true then _ else _) _ _ s;rw[if_neg (by rw[hs];exact j7)];refine e9 (CK b f hsz (fun v e=>i8 {_,rfl,g v e}) fun e h' c m=>i8 {_,rfl,i e h' c m})
end
end L2
namespace L2
open PySem PyProof.Rows
theorem AZ:∀(p:Str)(l:List Str),risingS p l=true->(p::l).Pairwise fun a b=>a.cps.toList<=b.cps.toList
|p,[],_=>by simp
|p,x::r,h=>by
  have h:(!Spec.ltCps x.cps.toList p.cps.toList&&risingS x r)=true:=h;rw[Y5]at h;have ih:=AZ x r h.2;have f:p.cps.toList<=x.cps.toList:=by have:=h.1;rw[ltCps_eq]at this;exact List.not_lt.mp (by simpa using this)
  refine W5.mpr {fun z c=>?_,ih};rcases x6.mp c with rfl|c
  ·exact f
  ·exact List.le_trans f ((W5.mp ih).1 z c)
theorem PP:∀{l:List Str},yq l=true->l.Pairwise fun a b=>a.cps.toList<=b.cps.toList
|[],_=>by simp
|x::r,h=>AZ x r h
end L2
namespace L2
open PySem PySem.Spec PyProof.Rows
noncomputable def melt(a:g6)(H:Hp):Hp:=fun b=>if b=a then (match H a with|some (.frz _ u)=>some u|o=>o) else H b
def sY(h:b≠a):melt a H b=H b:=by unfold melt;rw[if_neg h]
def DH(h:H a=some (.frz o u)):melt a H a=some u:=by unfold melt;rw[if_pos rfl,h]
def mJ(h:H b=none):melt a H b=none:=by
 unfold melt;split
 ·rename_i e;subst e;rw[h]
 ·exact h
def iX(hn:∀ob u,o≠.frz ob u)(h:H b=some o):melt a H b=some o:=by
 unfold melt;split
 ·rename_i e;subst e;rw[h];cases o <;> first|rfl|exact absurd rfl (hn _ _)
 ·exact h
def HR(h:H a=some (.frz o u)):melt a H=upd H a u:=by
 funext b;by_cases c:b=a
 ·subst c;rw[DH h,aC]
 ·rw[sY c,aX c]
section
variable {X:Cx}{ag:List (g6×Obj)}{σ:St}{H:Hp}{s:i6}{a:g6}
def aY.melt(I:aY X ag σ H s)(B:∀o u,X.H₀ a≠some (.frz o u)):aY X ag σ (L2.melt a H) s:=by
 refine {I.ok,I.os,I.bare,{I.base.keep,I.base.slot,fun b o e n C=>mJ (I.base.free b o e n C),I.base.there,fun b A e=>iX (fun _ _ z=>nomatch z) (I.base.tups b A e),fun b o u e=>?_,fun b D e=>?_},
  I.loc,I.cell,mJ I.free,fun x c e=>mJ (I.freeC x c e),fun p hp=>?_,fun b u e=>?_,I.len}
 ·have g:b≠a:=fun z=>by subst z;exact B _ _ e
  rw[sY g];exact I.base.frzs b o u e
 ·obtain ⟨f,q⟩:=I.base.tbls b D e;exact {f,iX (fun _ _ z=>nomatch z) q}
 ·obtain ⟨e,n,r⟩:=I.pin p hp;exact {e,mJ n,r}
 ·have st:∀{v:HO},dJ X.prog X.w H s.heap b v->dJ X.prog X.w (L2.melt a H) s.heap b v:=fun {v} x=>
   x.stay (fun _ _ _ q=>q) (fun c q=>iX (fun _ _ z=>nomatch z) q) fun c A q=>iX (fun _ _ z=>nomatch z) q
  by_cases g:b=a
  ·subst g;cases q:H b with
  |none=>rw[mJ q]at e;cases e
  |some z=>
    have m:=I.hok b z q;by_cases i:∃o v,z=.frz o v
    ·obtain ⟨o,v,rfl⟩:=i;rw[DH q]at e;cases e;exact st m.2
    ·rw[iX (fun o v w=>i {o,v,w}) q]at e;cases e;exact st m
  ·rw[sY g]at e;exact st (I.hok b u e)
def aY.freeze(I:aY X ag σ H s)(h:H a=some (.dK kvs))(B:s.heap.get? a=some o):aY X ag σ (upd H a (.frz o (.dK kvs))) s:=by
 have D:∀{b:g6}{u:HO},H b=some u->u≠.dK kvs->b≠a:=fun {b u} e z w=>by subst w;rw[h]at e;exact z (l7 e).symm
 have i:∀{b:g6},H b=none->upd H a (.frz o (.dK kvs)) b=none:=fun {b} e=>by rw[aX (fun w=>by subst w;rw[h]at e;cases e)];exact e
 have f:∀{b:g6}{u:HO},H b=some u->u≠.dK kvs->upd H a (.frz o (.dK kvs)) b=some u:=fun {b u} e z=>by rw[aX (D e z)];exact e
 refine {I.ok,I.os,I.bare,{I.base.keep,I.base.slot,fun b o e n C=>i (I.base.free b o e n C),I.base.there,fun b A e=>f (I.base.tups b A e) (fun z=>nomatch z),fun b o u e=>f (I.base.frzs b o u e) (fun z=>nomatch z),fun b E e=>?_},
  I.loc,I.cell,i I.free,fun x c e=>i (I.freeC x c e),fun p hp=>?_,fun b u e=>?_,I.len}
 ·obtain ⟨g,q⟩:=I.base.tbls b E e;exact {g,f q (fun z=>nomatch z)}
 ·obtain ⟨e,n,r⟩:=I.pin p hp;exact {e,i n,r}
 ·have st:∀{v:HO},dJ X.prog X.w H s.heap b v->dJ X.prog X.w (upd H a (.frz o (.dK kvs))) s.heap b v:=fun {v} x=>
   x.stay (fun _ _ _ q=>q) (fun c q=>f q (fun z=>nomatch z)) fun c A q=>f q (fun z=>nomatch z)
  by_cases m:b=a
  ·subst m;rw[aC]at e;cases e;exact {B,st (I.hok b _ h)}
  ·rw[aX m]at e;exact st (I.hok b u e)
end
noncomputable def Na(a:g6)(o:Obj)(kvs:List (aL×V)):It:=
 {fun i H=>H a=some (.frz o (.dK kvs))/\i<kvs.length,fun i H x H'=>H'=H/\∃k v,kvs[i]?=some (k,v)/\x=kV k,fun i H=>H a=some (.frz o (.dK kvs))/\kvs.length<=i}
theorem Gv{κ:Type}:∀{kvs:List (κ×V)}{vs:List (κ×f9)}{i:Nat}{k:κ}{v:V},KV kvs vs->kvs[i]?=some (k,v)->∃u,vs[i]?=some (k,u)
|_,_,_,_,_,.nil,e=>by simp at e
|_,_,0,k,v,.cons (b:=q) r _,e=>by
  simp at e;subst e;exact {q.2,by simp;exact Prod.ext r.1.symm rfl}
|_,_,i+1,k,v,.cons _ t,e=>by obtain ⟨u,h⟩:=Gv (i:=i) (k:=k) (v:=v) t (by simpa using e);exact {u,by simpa using h}
def DM(h:(bS P w).is k u=true):bJ (kV k) u:=by
 rcases dZ h with ⟨i,t,rfl,rfl⟩|⟨x,t,rfl,rfl⟩
 ·exact {t,rfl}
 ·exact {t,rfl}
section
variable {X:Cx}{tg:D9}
def wD(I:aY X ag σ H s)(h:H a=some (.frz o (.dK kvs))):
  (a==sysModules)=false/\∃vs es ep,KV kvs vs/\o.data=.dict es ep/\s.heap.DictAt (bS X.prog X.w) a vs ep:=by
 obtain ⟨g,f⟩:=I.hok a _ h;obtain ⟨_,c,vs,b,i,es,ep,e,r⟩:=f;rw[g]at e;cases e;exact {c,vs,es,ep,b,r.2.1,o,es,g,r}
def PL{P:m9}{w:w6}{K:y8}(a it:g6)(o:Obj)(kvs:List (aL×V)):RW P w K tg (Na a o kvs) [it] it (fun i h=>∃es ep,o.data=.dict es ep/\h.IsKeyIter it a i kvs.length ep) where
 mem:=by simp
 obj:=fun i h st b B=>by
  have e:b=it:=by simpa using B
  subst e;obtain ⟨_,_,_,o,e,c,d⟩:=st;exact {o,e,fun v z=>by rw[d]at z;cases z}
 keep:=fun i h G ⟨es,ep,q,st⟩ k=>{es,ep,q,st.at fun o e=>k it (by simp) o e}
 item:=by
  intro X Z hw Y hc i A s σ H E I J st hg;subst Z hw Y;obtain ⟨ha,M⟩:=hg;obtain ⟨hd,vs,es,ep,m,D,N⟩:=wD I ha;obtain ⟨Q,O,f,st⟩:=st;rw[D]at f;cases f;obtain ⟨R,S,f2,T,U,W⟩:=J it (by simp);obtain ⟨⟨k,v⟩,hx⟩:∃p,kvs[i]?=some p:={_,i7 M}
  obtain ⟨u,hu⟩:=Gv m hx;rw[m.length]at st;refine wpAny_pyNext_dict_item st N hu fun a' G C g sb=>?_;rw[←m.length]at g;have I1:aY X A σ H {s with heap:=G}:=I.turned (t':=s.toks) (fun b o B e=>(sb.2 b B).trans e) R S T U W;obtain ⟨oi,e,c,d⟩:=id g;exact {a',rfl,YF (s:={s with heap:=G}) e c d (by decide) {kV k,H,I1,DM C,{rfl,k,v,hx,rfl},{es,ep,D,g},fun b B=>(J b B).1}}
 done:=by intro X Z hw Y hc i A s σ H E I J st hg;subst Z hw Y;obtain ⟨ha,M⟩:=hg;obtain ⟨hd,vs,es,ep,m,D,N⟩:=wD I ha;obtain ⟨Q,O,f,st⟩:=st;rw[D]at f;cases f;obtain ⟨R,S,f2,T,U,W⟩:=J it (by simp);rw[m.length]at st M;exact wpAny_pyNext_dict_end (I.ok.hd hc) st N (by simpa using M) fun G eb=>{rfl,I.turned (t':=s.toks) (fun b o B e=>eb b o B e) R S T U W}
 self:=fun _ _ _ _ _ ⟨_,_,_,st⟩ h=>wpAny_pyIter_keyiter st h
noncomputable def XZ(a:g6)(tl:TE):TI:=fun σ H R=>tl σ H fun x H1=>x=.ref a/\∃kvs,H1 a=some (.dK kvs)/\∀o,R (Na a o kvs) (upd H1 a (.frz o (.dK kvs)))
def NV(a:g6)(G:PE X l tl):PI X tg l (XZ a tl):=by
 intro c s M H R I h;refine dD (G c s M H _ I h) fun v f ⟨x,N,A,K,J⟩=>?_;obtain ⟨e,m,hk,q⟩:=J;subst e;cases K;obtain ⟨_,E,O,w,o,B,C,g,r⟩:=A.hok a _ hk;have i:=A.freeze hk g;refine wpAny_pyIter_dict E {o,B,g,r} ?_;refine {f.heap.objs.size,[f.heap.objs.size],_,_,_,rfl,i.kept (t':=f.toks) fun b o e=>i4 _ e,PL a _ o m,{B,C,r.2.1,?_},fun b D=>?_,q o}
 ·rw[w.length];exact {_,o0 _ rfl,rfl,rfl}
 ·have e:b=f.heap.objs.size:=by simpa using D
  subst e;exact i.fpOk (k7 _) (i.hok.fresh (k7 _))
noncomputable def Dm(a:g6)(D:gM):gM:={fun σ H=>D.nx σ (melt a H),fun v H=>D.rt v (melt a H),fun σ H=>D.bk σ (melt a H),fun σ H=>D.ct σ (melt a H)}
noncomputable def mO(H:Hp)(a:g6):Prop:=∀o u,H a≠some (.frz o u)
noncomputable def Er(tl:TE)(g:TG)(tb:TS):TS:=fun D σ H=>∃a,mO H a/\Hy (XZ a tl) g tb (Dm a D) σ H
def Bu(hp:PassesOwn (j8 X.prog X.w) X.A X.env X.xe)(E:X.calm=true)(J:PE X iter tl)(G:PG X tg g)(C:zJ X body tb)(hs:∀x,V1 iter X.env x=L3 x:=by intro _;rfl):PS X (.For tg iter body [] pos) (Er tl g tb):=by
 intro i s M H D I h;obtain ⟨a,K,h⟩:=h;have m:∀o u,X.H₀ a≠some (.frz o u):=fun o u e=>K _ _ (I.base.frzs a o u e);refine dD (fZ hp E (NV a J) G C hs i s M H (Dm a D) I h) fun f N q=>?_;cases f with
|next=>obtain ⟨b,B,c,q⟩:=q;exact {b,_,c.melt m,q}
|brk=>obtain ⟨b,B,c,q⟩:=q;exact {b,_,c.melt m,q}
|cont=>obtain ⟨b,B,c,q⟩:=q;exact {b,_,c.melt m,q}
|ret u=>obtain ⟨v,b,B,c,r,q⟩:=q;exact {v,b,_,c.melt m,r,q}
variable {scope:di}{tn names:List Str}{is:List Nat}{elt iter:D9}{ifs:List D9}{pos:Pos}{tl te:TE}{tc:Option TT}{g:TG}
noncomputable def TX(tl:TE)(te:TE)(tc:Option TT)(g:TG)(k:Nat)(is:List Nat):TE:=fun σ H Q=>∃a,mO H a/\EY (XZ a tl) te tc g k is σ H fun v H'=>Q v (melt a H')
def GU(f:rR X scope tn names is)(m:X.calm=true)(B:PE X iter tl)(A:∀C s0 H0 ex,PG (bU X scope (cF X.env names) (tn++names) C s0 H0 ex) tg g)(w:∀C s0 H0 ex,PE (bU X scope (cF X.env names) (tn++names) C s0 H0 ex) elt te)(D:∀C s0 H0 ex,Ef (bU X scope (cF X.env names) (tn++names) C s0 H0 ex) ifs tc)(hs:∀x,V1 iter X.env x=L3 x:=by intro _;rfl):
  PE X (.ListComp elt [{tg,iter,ifs,0}] scope pos) (TX tl te tc g tn.length is):=by
 intro b s G H Q I h;obtain ⟨a,E,h⟩:=h;have i:∀o u,X.H₀ a≠some (.frz o u):=fun o u e=>E _ _ (I.base.frzs a o u e);refine dD (eZ f m (NV a B) A w D hs b s G H _ I h) fun u K ⟨v,J,c,r,q⟩=>{v,_,c.melt i,r,q}
end
section
variable {X:Cx}{ag:List (g6×Obj)}{σ:St}{H:Hp}{s:i6}
def aY.dr(I:aY X ag σ H s)(d:Drawn):aY X ag σ H {s with drawn:=d}:={I.ok,I.os,I.bare,I.base,I.loc,I.cell,I.free,I.freeC,I.pin,I.hok,I.len}
noncomputable def Nl(K:y8)(a:g6):It:=
 {fun i H=>∃xs x,cS K H a xs/\xs[i]?=some x,fun i H v H'=>∃T x,v=.ref T/\H T=none/\H'=upd H T (.tup [.int i,x])/\∀xs,cS K H a xs->xs[i]?=some x,fun i H=>∃xs,cS K H a xs/\xs.length<=i}
def PJ{P:m9}{w:w6}{K:y8}{G:List D9}{k1:Nat}{W:Pos}(a e it:g6)(Q:e≠it):
  RW P w K (.Tuple G k1 W) (Nl K a) [e,it] e (fun i h=>(∃g,IsEnum h e it i g)/\h.IsListIter it a i) where
 mem:=by simp
 obj:=fun i h st b f=>by
  obtain ⟨⟨g,C⟩,o,e1,c,d⟩:=st;rcases x6.mp f with rfl|f
  ·exact {_,C,fun v z=>nomatch z}
  ·have f:b=it:=by simpa using f
   subst f;exact {o,e1,fun v z=>by rw[d]at z;cases z}
 keep:=fun i h h' ⟨⟨g,C⟩,st⟩ k=>{{g,k e (by simp) _ C},st.at fun o q=>k it (by simp) o q}
 item:=by
  intro X hP hw hK B i ag s σ H E I hf st hg;subst hP hw hK;obtain ⟨xs,x,hq,S⟩:=hg;obtain ⟨c',rv,p,hz⟩:=I.list hq;obtain ⟨u,hu,ru⟩:=rv.get S;obtain ⟨⟨g,C⟩,D⟩:=st;obtain ⟨f0,f1,f2,f3,f4,f5⟩:=hf e (by simp);obtain ⟨J,Y,g2,g3,g4,g5⟩:=hf it (by simp);refine wpAny_pyNext_enum_item C D p.isList (by simpa using hu) Q fun h' ho R hT e' hk=>?_;refine {_,rfl,wpAny_letOwnedTupleGo_enum (s:={s with heap:=h',toks:=s.toks+1}) ho fun Z b' sb=>?_};have O:H s.heap.objs.size=none:=I.hok.fresh (k7 _);have N:s.heap.objs.size≠e:=C6 (p7 C);have a':s.heap.objs.size≠it:=by obtain ⟨_,q,_⟩:=D;exact C6 (p7 q)
  have T:∀b o,b≠e->b≠it->s.heap.get? b=some o->Z.get? b=some o:=fun b o n1 n2 q=>(sb.2 b n1).trans (hk b o n1 n2 q);have A:aY X ag σ H {s with heap:=Z,toks:=s.toks+1}:=by
   refine I.step (g':=s.gens) (d':=s.drawn) (t':=s.toks+1) (ch:=[e,it]) (fun b f=>?_) (fun b o _ _ f q _=>T b o (fun z=>f (by simp[z])) (fun z=>f (by simp[z])) q) (fun b o _ _ f q _=>{o.slots,T b o (fun z=>f (by simp[z])) (fun z=>f (by simp[z])) q})
    (fun b o _ _ q=>q) (fun b o f q=>{o,T b o (fun z=>f (by simp[z])) (fun z=>f (by simp[z])) q}) (fun _ _ q=>q) (fun _ _ _ q=>q) (fun _ ps q=>{#[],by simpa using q}) (fun m hm=>?_) ?_ I.bare
   ·rcases x6.mp f with rfl|f
    ·exact {f3,f1,f4,f5}
    ·have f:b=it:=by simpa using f
     subst f;exact {g3,Y,g4,g5}
   ·obtain ⟨o,es,ep,q,r⟩:=hm;exact {o,es,ep,T _ _ (u7 f1) (u7 Y) q,r}
   ·intro b u q;refine (I.hok b u q).stay (fun c v B r=>T c v ?_ ?_ r) (fun _ q=>q) fun _ _ q=>q
    ·rintro rfl;rcases B with rfl|B
     ·rw[f0]at q;cases q
     ·rw[f0]at B;cases B
    ·rintro rfl;rcases B with rfl|B
     ·rw[J]at q;cases q
     ·rw[J]at B;cases B
  have M:Z.get? s.heap.objs.size=some {cls:=.type "tuple",data:=.seq #[.int i s.toks,u]}:=(sb.2 _ N).trans hT;have I2:aY X ag σ (upd H s.heap.objs.size (.tup [.int i,x])) {s with heap:=Z,toks:=s.toks+1}:=by
   have nn:∀{b:g6},b<s.heap.objs.size->H b=none->upd H s.heap.objs.size (.tup [.int i,x]) b=none:=fun {b} f e=>by rw[aX (q7 f)];exact e
   have g:∀{b:g6}{o:HO},H b=some o->upd H s.heap.objs.size (.tup [.int i,x]) b=some o:=fun {b o} e=>by rw[aX (aB e O)];exact e
   refine {A.ok,A.os,A.bare,{A.base.keep,A.base.slot,fun b o q n S=>nn ?_ (A.base.free b o q n S),A.base.there,fun b ys q=>g (A.base.tups b ys q),fun b o v q=>g (A.base.frzs b o v q),fun b ps q=>?_},A.loc,A.cell,nn I.lt A.free,fun y c q=>nn ?_ (A.freeC y c q),fun p hp=>?_,fun b o q=>?_,A.len}
   ·exact j3 (p7 q) I.sz
   ·obtain ⟨U,z⟩:=A.base.tbls b ps q;exact {U,g z}
   ·obtain ⟨v,z⟩:=I.cell y c q;exact z.lt
   ·obtain ⟨z1,z2,z3⟩:=A.pin p hp;exact {z1,nn (p7 (I.pin p hp).1) z2,z3}
   ·by_cases f:b=s.heap.objs.size
    ·subst f;rw[aC]at q;cases q;exact {{by rw[B8];simp,_,M,rfl},[.int i s.toks,u],.cons {_,rfl} (.cons ru .nil),_,M,rfl,_,rfl}
    ·rw[aX f]at q;exact (A.hok b o q).stay (fun _ _ _ z=>z) (fun c z=>g z) fun c ys z=>g z
  exact {.ref s.heap.objs.size,_,I2,rfl,{s.heap.objs.size,x,rfl,O,rfl,fun ys hy=>by rw[I.list_inj hy hq];exact S},{{u,by simpa using b'},R.at fun o q=>(sb.2 it (u7 Q)).trans q},fun b f=>by
   rcases x6.mp f with rfl|f
   ·rw[aX (u7 N)];exact f0
   ·have f:b=it:=by simpa using f
    subst f;rw[aX (u7 a')];exact J}
 done:=by intro X hP hw hK B i ag s σ H E I hf st hg;subst hP hw hK;obtain ⟨xs,hq,S⟩:=hg;obtain ⟨c',rv,p,hz⟩:=I.list hq;obtain ⟨⟨g,C⟩,D⟩:=st;obtain ⟨J,Y,g2,g3,g4,g5⟩:=hf it (by simp);have hl:=rv.length;exact wpAny_pyNext_enum_end (I.ok.hd B) C D p.isList (by simp;lia) fun h' eb=>{rfl,I.turned (t':=s.toks) (fun b o f e=>eb b o f e) J Y g3 g4 g5}
 self:=fun _ _ _ _ _ ⟨⟨_,C⟩,_⟩ h=>wpAny_pyIter_enum C h
noncomputable def Gz(K:y8)(tl:TA):TI:=fun σ H R=>tl σ H fun vs H1=>∃a,vs=[.ref a]/\(∃xs,cS K H1 a xs)/\R (Nl K a) H1
def NU(C:Gl X "enumerate")(D:X.mg "enumerate"=none)(B:PA X [l] tl)(hs:v9 [l] X.env=[(false,K3 l X.env)]:=by rfl):
  PI X (.Tuple elts k1 tpos) (.Call (.Name "enumerate" p) [l] [] pos) (Gz X.K tl):=by
 intro ag s σ H R I h;refine Call_ (lX I C D EA (F6 (dD (B pos ag s σ H _ I h) fun Q g ⟨S,m,c,N,M⟩=>?_) hs rfl));obtain ⟨a,e,⟨T,E⟩,q⟩:=M;subst e;cases N with
|cons r O=>
  cases O;cases r;obtain ⟨J,rv,p,P⟩:=c.list E;refine call_enumerate_list p.isList fun A o i G kp=>?_;refine wpAny_pyIter_enum o ?_;have w:aY X ag σ m {g with heap:=A}:=c.kept (t':=g.toks) kp;refine {_,[g.heap.objs.size+1,g.heap.objs.size],_,_,m,rfl,w,PJ a _ _ (C6 (M3 _)),{{_,o},i},fun b f=>?_,q};rcases x6.mp f with rfl|f
  ·exact c.fpOk (R6 _) (c.hok.fresh (R6 _))
  ·have f:b=g.heap.objs.size:=by simpa using f
   subst f;exact c.fpOk (k7 _) (c.hok.fresh (k7 _))
noncomputable def Dz(w:w6)(a:g6)(xs:List Str):HO:=.ext fun h=>jD w h a xs
theorem tS:∀{xs:List Str}{us:List f9},bH (xs.map V.str) us->ow us xs
|[],_,.nil=>.nil
|x::xs,_,.cons r t=>by obtain ⟨tk,rfl⟩:=r;exact .cons x tk (tS t)
theorem AB:∀{us:List f9}{xs:List Str},ow us xs->bH (xs.map V.str) us
|_,_,.nil=>.nil
|_,_,.cons x t h=>.cons {t,rfl} (AB h)
noncomputable def Qn(w:w6):List V->Hp->VK->Prop:=fun vs H Q=>∃(p:g6)(xs:List Str),vs=[.ref p]/\H p=some (.lst (xs.map V.str))/\xs.length<=4000/\∀(l:g6)(ys:List Str),H l=none->ys.Nodup->(∀z,z∈ys↔z∈xs)->Q (.ref l) (upd H l (Dz w l ys))
def RM(M:X.calm=true):fK X (.type "set") (Qn X.w):=by
 intro ag s σ H vs us Q I r h;obtain ⟨p,A,rfl,hp,Z,q⟩:=h;obtain ⟨u,rfl,S⟩:=r.one;cases S;obtain ⟨z,f,n,rv,c,e⟩:=I.lstM hp;have O:=tS rv;refine PU (items:=f.toArray) (xs:=A) (I.ok.hd M) {_,e,rfl,n,rfl} (fun i v m=>?_) (by rw[l8,←c,j6]) (by unfold og;lia) fun K tk E D N kp=>?_
 ·have m:f[i]?=some v:=by simpa using m
  have J:i<A.length:=by have:=(i5.mp m).1;rw[←c,j6]at this;exact this
  obtain ⟨u,G,R⟩:=rv.get (i:=i) (x:=.str A[i]) (by simp[J]);rw[m]at G;cases G;obtain ⟨t,rfl⟩:=R;exact {t,by simp[List.getD,J]}
 ·have C:E.Nodup:=by obtain ⟨_,_,_,_,_,_,P,_⟩:=D;exact P
  have B:∃o,K.get? s.heap.objs.size=some o:=by obtain ⟨U,T,t,g,_⟩:=D;exact {_,g}
  refine {.ref s.heap.objs.size,_,I.laid (o:=Dz X.w s.heap.objs.size E) (fun b o e=>kp b o (p7 e) e) (k7 _) {D,B,fun W Y x k=>x.at k},rfl,q _ E (I.hok.fresh (k7 _)) C N}
noncomputable def Mw(w:w6)(H:Hp)(p:g6)(xs:List Str):Prop:=H p=some (Dz w p xs)∨H p=some (.lst (xs.map V.str))∨∃kvs:List (aL×V),H p=some (.dK kvs)/\kvs.map (·.1)=xs.map i0
noncomputable def Kc(w:w6):List V->Hp->VK->Prop:=fun vs H Q=>∃(p:g6)(xs:List Str),vs=[.ref p]/\Mw w H p xs/\xs.length<64/\∀(l:g6)(ys:List Str),H l=none->ys.Perm xs->yq ys=true->Q (.ref l) (upd H l (.lst (ys.map V.str)))
def yX(Z:X.calm=true):fK X (.builtin "sorted") (Kc X.w):=by
 intro ag s σ H G E Q I r h;obtain ⟨p,B,rfl,hp,A,q⟩:=h;obtain ⟨u,rfl,ru⟩:=r.one;cases ru;have C:∀m d tk L f c n,s.heap.objs.size<=L->ow f c->c.Perm B->yq c=true->m.get? L=some (seqObj "list" f.toArray n)->(∀b o,s.heap.get? b=some o->m.get? b=some o)->EP X ag σ Q (.ref L) {s with heap:=m,drawn:=d,toks:=tk}:=fun m d tk L f c n U hS W hO g kp=>by
  have I1:=(I.dr d).laid (h':=m) (a:=L) (o:=.lst (c.map V.str)) (t':=tk) kp U {by
   have:=W.length_eq;rw[j6,B8];lia,f,n,AB hS,g}
  exact {.ref L,_,I1,rfl,q L c (I.hok.fresh U) W hO}
 rcases hp with hp|hp|⟨a',hp,hk⟩
 ·exact PN (I.ok.hd Z) (show jD X.w s.heap p B from (I.hok p _ hp).1) A C
 ·obtain ⟨z,f,n,rv,K,e⟩:=I.lstM hp;refine qV A (fun A' Q' T k=>collect_list (vs:=f) {_,e,rfl,n,rfl} ?_ (by rw[←K];exact z)) C;refine k f _ s.drawn s.toks {B,tS rv,.refl _} (fun b o q=>?_) ?_
  ·have hb:b≠s.heap.objs.size:=q7 (p7 q);exact (D5 _ _ (u7 hb)).trans (i4 _ q)
  ·rw[ip,qh];exact R6 _
 ·obtain ⟨z,hd,S,D,N⟩:=yU I.hok hp;obtain ⟨ep,N⟩:=N.dictAt;refine qV A (fun A' Q' T k=>DW (T.trans (I.ok.hd Z)) hd N (by rw[←D.length];exact z) fun G m tk hn hv kp P=>?_) C;refine k G m s.drawn tk {B,?_,.refl _} kp P;have R:B.length=G.length:=by
   have:=congrArg xq hk;rw[j6,j6]at this;rw[hn,←D.length,this]
  have M:∀(i:Nat)(v:f9),G[i]?=some v->∃x t,B[i]?=some x/\v=.str x t:=fun i v e=>by
   obtain ⟨k',x',O,e2⟩:=hv i v e;have J:(S.map (·.1))[i]?=some k':=by rw[t5,O];rfl
   rw[←D.keys,hk,t5]at J;cases e4:B[i]? with
  |none=>rw[e4]at J;cases J
  |some y=>rw[e4]at J;have e5:i0 y=k':=l7 J;subst e5;obtain ⟨t,rfl⟩:=DM e2;exact {y,t,rfl,rfl}
  have go:∀(E:List f9)(c:List Str),c.length=E.length->(∀(i:Nat)(v:f9),E[i]?=some v->∃x t,c[i]?=some x/\v=.str x t)->ow E c:=by
   intro E
   induction E with
  |nil=>
    intro c A _;have:c=[]:=Q1.mp A;subst this;exact .nil
  |cons u E ih=>
    intro c A Y;cases c with
   |nil=>cases A
   |cons y c=>obtain ⟨x,t,O,rfl⟩:=Y 0 u rfl;cases O;exact .cons y t (ih c (by simpa using A) fun i v e=>by simpa using Y (i+1) v (by simpa using e))
  exact go G B R M
noncomputable abbrev EJ(H:Hp):List V->List (aL×V)->Prop:=Paired fun v kv=>∃a,v=.ref a/\H a=some (.tup [kV kv.1,kv.2])
noncomputable def Kf:List V->Hp->VK->Prop:=fun vs H Q=>∃(p:g6)(ts:List V)(kvs:List (aL×V)),vs=[.ref p]/\H p=some (.lst ts)/\EJ H ts kvs/\ts.length<=1000/\∀l:g6,H l=none->Q (.ref l) (upd H l (.dK (gB [] kvs)))
theorem Paired.at{b c:Type}{F:b->c->Prop}:∀{xs:List b}{ys:List c}{i:Nat}{x:b},Paired F xs ys->xs[i]?=some x->∃y,ys[i]?=some y/\F x y
|_,_,_,_,.nil,e=>by simp at e
|_,_,0,_,.cons r _,e=>by simp at e;subst e;exact {_,rfl,r}
|_,_,i+1,x,.cons _ t,e=>by obtain ⟨y,f,g⟩:=Paired.at (i:=i) (x:=x) t (by simpa using e);exact {y,by simpa using f,g}
theorem xU(ok:pL P w H h):∀{i:List V}{kvs:List (aL×V)}{c:List f9},EJ H i kvs->bH i c ->
  ∃ps:List (aL×f9),KV kvs ps/\Paired (fun v p=>∃a f,v=n9 a/\h.IsTuple a #[f,p.2]/\(bS P w).is p.1 f=true) c ps
|_,_,_,.nil,.nil=>{[],.nil,.nil}
|_,_,_,.cons (b:=kv) ⟨a,e,g⟩ t,.cons r C=>by
  obtain ⟨ps,m,o⟩:=xU ok t C;subst e;cases r;obtain ⟨_,c,rv,D⟩:=ok a _ g;cases rv with
 |cons A rv=>
   cases rv with
  |cons B rv=>cases rv;rename_i q E;exact {(kv.1,E)::ps,.cons {rfl,B} m,.cons {a,q,rfl,D,pE A} o}
theorem yH:∀{kvs:List (aL×V)}{ps:List (aL×f9)}{m:List (aL×V)}{n:List (aL×f9)},KV kvs ps->KV m n->KV (gB m kvs) (wA n ps)
|_,_,_,_,.nil,r=>r
|_,_,m,n,.cons (a:=p) (b:=q) ⟨e,rv⟩ t,r=>by show KV (gB (eI m p.1 p.2) _) (wA (tf n q.1 q.2) _);refine yH t ?_;rw[←e];exact r.put p.1 rv
def rO(N:X.calm=true):fK X (.type "dict") Kf:=by
 intro ag s σ H Z Y Q I r h;obtain ⟨p,U,b,rfl,hp,f,P,q⟩:=h;obtain ⟨u,rfl,S⟩:=r.one;cases S;obtain ⟨z,A,n,rv,c,e⟩:=I.lstM hp;obtain ⟨C,K,E⟩:=xU I.hok f rv;have m:A.length=C.length:=E.length;refine KP (knd:=bS X.prog X.w) (ps:=C) (I.ok.hd N) e (by rw[l8];exact m) (fun J i v R kp=>?_) (by rw[←m,←c];exact P) fun J tk O kp=>?_
 ·obtain ⟨y,G,a,B,rfl,T,hk⟩:=Paired.at E (show A[i]?=some v by simpa using R);obtain ⟨o,g,r⟩:=T;exact {a,B,y.1,y.2,rfl,{o,kp _ _ g,r},G,hk}
 ·have D:=yH K (.nil:KV [] []);refine {.ref s.heap.objs.size,_,I.laid (o:=.dK (gB [] b)) kp (k7 _) (yV ?_ (beq_eq_false_iff_ne.mpr (u7 (q7 I.big))) D O),rfl,q _ (I.hok.fresh (k7 _))};have M:=lW b [];have W:U.length=b.length:=f.length;simp at M;rw[B8];lia
end
section
variable {X:Cx}
noncomputable def NJ:V->List V->Hp->VK->Prop:=fun x vs H Q=>∃(a:g6)(kvs:List (aL×V)) (k:aL) (d:V),x=.ref a/\vs=[kV k,d]/\H a=some (.dK kvs)/\kvs.length<=1000/\(∀v,bI kvs k=some v->Q v H)/\(bI kvs k=none->Q d (upd H a (.dK (kvs++[(k,d)]))))
def BG:Nk X "dict.setdefault" NJ:=by
 intro o s W H x U v T Q I N rv h;obtain ⟨a,c,k,d,rfl,rfl,m,R,E,G⟩:=h;cases N;obtain ⟨S,B,rfl,M,A⟩:=bH.two rv;obtain ⟨z,hs,P,g,C⟩:=yU I.hok m;have b:=g.val k;refine II (pE M) hs C (by rw[←g.length];exact z) (fun w e=>?_) fun e D i O=>?_
 ·rw[e]at b;cases f:bI c k with
 |none=>rw[f]at b;exact b.elim
 |some v=>rw[f]at b;exact {v,H,I.tok _,b,E v f}
 ·rw[e]at b;have f:bI c k=none:=by
   cases f:bI c k with
  |none=>rfl
  |some v=>rw[f]at b;exact b.elim
  have J:∃q,D.get? a=some q:=let ⟨q,_,_,K,_⟩:=i;{q,K};refine {d,_,tN (t':=s.toks+1) I (by rw[m];exact N3) O J (yV ?_ hs (show KV (c++[(k,d)]) (P++[(k,B)]) from ?_) i),A,G f}
  ·rw[m8,jg,B8];lia
  ·have:∀{p:List (aL×V)} {q:List (aL×f9)},KV p q->KV (p++[(k,d)]) (q++[(k,B)]):=fun {p q} r=>by
    induction r with
   |nil=>exact .cons {rfl,A} .nil
   |cons r _ ih=>exact .cons r ih
   exact this g
noncomputable def Qm:V->Option Int->Option Int->Hp->VK->Prop:=fun x lo hi H Q=>∃z:Str,x=.str z/\z.length<=n7/\Q (.str (fz z lo hi)) H
def NZ{v:f9}{lo:Option Int}(h:IsPart v lo):∃l:Option (Int×Tok),l.map (·.1)=lo/\v=partValue l:=by
 cases h with
|none=>exact {none,rfl,rfl}
|int i t=>exact {some (i,t),rfl,rfl}
def UT:Nh X Qm:=by
 intro f s K H x v G J lo C D Q I B hs w A h;obtain ⟨z,rfl,m,q⟩:=h;obtain ⟨t,rfl⟩:=B;obtain ⟨l,g,rfl⟩:=NZ w;obtain ⟨u,i,rfl⟩:=NZ A;subst g i;refine {"str",_,F.slot_str_getitem.lookup,typeIs_str _ _ _,wpAny_getItem_str_slice (l:=l) (u:=u) (st:=none) ?_ rfl (post_val_or_str ?_)}
 ·obtain ⟨o,a,b,c⟩:=hs;exact {o,a,b,c}
 ·exact {B9 (wv z _ _) m,fun E k=>{.str _,H,I.tok _,{_,rfl},q}}
end
end L2
namespace L2
section
variable {α:Type}[DecidableEq α]
noncomputable abbrev hZ(α:Type):=α×α×Rat
noncomputable abbrev nU(α:Type):=Rat×Option (Nat×α)
noncomputable abbrev AL(α β:Type):=List (α×β)
noncomputable def aV{β:Type}(l:AL α β)(k:α):Option β:=(l.find? fun kv=>decide (kv.1=k)).map (·.2)
noncomputable def eX{β:Type}(l:AL α β)(k:α)(v:β):AL α β:=if (l.any fun kv=>decide (kv.1=k)) then l.map (fun kv=>if kv.1=k then (kv.1,v) else kv) else l++[(k,v)]
noncomputable def kQ{β:Type}(l:AL α β)(k:α):AL α β:=l.filter fun kv=>decide (kv.1≠k)
def cM{i:Type}{l:AL α i}{k:α}{v:i}(h:aV l k=some v):(k,v)∈l:=by unfold aV at h;rw[A9]at h;obtain ⟨kv,f,g⟩:=h;have c:=List.find?_some f;have m:=List.mem_of_find?_eq_some f;simp at c;obtain ⟨a,b⟩:=kv;simp at g c;subst g c;exact m
def mN{c:Type}{l:AL α c}{k:α}(h:aV l k=none):∀v,(k,v)∉l:=by intro v b;unfold aV at h;rw[Option.map_eq_none_iff,List.find?_eq_none]at h;have:=h _ b;simp at this
def eO{i:Type}{l:AL α i}{k:α}{v:i}(c:(l.map (·.1)).Nodup)(h:(k,v)∈l):aV l k=some v:=by
 cases e:aV l k with
|none=>exact absurd h (mN e v)
|some u=>
  have g:=cM e
  induction l with
 |nil=>cases h
 |cons x r ih=>
   rw[K1,T4]at c;rcases x6.mp h with rfl|f
   ·rcases x6.mp g with b|b
    ·cases b;rfl
    ·exact absurd (w8.mpr {_,b,rfl}) c.1
   ·rcases x6.mp g with b|b
    ·subst b;exact absurd (w8.mpr {_,f,rfl}) c.1
    ·have m:aV r k=some u:=by
      unfold aV at e⊢;rw[Q2]at e;have:(decide (x.1=k))=false:=by apply decide_eq_false;intro z;subst z;exact c.1 (w8.mpr {_,f,rfl})
      rw[this]at e;exact e
     exact ih c.2 f m b
def fD{f:Type}{l:AL α f}{k:α}{v:f}{x:α}{y:f}(h:(x,y)∈eX l k v):(x=k/\y=v)∨(x≠k/\(x,y)∈l):=by
 unfold eX at h;split at h
 ·rw[w8]at h;obtain ⟨kv,b,c⟩:=h;split at c
  ·rename_i e;cases c;exact .inl {e,rfl}
  ·rename_i e;subst c;exact .inr {e,b}
 ·rename_i e;rcases u9.mp h with b|b
  ·refine .inr {?_,b};rintro rfl;apply e;rw[fh];exact {_,b,by simp}
  ·rw[i9]at b;cases b;exact .inl {rfl,rfl}
def IN{b:Type}{l:AL α b}{k:α}{v:b}:(k,v)∈eX l k v:=by
 unfold eX;split
 ·rename_i e;rw[fh]at e;obtain ⟨kv,c,f⟩:=e;rw[w8];refine {kv,c,?_};have:=of_decide_eq_true f;rw[if_pos this,this]
 ·exact x9 _ (i9.mpr rfl)
def YY{b:Type}{l:AL α b}{k:α}{v:b}{x:α}{y:b}(c:x≠k)(h:(x,y)∈l):(x,y)∈eX l k v:=by
 unfold eX;split
 ·rw[w8];exact {_,h,by rw[if_neg c]}
 ·exact D3 _ h
def qC{c:Type}{l:AL α c}{k:α}{v:c}(i:(l.map (·.1)).Nodup):((eX l k v).map (·.1)).Nodup:=by
 unfold eX;split
 ·rw[R5];have:((fun x=>x.1) ∘ fun(kv:α×c)=>if kv.1=k then (kv.1,v) else kv)=fun kv=>kv.1:=by
   funext kv;simp only[Function.comp];split <;> rfl
  rw[this];exact i
 ·rename_i e;rw[B6,Z3];refine {i,by simp,?_};intro a f b g;simp at g;subst g;rintro rfl;apply e;rw[w8]at f;obtain ⟨kv,m,o⟩:=f;rw[fh];exact {kv,m,by simp[o]}
def RS{c:Type}{l:AL α c}{k:α}{v:c}{x:α}(h:x∈(eX l k v).map (·.1)):x=k∨x∈l.map (·.1):=by
 rw[w8]at h;obtain ⟨⟨a,b⟩,f,rfl⟩:=h;rcases fD f with ⟨e,_⟩|⟨_,e⟩
 ·exact .inl e
 ·exact .inr (w8.mpr {_,e,rfl})
def mI{b:Type}{l:AL α b}{k:α}{x:α×b}:x∈kQ l k↔x∈l/\x.1≠k:=by unfold kQ;rw[Q0];simp
def ZB{c:Type}{l:AL α c}{k:α}(b:(l.map (·.1)).Nodup):((kQ l k).map (·.1)).Nodup:=by unfold kQ;exact b.sublist (List.filter_sublist.map _)
def jC{f:Type}(l:AL α f)(k j:α)(v:f):aV (eX l k v) j=if j=k then some v else aV l j:=by
 by_cases e:j=k
 ·subst e;rw[if_pos rfl];unfold aV eX;split
  ·rename_i h
   induction l with
  |nil=>simp at h
  |cons x r ih=>
    rw[K1,Q2];by_cases b:x.1=j
    ·simp[b]
    ·rw[if_neg b];simp only[b,decide_false];apply ih;rw[fi]at h;simpa[b] using h
  ·rename_i h
   induction l with
  |nil=>simp
  |cons x r ih=>rw[fi]at h;have b:¬x.1=j:=fun z=>h (by simp[z]);rw[fc,Q2];simp only[b,decide_false];exact ih (by simpa[b] using h)
 ·rw[if_neg e];unfold aV eX;split
  ·rename_i h;clear h
   induction l with
  |nil=>rfl
  |cons x r ih=>
    rw[K1,Q2,Q2];by_cases b:x.1=k
    ·rw[if_pos b];have:¬x.1=j:=fun z=>e (z.symm.trans b);simp only[this,decide_false];exact ih
    ·rw[if_neg b];by_cases c:x.1=j
     ·simp[c]
     ·simp only[c,decide_false];exact ih
  ·rename_i h;rw[List.find?_append];have:List.find? (fun kv=>decide (kv.1=j)) [(k,v)]=none:=by
    simp[u7 e]
   rw[this,Option.or_none]
noncomputable def Jn(r:hZ α)(q p:α):Prop:=(r.1=q/\r.2.1=p)∨(r.2.1=q/\r.1=p)
noncomputable def cO(tk:Nat->Option Rat)(k:Nat)(t:Rat):Prop:=∀u,tk k=some u->t<=u
def cO.le(h:cO tk k t)(l:s<=t):cO tk k s:=fun u e=>Q5 l (h u e)
variable (net:List (hZ α))(push:α->Option Rat)(tk:Nat->Option Rat)
inductive SJ:α->Rat->Prop
|push {p t}:push p=some t->SJ p t
|run {q s p k r}:SJ q s->net[k]?=some r->Jn r q p->cO tk k (s+r.2.2)->SJ p (s+r.2.2)
structure iA(m:α->Option Rat):Prop where
 arr:∀p t,m p=some t->SJ net push tk p t
 le:∀p t,SJ net push tk p t->∃u,m p=some u/\u<=t
variable {net push tk}
def iA.uniq(h:iA net push tk m)(h':iA net push tk f):m=f:=by
 have b:∀{m f:α->Option Rat},iA net push tk m->iA net push tk f->∀p t,m p=some t->∃u,f p=some u/\u<=t:=fun h h' p t e=>h'.le p t (h.arr p t e);funext p;cases e:m p with
|none=>
  cases e':f p with
 |none=>rfl
 |some u=>
   obtain ⟨w,c,_⟩:=b h' h p u e';rw[e]at c;cases c
|some t=>obtain ⟨u,g,i⟩:=b h h' p t e;obtain ⟨w,c,o⟩:=b h' h p u g;rw[e]at c;cases c;rw[g];exact congrArg some (Rat.le_antisymm o i)
noncomputable def Hc(net:List (hZ α))(push:α->Option Rat)(tk:Nat->Option Rat)(F:AL α (nU α))(p:α):nU α->Prop
|(t,none)=>push p=some t
|(t,some (k,q))=>∃r e,net[k]?=some r/\Jn r q p/\(q,e)∈F/\t=e.1+r.2.2/\cO tk k t
def Hc.mono(h:Hc net push tk F p e)(s:∀x∈F,x∈F'):Hc net push tk F' p e:=by
 obtain ⟨t,o⟩:=e;cases o with
|none=>exact h
|some f=>obtain ⟨r,e,a,b,c,d⟩:=h;exact {r,e,a,b,s _ c,d}
noncomputable def Nm(W F:AL α (nU α))(p:α)(t:Rat):Prop:=∃e,((p,e)∈W∨(p,e)∈F)/\e.1<=t
structure mQ(net:List (hZ α))(push:α->Option Rat)(tk:Nat->Option Rat)(C:α->Nat->α->Prop)(W F:AL α (nU α)):Prop where
 ndW:(W.map (·.1)).Nodup
 ndF:(F.map (·.1)).Nodup
 dis:∀p,p∈W.map (·.1)->p∉F.map (·.1)
 sup:∀p e,(p,e)∈W->Hc net push tk F p e
 ord:∀i p e,F[i]?=some (p,e)->Hc net push tk (F.take i) p e
 mono:∀f∈F,∀w∈W,f.2.1<=w.2.1
 psh:∀p t,push p=some t->Nm W F p t
 clo:∀q e,(q,e)∈F->∀k r p,net[k]?=some r->Jn r q p->C q k p->cO tk k (e.1+r.2.2)->Nm W F p (e.1+r.2.2)
def mQ.start(m:(W.map (·.1)).Nodup)(h:∀p e,(p,e)∈W->e.2=none/\push p=some e.1)(c:∀p t,push p=some t->(p,(t,none))∈W):mQ net push tk C W []:=by refine {m,by simp,fun _ _=>by simp,fun p e b=>?_,fun i p e b=>by simp at b,fun f g=>by simp at g,fun p t e=>{_,.inl (c p t e),dg},fun q e b=>by simp at b};obtain ⟨t,o⟩:=e;obtain ⟨rfl,z⟩:=h p _ b;exact z
def mQ.pop(I:mQ net push tk (fun _ _ _=>True) W F)(hp:(p,e)∈W)(Q:∀w∈W,e.1<=w.2.1)(O:∀q k x,C q k x->q≠p):mQ net push tk C (kQ W p) (F++[(p,e)]):=by
 have J:p∉F.map (·.1):=I.dis p (w8.mpr {_,hp,rfl});have D:∀ {x t},Nm W F x t->Nm (kQ W p) (F++[(p,e)]) x t:=fun {x t} ⟨u,c,B⟩=>by
  rcases c with c|c
  ·by_cases m:x=p
   ·subst m;have:u=e:=l7 ((eO I.ndW c).symm.trans (eO I.ndW hp));subst this;exact {u,.inr (by simp),B}
   ·exact {u,.inl (mI.mpr {c,m}),B}
  ·exact {u,.inr (D3 _ c),B}
 refine {ZB I.ndW,?_,fun x m=>?_,fun x u R=>?_,fun i x u g=>?_,fun f o w G=>?_,fun x t m=>D (I.psh x t m),fun q u s k r x c B M N=>?_}
 ·rw[B6,Z3];refine {I.ndF,by simp,fun a P b K=>?_};simp at K;subst K;rintro rfl;exact J P
 ·rw[w8]at m;obtain ⟨y,A,rfl⟩:=m;have A:=mI.mp A;rw[B6,u9];rintro (z|z)
  ·exact I.dis _ (w8.mpr {_,A.1,rfl}) z
  ·simp at z;exact A.2 z
 ·exact (I.sup x u (mI.mp R).1).mono fun y A=>D3 _ A
 ·by_cases E:i<F.length
  ·rw[K7 E]at g;rw[List.take_append_of_le_length (M5 E)];exact I.ord i x u g
  ·rw[C8 (by lia)]at g;have:i-F.length=0:=by
    cases e2:i-F.length with
   |zero=>rfl
   |succ n=>rw[e2]at g;simp at g
   have H:i=F.length:=by lia
   subst H;simp at g;obtain ⟨rfl,rfl⟩:=g;rw[List.take_left];exact I.sup _ _ hp
 ·have G:=mI.mp G;rcases u9.mp o with o|o
  ·exact I.mono f o w G.1
  ·simp at o;subst o;exact Q w G.1
 ·rcases u9.mp s with s|s
  ·exact D (I.clo q u s k r x c B trivial N)
  ·simp at s;exact absurd s.1 (O _ _ _ M)
def mQ.turn(I:mQ net push tk C W F)(hp:(p,e)∈F)(G:net[k]?=some r)(P:Jn r p x)(s:∀w∈F,w.2.1<=e.1)(S:0<r.2.2)(K:∀q j y,C' q j y->C q j y∨(q=p/\j=k/\y=x))
  (O:(W'=W/\(x∈F.map (·.1)∨¬cO tk k (e.1+r.2.2)∨∃u,(x,u)∈W/\u.1<=e.1+r.2.2)) ∨
   (x∉F.map (·.1)/\cO tk k (e.1+r.2.2)/\(∀u,(x,u)∈W->e.1+r.2.2<=u.1)/\W'=eX W x (e.1+r.2.2,some (k,p)))):mQ net push tk C' W' F:=by
 rcases O with ⟨rfl,h⟩|⟨H,E,Q,rfl⟩
 ·refine {I.ndW,I.ndF,I.dis,I.sup,I.ord,I.mono,I.psh,fun q u A j J y c i m B=>?_};rcases K q j y m with m|⟨rfl,rfl,rfl⟩
  ·exact I.clo q u A j J y c i m B
  ·rw[G]at c;cases c;have:u=e:=l7 ((eO I.ndF A).symm.trans (eO I.ndF hp));subst this;rcases h with h|h|⟨w,D,N⟩
   ·rw[w8]at h;obtain ⟨⟨a,b⟩,D,rfl⟩:=h;refine {b,.inr D,?_};have:=s _ D;simp only at this;grind
   ·exact absurd B h
   ·exact {w,.inl D,N}
 ·have o:∀ {y t},Nm W F y t->Nm (eX W x (e.1+r.2.2,some (k,p))) F y t:=fun {y t} ⟨u,c,i⟩=>by
   rcases c with c|c
   ·by_cases g:y=x
    ·subst g;exact {_,.inl IN,Q5 (Q u c) i}
    ·exact {u,.inl (YY g c),i}
   ·exact {u,.inr c,i}
  refine {qC I.ndW,I.ndF,fun y g=>?_,fun y u g=>?_,I.ord,fun f M w R=>?_,fun y t g=>o (I.psh y t g),fun q u A j J y c i m B=>?_}
  ·rcases RS g with rfl|g
   ·exact H
   ·exact I.dis y g
  ·rcases fD g with ⟨rfl,rfl⟩|⟨_,g⟩
   ·exact {r,e,G,P,hp,rfl,E}
   ·exact I.sup y u g
  ·obtain ⟨y,u⟩:=w;rcases fD R with ⟨rfl,rfl⟩|⟨_,g⟩
   ·have:=s f M;show f.2.1<=e.1+r.2.2;grind
   ·exact I.mono f M _ g
  ·rcases K q j y m with m|⟨rfl,rfl,rfl⟩
   ·exact o (I.clo q u A j J y c i m B)
   ·rw[G]at c;cases c;have:u=e:=l7 ((eO I.ndF A).symm.trans (eO I.ndF hp));subst this;exact {_,.inl IN,dg}
structure pM(net:List (hZ α))(push:α->Option Rat)(tk:Nat->Option Rat)(F:AL α (nU α)):Prop where
 nd:(F.map (·.1)).Nodup
 ord:∀i p e,F[i]?=some (p,e)->Hc net push tk (F.take i) p e
 psh:∀p t,push p=some t->∃e,(p,e)∈F/\e.1<=t
 clo:∀q e,(q,e)∈F->∀k r p,net[k]?=some r->Jn r q p->cO tk k (e.1+r.2.2)->∃u,(p,u)∈F/\u.1<=e.1+r.2.2
def mQ.done(I:mQ net push tk (fun _ _ _=>True) [] F):pM net push tk F:=by
 refine {I.ndF,I.ord,fun p t h=>?_,fun q e m k r p b c f=>?_}
 ·obtain ⟨e,b,c⟩:=I.psh p t h;exact {e,b.resolve_left (by simp),c}
 ·obtain ⟨u,g,i⟩:=I.clo q e m k r p b c trivial f;exact {u,g.resolve_left (by simp),i}
noncomputable def fO(F:AL α (nU α))(p:α):Option Rat:=(aV F p).map (·.1)
def pM.arr(O:pM net push tk F):∀(i:Nat)(p:α)(e:nU α),F[i]?=some (p,e)->SJ net push tk p e.1:=by
 intro i
 induction i using Nat.strongRecOn with
|ind i ih=>
  intro p e A;have h:=O.ord i p e A;obtain ⟨t,o⟩:=e;cases o with
 |none=>exact .push h
 |some B=>
   obtain ⟨k,q⟩:=B;obtain ⟨r,e,f,g,m,s,w⟩:=h;obtain ⟨j,b⟩:=jf.mp m;rw[List.getElem?_take]at b;split at b
   ·rename_i c;subst s;exact .run (ih j c q e b) f g w
   ·cases b
def pM.falls(O:pM net push tk F):iA net push tk (fO F):=by
 refine {fun p t h=>?_,fun p t h=>?_}
 ·unfold fO at h;rw[A9]at h;obtain ⟨e,c,rfl⟩:=h;obtain ⟨i,C⟩:=jf.mp (cM c);exact O.arr i p e C
 ·induction h with
 |push h=>
   obtain ⟨e,c,f⟩:=O.psh _ _ h;exact {e.1,by unfold fO;rw[eO O.nd c];rfl,f}
 |run c f m o ih=>
   obtain ⟨u,g,D⟩:=ih;unfold fO at g;rw[A9]at g;obtain ⟨e,w,rfl⟩:=g;rename_i q s p k r;have b:e.1+r.2.2<=s+r.2.2:=by grind
   obtain ⟨u,A,B⟩:=O.clo q e (cM w) k r p f m (o.le b);exact {u.1,by unfold fO;rw[eO O.nd A];rfl,Q5 B b}
end
end L2
namespace L2
section
variable {α:Type}[DecidableEq α]{net:List (hZ α)}{push:α->Option Rat}{tk:Nat->Option Rat}
noncomputable def SM(f:α->Option Rat)(p:α)(t:Rat):Prop:=∃u,f p=some u/\u<=t
noncomputable def Sr(net:List (hZ α))(push:α->Option Rat)(tk:Nat->Option Rat)(f:α->Option Rat):Prop:=∀p t,f p=some t->SJ net push tk p t
end
end L2
namespace L2
section
variable {κ:Type}[DecidableEq κ]
noncomputable def gG(m:AL κ Rat)(x:κ×Rat):AL κ Rat:=match aV m x.1 with
|none=>eX m x.1 x.2
|some r=>if x.2<r then eX m x.1 x.2 else m
noncomputable def lst(l:List (κ×Rat)):AL κ Rat:=l.foldl gG []
def pC(l:List (κ×Rat))(x:κ×Rat):lst (l++[x])=gG (lst l) x:=by unfold lst;rw[List.foldl_append];rfl
def XF{m:AL κ Rat}{x:κ×Rat}(h:(m.map (·.1)).Nodup):((gG m x).map (·.1)).Nodup:=by
 unfold gG;split
 ·exact qC h
 ·split
  ·exact qC h
  ·exact h
def QO{m:AL κ Rat}{x:κ×Rat}{k:κ}{q:Rat}(h:(k,q)∈gG m x):(k,q)∈m∨(k,q)=x:=by
 unfold gG at h;split at h
 ·rcases fD h with ⟨rfl,rfl⟩|⟨_,h⟩
  ·exact .inr rfl
  ·exact .inl h
 ·split at h
  ·rcases fD h with ⟨rfl,rfl⟩|⟨_,h⟩
   ·exact .inr rfl
   ·exact .inl h
  ·exact .inl h
def OD(P:AL κ Rat->Prop)(l:List (κ×Rat))(f:P [])(hs:∀m x,x∈l->P m->P (gG m x)):P (lst l):=by
 unfold lst;have:∀(b:List (κ×Rat)) (m:AL κ Rat),(∀x∈b,x∈l)->P m->P (b.foldl gG m):=by
  intro b
  induction b with
 |nil=>intro m _ h;exact h
 |cons x r ih=>intro m c h;exact ih _ (fun y g=>c y (E4 _ g)) (hs m x (c x L8) h)
 exact this l [] (fun x h=>h) f
def KC(l:List (κ×Rat)):((lst l).map (·.1)).Nodup:=OD (fun m=>(m.map (·.1)).Nodup) l (by simp) fun m x _ h=>XF h
def lH{l:List (κ×Rat)}{x:κ×Rat}(h:x∈lst l):x∈l:=by
 refine OD (fun m=>∀y∈m,y∈l) l (by simp) (fun m x b ih y c=>?_) x h;obtain ⟨k,q⟩:=y;rcases QO c with h|h
 ·exact ih _ h
 ·rw[h];exact b
def QP{m:AL κ Rat}{x:κ×Rat}:(gG m x).length<=m.length+1:=by
 have:∀v,(eX m x.1 v).length<=m.length+1:=fun v=>by unfold eX;split <;> simp
 unfold gG;split
 ·exact this _
 ·split
  ·exact this _
  ·lia
end
end L2
namespace L2
def OE{κ:Type}[DecidableEq κ](l:List (κ×Rat)):(lst l).length<=l.length:=by
 have:∀(b:List (κ×Rat)) (m:AL κ Rat),(b.foldl gG m).length<=m.length+b.length:=by
  intro b
  induction b with
 |nil=>intro m;simp
 |cons x r ih=>intro m;have c:=ih (gG m x);have f:=QP (m:=m) (x:=x);rw[List.foldl_cons,K2];lia
 have:=this l [];unfold lst;simpa using this
end L2
namespace L2
open PySem PySem.Spec PyProof.Rows
section
variable {X:Cx}{a b:D9}{ta tb td ty tv:TE}{pos:Pos}{iV:List D9}{σ:St}{H H':Hp}{Q:VK}{D:gM}{K:y8}{v x:V}
noncomputable def Oc(K:y8)(ta tb:TE):TE:=fun σ H Q=>ta σ H fun x H1=>∃k,zD K x H1 k/\if k=true then Q x H1 else tb σ H1 Q
def Km(E:PE X a ta)(G:PE X (.BoolOp .Or (b::iV) pos) tb):PE X (.BoolOp .Or (a::b::iV) pos) (Oc X.K ta tb):=by
 intro c s σ H Q I h;refine BoolOp_or (dD (E c s σ H _ I h) fun v J ⟨x,m,A,q,k,N,g⟩=>?_);refine dD (TJ c J σ m x v (fun i f=>f=m/\i=k) A q {k,N,rfl,rfl}) fun i M ⟨f,o,B,C⟩=>?_;subst B C;cases i with
|true=>exact {x,f,o,q,by rw[if_pos rfl]at g;exact g}
|false=>exact G c M σ f Q o (by rw[if_neg j7]at g;exact g)
def Pe(k:ta σ H fun x H1=>∃k,zD K x H1 k/\if k=true then Q x H1 else tb σ H1 Q):Oc K ta tb σ H Q:=k
noncomputable def Nv(K:y8)(ta:TE):TT:=fun σ H R=>ta σ H fun x H'=>∃k,zD K x H' k/\R k H'
def Kg(c:PE X a ta)(f:∀whole,isTrue a X.env whole=(do let v ←whole;nz a.pos;kj [v] (truthy v)):=by intro _;rfl):PT X a (Nv X.K ta):=WA c f
def Ox(k:ta σ H fun x H'=>∃k,zD K x H' k/\R k H'):Nv K ta σ H R:=k
def Hu{R:Bool->Hp->Prop}(h:H p=some (.dK kvs))(k:R (!kvs.isEmpty) H):∃k,zD K (.ref p) H k/\R k H:={_,.inr (.inr {kvs,h,rfl}),k}
def Ht{R:Bool->Hp->Prop}(h:H p=some (.lst xs))(k:R (!xs.isEmpty) H):∃k,zD K (.ref p) H k/\R k H:={_,.inl {xs,cS.of h,rfl},k}
def Hs{R:Bool->Hp->Prop}(k:R false H):∃k,zD K .non H k/\R k H:={false,rfl,k}
def uA(k:∀p,H p=none->Q (.ref p) (upd H p (.dK []))):TR σ H Q:=k
noncomputable def dG(x y:V)(H:Hp)(Q:VK):Prop:=∃a v,x=.ref a/\lZ H a y (some v)/\Q v H
def Jt(k:td σ H fun x H1=>ty σ H1 fun y H2=>dG x y H2 Q):Eu td ty σ H Q:=k
def bZ(h:Rd H p (.dK kvs))(e:bI kvs (i0 s)=some v)(k:Q v H):dG (.ref p) (.str s) H Q:={p,v,rfl,.inl {kvs,i0 s,h,rfl,e.symm},k}
def NH(h:Rd H p (.dK kvs))(e:bI kvs (j5 i)=some v)(k:Q v H):dG (.ref p) (.int i) H Q:={p,v,rfl,.inl {kvs,j5 i,h,rfl,e.symm},k}
noncomputable def dI(y x:V)(H:Hp)(Q:VK):Prop:=∃a o,x=.ref a/\lZ H a y o/\Q (.bl o.isSome) H
noncomputable def dN(y x:V)(H:Hp)(Q:VK):Prop:=∃a o,x=.ref a/\lZ H a y o/\Q (.bl (!o.isSome)) H
def Qa(k:ty σ H fun y H1=>td σ H1 fun x H2=>dI y x H2 Q):Og ty td σ H Q:=k
def Js(k:ty σ H fun y H1=>td σ H1 fun x H2=>dN y x H2 Q):LM ty td σ H Q:=k
def Qb(h:Rd H p (.dK kvs))(k:Q (.bl (bI kvs (i0 s)).isSome) H):dI (.str s) (.ref p) H Q:={p,_,rfl,.inl {kvs,i0 s,h,rfl,rfl},k}
def Ge(h:Rd H p (.dK kvs))(k:Q (.bl (bI kvs (j5 i)).isSome) H):dI (.int i) (.ref p) H Q:={p,_,rfl,.inl {kvs,j5 i,h,rfl,rfl},k}
def sQ(h:Rd H p (.dK kvs))(e:bI kvs c=some v)(k:Q v H):dG (.ref p) (kV c) H Q:={p,v,rfl,.inl {kvs,c,h,rfl,e.symm},k}
def Qc(h:Rd H p (.dK kvs))(k:Q (.bl (bI kvs c).isSome) H):dI (kV c) (.ref p) H Q:={p,_,rfl,.inl {kvs,c,h,rfl,rfl},k}
def VS(h:Rd H p (.dK kvs))(k:Q (.bl (!(bI kvs c).isSome)) H):dN (kV c) (.ref p) H Q:={p,_,rfl,.inl {kvs,c,h,rfl,rfl},k}
noncomputable def dP(D:gM)(σ:St)(v x y:V)(H:Hp):Prop:=∃a H4,x=.ref a/\IV H a y v H4/\D.nx σ H4
def Jr(k:tv σ H fun v H1=>td σ H1 fun x H2=>ty σ H2 fun y H3=>dP D σ v x y H3):Ft td ty tv D σ H:=k
def oC(h:H p=some (.dK kvs))(f:kvs.length<=1000)(k:D.nx σ (upd H p (.dK (eI kvs c v)))):dP D σ v (.ref p) (kV c) H:={p,_,rfl,IV.k h (eR f),k}
noncomputable def dG1(ty:TE)(σ:St)(Q:VK)(x:V)(H1:Hp):Prop:=∃a,x=.ref a/\Eg H1 a/\ty σ H1 fun y H2=>∃o,lZ H2 a y o/\Q (o.getD .non) H2
def Be(k:td σ H (dG1 ty σ Q)):TV td ty σ H Q:=k
noncomputable def dG2(ty tx:TE)(σ:St)(Q:VK)(x:V)(H1:Hp):Prop:=∃a,x=.ref a/\Eg H1 a/\ty σ H1 fun y H2=>tx σ H2 fun z H3=>∃o,lZ H3 a y o/\Q (o.getD z) H3
def Bc(k:td σ H (dG2 ty tx σ Q)):TU td ty tx σ H Q:=k
noncomputable def dpK(ty:TE)(σ:St)(Q:VK)(x:V)(H1:Hp):Prop:=∃a,x=.ref a/\Eg H1 a/\ty σ H1 fun y H2=>∃kvs k v,H2 a=some (.dK kvs)/\y=kV k/\bI kvs k=some v/\Q v (upd H2 a (.dK (eV kvs k)))
def Ba(k:td σ H (dpK ty σ Q)):TQ td ty σ H Q:=k
def Jp{g:TG}{f:TE}{c:TS}(a:g6)(i:mO H a)(k:f σ H fun x H1=>x=.ref a/\∃kvs,H1 a=some (.dK kvs)/\∀o,HX g c (Dm a D) σ (Na a o kvs) (upd H1 a (.frz o (.dK kvs)))):Er f g c D σ H:={a,i,k}
def Az{a:g6}{o:Obj}{kvs:List (aL×V)}{g:TG}{A:TS}{D:gM}(c:Nat->St->Hp->Prop)(B:c 0 σ H)(s:∀i σ H,i<=kvs.length->c i σ H->H a=some (.frz o (.dK kvs)))(hs:∀i k v σ H,kvs[i]?=some (k,v)->c i σ H->g (kV k) σ H fun σ2 H2=>A {c (i+1),D.rt,D.nx,c (i+1)} σ2 H2)(C:∀σ H,c kvs.length σ H->D.nx σ H):HX g A D σ (Na a o kvs) H:=by
 refine {fun i m σ H=>m=kvs.length-i/\i<=kvs.length/\c i σ H,{_,rfl,w4 _,B},?_};rintro i m σ H ⟨rfl,E,p⟩;by_cases f:i<kvs.length
 ·refine .inr {{s i σ H E p,f},c (i+1),fun G H' q=>{kvs.length-(i+1),by lia,rfl,f,q},fun x H' y=>?_};obtain ⟨rfl,k,v,e,rfl⟩:=y;exact hs i k v σ _ e p
 ·have:i=kvs.length:=by lia
  subst this;exact .inl {{s _ σ H (k7 _) p,k7 _},C σ H p}
def VR{a:g6}{xs:List V}{g:TG}{o:TS}(c:Nat->St->Hp->Prop)(s:c 0 σ H)(E:∀i σ H,i<=xs.length->c i σ H->cS K H a xs)(hs:∀i x T σ H,xs[i]?=some x->H T=none->c i σ H->g (.ref T) σ (upd H T (.tup [.int i,x])) fun σ2 H2=>o {c (i+1),D.rt,D.nx,c (i+1)} σ2 H2)(B:∀σ H,c xs.length σ H->D.nx σ H):HX g o D σ (Nl K a) H:=by
 refine {fun i m σ H=>m=xs.length-i/\i<=xs.length/\c i σ H,{_,rfl,w4 _,s},?_};rintro i m σ H ⟨rfl,C,p⟩;have q:=E i σ H C p;by_cases f:i<xs.length
 ·refine .inr {{xs,xs[i],q,by simp[f]},c (i+1),fun I H' q=>{xs.length-(i+1),by lia,rfl,f,q},fun x H' y=>?_};obtain ⟨T,G,rfl,A,rfl,e⟩:=y;exact hs i G T σ H (e xs q) A p
 ·have:i=xs.length:=by lia
  subst this;exact .inl {{xs,q,k7 _},B σ H p}
def Av(k:tl σ H fun vs H1=>∃a,vs=[.ref a]/\(∃xs,cS K H1 a xs)/\R (Nl K a) H1):Gz K tl σ H R:=k
def e_K{a:g6}{xs:List V}{R:It->Hp->Prop}(h:H a=some (.lst xs))(k:R (Nl K a) H):∃c,[V.ref a]=[.ref c]/\(∃xs,cS K H c xs)/\R (Nl K c) H:={a,rfl,{xs,cS.of h},k}
def CQ(h:H p=some (.tup [x,y]))(k:t [x,y] σ H R):HW K 2 t (.ref p) σ H R:={p,_,rfl,vO.of h,rfl,k}
def NG(h:H p=some (.tup [x,y,z]))(k:t [x,y,z] σ H R):HW K 3 t (.ref p) σ H R:={p,_,rfl,vO.of h,rfl,k}
def Jm(k:R σ H):YI [] σ H R:={rfl,k}
def Ay(k:t v σ H fun σ' H'=>u r σ' H' R):tI t u (v::r) σ H R:={v,r,rfl,k}
end
noncomputable def TK(H H':Hp):Prop:=∀p xs,H p=some (.tup xs)->H' p=some (.tup xs)
def TK.trans(a:TK H H1)(b:TK H1 H2):TK H H2:=fun p c h=>b p c (a p c h)
def aK.tk(s:aK H H'):TK H H':=fun p b h=>s _ _ h
def TK.new(h:H q=none):TK H (upd H q o):=(aK.new h).tk
def TK.lst(h:H q=some (.lst ys)):TK H (upd H q o):=fun p b e=>by rw[aX (fN e h (by intro z;cases z))];exact e
def TK.dic(h:H q=some (.dK ys)):TK H (upd H q o):=fun p b e=>by rw[aX (fN e h (by intro z;cases z))];exact e
def TK.melt:TK H (melt a H):=fun p b e=>iX (fun _ _ z=>nomatch z) e
noncomputable def cA(H:Hp)(v:V)(q:Rat):Prop:=∃p,v=.ref p/\H p=some (.tup [.int q.num,.int q.den])
def cA.tk(h:cA H v q)(t:TK H H'):cA H' v q:=let ⟨p,e,h⟩:=h;{p,e,t _ _ h}
noncomputable def wI(H:Hp)(v:V)(x:aL×Rat):Prop:=∃p u,v=.ref p/\H p=some (.tup [kV x.1,u])/\cA H u x.2
def wI.tk(h:wI H v x)(t:TK H H'):wI H' v x:=let ⟨p,u,e,h,f⟩:=h;{p,u,e,t _ _ h,f.tk t}
noncomputable def jK(H:Hp)(v:V)(r:aL×aL×Rat):Prop:=∃p u,v=.ref p/\H p=some (.tup [kV r.1,kV r.2.1,u])/\cA H u r.2.2
def jK.tk(h:jK H v r)(t:TK H H'):jK H' v r:=let ⟨p,u,e,h,f⟩:=h;{p,u,e,t _ _ h,f.tk t}
noncomputable def kZ(H:Hp)(v:V)(e:Rat×Option (Nat×aL)):Prop:=∃p u,v=.ref p/\H p=some (.tup [u,(match e.2 with|none=>.non|some kq=>.int kq.1),(match e.2 with|none=>.non|some kq=>kV kq.2)])/\cA H u e.1
def kZ.tk(h:kZ H v e)(t:TK H H'):kZ H' v e:=let ⟨p,u,a,h,f⟩:=h;{p,u,a,t _ _ h,f.tk t}
noncomputable def LE(H:Hp)(v:V)(x:Nat×aL):Prop:=∃p,v=.ref p/\H p=some (.tup [.int x.1,kV x.2])
def LE.tk(h:LE H v x)(t:TK H H'):LE H' v x:=let ⟨p,e,h⟩:=h;{p,e,t _ _ h}
section
variable {α β:Type}{F G:α->β->Prop}
theorem Pd.imp:∀{l:List α}{m:List β},Paired F l m->(∀a b,F a b->G a b)->Paired G l m
|_,_,.nil,_=>.nil
|_,_,.cons r t,f=>.cons (f _ _ r) (Pd.imp t f)
theorem Pd.snoc:∀{l:List α}{m:List β}{a:α}{b:β},Paired F l m->F a b->Paired F (l++[a]) (m++[b])
|_,_,_,_,.nil,r=>.cons r .nil
|_,_,_,_,.cons q t,r=>.cons q (Pd.snoc t r)
theorem Pd.get:∀{l:List α}{m:List β}{i:Nat}{b:β},Paired F l m->m[i]?=some b->∃a,l[i]?=some a/\F a b
|_,_,_,_,.nil,e=>by simp at e
|_,_,0,_,.cons r _,e=>by simp at e;subst e;exact {_,rfl,r}
|_,_,i+1,b,.cons _ t,e=>by obtain ⟨y,c,f⟩:=Pd.get (i:=i) (b:=b) t (by simpa using e);exact {y,by simpa using c,f}
end
noncomputable def LQ{β:Type}(R:Hp->V->β->Prop)(H:Hp)(l:g6)(ds:List β):Prop:=∃vs,H l=some (.lst vs)/\Paired (R H) vs ds
noncomputable def KQ{β:Type}(R:Hp->V->β->Prop)(H:Hp)(kvs:List (aL×V))(m:List (aL×β)):Prop:=Paired (fun kv ab=>kv.1=ab.1/\R H kv.2 ab.2) kvs m
noncomputable def DQ{β:Type}(R:Hp->V->β->Prop)(H:Hp)(d:g6)(m:List (aL×β)):Prop:=∃kvs,H d=some (.dK kvs)/\KQ R H kvs m
section
variable {β:Type}{R:Hp->V->β->Prop}{H H':Hp}{l:g6}{ds:List β}{m:List (aL×β)}{kvs:List (aL×V)}
def LQ.same(h:LQ R H l ds)(c:∀v b,R H v b->R H' v b)(s:aK H H'):LQ R H' l ds:=let ⟨f,a,b⟩:=h;{f,s _ _ a,Pd.imp b c}
def KQ.imp(h:KQ R H kvs m)(c:∀v b,R H v b->R' H' v b):KQ R' H' kvs m:=Pd.imp h fun _ _ q=>{q.1,c _ _ q.2}
theorem KQ.keys:∀{kvs:List (aL×V)}{m:List (aL×β)},KQ R H kvs m->kvs.map (·.1)=m.map (·.1)
|_,_,.nil=>rfl
|_,_,.cons r t=>by rw[K1,K1,r.1,KQ.keys t]
def KQ.len(h:KQ R H kvs m):kvs.length=m.length:=Paired.length h
theorem KQ.val:∀{kvs:List (aL×V)}{m:List (aL×β)}{k:aL},KQ R H kvs m->(bI kvs k=none/\aV m k=none)∨∃v b,bI kvs k=some v/\aV m k=some b/\R H v b
|_,_,_,.nil=>.inl {rfl,rfl}
|_,_,k,.cons (a:=p) (b:=q) (l₁:=as) (l₂:=f) r t=>by
  by_cases e:p.1=k
  ·refine .inr {p.2,q.2,dE e,?_,r.2};have c:q.1=k:=r.1▸e;simp[aV,Q2,c]
  ·have c:¬q.1=k:=fun z=>e (r.1.trans z);have g:bI (p::as) k=bI as k:=cY e;rw[g];have i:aV (q::f) k=aV f k:=by simp[aV,Q2,c]
   rw[i];exact KQ.val t
theorem KQ.repl(c:R H v b):∀{kvs:List (aL×V)}{m:List (aL×β)},KQ R H kvs m->KQ R H (kvs.map fun kv=>if kv.1=k then (kv.1,v) else kv) (m.map fun kv=>if kv.1=k then (kv.1,b) else kv)
|_,_,.nil=>.nil
|_,_,.cons (a:=p) (b:=q) r t=>by
  refine .cons ?_ (KQ.repl c t);dsimp only;by_cases e:p.1=k
  ·rw[if_pos e,if_pos (r.1▸e)];exact {r.1,c}
  ·rw[if_neg e,if_neg (fun z=>e (r.1.trans z))];exact r
theorem KQ.any:∀{kvs:List (aL×V)}{m:List (aL×β)},KQ R H kvs m->(kvs.any fun kv=>decide (kv.1=k))=m.any fun kv=>decide (kv.1=k)
|_,_,.nil=>rfl
|_,_,.cons r t=>by rw[fi,fi,r.1,KQ.any t]
def KQ.put(h:KQ R H kvs m)(c:R H v b):KQ R H (eI kvs k v) (eX m k b):=by
 unfold eI eX;rw[KQ.any h];split
 ·exact KQ.repl c h
 ·exact Pd.snoc h {rfl,c}
theorem KQ.drop:∀{kvs:List (aL×V)}{m:List (aL×β)},KQ R H kvs m->KQ R H (eV kvs k) (kQ m k)
|_,_,.nil=>.nil
|_,_,.cons (a:=p) (b:=q) (l₁:=as) (l₂:=c) r t=>by
  have ih:=KQ.drop (k:=k) t;by_cases e:p.1=k
  ·have f:eV (p::as) k=eV as k:=RH e;rw[f];have g:kQ (q::c) k=kQ c k:=by unfold kQ;rw[V9];simp[show q.1=k from r.1▸e]
   rw[g];exact ih
  ·have f:eV (p::as) k=p::eV as k:=RI e;rw[f];have g:kQ (q::c) k=q::kQ c k:=by unfold kQ;rw[V9];simp[show ¬q.1=k from fun z=>e (r.1.trans z)]
   rw[g];exact .cons r ih
end
def Vi{b:Type}{A B:Prop}(k:B):if (none:Option b).isSome=true then A else B:=k
def Vh{c:Type}{b:c}{A B:Prop}(k:A):if (some b).isSome=true then A else B:=k
def TF(h:H a=some o):upd H a o=H:=by
 funext b;by_cases e:b=a
 ·subst e;rw[aC,h]
 ·rw[aX e]
def Ph{D:gM}{b:St}{H:Hp}(k:D.nx b H):D.nx b H:=k
def Oy{D:gM}{v:V}{H:Hp}(k:D.rt v H):D.rt v H:=k
def Qd{D:gM}{b:St}{H:Hp}(k:D.ct b H):D.ct b H:=k
def Gd(k:D.nx σ (melt a H)):(Dm a D).nx σ H:=k
def eP.u1(r:eP k A):A.units+1<N2:=by have:=r.units;lia
section
variable {X:Cx}{σ:St}{H H':Hp}{Q:VK}{K:y8}{v x y:V}
def aW(n:b≠q)(h:H b=some u):upd H q o b=some u:=by rw[aX n];exact h
noncomputable def PZ:R2:=fun x y H Q=>y=.non/\Q (.bl (decide (x=.non))) H
noncomputable def NK:R2:=fun x y H Q=>y=.non/\Q (.bl (!decide (x=.non))) H
def nG:lN X (E7 .Is) PZ:=Ks
def mG:lN X (E7 .IsNot) NK:=Cb
def Je(k:Q (.bl false) H):PZ (.ref p) .non H Q:={rfl,k}
def Jf(k:Q (.bl true) H):PZ .non .non H Q:={rfl,k}
def Jg(k:Q (.bl false) H):PZ (kV c) .non H Q:={rfl,by cases c <;> exact k}
def Ix(k:Q (.bl true) H):NK (.ref p) .non H Q:={rfl,k}
def Iy(k:Q (.bl false) H):NK .non .non H Q:={rfl,k}
noncomputable def Tt(K:y8)(T:String)(r:V->List V->Hp->VK->Prop)(t:TA)(σ:St)(Q:VK):VK:=fun x H1=>Nt K T x H1/\t σ H1 fun xs H2=>r x xs H2 Q
def Uq(k:to σ H (Tt K T r t σ Q)):Wi K T r to t σ H Q:=k
def VZ(h:H l=some (.lst xs))(k:t σ H fun vs H2=>r (.ref l) vs H2 Q):Tt K "list" r t σ Q (.ref l) H:={.inl {rfl,xs,cS.of h},k}
def Qf(h:H l=some (.dK xs))(k:t σ H fun vs H2=>r (.ref l) vs H2 Q):Tt K "dict" r t σ Q (.ref l) H:={.inr (.inr (.inl {rfl,.inl {xs,h}})),k}
def gX(h:H l=some (.lst xs))(b:xs.length<=1000)(k:Q .non (upd H l (.lst (xs++[y])))):NM (.ref l) [y] H Q:={l,xs,y,rfl,rfl,h,eR b,k}
def xL(h:H a=some (.dK kvs))(b:kvs.length<=1000)(f:∀u,bI kvs c=some u->Q u H)(g:bI kvs c=none->Q v (upd H a (.dK (kvs++[(c,v)])))):NJ (.ref a) [kV c,v] H Q:={a,kvs,c,v,rfl,rfl,h,b,f,g}
def NI(a:g6)(b:mO H a)(h:tl σ H fun x H1=>x=.ref a/\∃kvs,H1 a=some (.dK kvs)/\∀o',mM te o g (C7 k none) (qD σ is) (fun v H'=>Q v (melt a H')) (Na a o' kvs) (upd H1 a (.frz o' (.dK kvs)))):TX tl te o g k is σ H Q:={a,b,h}
def mO.dK(h:H a=some (.dK kvs)):mO H a:=fun o u e=>by rw[h]at e;cases e
end
def mR{kvs:List (aL×V)}{p q:aL}{v:V}(h:bI kvs p=none):bI (kvs++[(p,v)]) q=if q=p then some v else bI kvs q:=by
 by_cases e:q=p
 ·subst e;rw[if_pos rfl]
  induction kvs with
 |nil=>exact dE rfl
 |cons kv r ih=>
   by_cases z:kv.1=q
   ·rw[dE z]at h;cases h
   ·rw[cY z]at h;rw[fc,cY z];exact ih h
 ·rw[if_neg e];clear h
  induction kvs with
 |nil=>exact cY (fun z=>e z.symm)
 |cons kv r ih=>
   by_cases z:kv.1=q
   ·rw[fc,dE z,dE z]
   ·rw[fc,cY z,cY z];exact ih
structure BI(H H1:Hp)(d:g6)(f:aL->List (Nat×aL))(n:Nat):Prop where
 same:aK H H1
 dn:H d=none
 ex:∃kvs,H1 d=some (.dK kvs)/\kvs.length<=n/\(∀p,bI kvs p=none->f p=[])/\(∀p v,bI kvs p=some v->∃l,v=.ref l/\H l=none/\LQ LE H1 l (f p))/\∀p q l,bI kvs p=some (.ref l)->bI kvs q=some (.ref l)->p=q
noncomputable def ZQ(f:aL->List (Nat×aL))(p:aL)(x:Nat×aL):aL->List (Nat×aL):=fun q=>if q=p then f q++[x] else f q
def BI.start(h:H d=none):BI H (upd H d (.dK [])) d (fun _=>[]) 0:=
 {aK.new h,h,[],aC,k7 _,fun _ _=>rfl,fun p v e=>(by cases e),fun p q l e=>(by cases e)}
def LE.imp(t:TK H H'):∀v b,LE H v b->LE H' v b:=fun v b h=>h.tk t
def BI.alloc(B:BI H H1 d f n)(h:H1 q=none):BI H (upd H1 q o) d f n:=by obtain ⟨i,a,b,c,e,g⟩:=B.ex;refine {B.same.trans (aK.new h),B.dn,i,aO h a,b,c,fun p v z=>?_,g};obtain ⟨l,rfl,m,q⟩:=e p v z;exact {l,rfl,m,q.same (LE.imp (TK.new h)) (aK.new h)}
def BI.old(B:BI H H1 d f n)(C:H1 d=some (.dK kvs))(A:bI kvs p=some (.ref l))(D:H1 l=some (.lst xs))(K:H1 t=some (.tup [.int x.1,kV x.2])):
  BI H (upd H1 l (.lst (xs++[.ref t]))) d (ZQ f p x) n:=by
 obtain ⟨G,a,b,c,e,g⟩:=B.ex;rw[C]at a;cases a;have tk:TK H1 (upd H1 l (.lst (xs++[.ref t]))):=TK.lst D;obtain ⟨Q,I,i,R,E,N⟩:=e p _ A;cases I;rw[D]at E;cases E;refine {fun b o h=>?_,B.dn,kvs,?_,b,fun q z=>?_,fun q v z=>?_,g}
 ·rw[aX (aB h i)];exact B.same _ _ h
 ·rw[aX (fN C D (by intro z;cases z))];exact C
 ·have s:q≠p:=fun w=>by subst w;rw[A]at z;cases z
  show (if q=p then _ else _)=_;rw[if_neg s];exact c q z
 ·obtain ⟨m,rfl,J,P,M,O⟩:=e q v z;by_cases s:q=p
  ·subst s;rw[A]at z;cases z;refine {l,rfl,i,xs++[.ref t],aC,?_};show Paired _ _ (if q=q then _ else _);rw[if_pos rfl];exact Pd.snoc (Pd.imp N (LE.imp tk)) {t,rfl,tk _ _ K}
  ·refine {m,rfl,J,P,?_,?_}
   ·have:m≠l:=fun w=>by subst w;exact s (g _ _ _ z A)
    rw[aX this];exact M
   ·show Paired _ _ (if q=p then _ else _);rw[if_neg s];exact Pd.imp O (LE.imp tk)
def BI.key(B:BI H H1 d f n)(D:H1 d=some (.dK kvs))(E:bI kvs p=none)(I:H1 l=some (.lst []))(hn:H l=none)(G:∀q,bI kvs q≠some (.ref l)):
  BI H (upd H1 d (.dK (kvs++[(p,.ref l)]))) d f (n+1):=by
 obtain ⟨K,a,b,c,e,g⟩:=B.ex;rw[D]at a;cases a;have tk:TK H1 (upd H1 d (.dK (kvs++[(p,.ref l)]))):=TK.dic D;refine {fun b o h=>?_,B.dn,kvs++[(p,.ref l)],aC,by simp;exact b,fun q z=>?_,fun q v z=>?_,fun q r m i s=>?_}
 ·rw[aX (aB h B.dn)];exact B.same _ _ h
 ·rw[mR E]at z;by_cases w:q=p
  ·rw[if_pos w]at z;cases z
  ·rw[if_neg w]at z;exact c q z
 ·rw[mR E]at z;by_cases w:q=p
  ·rw[if_pos w]at z;cases z;subst w;refine {l,rfl,hn,[],?_,?_}
   ·rw[aX (fN I D (by intro z;cases z))];exact I
   ·rw[c q E];exact .nil
  ·rw[if_neg w]at z;obtain ⟨m,rfl,M,O,J,N⟩:=e q v z;refine {m,rfl,M,O,?_,Pd.imp N (LE.imp tk)};rw[aX (fN J D (by intro z;cases z))];exact J
 ·rw[mR E]at i s;by_cases A:q=p <;> by_cases C:r=p
  ·rw[A,C]
  ·rw[if_pos A]at i;rw[if_neg C]at s;cases i;exact absurd s (G r)
  ·rw[if_neg A]at i;rw[if_pos C]at s;cases s;exact absurd i (G q)
  ·rw[if_neg A]at i;rw[if_neg C]at s;exact g q r m i s
def BI.mono(B:BI H H1 d f m)(h:m<=n):BI H H1 d f n:=by obtain ⟨g,a,b,c⟩:=B.ex;exact {B.same,B.dn,g,a,B9 b h,c}
def BI.non(B:BI H H1 d f n)(h:H1 l=none):H l=none:=by
 cases e:H l with
|none=>rfl
|some o=>rw[B.same _ _ e]at h;cases h
def BI.more(B:BI H H1 d f n)(g:H1 d=some (.dK kvs))(m:bI kvs p=some (.ref l))(i:H1 l=some (.lst xs))(b:H1 q=none)(c:upd H1 q (.lst []) t=none):
  BI H (upd (upd (upd H1 q (.lst [])) t (.tup [.int x.1,kV x.2])) l (.lst (xs++[.ref t]))) d (ZQ f p x) (n+1):=
 (((B.alloc b).alloc c).old (aO c (aO b g)) m (aO c (aO b i)) aC).mono (R6 _)
def BI.new(B:BI H H1 d f n)(c:H1 d=some (.dK kvs))(s:bI kvs p=none)(b:H1 l=none)(i:upd (upd H1 l (.lst [])) d (.dK (kvs++[(p,.ref l)])) t=none):
  BI H (upd (upd (upd (upd H1 l (.lst [])) d (.dK (kvs++[(p,.ref l)]))) t (.tup [.int x.1,kV x.2])) l (.lst ([]++[.ref t]))) d (ZQ f p x) (n+1):=by
 have g:l≠d:=fun z=>by subst z;rw[b]at c;cases c
 have C:=(B.alloc (o:=.lst []) b).key (l:=l) (aO b c) s aC (B.non b) (fun q z=>by
  obtain ⟨A,a,_,_,e,_⟩:=B.ex;rw[c]at a;cases a;obtain ⟨m,D,_,E,w,_⟩:=e q _ z;cases D;rw[b]at w;cases w)
 exact (C.alloc i).old (aO i aC) (by rw[mR s,if_pos rfl]) (aO i (by rw[aX g];exact aC)) aC
noncomputable def EL(net:List (hZ aL))(i:Nat)(f:aL->List (Nat×aL)):Prop:=∀q k x,(k,x)∈f q↔k<i/\∃r,net[k]?=some r/\Jn r q x
def EL.zero:EL net 0 (fun _=>[]):=fun q k x=>{fun h=>by simp at h,fun h=>absurd h.1 (R9 _)}
def EL.next(h:EL net i f)(c:net[i]?=some r):EL net (i+1) (ZQ (ZQ f r.1 (i,r.2.1)) r.2.1 (i,r.1)):=by
 intro q k x;have g:(k,x)∈ZQ (ZQ f r.1 (i,r.2.1)) r.2.1 (i,r.1) q↔(k,x)∈f q∨(q=r.1/\k=i/\x=r.2.1)∨(q=r.2.1/\k=i/\x=r.1):=by unfold ZQ;split <;> split <;> simp_all
 rw[g,h q k x];constructor
 ·rintro (⟨o,b⟩|⟨rfl,rfl,rfl⟩|⟨rfl,rfl,rfl⟩)
  ·exact {by lia,b}
  ·exact {by lia,r,c,.inl {rfl,rfl}}
  ·exact {by lia,r,c,.inr {rfl,rfl}}
 ·rintro ⟨o,s,b,m⟩;by_cases hk:k=i
  ·subst hk;rw[c]at b;cases b;rcases m with ⟨rfl,rfl⟩|⟨rfl,rfl⟩
   ·exact .inr (.inl {rfl,rfl,rfl})
   ·exact .inr (.inr {rfl,rfl,rfl})
  ·exact .inl {by lia,s,b,m}
def iS(h:∀q,(f q).length<=n)(q:aL):(ZQ f p x q).length<=n+1:=by
 unfold ZQ;have:=h q;split
 ·rw[m8];simp;exact this
 ·lia
noncomputable def Ej(H:Hp)(d:g6)(net:List (hZ aL)):Prop:=∃kvs f,H d=some (.dK kvs)/\EL net net.length f/\(∀q,(f q).length<=2*net.length)/\(∀p,bI kvs p=none->f p=[])/\∀p v,bI kvs p=some v->∃l,v=.ref l/\LQ LE H l (f p)
def BI.bes(B:BI H H1 d f n)(h:EL net net.length f)(m:∀q,(f q).length<=2*net.length):Ej H1 d net:=by obtain ⟨i,a,b,c,e,g⟩:=B.ex;exact {i,f,a,h,m,c,fun p v z=>let ⟨l,a,b,c⟩:=e p v z;{l,a,c}}
theorem iJ{i:Type}[DecidableEq i]:∀{l m:List i},l.Nodup->(∀x∈l,x∈m)->l.length<=m.length
|[],_,_,_=>w4 _
|a::l,m,c,h=>by
  rw[T4]at c;have f:=h a (by simp);have:=iJ (l:=l) (m:=m.erase a) c.2 fun x g=>by have b:x≠a:=fun z=>c.1 (by rw[←z];exact g);exact (List.mem_erase_of_ne b).mpr (h x (by simp[g]))
  have o:=List.length_erase_of_mem f;have q:0<m.length:=vy f;rw[K2];lia
def QB{kvs:List (aL×V)}{k:aL}{v:V}(h:k∉kvs.map (·.1)):eI kvs k v=kvs++[(k,v)]:=by unfold eI;rw[if_neg];intro z;obtain ⟨x,b,e⟩:=fh.mp z;exact h (w8.mpr {x,b,of_decide_eq_true e})
def RQ{b:Type}{m:AL aL b}{k:aL}{v:b}(h:k∉m.map (·.1)):eX m k v=m++[(k,v)]:=by unfold eX;rw[if_neg];intro z;obtain ⟨x,c,e⟩:=fh.mp z;exact h (w8.mpr {x,c,of_decide_eq_true e})
theorem mH:∀{b kvs:List (aL×V)},((kvs++b).map (·.1)).Nodup->gB kvs b=kvs++b
|[],kvs,_=>by simp[gB]
|kv::r,kvs,c=>by
  have f:kv.1∉kvs.map (·.1):=by rw[B6,Z3]at c;intro z;exact c.2.2 _ z kv.1 (by simp) rfl
  show gB (eI kvs kv.1 kv.2) r=_;rw[QB f,mH (by simpa using c)];simp
section
variable {te:TE}{Q:VK}{H:Hp}{a7:St}
def VW(hn:kvs.length<=1000)(g:g6->Nat->List V->Hp->Prop)(C:∀b,H b=none->g b 0 [] (upd H b (.lst [])))(w:∀b i ys f,H b=none->i<=kvs.length->g b i ys f->f a=some (.frz o (.dK kvs)))(hs:∀b i ys f k v,H b=none->kvs[i]?=some (k,v)->ys.length=i->f b=some (.lst ys)->g b i ys f->te (some (kV k)::a7) f (IK kvs.length b (g b) ys i))(D:∀b ys f,H b=none->f b=some (.lst ys)->ys.length=kvs.length->g b kvs.length ys f->Q (.ref b) f):mM te none (iD 0) (C7 1 none) a7 Q (Na a o kvs) H:=by
 intro b c;refine {cW kvs.length b (g b),{kvs.length,by simp,w4 _,rfl,aC,C b c},?_};rintro i m ys f ⟨rfl,E,B,s,p⟩;have q:=w b i ys f c E p;refine {s,?_};by_cases A:i<kvs.length
 ·refine .inr {eR (by lia),{q,A},fun J x I G y=>?_};obtain ⟨rfl,k,v,e,rfl⟩:=y;obtain ⟨o,rfl⟩:=XM G;exact {{[some (kV k)],rfl,rfl},hs b i ys _ k v c e B s p}
 ·have e:i=kvs.length:=by lia
  subst e;exact .inl {{q,k7 _},D b ys f c s B p}
end
noncomputable def qG(a b:g6)(H H':Hp):Prop:=∀c o,c≠a->c≠b->H c=some o->H' c=some o
def qG.refl(H:Hp):qG a b H H:=fun _ _ _ _ h=>h
def qG.trans(x:qG a b H H1)(y:qG a b H1 H2):qG a b H H2:=fun c o f g h=>y c o f g (x c o f g h)
def aK.kp2(s:aK H H'):qG a b H H':=fun c o _ _ h=>s _ _ h
def qG.l:qG a b H (upd H a o):=fun c u f _ h=>by rw[aX f];exact h
def qG.r:qG a b H (upd H b o):=fun c u _ f h=>by rw[aX f];exact h
def qG.tk(k:qG a b H H')(c:H a=some (.dK x))(f:H b=some (.dK y)):TK H H':=fun p g h=>k p _ (fN h c (by intro z;cases z)) (fN h f (by intro z;cases z)) h
def qG.lst(k:qG a b H H')(c:H a=some (.dK x))(f:H b=some (.dK y))(h:H p=some (.lst xs)):H' p=some (.lst xs):=k p _ (fN h c (by intro z;cases z)) (fN h f (by intro z;cases z)) h
def qG.same(k:qG a b H H')(s:aK H0 H)(f:H0 a=none)(g:H0 b=none):aK H0 H':=fun c o h=>k c o (aB h f) (aB h g) (s _ _ h)
structure mP(H:Hp)(l:g6)(net:List (hZ aL))(D M:Nat):Prop where
 lq:LQ jK H l net
 len:net.length<=120
 bd:∀r∈net,Bd D M r.2.2
 pos:∀r∈net,0<r.2.2
structure RY(H:Hp)(l:g6)(ps:List (aL×Rat))(D M:Nat):Prop where
 lq:LQ wI H l ps
 len:ps.length<=100
 bd:∀r∈ps,Bd D M r.2
structure RX(H:Hp)(v:V)(ts:List (aL×Rat)):Prop where
 lq:(v=.non/\ts=[])∨∃l,v=.ref l/\LQ wI H l ts
 len:ts.length<=100
 sz:∀r∈ts,Sz 8000 r.2
structure zI(D M:Nat):Prop where
 ne:D≠0
 d:D<2^8000
 m:M*1000*D<2^8000
def zI.sz(R:zI D M)(h:Bd D N q)(hn:N<=M*1000):Sz 8000 q:=h.sz R.ne R.d (E6 (kr _ hn) R.m)
def LQ.sm{c:Type}{R:Hp->V->c->Prop}{H H':Hp}{l:g6}{ds:List c}(h:LQ R H l ds)(f:∀ {H H' v b},R H v b->TK H H'->R H' v b)(s:aK H H'):LQ R H' l ds:=h.same (fun v b q=>f q s.tk) s
def DQ.sm{c:Type}{R:Hp->V->c->Prop}{H H':Hp}{l:g6}{ds:List (aL×c)}(h:DQ R H l ds)(f:∀ {H H' v b},R H v b->TK H H'->R H' v b)(s:aK H H'):DQ R H' l ds:=let ⟨k,a,b⟩:=h;{k,s _ _ a,b.imp fun v b q=>f q s.tk}
def mP.sm(h:mP H l net D M)(s:aK H H'):mP H' l net D M:={h.lq.sm jK.tk s,h.len,h.bd,h.pos}
def RY.sm(h:RY H l ps D M)(s:aK H H'):RY H' l ps D M:={h.lq.sm wI.tk s,h.len,h.bd}
def RX.sm(h:RX H v ts)(s:aK H H'):RX H' v ts:={h.lq.imp id fun ⟨l,e,q⟩=>{l,e,q.sm wI.tk s},h.len,h.sz}
def Ej.k2(h:Ej H d net)(k:qG a b H H')(g:H a=some (.dK x))(i:H b=some (.dK y))(m:d≠a)(o:d≠b):Ej H' d net:=by obtain ⟨c,f,A,B,C,D,E⟩:=h;refine {c,f,k _ _ m o A,B,C,D,fun p v e=>?_};obtain ⟨l,rfl,w,q,s⟩:=E p v e;exact {l,rfl,w,k.lst g i q,Pd.imp s (LE.imp (k.tk g i))}
def Ej.sm(h:Ej H d net)(s:aK H H'):Ej H' d net:=by obtain ⟨b,f,c,g,i,m,o⟩:=h;exact {b,f,s _ _ c,g,i,m,fun p v e=>let ⟨l,a,q⟩:=o p v e;{l,a,q.sm LE.tk s}}
section
variable {σ:St}{H:Hp}{Q:VK}{K:y8}
def Pf(h:RX H vt ts)(k:∀lt H1,aK H H1->LQ wI H1 lt ts->Q (.ref lt) H1):∃b,zD K vt H b/\if b=true then Q vt H else PM CF σ H Q:=by
 have hn:ts=[]->PM CF σ H Q:=fun e=>by subst e;exact Fy (Fx (dH fun p hp=>k p _ (aK.new hp) {[],aC,.nil}))
 rcases h.lq with ⟨rfl,e⟩|⟨l,rfl,q⟩
 ·exact Hs (R:=fun b H=>if b=true then Q .non H else PM CF σ H Q) (hn e)
 ·obtain ⟨g,c,f⟩:=q;refine Ht (R:=fun b H=>if b=true then Q (.ref l) H else PM CF σ H Q) c ?_;cases f with
 |nil=>exact hn rfl
 |cons a b=>exact k l H (aK.refl _) {_,c,.cons a b}
def Jz(B:Ej H d net)(hz:H z=some (.lst []))(k:∀l L,LQ LE H l L->L.length<=2*net.length->(∀j x,(j,x)∈L↔∃r,net[j]?=some r/\Jn r c x)->Q (.ref l) H):∃o,lZ H d (kV c) o/\Q (o.getD (.ref z)) H:=by
 obtain ⟨b,f,m,s,i,w,A⟩:=B;refine {bI b c,.inl {b,c,.inl m,rfl,rfl},?_};have g:∀j x,(j,x)∈f c↔∃r,net[j]?=some r/\Jn r c x:=fun j x=>by rw[s c j x];exact {fun h=>h.2,fun h=>{let ⟨r,e,_⟩:=h;(i5.mp e).1,h}}
 cases e:bI b c with
|none=>exact k z (f c) (by rw[w c e];exact {[],hz,.nil}) (i c) g
|some v=>obtain ⟨l,rfl,q⟩:=A c v e;exact k l (f c) q (i c) g
end
def KY{c:Type}{m:AL aL c}{k:aL}(h:aV m k=none):k∉m.map (·.1):=fun z=>by obtain ⟨y,b,rfl⟩:=w8.mp z;exact mN h y.2 b
def Ab{K:y8}{H:Hp}{p:g6}{kvs:List (aL×V)}{A B:Prop}(h:H p=some (.dK kvs))(c:kvs≠[]->A)(f:kvs=[]->B):∃k,zD K (.ref p) H k/\if k=true then A else B:=by
 refine Hu (R:=fun k _=>if k=true then A else B) h ?_;cases kvs with
|nil=>exact f rfl
|cons a b=>exact c (by simp)
def mQ.imp(I:mQ net push tk C W F)(h:∀q k x r,net[k]?=some r->Jn r q x->C' q k x->C q k x):mQ net push tk C' W F:=
 {I.ndW,I.ndF,I.dis,I.sup,I.ord,I.mono,I.psh,fun q e i k r p b c f g=>I.clo q e i k r p b c (h q k p r b c f) g}
noncomputable def univ(net:List (hZ aL))(ps:List (aL×Rat)):List aL:=ps.map (·.1)++(net.map (·.1)++net.map (·.2.1))
theorem Hc.univ(h:Hc net (aV (lst ps)) tk F p e):p∈univ net ps:=by
 obtain ⟨t,o⟩:=e;cases o with
|none=>
  have:=lH (cM (show aV (lst ps) p=some t from h));exact D3 _ (w8.mpr {_,this,rfl})
|some g=>
  obtain ⟨r,e,c,f,_⟩:=h;have b:=u8 c;refine x9 _ ?_;rcases f with ⟨_,rfl⟩|⟨_,rfl⟩
  ·exact x9 _ (w8.mpr {r,b,rfl})
  ·exact D3 _ (w8.mpr {r,b,rfl})
def mQ.lens{tk:Nat->Option Rat}{C:aL->Nat->aL->Prop}(I:mQ net (aV (lst ps)) tk C W F):W.length<=ps.length+2*net.length/\F.length<=ps.length+2*net.length:=by
 have g:(univ net ps).length=ps.length+2*net.length:=by simp[univ];lia
 rw[←g];constructor
 ·have:=iJ (m:=univ net ps) I.ndW fun x b=>by
   obtain ⟨y,c,rfl⟩:=w8.mp b;exact (I.sup y.1 y.2 c).univ
  rwa[j6]at this
 ·have:=iJ (m:=univ net ps) I.ndF fun x b=>by
   obtain ⟨y,c,rfl⟩:=w8.mp b;obtain ⟨i,f⟩:=N9 c;exact (I.ord i y.1 y.2 f).univ
  rwa[j6]at this
theorem sV{c:Type}{R:Hp->V->c->Prop}{H:Hp}:∀{ys:List V}{m:List (aL×c)},Paired (fun v (x:aL×c)=>∃a u,v=.ref a/\H a=some (.tup [kV x.1,u])/\R H u x.2) ys m->∃kvs,EJ H ys kvs/\KQ R H kvs m
|_,_,.nil=>{[],.nil,.nil}
|_,_,.cons (b:=b) r t=>by obtain ⟨a,u,rfl,f,g⟩:=r;obtain ⟨kvs,p,q⟩:=sV t;exact {(b.1,u)::kvs,.cons {a,rfl,f} p,.cons {rfl,g} q}
def kK:ZI (bU X scope a7 N C s0 H0 ex) (BA X.K):=aQ
noncomputable abbrev bX:=Str×Str×Rat
noncomputable def kn(n:List bX):List (hZ aL):=n.map fun r=>(i0 r.1,i0 r.2.1,r.2.2)
noncomputable def names(n:List bX):List Str:=n.map (·.1)++n.map (·.2.1)
def BK{i:Nat}(h:(kn n)[i]?=some r):∃s,n[i]?=some s/\r=(i0 s.1,i0 s.2.1,s.2.2):=by
 unfold kn at h;rw[t5]at h;cases e:n[i]? with
|none=>rw[e]at h;cases h
|some s=>rw[e]at h;exact {s,rfl,(l7 h).symm}
noncomputable def fI(H:Hp)(v:V)(o:Option Rat):Prop:=match o with|none=>v=.non|some q=>cA H v q
def fI.tk(h:fI H v o)(t:TK H H'):fI H' v o:=by
 cases o with
|none=>exact h
|some q=>exact cA.tk h t
def lI(c:b≠0):(m5 t b).num=dS t b/\((m5 t b).den:Int)=eJ t b:=VO c (iY c) (OG c) (mK c)
def cA.low(c:b≠0)(h:H p=some (.tup [.int (dS t b),.int (eJ t b)])):cA H (.ref p) (m5 t b):={p,rfl,by rw[h,(lI c).1,(lI c).2]}
def Ct(f:0<t)(c:0<b):0<m5 t b:=by
 rw[Rat.lt_iff,(lI (t:=t) (b:=b) (by omega)).1];show (0:Int)*_<dS t b*1;rw[Int.zero_mul,yi];have e:=mK (t:=t) (b:=b) (by omega);have hp:=iY (t:=t) (b:=b) (by omega);have:0<dS t b*b:=by rw[e];exact dh f hp
 exact wc this c
noncomputable abbrev Mu:Str:=K5 "abcdefghijklmnopqrstuvwxyz"
def OW:Mu.length=26:=by k_is
def EH:∀j:Nat,j<26->zA Mu.cps.toList (j:Int)=some (97+j):=by k_is
section
variable {H:Hp}{Q:VK}{K:y8}
def NF(hz:z.length<=100000)(e:zA z.cps.toList i=some c)(k:Q (.str ⟨#[c]⟩) H):BA K (.str z) (.int i) H Q:=.inr (.inr {z,i,c,rfl,rfl,by rw[B8];lia,e,k})
def qY(h:a.length+b.length<=100000)(k:Q (.str (a++b)) H):GO K (.str a) (.str b) H Q:=.inr (.inr (.inr {a,b,rfl,rfl,by rw[B8];lia,k}))
end
def vY(a b:Str):(a++b).length=a.length+b.length:=by show (a.cps++b.cps).size=_;simp[Str.length]
def Kp.sm(k:Kp p H1 H2)(s:aK H H1)(hp:H p=none):aK H H2:=fun b o h=>k _ _ (aB h hp) (s _ _ h)
def WZ(g:LQ jK H l (kn n))(f:n.length<=120)(c:∀r∈n,Bd D M r.2.2)(hp:∀r∈n,0<r.2.2):mP H l (kn n) D M:=by
 refine {g,by simpa[kn] using f,fun r b=>?_,fun r b=>?_}
 ·obtain ⟨s,hs,rfl⟩:=w8.mp b;exact c s hs
 ·obtain ⟨s,hs,rfl⟩:=w8.mp b;exact hp s hs
noncomputable def EN(q:Rat):Dt:=.tup [.int q.num,.int q.den]
def gC(h:cA H v q):oM H (EN q) v:=let ⟨p,e,h⟩:=h;e▸Vn h
noncomputable abbrev sA:Str:=K5 "a"
noncomputable abbrev sB:Str:=K5 "b"
noncomputable def n0:List bX:=[(sA,sB,m5 1 2)]
noncomputable def Tp:List (aL×Rat):=[(i0 sB,m5 1 3)]
def XJ(f:0<t)(c:0<b):0<dS t b:=by
 have e:=mK (t:=t) (b:=b) (by lia);have hp:=iY (t:=t) (b:=b) (by lia);have:0<dS t b*b:=by rw[e];exact dh f hp
 exact wc this c
def Ar(k:Q (.int 1000000000000) H):rI SI (fun i j=>.int (i^j.toNat)) (.int 10) (.int 12) H Q:=Bj {by decide,by decide,by decide} k
end L2
namespace L2
open PySem PySem.Spec PySem.W PySem.Calls PyProof.Rows PySem.Builtin PySem.Builtin.ObjectAttr PySem.Builtin.Getset_descriptor
end L2
namespace L2
open PySem PySem.Spec PyProof.Rows
noncomputable abbrev Vt:=St->Hp->VK->XK->Prop
end L2
namespace L2
open PySem PySem.Spec PyProof.Rows PySem.W
structure tQ(K:y8)(C:g6)(st:E2)(m qual:Str)(ps:List Str):Prop where
 ex:∃(f:g6)(fd:M6),(∃(oc:f9)(od:Option g6)(dV kV doc pm:f9)(an:Option g6)(cm ct:f9)(osl:Array (Option f9)),
  fd=ik m qual (cH st) (bP st) (aG st) dV kV doc pm an cm ct/\K.lookup f=some {oc,od,.func fd,osl}/\codeIn K cm qual=true)/\ZF K C m f/\fG K fd ps []
def dfc2_mk{K:y8}{C f:g6}{st:E2}{m g:Str}{ps:List Str}{D:f9}{E s:Option g6}{q:Array (Option f9)}{A kV o B i w:f9}(a:findIn K (.ref C) m=some (some (.ref f)))(l:K.lookup f=some {D,E,.func (ik m g (cH st) (bP st) (aG st) A kV o B s i w),q})(c:codeIn K i g=true)(G:isFn K (.ref f)=true)(kp:keepIn K (.ref f)=true)(b:∀us:List f9,us.length=ps.length->wq (ik m g (cH st) (bP st) (aG st) A kV o B s i w) {us,[]}=L3 (ps.zip us)):tQ K C st m g ps:=
 {f,_,{D,E,A,kV,o,B,s,i,w,q,rfl,l,c},{a,G,kp},.all b}
structure kX(CX:zY)(P:m9)(w:w6)(K:y8)(mg:Str->Option f9)(base:C3)(k:Nat)(C:g6)(m:Str)(ps:List Str)(sp:Sp):Prop where
 ex:∃(f:g6)(fd:M6),ZF K C m f/\fG K fd ps []/\jV P w K mg base CX k f fd ps sp
section
variable {CX:zY}{P:m9}{w:w6}{K:y8}{mg:Str->Option f9}{base:C3}{j k:Nat}{C:g6}{st:E2}{m qual:Str}{N ps:List Str}{sp:Sp}
def kX.mono(o:kX CX P w K mg base j C m ps sp)(h:j<=k):kX CX P w K mg base k C m ps sp:=let ⟨f,g,a,b,c⟩:=o.ex;{f,g,a,b,c.mono h}
def kX.of(d:tQ K C st m qual ps)(S:aM N ps (aG st))(D:∀vs H Q E,sp vs H Q E->vs.length=ps.length)
  (i:∀ (f:g6) (g:f9) (A:B2)(c:List Env)(s:i6)(H:Hp)(vs:List V)(Q:VK)(E:XK),eP k (A.deeper (ii qual (aG st) s.heap.objs.size f g))->sp vs H Q E ->
   ∃t,zJ (rL mB P w K mg base N qual (aG st) f g A c s H E).nox (bP st) t/\t {nx:=fun _ H'=>Q .non H',rt:=Q} (start N vs) H):kX mB P w K mg base (k+1) C m ps sp:=by
 obtain ⟨f,W,⟨X,Y,U,kV,G,Z,R,g,T,O,rfl,J,o⟩,M,b⟩:=d.ex;refine {f,_,M,b,yO J o S D fun A c s H vs Q E I B=>?_};obtain ⟨t,h,q⟩:=i f g A c s H vs Q E I B;exact {t,h.nox,q}
end
section
variable {X:Cx}{CX:zY}{k:Nat}{C:g6}{ps:List Str}{sp:Sp}{E:XK}{x m:Str}{p pos bn:Pos}{e o:D9}{es:List D9}{ta:TE}{t:TA}{pl:Sem Bool}
def oY(I:kX CX X.prog X.w X.K X.mg X.base k C m ps sp)(c:EK X.K C)(B:eP k X.A)(G:kR CX X E)(s:PE X o ta)(q:PA X (e::es) t)(i:v9 (e::es) X.env=(false,K3 e X.env)::v9 es X.env:=by rfl)(g:(O5 pos (v9 es X.env)).any (·.1)=false:=by rfl)
  (D:K3 (.Call (.Attribute o m bn) (e::es) [] pos) X.env=(do
   let ov ←K3 o X.env
   nz bn.atName
   let (f,first) ←kj [ov] (oo ov m pl)
   wn pos f first (O5 pos (v9 (e::es) X.env)) (ju pos (Y1 [] X.env))):=by rfl) :
  PE X (.Call (.Attribute o m bn) (e::es) [] pos) (EX C m sp [] E ta t):=by
 obtain ⟨f,J,H,b,F⟩:=I.ex;exact Bw s c H F B b .nil G q i g D
def uC(D:kX CX X.prog X.w X.K X.mg X.base k C m ps sp)(c:EK X.K C)(i:eP k X.A)(s:kR CX X E)(g:PE X o ta)
  (q:K3 (.Call (.Attribute o m bn) [] [] pos) X.env=(do
   let ov ←K3 o X.env
   nz bn.atName
   let (f,first) ←kj [ov] (oo ov m pl)
   wn pos f first (O5 pos (v9 [] X.env)) (ju pos (Y1 [] X.env))):=by rfl) :
  PE X (.Call (.Attribute o m bn) [] [] pos) (EX C m sp [] E ta CF):=by
 obtain ⟨f,G,B,b,F⟩:=D.ex;exact WJ g c B F i b .nil s q
def Qw(J:kX CX X.prog X.w X.K X.mg X.base k C "__init__" ps sp)(g:makesIn X.K C=true)(kp:keepIn X.K (.ref C)=true)(H:eP (k+1) X.A)(I:kR CX X E)(D:Gl X x)(G:X.mg x=some (.ref C))(B:PA X (e::es) t)(c:(x==("__debug__":Str))=false:=by decide)(q:v9 (e::es) X.env=(false,K3 e X.env)::v9 es X.env:=by rfl)(i:(O5 pos (v9 es X.env)).any (·.1)=false:=by rfl):
  PE X (.Call (.Name x p) (e::es) [] pos) (LL C sp [] E t):=by
 obtain ⟨f,M,s,b,F⟩:=J.ex;exact Bx {g,s.at_,s.fn,kp} F H D G b .nil I B c q i
end
structure RZ(CX:zY)(P:m9)(w:w6)(K:y8)(mg:Str->Option f9)(base:C3)(k:Nat)(C:g6)(ps:List Str)(sp:Sp):Prop where
 ex:∃j,j+1<=k/\kX CX P w K mg base j C "__init__" ps sp
def RZ.mono{CX:zY}{P:m9}{w:w6}{K:y8}{f:Str->Option f9}{c:C3}{j k:Nat}{C:g6}{ps:List Str}{sp:Sp}(o:RZ CX P w K f c j C ps sp)(h:j<=k):RZ CX P w K f c k C ps sp:=let ⟨i,a,b⟩:=o.ex;{i,B9 a h,b}
def kX.toMk{CX:zY}{P:m9}{w:w6}{K:y8}{c:Str->Option f9}{b:C3}{k:Nat}{C:g6}{ps:List Str}{sp:Sp}(o:kX CX P w K c b k C "__init__" ps sp):RZ CX P w K c b (k+1) C ps sp:={k,k7 _,o}
def JR(G:RZ CX X.prog X.w X.K X.mg X.base k C ps sp)(c:makesIn X.K C=true)(kp:keepIn X.K (.ref C)=true)(B:eP k X.A)(D:kR CX X E)(m:Gl X x)(s:X.mg x=some (.ref C))(i:PA X (e::es) t)(b:(x==("__debug__":Str))=false:=by decide)(g:v9 (e::es) X.env=(false,K3 e X.env)::v9 es X.env:=by rfl)(f:(O5 pos (v9 es X.env)).any (·.1)=false:=by rfl):
  PE X (.Call (.Name x p) (e::es) [] pos) (LL C sp [] E t):=by
 obtain ⟨j,q,o⟩:=G.ex;exact Qw o c kp (B.mono q) D m s i b g f
section
variable {C:g6}{m:Str}{sp:Sp}{E:XK}{ta:TE}{t:TA}{σ:St}{H:Hp}{Q:VK}{D:gM}{K:y8}{f:Str}{tv:TE}
def Um(k:ta σ H fun x H1=>∃a dx fs,x=.ref a/\H1 a=some (.ins C dx fs)/\fs.lookup m=none/\t σ H1 fun vs H2=>sp (x::(vs++[])) H2 Q E):EX C m sp [] E ta t σ H Q:=k
def Pw(k:ta σ H fun x H1=>∃a C dx fs v,x=.ref a/\H1 a=some (.ins C dx fs)/\EK K C/\fP K C f/\fs.lookup f=some v/\Q v H1):Hz K ta f σ H Q:=k
def Ij(k:tv σ H fun y H1=>ta σ H1 fun x H2=>∃a C dx fs,x=.ref a/\H2 a=some (.ins C dx fs)/\EK K C/\fP K C f/\fs.length<1000/\D.nx σ (upd H2 a (.ins C dx (gY f y fs)))):Ot K ta tv f D σ H:=k
def Pm(k:t σ H fun vs H1=>∀x dx,H1 x=none->H1 dx=none->dx≠x->sp (.ref x::(vs++[])) (upd (upd H1 dx (.own x)) x (.ins C dx [])) (fun v H2=>v=.non/\Q (.ref x) H2) E):LL C sp [] E t σ H Q:=k
end
section
variable {C:g6}{m f:Str}{K:y8}{H:Hp}{a dx:g6}{fs:List (Str×V)}{v:V}
def Vc(h:H a=some (.ins C dx fs))(l:fs.lookup m=none)(k:R):∃c b fs',V.ref a=.ref c/\H c=some (.ins C b fs')/\fs'.lookup m=none/\R:={a,dx,fs,rfl,h,l,k}
def Vl{Q:V->Prop}(h:H a=some (.ins C dx fs))(c:EK K C)(n:fP K C f)(l:fs.lookup f=some v)(k:Q v):∃i b g fs' o,V.ref a=.ref i/\H i=some (.ins b g fs')/\EK K b/\fP K b f/\fs'.lookup f=some o/\Q o:={a,C,dx,fs,v,rfl,h,c,n,l,k}
def Uf{N:g6->g6->g6->List (Str×V)->Prop}(h:H a=some (.ins C dx fs))(c:EK K C)(n:fP K C f)(o:fs.length<1000)(k:N a C dx fs):∃i g b fs',V.ref a=.ref i/\H i=some (.ins g b fs')/\EK K g/\fP K g f/\fs'.length<1000/\N i g b fs':={a,C,dx,fs,rfl,h,c,n,o,k}
end
noncomputable def jL(L:List g6)(H H':Hp):Prop:=∀b o,b∉L->H b=some o->H' b=some o
section
variable {L:List g6}{H H1 H2:Hp}
def jL.trans(a:jL L H H1)(b:jL L H1 H2):jL L H H2:=fun c o n h=>b c o n (a c o n h)
def aK.kpL(s:aK H H1):jL L H H1:=fun c o _ h=>s c o h
def jL.upd(h:p∈L):jL L H (L2.upd H p o):=fun c u n e=>by rw[aX (fun z:c=p=>n (z▸h))];exact e
def jL.mono(s:∀x∈L,x∈L')(k:jL L H H1):jL L' H H1:=fun c o n e=>k c o (fun z=>n (s c z)) e
def jL.tk(k:jL L H H1)(h:∀p∈L,∀xs,H p≠some (.tup xs)):TK H H1:=fun p xs e=>k p _ (fun z=>h p z xs e) e
end
noncomputable def bV(ln lp lt:g6)(vm:V)(dm:g6):List (Str×V):=[("net",.ref ln),("pushes",.ref lp),("takings",.ref lt),("moment",vm),("moments",.ref dm)]
noncomputable def ID(m:Rat)(o:Option Rat):Bool:=match o with|none=>false|some q=>!decide (m<q)
def wL(h:H a=some (.ins C dx fs)):TK H (L2.upd H a o):=fun p b e=>by rw[aX (fN e h (by intro z;cases z))];exact e
def DQ.mv{c:Type}{R:Hp->V->c->Prop}{H H':Hp}{l:g6}{ds:List (aL×c)}(h:DQ R H l ds)(f:∀ {H H' v b},R H v b->TK H H'->R H' v b)(e:∀o,H l=some o->H' l=some o)(t:TK H H'):DQ R H' l ds:=let ⟨k,a,b⟩:=h;{k,e _ a,b.imp fun v b q=>f q t}
def LQ.mv{c:Type}{R:Hp->V->c->Prop}{H H':Hp}{l:g6}{ds:List c}(h:LQ R H l ds)(f:∀ {H H' v b},R H v b->TK H H'->R H' v b)(e:∀o,H l=some o->H' l=some o)(t:TK H H'):LQ R H' l ds:=let ⟨k,a,b⟩:=h;{k,e _ a,Pd.imp b fun v b q=>f q t}
def CG(c:G q=none)(f:G h=some (.ins C dx fs)):∃b,L2.upd (L2.upd G q o) h (.ins C dx fs')=b/\jL [h] G b/\b q=some o/\b h=some (.ins C dx fs')/\q≠h:=by
 have n:q≠h:=fun z=>by rw[z,f]at c;cases c
 exact {_,rfl,(aK.kpL (aK.new c)).trans (.upd (.head _)),aW n aC,aC,n}
def jL.app1(k:jL [h] H H')(n:b≠h)(e:H b=some o):H' b=some o:=k _ _ (fun z=>n (i9.mp z)) e
def jL.fr(k:jL L H H')(n:b∉L)(e:H' b=none):H b=none:=by
 cases z:H b with
|none=>rfl
|some o=>rw[k _ _ n z]at e;cases e
def dQ:R0 (.Name x p) f env (K3 (.Name x p) env)=K3 (.Name x p) env:=rfl
def NW(c:PE (bU X scope a7 N C s0 H0 ex) e ta)(b:R0 e f (bU X scope a7 N C s0 H0 ex).env (K3 e (bU X scope a7 N C s0 H0 ex).env)=K3 e (bU X scope a7 N C s0 H0 ex).env):PE (bU X scope a7 N C s0 H0 ex) (.Attribute e f pos) (Hz X.K ta f):=dU c b
end L2
namespace L2
open PySem PySem.Spec PyProof.Rows
noncomputable abbrev sC:Str:=K5 "c"
noncomputable def n2:List bX:=[(sA,sB,m5 1 2),(sB,sC,m5 1 3)]
def XW{i:Int}{ys:List Int}:Ts (.int i) (ys.map V.int)=decide (i∈ys):=by
 unfold Ts
 induction ys with
|nil=>rfl
|cons y r ih=>
  rw[K1,fi,ih];show ((y==i)||_)=_;by_cases h:i=y
  ·subst h;simp
  ·by_cases b:i∈r
   ·simp[b]
   ·simp[b,h,u7 h]
theorem BP:∀ys:List Int,(ys.map V.int).all oH=true
|[]=>rfl
|y::r=>by rw[K1,At,BP r];rfl
def Ga{K:y8}{H:Hp}{Q:VK}{p:g6}{ys:List Int}{i:Int}(h:H p=some (.lst (ys.map V.int)))(k:Q (.bl (decide (i∈ys))) H):Ux K false (.int i) (.ref p) H Q:={p,_,rfl,.inl (cS.of h),rfl,BP _,by rw[XW];exact k}
theorem BT:∀b:List Int,jB (b.map Dt.int)<=0
|[]=>k7 _
|z::b=>by show max 0 (jB (b.map Dt.int))<=0;have:=BT b;lia
theorem BU:∀b:List Int,kU H (b.map Dt.int) (b.map V.int)
|[]=>rfl
|z::b=>{_,_,rfl,rfl,BU b}
def uY{s:TS}{b:St}{H:Hp}(J:St->Hp->Prop)(c:∀b H,J b H->D.nx b H)(k:∀NX:St->Hp->Prop,(∀b H,J b H->NX b H)->s {NX,D.rt,D.bk,D.ct} b H):s D b H:=k D.nx c
noncomputable def n3:List bX:=[(sA,sB,m5 1 2),(sB,sC,m5 1 1)]
noncomputable def ts3:List (aL×Rat):=[(j5 0,m5 1 2),(j5 1,m5 1 1)]
noncomputable def ZM:Nat->Option Rat:=fun k=>aV (lst ts3) (j5 (k:Int))
open Classical in
noncomputable def dst(n:List bX)(a:aL)(m:Rat):aL->Option Rat:=if h:∃f,iA (kn n) (aV (lst [(a,m)])) (fun _=>none) f then Classical.choose h else fun _=>none
noncomputable def gd(n:List bX)(s z:Str):Option Rat:=if z∈names n then dst n (i0 s) (m5 0 1) (i0 z) else none
noncomputable def Qu(ys:List Str):List (Str×Str):=ys.flatMap fun y=>ys.map fun z=>(y,z)
theorem Pd.app{b:Type}{R:V->b->Prop}:∀{xs ys:List V}{ds es:List b},Paired R xs ds->Paired R ys es->Paired R (xs++ys) (ds++es)
|_,_,_,_,.nil,h=>h
|_,_,_,_,.cons r t,h=>.cons r (Pd.app t h)
noncomputable def fW(n:Nat)(cu:g6)(Pv:Nat->List V->Hp->Prop):Nat->Nat->List V->Hp->Prop:=fun i m ys H1=>m=n-i/\i<=n/\ys.length<=i/\H1 cu=some (.lst ys)/\Pv i ys H1
noncomputable def BR(n:Nat)(cu:g6)(Pv:Nat->List V->Hp->Prop)(ys:List V)(i:Nat):VK:=fun y H3=>H3 cu=some (.lst ys)/\∃m',m'<n-i/\fW n cu Pv (i+1) m' (ys++[y]) (upd H3 cu (.lst (ys++[y])))
noncomputable def yQ(n:Nat)(cu:g6)(Pv:Nat->List V->Hp->Prop)(ys:List V)(i:Nat)(H3:Hp):Prop:=∃m',m'<n-i/\fW n cu Pv (i+1) m' ys H3
def pH(b:i<n)(f:ys.length<=i)(c:H3 cu=some (.lst ys))(p:Pv (i+1) (ys++[y]) (upd H3 cu (.lst (ys++[y])))):BR n cu Pv ys i y H3:=
 {c,n-(i+1),by omega,rfl,b,by rw[m8];simp;exact f,aC,p}
def nK(b:i<n)(f:ys.length<=i)(c:H3 cu=some (.lst ys))(p:Pv (i+1) ys H3):yQ n cu Pv ys i H3:=
 {n-(i+1),by lia,rfl,b,by lia,c,p}
section
variable {te:TE}{Q:VK}{H:Hp}{a7:St}{K:y8}
def xQ(hn:xs.length<=1000)(w:g6->Nat->List V->Hp->Prop)(E:∀f,H f=none->w f 0 [] (upd H f (.lst [])))(B:∀f i ys s,H f=none->i<=xs.length->w f i ys s->cS K s a xs)(hs:∀f i ys s x,H f=none->xs[i]?=some x->ys.length<=i->s f=some (.lst ys)->w f i ys s->c (some x::a7) s fun b H3=>if b=true then te (some x::a7) H3 (BR xs.length f (w f) ys i) else yQ xs.length f (w f) ys i H3)(G:∀f ys s,H f=none->s f=some (.lst ys)->ys.length<=xs.length->w f xs.length ys s->Q (.ref f) s):mM te (some c) (iD 0) (C7 1 none) a7 Q (SC K a) H:=by
 intro f g;refine {fW xs.length f (w f),{xs.length,by simp,w4 _,k7 _,aC,E f g},?_};rintro i m ys s ⟨rfl,I,D,A,p⟩;have q:=B f i ys s g I p;refine {A,?_};by_cases C:i<xs.length
 ·refine .inr {eR (by lia),{xs,xs[i],q,by simp[C]},fun N x M J y=>?_};obtain ⟨e,y⟩:=y;subst e;obtain ⟨o,rfl⟩:=XM J;exact {{[some x],rfl,rfl},hs f i ys _ x g (y xs q) D A p}
 ·have e:i=xs.length:=by lia
  subst e;exact .inl {{xs,q,k7 _},G f ys s g A D p}
end
noncomputable def xK(n:Nat):List V:=(y9 n).map fun(i:Nat)=>V.int (i:Int)
noncomputable def Ep(ta:TA):TE:=fun σ H Q=>ta σ H fun vs H1=>∃n:Nat,vs=[.int n]/\n<=1000/\∀p,H1 p=none->Q (.ref p) (upd H1 p (.lst (xK n)))
def Jb(k:ta σ H fun vs H1=>∃n:Nat,vs=[.int n]/\n<=1000/\∀p,H1 p=none->Q (.ref p) (upd H1 p (.lst (xK n)))):Ep ta σ H Q:=k
def VM(h:ItemsOf (fun i x=>∃t,x=ei (0+(i:Nat)*1) t) cu n):bH (xK n) cu.toList:=by
 have c:∀(l:List f9)(k:Nat),(∀j v,l[j]?=some v->∃t,v=ei ((k+j:Nat):Int) t)->bH ((List.range' k l.length).map fun(i:Nat)=>V.int (i:Int)) l:=by
  intro l
  induction l with
 |nil=>exact fun k _=>.nil
 |cons u r ih=>
   intro k hk;rw[K2,List.range'_succ,K1];refine .cons ?_ (ih (k+1) fun j v e=>?_)
   ·obtain ⟨t,e⟩:=hk 0 u rfl;exact {t,e}
   ·obtain ⟨t,b⟩:=hk (j+1) v e;exact {t,by rw[b,show k+(j+1)=k+1+j by lia]}
 have:=c cu.toList 0 fun j v e=>by obtain ⟨t,b⟩:=h.2 j v (by rw[←x8];exact e);exact {t,by rw[b];simp}
 rw[m6,h.1,←List.range_eq_range']at this;exact this
def Bz(G:X.calm=true)(g:Gl X "list")(i:X.mg "list"=none)(J:Gl X "range")(K:X.mg "range"=none)(E:PA X [a] ta)(B:v9 [.Call (.Name "range" p2) [a] [] pos2] X.env=[(false,K3 (.Call (.Name "range" p2) [a] [] pos2) X.env)]:=by rfl)(hs:v9 [a] X.env=[(false,K3 a X.env)]:=by rfl):
  PE X (.Call (.Name "list" p) [.Call (.Name "range" p2) [a] [] pos2] [] pos) (Ep ta):=by
 intro f s R H Q I h;refine S7 (lX I g i OV ?_ (by decide) (by decide));refine F6 ?_ B rfl;rw[B];show j0 _ _ (yp ((false,K3 (.Call (.Name "range" p2) [a] [] pos2) X.env)::O5 pos [])) _ _ s;refine P4 ?_;refine Call_ (lX I J K boot_range (F6 (dD (E pos2 f s R H _ I h) fun U m ⟨W,S,w,O,N⟩=>?_) hs rfl));obtain ⟨n,e,hn,q⟩:=N;subst e;cases O with
|cons r P=>
  cases P;obtain ⟨t,rfl⟩:=r;refine call_range_1 ?_;refine S6 ?_;refine call_list_range (I.ok.hd G) (IsRange.new ..) (small_one (by decide) (by decide) (by lia) (by lia)) (n:=n) (by rw[rangeSize_one];split <;> lia) (by lia) fun T tk A C hk D c=>?_;have M:=VM c;refine {.ref _,_,w.laid (t':=tk) (a:=(m.heap.push {cls:=.type "range",data:=.fields #[.int 0 m.toks,.int n t,.int 1 (m.toks+1)]}).objs.size) (o:=.lst (xK n)) (fun b o e=>hk b o (i4 _ e)) (by rw[L5];exact R6 _) ?_,rfl,q _ (w.hok.fresh (by rw[L5];exact R6 _))};refine {?_,_,C,M,?_}
  ·have:(xK n).length=n:=by simp[xK]
   rw[this,B8];lia
  ·rw[jx];exact D
noncomputable def n4:List bX:=[(sA,sB,m5 1 1),(sB,sA,m5 1 1)]
def VP{H:Hp}{Q:VK}{z:Str}{lo b:Option Int}(hz:z.length<=100000)(k:Q (.str (fz z lo b)) H):Qm (.str z) lo b H Q:={z,rfl,by rw[B8];lia,k}
def WQ:lN (bU X scope a7 N C s0 H0 ex) (R7 .Add) (GO X.K):=bG
noncomputable def n5:List bX:=[(sA,sB,m5 1 1)]
section
variable {X:Cx}{a:D9}{ta:TE}
noncomputable def Nx(ta:TE):TE:=fun σ H Q=>ta σ H fun x H1=>∃l xs,x=.ref l/\H1 l=some (.lst xs)/\∀p,H1 p=none->Q (.ref p) (upd H1 p (.lst xs.reverse))
def Oz(k:ta σ H fun x H1=>∃l xs,x=.ref l/\H1 l=some (.lst xs)/\∀p,H1 p=none->Q (.ref p) (upd H1 p (.lst xs.reverse))):Nx ta σ H Q:=k
def Kl(M:PE X a ta):PE X (.Subscript a (.Slice none none (some (.UnaryOp .USub (.Constant (.int 1) j p1) p2)) p3) pos) (Nx ta):=by intro c s A H Q I h;refine qm (dD (M c s A H _ I h) fun v T ⟨x,B,E,R,l,U,e,N,q⟩=>?_);subst e;cases R;refine wpAny_Slice ?_;rw[yc,evalPart_some];refine i8 (i8 ?_);refine dD ((WI (pos:=p2) IZ (aF (X:=X) (i:=1) (j:=j) (pos:=p1))) c T A B (fun y g=>y=.int (-1)/\g=B) E {1,rfl,rfl,rfl}) fun st f ⟨y,g,G,S,J,K⟩=>?_;subst J K;obtain ⟨t,rfl⟩:=S;have m:aY X c A g {f with heap:=f.heap.push {cls:=.type "slice",data:=.fields #[.none,.none,.int (-1) t]}}:=G.kept (t':=f.toks) fun b P q=>i4 _ q;obtain ⟨w,r,D,O⟩:=m.list (cS.of N);have C:=r.length;refine tail_any (ops:=[.ref l,.ref f.heap.objs.size]) D.isList.typeIs slot_list_getitem.lookup ?_ (by with_unfolding_all rfl);refine wpAny_getItem_list_slice D.isList (C3.IsSliceOf.new ..) .none .none (.int (-1) t) (by decide) ?_ (by rw[l8] <;> lia);rw[PySem.W.krv_pick];refine {.ref _,_,m.laid (t':=f.toks) (o:=.lst U.reverse) (fun b P q=>i4 _ q) (k7 _) ?_,rfl,q _ (m.hok.fresh (k7 _))};exact {by rw[yh];exact O,w.reverse,0,r.reverse,o0 _ rfl}
end
section
variable {te:TE}{Q:VK}{H:Hp}{a7:St}
def GN{c:TT}{lo:Int}{n:Nat}(hn:n<=1000)(s:g6->Nat->List V->Hp->Prop)(C:∀f,H f=none->s f 0 [] (upd H f (.lst [])))(hs:∀f i ys q,H f=none->i<n->ys.length<=i->q f=some (.lst ys)->s f i ys q->c (some (.int (lo+i))::a7) q fun b H3=>if b=true then te (some (.int (lo+i))::a7) H3 (BR n f (s f) ys i) else yQ n f (s f) ys i H3)(D:∀f ys q,H f=none->q f=some (.lst ys)->ys.length<=n->s f n ys q->Q (.ref f) q):mM te (some c) (iD 0) (C7 1 none) a7 Q (OY lo n) H:=by
 intro f g;refine {fW n f (s f),{n,by simp,w4 _,k7 _,aC,C f g},?_};rintro i m ys q ⟨rfl,I,B,A,p⟩;refine {A,?_};by_cases w:i<n
 ·refine .inr {eR (by lia),w,fun J x G E y=>?_};obtain ⟨e,y⟩:=y;subst e y;obtain ⟨o,rfl⟩:=XM E;exact {{[some (.int (lo+i))],rfl,rfl},hs f i ys _ g w B A p}
 ·have e:i=n:=by lia
  subst e;exact .inl {k7 _,D f ys q g A B p}
end
def VY(k:ta σ H fun x H1=>tb σ H1 fun y H2=>r x y H2 fun z H3=>∃k,z=.bl k/\(if k=true then tc σ H3 fun w' H4=>r' y w' H4 Q else Q (.bl false) H3)):TY r r' ta tb tc σ H Q:=k
theorem LJ:∀{kvs:List (aL×V)}{i:Nat}{k:aL}{v:V},(kvs.map (·.1)).Nodup->kvs[i]?=some (k,v)->bI kvs k=some v
|[],i,k,v,_,h=>by simp at h
|p::r,0,k,v,_,h=>by
  cases (l7 h:p=(k,v));exact dE rfl
|p::r,i+1,k,v,b,h=>by rw[K1,T4]at b;have h':r[i]?=some (k,v):=h;rw[cY fun e=>b.1 (w8.mpr {_,u8 h',e.symm})];exact LJ b.2 h'
section
variable {σ:St}{H:Hp}{D:gM}{K:y8}
def pS{lo:Int}{n:Nat}{g:TG}{c:TS}(b:Nat->St->Hp->Prop)(f:b 0 σ H)(hs:∀(P':Nat->St->Hp->Prop)(rt:VK)(bk:St->Hp->Prop),(∀i σ H,b i σ H->P' i σ H)->∀i σ H,i<n->b i σ H->g (.int (lo+i)) σ H fun σ2 H2=>c {P' (i+1),rt,bk,P' (i+1)} σ2 H2)(m:∀σ H,b n σ H->D.nx σ H):HX g c D σ (OY lo n) H:=Jo b f (hs b D.rt D.nx fun _ _ _ h=>h) m
def sP(b:Nat->St->Hp->Prop)(c:b 0 σ H)(m:∀i σ H,i<=xs.length->b i σ H->cS K H a xs)(hs:∀(P':Nat->St->Hp->Prop)(rt:VK)(bk:St->Hp->Prop),(∀i σ H,b i σ H->P' i σ H)->∀i x σ H,xs[i]?=some x->b i σ H->g x σ H fun σ2 H2=>tb {P' (i+1),rt,bk,P' (i+1)} σ2 H2)(f:∀σ H,b xs.length σ H->D.nx σ H):HX g tb D σ (SC K a) H:=JN b c m (hs b D.rt D.nx fun _ _ _ h=>h) f
end
def Rk{us:St}(h:us.length=2):∃o p,us=[o,p]:=by
 cases us with
|nil=>cases h
|cons o us=>cases us with
 |nil=>cases h
 |cons p us=>cases us with
  |nil=>exact {o,p,rfl}
  |cons q us=>cases h
section
variable {te:TE}{Q:VK}{H:Hp}{a7:St}{K:y8}
def VT(hn:xs.length<=1000)(s:g6->Nat->List V->Hp->Prop)(I:∀f,H f=none->s f 0 [] (upd H f (.lst [])))(C:∀f i ys g,H f=none->i<=xs.length->s f i ys g->cS K g a xs)(hs:∀f i ys g x,H f=none->xs[i]?=some x->ys.length<=i->g f=some (.lst ys)->s f i ys g->∃p u v,x=.ref p/\g p=some (.tup [u,v])/\c (some u::some v::a7) g fun b H3=>if b=true then te (some u::some v::a7) H3 (BR xs.length f (s f) ys i) else yQ xs.length f (s f) ys i H3)(N:∀f ys g,H f=none->g f=some (.lst ys)->ys.length<=xs.length->s f xs.length ys g->Q (.ref f) g):mM te (some c) (HW K 2 (tI (iD 0) (tI (iD 1) YI))) (C7 2 none) a7 Q (SC K a) H:=by
 intro f o;refine {fW xs.length f (s f),{xs.length,by simp,w4 _,k7 _,aC,I f o},fun i m ys g J=>?_};obtain ⟨rfl,E,B,w,p⟩:=J;have q:=C f i ys g o E p;refine {w,?_};rcases F8 i xs.length with D|A
 ·refine .inr {eR (B9 B (by lia)),{xs,xs[i],q,by simp[D]},fun S x G O z=>?_};obtain ⟨rfl,z⟩:=z;obtain ⟨P,R,rfl⟩:=Rk O;obtain ⟨b,u,v,rfl,M,k⟩:=hs f i ys G x o (z xs q) B w p;exact CQ M {u,[v],rfl,v,[],rfl,rfl,{[some u,some v],rfl,rfl},k}
 ·cases (fb E A:i=xs.length);exact .inl {{xs,q,k7 _},N f ys g o w B p}
end
def nF(c:(bU X scope a7 N C s0 H0 ex).calm=true)(h:Nj (bU X scope a7 N C s0 H0 ex) es t)(hn:(dl es (bU X scope a7 N C s0 H0 ex).env).length=n:=by rfl)(b:(dl es (bU X scope a7 N C s0 H0 ex).env).findIdx? (·.1)=none:=by rfl):PG (bU X scope a7 N C s0 H0 ex) (.Tuple es k pos) (HW X.K n t):=lS c h hn b
def xW:lN (bU X scope a7 N C s0 H0 ex) (E7 .In) (Ux X.K false):=QG
def Co(q r:Rat):m5 (q.num*r.num) ((q.den:Int)*r.den)=q*r:=by rw[←T9,C9,C9]
def Dn(q r:Rat):m5 (q.num*r.den) ((q.den:Int)*r.num)=q/r:=by rw[ko,←T9,C9];congr 1;rw[←Rat.inv_divInt,C9]
noncomputable def GE(o:Option Rat)(T m:Rat):Rat:=match o with|none=>0|some f=>if m<f then 0 else (m-f)/T
noncomputable def OK(tk:Option Rat)(m:Rat):Bool:=match tk with|none=>false|some u=>!decide (m<u)
noncomputable def FA(oa ob tk:Option Rat)(T m:Rat):Option (Rat×Rat):=
 if OK tk m=true then none else if GE oa T m<1-GE ob T m then some (GE oa T m,1-GE ob T m) else none
inductive nP where
|stands|swept (p:Str) (t:Rat)|met (t s:Rat)|taken (t:Rat)
noncomputable def Oj(o:Option Rat)(T:Rat)(p:Option Rat):Bool:=match o with|none=>false|some f=>match p with|none=>true|some g=>!decide (g<f+T)
noncomputable def vK(a b:Str)(oa ob:Option Rat)(T:Rat):nP:=
 if oa=none/\ob=none then .stands else if Oj oa T ob=true then .swept a (oa.getD 0+T) else if Oj ob T oa=true then .swept b (ob.getD 0+T) else .met ((oa.getD 0+ob.getD 0+T)*(1/2)) (((oa.getD 0+ob.getD 0+T)*(1/2)-oa.getD 0)/T)
noncomputable def yR:nP->Option Rat
|.stands=>none
|.swept _ t=>some t
|.met t _=>some t
|.taken t=>some t
noncomputable def BO(u:Rat)(o:Option Rat):Bool:=match o with|none=>true|some t=>decide (u<t)
noncomputable def KN(e:nP)(tk:Option Rat):nP:=match tk with|none=>e|some u=>if BO u (yR e)=true then .taken u else e
noncomputable def zX(H:Hp)(v:V):nP->Prop
|.stands=>∃p,v=.ref p/\H p=some (.tup [.str "stands"])
|.swept s t=>∃p u,v=.ref p/\H p=some (.tup [.str "swept",.str s,u])/\cA H u t
|.met t s=>∃p u w,v=.ref p/\H p=some (.tup [.str "met",u,w])/\cA H u t/\cA H w s
|.taken t=>∃p u,v=.ref p/\H p=some (.tup [.str "taken",u])/\cA H u t
noncomputable def tP(H:Hp)(v:V):Option (Rat×Rat)->Prop
|none=>v=.non
|some x=>∃p u w,v=.ref p/\H p=some (.tup [u,w])/\cA H u x.1/\cA H w x.2
def tP.tk(h:tP H v o)(t:TK H H'):tP H' v o:=by
 cases o with
|none=>exact h
|some x=>obtain ⟨p,u,w,e,h,f,g⟩:=h;exact {p,u,w,e,t _ _ h,f.tk t,g.tk t}
def XN(h:H p=some (.tup [u,w]))(f:cA H u q)(g:cA H w r):oM H (.tup [EN q,EN r]) (.ref p):={p,_,rfl,h,_,_,rfl,gC f,_,_,rfl,gC g,rfl}
section
variable {H:Hp}{Q:VK}
def sO(k:Q (.int 1000000000000000000000000000000) H):rI SI (fun i j=>.int (i^j.toNat)) (.int 10) (.int 30) H Q:=Bj {by decide,by decide,by decide} k
def Ao(k:Q (.int 1000000000000000000000000000000000000000000000000000000000) H):rI SI (fun i j=>.int (i^j.toNat)) (.int 10) (.int 57) H Q:=Bj {by decide,by decide,by decide} k
end
def Ve{us:St}(h:us.length=3):∃o p q,us=[o,p,q]:=by
 cases us with
|nil=>cases h
|cons o us=>cases us with
 |nil=>cases h
 |cons p us=>cases us with
  |nil=>cases h
  |cons q us=>cases us with
   |nil=>exact {o,p,q,rfl}
   |cons r us=>cases h
def sR{G:TE}{Q:VK}{H:Hp}{o:St}{K:y8}{a:g6}{xs:List V}(hn:xs.length<=1000)(s:g6->Nat->List V->Hp->Prop)(J:∀c,H c=none->s c 0 [] (upd H c (.lst [])))(B:∀c i ys f,H c=none->i<=xs.length->s c i ys f->cS K f a xs)(hs:∀c i ys f x,H c=none->xs[i]?=some x->ys.length=i->f c=some (.lst ys)->s c i ys f->∃p u v z,x=.ref p/\f p=some (.tup [u,v,z])/\G (some u::some v::some z::o) f (IK xs.length c (s c) ys i))(O:∀c ys f,H c=none->f c=some (.lst ys)->ys.length=xs.length->s c xs.length ys f->Q (.ref c) f):mM G none (HW K 3 (tI (iD 0) (tI (iD 1) (tI (iD 2) YI)))) (C7 3 none) o Q (SC K a) H:=by
 intro c g;refine {cW xs.length c (s c),{xs.length,by simp,w4 _,rfl,aC,J c g},fun i m ys f M=>?_};obtain ⟨rfl,D,E,w,p⟩:=M;have q:=B c i ys f g D p;refine {w,?_};rcases F8 i xs.length with C|A
 ·refine .inr {eR (by lia),{xs,xs[i],q,by simp[C]},fun U x I P z=>?_};obtain ⟨rfl,z⟩:=z;obtain ⟨R,S,T,rfl⟩:=Ve P;obtain ⟨b,u,v,y,rfl,N,k⟩:=hs c i ys I x g (z xs q) E w p;exact NG N {u,[v,y],rfl,v,[y],rfl,y,[],rfl,rfl,{[some u,some v,some y],rfl,rfl},k}
 ·cases (fb D A:i=xs.length);exact .inl {{xs,q,k7 _},O c ys f g w E p}
noncomputable def kY(H:Hp)(v:V)(r:Int×Int×Int):Prop:=∃p,v=.ref p/\H p=some (.tup [.int r.1,.int r.2.1,.int r.2.2])
def kY.tk(h:kY H v r)(t:TK H H'):kY H' v r:=let ⟨p,e,h⟩:=h;{p,e,t _ _ h}
noncomputable def gD(H:Hp)(v:V)(r:Int×Int):Prop:=∃p,v=.ref p/\H p=some (.tup [.int r.1,.int r.2])
def gD.tk(h:gD H v r)(t:TK H H'):gD H' v r:=let ⟨p,e,h⟩:=h;{p,e,t _ _ h}
noncomputable def cL(ln:g6)(u:Int)(lr lp lt:g6)(nw:List (aL×V):=[]):List (aL×V):=(i0 "names",.ref ln)::(i0 "unit",.int u)::(i0 "runs",.ref lr)::(i0 "pushes",.ref lp)::(i0 "takings",.ref lt)::nw
section
variable {ln lr lp lt:g6}{u:Int}{nw:List (aL×V)}
def kL:bI (cL ln u lr lp lt nw) (i0 "names")=some (.ref ln):=by with_unfolding_all rfl
def pY:bI (cL ln u lr lp lt nw) (i0 "unit")=some (.int u):=by with_unfolding_all rfl
def cP:bI (cL ln u lr lp lt nw) (i0 "runs")=some (.ref lr):=by with_unfolding_all rfl
def pF:bI (cL ln u lr lp lt nw) (i0 "pushes")=some (.ref lp):=by with_unfolding_all rfl
def nJ:bI (cL ln u lr lp lt nw) (i0 "takings")=some (.ref lt):=by with_unfolding_all rfl
end
structure Ti(U:List Str)(u:Int)(rs:List (Int×Int×Int))(ps ts:List (Int×Int))(m:Nat):Prop where
 u0:0<u
 u1:u<=10^12
 n2:2<=U.length
 n8:U.length<=8
 rok:∀r∈rs,0<=r.1/\r.1<U.length/\0<=r.2.1/\r.2.1<U.length/\1<=r.2.2/\r.2.2<=10^31
 pok:∀r∈ps,0<=r.1/\r.1<U.length/\0<=r.2/\r.2<=10^105
 tok:∀r∈ts,0<=r.1/\0<=r.2/\r.2<=10^105
 len:rs.length+ps.length+ts.length<=m
structure fX(H:Hp)(dd:g6)(U:List Str)(u:Int)(rs:List (Int×Int×Int))(ps ts:List (Int×Int))(ln lr lp lt:g6):Prop where
 e:∃nw,H dd=some (.dK (cL ln u lr lp lt nw))
 nm:H ln=some (.lst (U.map V.str))
 rq:LQ kY H lr rs
 pq:LQ gD H lp ps
 tq:LQ gD H lt ts
def fX.d(h:fX H dd U u rs ps ts ln lr lp lt):H dd=some (.dK (cL ln u lr lp lt (Classical.choose h.e))):=Classical.choose_spec h.e
def fX.sm(h:fX H dd U u rs ps ts ln lr lp lt)(s:aK H H'):fX H' dd U u rs ps ts ln lr lp lt:={{_,s _ _ h.d},s _ _ h.nm,h.rq.sm kY.tk s,h.pq.sm gD.tk s,h.tq.sm gD.tk s}
theorem IB:∀{c:List V}{b:List (Int×Int×Int)},Paired (kY H) c b->kU H (b.map fun r=>.tup [.int r.1,.int r.2.1,.int r.2.2]) c
|_,_,.nil=>rfl
|_,_,.cons ⟨p,e,h⟩ t=>{_,_,rfl,{p,_,e,h,_,_,rfl,rfl,_,_,rfl,rfl,_,_,rfl,rfl,rfl},IB t}
theorem IA:∀rs:List (Int×Int×Int),jB (rs.map fun r=>Dt.tup [.int r.1,.int r.2.1,.int r.2.2])<=10
|[]=>by decide
|u::r=>by
  have:=IA r;show max (uO (Dt.tup [.int u.1,.int u.2.1,.int u.2.2])) (jB (r.map fun r=>Dt.tup [.int r.1,.int r.2.1,.int r.2.2]))<=10;have e:uO (Dt.tup [.int u.1,.int u.2.1,.int u.2.2])<=10:=by simp[uO,jB]
  lia
def Mf(c:H l=some (.lst zs))(g:Paired (kY H) zs b)(f:H p=some (.lst []))(k:Q (.bl (decide (b=[]))) H):QA (.ref l) (.ref p) H Q:=by
 refine Rx (es:=[]) {l,_,rfl,c,IB g} {p,_,rfl,f,rfl} (B9 (IA b) (by decide)) ?_;cases b with
|nil=>rw[decide_eq_true rfl]at k;exact k
|cons r b=>rw[decide_eq_false (List.cons_ne_nil _ _)]at k;exact k
noncomputable def Sa(p:g6)(Q:VK)(x1 y1 x2 y2 x3 y3 x4 y4 x5 y5:V)(H4:Hp):Prop:=H4 p=some (.dK [])/\∃kvs:List (aL×V),[(x1,y1),(x2,y2),(x3,y3),(x4,y4),(x5,y5)]=kvs.map (fun kv=>(kV kv.1,kv.2))/\kvs.length<=15/\Q (.ref p) (upd H4 p (.dK (gB [] kvs)))
def Bb(k:∀p,H p=none->k1 σ (upd H p (.dK [])) fun x1 H1=>v1 σ H1 fun y1 H2=>k2 σ H2 fun x2 H3=>v2 σ H3 fun y2 H4=>k3 σ H4 fun x3 H5=>v3 σ H5 fun y3 H6=>k4 σ H6 fun x4 H7=>v4 σ H7 fun y4 H8=>k5 σ H8 fun x5 H9=>v5 σ H9 fun y5 H10=>Sa p Q x1 y1 x2 y2 x3 y3 x4 y4 x5 y5 H10):Et [(k1,v1),(k2,v2),(k3,v3),(k4,v4),(k5,v5)] σ H Q:=k
def RG(h:H p=some (.dK []))(k:Q (.ref p) (upd H p (.dK (cL ln u lr lp lt)))):Sa p Q (.str "names") (.ref ln) (.str "unit") (.int u) (.str "runs") (.ref lr) (.str "pushes") (.ref lp) (.str "takings") (.ref lt) H:=
 {h,cL ln u lr lp lt,rfl,F4 rfl,by
  rw[mH (by rw[O1];show (([i0 "names",i0 "unit",i0 "runs",i0 "pushes",i0 "takings"]:List aL)).Nodup;decide +kernel),O1];exact k}
theorem uM:∀{xs:List Int}{us:List f9},bH (xs.map V.int) us->X3 us xs
|[],_,.nil=>.nil
|x::xs,_,.cons ⟨t,e⟩ r=>by subst e;exact .cons x t (uM r)
noncomputable def Kd:List V->Hp->VK->Prop:=fun vs H Q=>∃(p:g6)(xs:List Int),vs=[.ref p]/\H p=some (.lst (xs.map V.int))/\xs.length<64/\∀(l:g6)(ys:List Int),H l=none->ys.Perm xs->ys.Pairwise (·<=·)->Q (.ref l) (upd H l (.lst (ys.map V.int)))
def KS:fK X (.builtin "sorted") Kd:=by
 intro B s T H C R Q I r h;obtain ⟨p,S,rfl,hp,P,q⟩:=h;obtain ⟨u,rfl,O⟩:=r.one;cases O;obtain ⟨z,c,n,rv,g,e⟩:=I.lstM hp;rw[j6]at g;refine sorted_ints (vs:=c) {_,e,rfl,n,rfl} (uM rv) (by lia) fun f D G w J=>?_;have i:((s.heap.push (seqObj "list" #[] 0)).update s.heap.objs.size (A8 (·++c.toArray))).objs.size=s.heap.objs.size+1:=by rw[ip,qh]
 have M:(((s.heap.push (seqObj "list" #[] 0)).update s.heap.objs.size (A8 (·++c.toArray))).push (seqObj "list" c.toArray 0)).get? (s.heap.objs.size+1)=some (seqObj "list" c.toArray 0):=by rw[←i];exact o0 _ rfl
 obtain ⟨K,N⟩:=sortedHeap_at (vs:=c) (out:=f) M;have E:=I.laid (h':=sortedAll s.heap c f) (a:=s.heap.objs.size+1) (o:=.lst (D.map V.int)) (t':=s.toks) (fun b o A=>by
  have m:=p7 A;unfold sortedAll;rw[sortedHeap_old (q7 (B5 m)) (by rw[qh,i];exact B5 (B5 m))];refine i4 _ ?_;exact (D5 _ _ (u7 (q7 m))).trans (i4 _ A)) (R6 _) {by
  have:=w.length_eq;rw[j6,B8];lia,f.toList,K,tU G,by rw[jx];exact N}
 exact {.ref (s.heap.objs.size+1),_,E,rfl,q _ D (I.hok.fresh (R6 _)) w J}
noncomputable def ut(u z:Int):Rat:=m5 z u
section
variable {u:Int}
def nV(u z:Int):ut u z=(z:Rat)/(u:Rat):=Rat.divInt_eq_div z u
def up(b:0<u):(0:Rat)<(u:Rat):=by have:=wx.mpr b;simpa using this
def lA(c:0<u){a b:Int}:ut u a<ut u b↔a<b:=by rw[nV,nV];have h:=up c;rw[Rat.div_lt_iff h,Rat.div_mul_cancel (oy h)];exact wx
def rV(c:0<u){a b:Int}:ut u a<=ut u b↔a<=b:=by rw[←Q6,lA c,iy]
def mU(u a b:Int):ut u a+ut u b=ut u (a+b):=by rw[nV,nV,nV,Rat.intCast_add,ko,ko,ko,Rat.add_mul]
def TD(u a b:Int):ut u a-ut u b=ut u (a-b):=by rw[nV,nV,nV,Rat.intCast_sub];grind
def Hk(f:0<u){a b:Int}(c:0<b):ut u a/ut u b=ut b a:=by rw[nV,nV,nV];have g:=up f;have i:=up c;grind
def Hj(b:0<u):ut u u=1:=Rat.divInt_self' (by lia)
def mS(u:Int):ut u 0=0:=by unfold ut;exact Rat.zero_divInt u
end
noncomputable def IQ(_:Hp)(v:V)(z:Int):Prop:=v=.int z
def IQ.tk{H H':Hp}{v:V}{z:Int}(h:IQ H v z)(_:TK H H'):IQ H' v z:=h
noncomputable def jG(U:List Str)(i:Int):Str:=U.getD i.toNat ""
noncomputable def eU(U:List Str)(u:Int)(rs:List (Int×Int×Int)):List bX:=rs.map fun r=>(jG U r.1,jG U r.2.1,ut u r.2.2)
noncomputable def rA(U:List Str)(u:Int)(ps:List (Int×Int)):List (aL×Rat):=ps.map fun x=>(i0 (jG U x.1),ut u x.2)
noncomputable def jM(u:Int)(ts:List (Int×Int)):List (aL×Rat):=ts.map fun x=>(j5 x.1,ut u x.2)
noncomputable def mT(U:List Str)(u:Int)(D:AL aL Int):aL->Option Rat
|.inl _=>none
|.inr s=>(aV D (j5 ((U.idxOf s:Nat):Int))).map (ut u)
def yD{U:List Str}{i:Int}(b:0<=i)(c:i<U.length):∃h:i.toNat<U.length,jG U i=U[i.toNat]:={by omega,by
 unfold jG;rw[List.getD_eq_getElem?_getD,i7 (by omega)];rfl}
def XX{U:List Str}(f:U.Nodup){i:Int}(b:0<=i)(c:i<U.length):((U.idxOf (jG U i):Nat):Int)=i:=by obtain ⟨h,e⟩:=yD b c;rw[e,f.idxOf_getElem];lia
def sZ{U:List Str}(f:U.Nodup){u:Int}{D:AL aL Int}{i:Int}(b:0<=i)(c:i<U.length):mT U u D (i0 (jG U i))=(aV D (j5 i)).map (ut u):=by show (aV D (j5 ((U.idxOf (jG U i):Nat):Int))).map (ut u)=_;rw[XX f b c]
def KB{U:List Str}(q:U.Nodup){u:Int}{D:AL aL Int}{b:Int}(f:0<=b)(g:b<U.length)(c:Int):mT U u (eX D (j5 b) c)=fun p=>if p=i0 (jG U b) then some (ut u c) else mT U u D p:=by
 funext p;cases p with
|inl i=>rfl
|inr s=>
  show (aV (eX D (j5 b) c) (j5 ((U.idxOf s:Nat):Int))).map (ut u)=_;rw[jC];by_cases e:s=jG U b
  ·subst e;rw[XX q f g,if_pos rfl];simp
  ·rw[if_neg,if_neg (fun z=>e (oq z))]
   ·rfl
   ·intro z;have A:((U.idxOf s:Nat):Int)=b:=vc z;obtain ⟨w,m⟩:=yD f g;have o:U.idxOf s<U.length:=by lia
    refine e ?_;rw[m];have:U[U.idxOf s]=s:=List.getElem_idxOf o;rw[←this];congr 1;lia
def Cq{U:List Str}{u:Int}{p:aL}:mT U u [] p=none:=by
 cases p with
|inl i=>rfl
|inr s=>rfl
def BH(m:AL aL Rat)(x:aL×Rat)(p:aL):aV (gG m x) p=if p=x.1 then some (match aV m x.1 with|none=>x.2|some q=>if x.2<q then x.2 else q) else aV m p:=by
 unfold gG;cases e:aV m x.1 with
|none=>
  dsimp only;rw[jC]
|some q=>
  dsimp only;by_cases h:x.2<q
  ·rw[if_pos h,jC,if_pos h]
  ·rw[if_neg h,if_neg h];by_cases hp:p=x.1
   ·rw[if_pos hp,hp,e]
   ·rw[if_neg hp]
noncomputable def XG(D:AL aL Int)(x:Int×Int):AL aL Int:=eX D (j5 x.1) (match aV D (j5 x.1) with|none=>x.2|some v=>if v<x.2 then v else x.2)
def Ld{U:List Str}(i:U.Nodup){u:Int}(b:0<u){D:AL aL Int}{m:List (aL×Rat)}{x:Int×Int}(c:0<=x.1)(f:x.1<U.length)(h:mT U u D=aV (lst m)):mT U u (XG D x)=aV (lst (m++[(i0 (jG U x.1),ut u x.2)])):=by
 rw[pC];unfold XG;rw[KB i c f];funext p;rw[BH];dsimp only;by_cases hp:p=i0 (jG U x.1)
 ·rw[if_pos hp,if_pos hp,←h,sZ i c f];cases aV D (j5 x.1) with
 |none=>rfl
 |some v=>
   dsimp only[Option.map];by_cases g:v<x.2
   ·rw[if_pos g,if_neg (by rw[lA b];omega)]
   ·rw[if_neg g];by_cases o:x.2<v
    ·rw[if_pos (by rw[lA b];omega)]
    ·rw[if_neg (by rw[lA b];omega),show x.2=v by omega]
 ·rw[if_neg hp,if_neg hp,h]
noncomputable def Mv(u:Int)(D:AL aL Int)(zs:List (aL×Rat)):Prop:=∀k:Int,(aV D (j5 k)).map (ut u)=aV (lst zs) (j5 k)
def Mv.step{u:Int}(b:0<u){D:AL aL Int}{f:List (aL×Rat)}{x:Int×Int}(h:Mv u D f):Mv u (XG D x) (f++[(j5 x.1,ut u x.2)]):=by
 intro k;rw[pC,BH];unfold XG;rw[jC];by_cases hp:(j5 k:aL)=j5 x.1
 ·rw[if_pos hp,if_pos hp,←h];cases aV D (j5 x.1) with
 |none=>rfl
 |some v=>
   dsimp only[Option.map];by_cases c:v<x.2
   ·rw[if_pos c,if_neg (by rw[lA b];lia)]
   ·rw[if_neg c];by_cases g:x.2<v
    ·rw[if_pos (by rw[lA b];lia)]
    ·rw[if_neg (by rw[lA b];lia),show x.2=v by lia]
 ·rw[if_neg hp,if_neg hp,h]
section
variable {α:Type}{net:List (hZ α)}{push:α->Option Rat}{tk:Nat->Option Rat}{m:α->Option Rat}
def DR(G:Sr net push tk m)(D:∀p t,push p=some t->SM m p t)(cl:∀k r a b s,net[k]?=some r->Jn r a b->m a=some s->cO tk k (s+r.2.2)->SM m b (s+r.2.2)):iA net push tk m:=by
 refine {G,fun p t h=>?_}
 induction h with
|push e=>exact D _ _ e
|run _ A o hn ih=>obtain ⟨w,g,B⟩:=ih;rename_i q E I H f _;have c:w+f.2.2<=E+f.2.2:=Rat.add_le_add_right.mpr B;obtain ⟨z,i,C⟩:=cl _ _ _ _ w A o g (hn.le c);exact {z,i,Q5 C c}
end
noncomputable def Vb(D:AL aL Int)(i:Nat):Nat:=match aV D (j5 (i:Int)) with|none=>10^108|some v=>v.toNat
noncomputable def mu(n:Nat)(D:AL aL Int):Nat:=((y9 n).map (Vb D)).sum
theorem UC{f g:Nat->Nat}:∀n,(∀i<n,g i<=f i)->((y9 n).map g).sum<=((y9 n).map f).sum
|0,_=>k7 _
|n+1,h=>by rw[range_succ,B6,B6,wk,wk];have c:=UC n fun i b=>h i (B5 b);have m:=h n (M3 n);simp only[K1,vw,sum_cons,sum_nil];lia
theorem UB{f g:Nat->Nat}{j:Nat}:∀n,(∀i<n,g i<=f i)->j<n->g j<f j->((y9 n).map g).sum<((y9 n).map f).sum
|0,_,c,_=>absurd c (R9 _)
|n+1,h,c,o=>by
  rw[range_succ,B6,B6,wk,wk];have q:=h n (M3 n);simp only[K1,vw,sum_cons,sum_nil];by_cases e:j=n
  ·subst e;have m:=UC j fun i b=>h i (B5 b);lia
  ·have m:=UB n (fun i b=>h i (B5 b)) (by lia) o;lia
structure CC(U:List Str)(u:Int)(rs:List (Int×Int×Int))(qs:List (aL×Rat))(tk:Nat->Option Rat)(D:AL aL Int):Prop where
 nd:(D.map (·.1)).Nodup
 ky:∀x∈D,∃i:Nat,x.1=j5 (i:Int)/\i<U.length
 bd:∀x∈D,0<=x.2/\x.2<=10^105*D.length
 sn:Sr (kn (eU U u rs)) (aV (lst qs)) tk (mT U u D)
 pu:∀p t,aV (lst qs) p=some t->SM (mT U u D) p t
section
variable {U:List Str}{u:Int}{rs:List (Int×Int×Int)}{qs:List (aL×Rat)}{tk:Nat->Option Rat}{D:AL aL Int}
def CC.len(h:CC U u rs qs tk D):D.length<=U.length:=by
 have b:(D.map (·.1)) ⊆ (y9 U.length).map fun(i:Nat)=>(j5 (i:Int):aL):=by intro k hk;obtain ⟨x,f,rfl⟩:=w8.mp hk;obtain ⟨i,e,c⟩:=h.ky x f;rw[e];exact w8.mpr {i,oj.mpr c,rfl}
 have:=iJ h.nd b;simpa using this
def CC.val(h:CC U u rs qs tk D){i v:Int}(e:aV D (j5 i)=some v):0<=v/\v<=10^105*D.length/\0<=i/\i<U.length:=by have b:=cM e;obtain ⟨j,g,o⟩:=h.ky _ b;have m:i=(j:Int):=vc g;obtain ⟨c,f⟩:=h.bd _ b;exact {c,f,by lia,by lia}
def IP{b:Type}{l:AL aL b}{k:aL}{v:b}(h:aV l k=none):(eX l k v).length=l.length+1:=by
 unfold eX;rw[if_neg,m8]
 ·rfl
 ·intro z;rw[fh]at z;obtain ⟨x,f,e⟩:=z;have c:x.1=k:=of_decide_eq_true e;exact mN h x.2 (by rw[←c];exact f)
def CA{b:Type}{l:AL aL b}{k:aL}{v w:b}(h:aV l k=some w):(eX l k v).length=l.length:=by unfold eX;rw[if_pos,j6];rw[fh];exact {_,cM h,decide_eq_true rfl}
def CC.go(o:U.Nodup)(O:0<u)(h:CC U u rs qs tk D)(R:U.length<=200){k:Nat}{r:Int×Int×Int}(N:rs[k]?=some r)(ok:0<=r.1/\r.1<U.length/\0<=r.2.1/\r.2.1<U.length/\1<=r.2.2/\r.2.2<=10^31){a b v:Int}(s:(r.1=a/\r.2.1=b)∨(r.2.1=a/\r.1=b))(I:aV D (j5 a)=some v)(hn:cO tk k (ut u (v+r.2.2)))(q:∀w,aV D (j5 b)=some w->v+r.2.2<w):
  CC U u rs qs tk (eX D (j5 b) (v+r.2.2))/\mu U.length (eX D (j5 b) (v+r.2.2))<mu U.length D:=by
 obtain ⟨W,X,K,M⟩:=h.val I;have T:=h.len;have g:0<=b:=by rcases s with ⟨_,e⟩|⟨_,e⟩ <;> omega
 have m:b<U.length:=by rcases s with ⟨_,e⟩|⟨_,e⟩ <;> omega
 have Q:D.length<=(eX D (j5 b) (v+r.2.2)).length/\v+r.2.2<=10^105*(eX D (j5 b) (v+r.2.2)).length:=by
  cases e:aV D (j5 b) with
 |none=>
   rw[IP e];omega
 |some w=>rw[CA e];have:=q w e;obtain ⟨_,Z,_⟩:=h.val e;omega
 have H:aV D (j5 b)=none∨∃w,aV D (j5 b)=some w/\v+r.2.2<w:=by
  cases e:aV D (j5 b) with
 |none=>exact .inl rfl
 |some w=>exact .inr {w,rfl,q w e}
 have E:mT U u D (i0 (jG U a))=some (ut u v):=by rw[sZ o K M,I];rfl
 have B:(kn (eU U u rs))[k]?=some (i0 (jG U r.1),i0 (jG U r.2.1),ut u r.2.2):=by unfold kn eU;rw[t5,t5,N];rfl
 have A:Jn ((i0 (jG U r.1),i0 (jG U r.2.1),ut u r.2.2):hZ aL) (i0 (jG U a)) (i0 (jG U b)):=by
  rcases s with ⟨f,c⟩|⟨f,c⟩
  ·exact .inl {by rw[f],by rw[c]}
  ·exact .inr {by rw[f],by rw[c]}
 refine {{qC h.nd,fun x G=>?_,fun x G=>?_,?_,?_},?_}
 ·rcases fD (x:=x.1) (y:=x.2) G with ⟨e,_⟩|⟨_,C⟩
  ·exact {b.toNat,by rw[e];congr 1;omega,by omega}
  ·exact h.ky x C
 ·rcases fD (x:=x.1) (y:=x.2) G with ⟨_,e⟩|⟨_,C⟩
  ·rw[e];omega
  ·have:=h.bd x C;omega
 ·intro p t e;rw[KB o g m]at e;dsimp only at e;by_cases hp:p=i0 (jG U b)
  ·rw[if_pos hp]at e;cases e;subst hp;have:=SJ.run (h.sn _ _ E) B A (by rw[mU];exact hn);rw[mU]at this;exact this
  ·rw[if_neg hp]at e;exact h.sn _ _ e
 ·intro p t e;obtain ⟨w,f,J⟩:=h.pu p t e;rw[KB o g m];show ∃w,(if p=i0 (jG U b) then some (ut u (v+r.2.2)) else mT U u D p)=some w/\w<=t;by_cases hp:p=i0 (jG U b)
  ·refine {_,if_pos hp,?_};rw[hp,sZ o g m]at f;cases c:aV D (j5 b) with
  |none=>rw[c]at f;cases f
  |some z=>rw[c]at f;cases f;have:=q z c;exact Q5 ((rV O).mpr (by omega)) J
  ·exact {w,by rw[if_neg hp];exact f,J}
 ·unfold mu;refine UB (j:=b.toNat) _ (fun i S=>?_) (by omega) ?_
  ·unfold Vb;rw[jC];by_cases e:(j5 (i:Int):aL)=j5 b
   ·rw[if_pos e,e];rcases H with c|⟨w,c,P⟩
    ·rw[c];dsimp only;omega
    ·rw[c];dsimp only;omega
   ·rw[if_neg e];exact k7 _
  ·unfold Vb;have e:(j5 ((b.toNat:Nat):Int):aL)=j5 b:=by congr 1;omega
   rw[e,jC,if_pos rfl];rcases H with c|⟨w,c,P⟩
   ·rw[c];dsimp only;omega
   ·rw[c];obtain ⟨Y,_⟩:=h.val c;dsimp only;omega
noncomputable def Ei(tk:Nat->Option Rat)(u:Int)(k:Nat)(T a b:Int)(D:AL aL Int):Prop:=∀v,aV D (j5 a)=some v->cO tk k (ut u (v+T))->∃w,aV D (j5 b)=some w/\w<=v+T
noncomputable def Nr(tk:Nat->Option Rat)(u:Int)(rs:List (Int×Int×Int))(k:Nat)(D:AL aL Int):Prop:=∀r,rs[k]?=some r->Ei tk u k r.2.2 r.1 r.2.1 D/\Ei tk u k r.2.2 r.2.1 r.1 D
def CC.falls(q:U.Nodup)(J:0<u)(h:CC U u rs qs tk D)(ok:∀r∈rs,0<=r.1/\r.1<U.length/\0<=r.2.1/\r.2.1<U.length/\1<=r.2.2/\r.2.2<=10^31)(cl:∀k,Nr tk u rs k D):iA (kn (eU U u rs)) (aV (lst qs)) tk (mT U u D):=by
 refine DR h.sn h.pu fun k r a b s i I hs hn=>?_;unfold kn eU at i;rw[t5,t5]at i;cases e:rs[k]? with
|none=>rw[e]at i;cases i
|some o=>
  rw[e]at i;cases i;obtain ⟨A,B,C,E,P,Q⟩:=ok o (u8 e);obtain ⟨G,H⟩:=cl k o e;have go:∀x y:Int,0<=x->x<U.length->0<=y->y<U.length->Ei tk u k o.2.2 x y D->mT U u D (i0 (jG U x))=some s->cO tk k (s+ut u o.2.2)->SM (mT U u D) (i0 (jG U y)) (s+ut u o.2.2):=by
   intro x y K M N O c m hn;rw[sZ q K M]at m;cases f:aV D (j5 x) with
  |none=>rw[f]at m;cases m
  |some v=>rw[f]at m;cases m;rw[mU]at hn ⊢;obtain ⟨w,g,l⟩:=c v f hn;exact {ut u w,by rw[sZ q N O,g];rfl,(rV J).mpr l}
  rcases I with ⟨f,g⟩|⟨f,g⟩
  ·dsimp only at f g;subst f g;exact go _ _ A B C E G hs hn
  ·dsimp only at f g;subst f g;exact go _ _ C E A B H hs hn
end
noncomputable abbrev cl(x:Str):List Nat:=x.cps.toList
def DX(a b:Str):cl (a++b)=cl a++cl b:=by show (a.cps++b.cps).toList=_;rw[B0]
def YR(x:Str):(cl x).length=x.length:=by show x.cps.toList.length=x.cps.size;simp
def Oo{z:Str}{i:Int}(b:0<=i)(c:i<=z.length):cl (fz z none (some i))=(cl z).take i.toNat:=by have:=slice_to_min_closes (x:=z) (n:=i) b rfl;rw[beq_iff_eq.mp this,if_neg (by lia)];show ((cl z).drop 0).take (i-0).toNat=_;rw[Int.sub_zero,dk]
def Af{z:Str}{i:Int}(b:0<=i)(c:i<=z.length):cl (fz z (some i) none)=(cl z).drop i.toNat:=by rw[slice_from_eq b c rfl];show ((cl z).drop i.toNat).take ((z.length:Int)-i).toNat=_;refine D2 ?_;rw[my,YR];omega
noncomputable def SK(k:Nat):Str:=⟨#[113,46,113,46,97+k/26,46,97+k%26]⟩
noncomputable def Nq(x:Str):Prop:=(cl x).length≠7∨(cl x)[1]?≠some 46
def Ly(k:Nat):¬Nq (SK k):=by
 rintro (h|h)
 ·exact h rfl
 ·exact h rfl
def Cy{j k:Nat}(e:SK j=SK k):j=k:=by
 have b:cl (SK j)=cl (SK k):=by rw[e]
 unfold SK at b;dsimp only[cl]at b;simp only[gy,and_true,true_and]at b;lia
noncomputable def Vx(l:List Nat):Prop:=∀c∈l,97<=c/\c<=122
def Rc{f g t:List Nat}{c:Nat}{x:Str}(e:cl x=f++c::(g++t))(i:Vx f)(o:97<=c/\c<=122)(m:Vx g)(q:t.length=0∨t.length=2∨t.length=5∨t.length=13):Nq x:=by
 unfold Nq;rw[e];cases f with
|nil=>
  cases g with
 |nil=>
   refine .inl ?_;simp only[O1,K2];lia
 |cons a r=>
   refine .inr ?_;have:=m a (L8 ..);simp only[O1,fc,J3,J2,ne_eq,F9];lia
|cons a r=>
  refine .inr ?_;cases r with
 |nil=>
   simp only[fc,O1,J3,J2,ne_eq,F9];lia
 |cons b r=>have:=i b (E4 _ (L8 ..));simp only[fc,J3,J2,ne_eq,F9];lia
noncomputable def Np(Y:List Nat)(n:Int)(U:List Str):Prop:=∀(k:Nat)(x:Str),U[k]?=some x->∃r,cl x=Y++(97+((n+3*(k:Int))%26).toNat)::r
def Np.nodup{Y:List Nat}{n:Int}{U:List Str}(h:Np Y n U)(o:U.length<=8):U.Nodup:=by rw[List.nodup_iff_pairwise_ne,V4];intro i j f m g e;obtain ⟨q,b⟩:=h i _ (i7 f);obtain ⟨s,c⟩:=h j _ (i7 m);rw[e,c]at b;have:=(U9 (List.append_cancel_left b)).1;lia
def Np.snoc{Y:List Nat}{n:Int}{U:List Str}(h:Np Y n U){x:Str}{r:List Nat}(e:cl x=Y++(97+((n+3*(U.length:Int))%26).toNat)::r):Np Y n (U++[x]):=by
 intro k y b;rcases F8 k U.length with hk|hk
 ·rw[K7 hk]at b;exact h k y b
 ·rw[C8 hk]at b;have:k-U.length=0:=by
   have:=(i5.mp b).1;simp at this;lia
  rw[this]at b;cases b;have:k=U.length:=by lia
  subst this;exact {r,e}
noncomputable def grown(U:List Str)(i:Nat):List Str:=U++(y9 i).map SK
def YE{U:List Str}(m:U.Nodup)(g:∀x∈U,Nq x)(i:Nat):(grown U i).Nodup:=by
 unfold grown;rw[Z3];refine {m,?_,?_}
 ·exact P5.mpr (List.nodup_range.imp fun h e=>h (Cy e))
 ·intro a c b f e;obtain ⟨k,_,rfl⟩:=w8.mp f;exact Ly k (e▸g a c)
def KH(U:List Str)(i:Nat):grown U (i+1)=grown U i++[SK i]:=by unfold grown;rw[range_succ,B6,D6];rfl
def iK(U:List Str)(i:Nat):(grown U i).length=U.length+i:=by unfold grown;rw[m8,j6,re]
noncomputable def Sw(_:Str):Prop:=True
noncomputable def Wr(_:List Nat):Prop:=True
def QL{U:List Str}(_:∀x∈U,Sw x)(i:Nat):∀x∈grown U i,Sw x:=fun _ _=>trivial
noncomputable def EM(z:Int):Int:=if z>0 then z else 0
def Fn{u T:Int}(b:0<u)(f:0<T)(o:Option Int)(m:Int):GE (o.map (ut u)) (ut u T) (ut u m)=ut T (EM (m-o.getD m)):=by
 cases o with
|none=>
  show (0:Rat)=ut T (EM (m-m));rw[Int.sub_self];exact (mS T).symm
|some v=>
  show (if ut u m<ut u v then (0:Rat) else (ut u m-ut u v)/ut u T)=ut T (EM (m-v));unfold EM;by_cases h:m<v
  ·rw[if_pos ((lA b).mpr h),if_neg (by lia),mS]
  ·rw[if_neg (by rw[lA b];exact h),TD,Hk b f];by_cases c:m-v>0
   ·rw[if_pos c]
   ·rw[if_neg c,show m-v=0 by lia]
def Lj{u:Int}(b:0<u)(tk:Option Int)(m:Int):OK (tk.map (ut u)) (ut u m)=decide (tk.getD (m+1)<=m):=by
 cases tk with
|none=>
  show false=decide (m+1<=m);rw[decide_eq_false (by lia)]
|some w=>
  show (!decide (ut u m<ut u w))=decide (w<=m);by_cases h:m<w
  ·rw[decide_eq_true ((lA b).mpr h),decide_eq_false (by lia)];rfl
  ·rw[decide_eq_false (by rw[lA b];exact h),decide_eq_true (by lia)];rfl
def Ol{u T:Int}(g:0<u)(b:0<T)(c f tk:Option Int)(m:Int):FA (c.map (ut u)) (f.map (ut u)) (tk.map (ut u)) (ut u T) (ut u m)=if tk.getD (m+1)<=m then none else if T<=EM (m-c.getD m)+EM (m-f.getD m) then none else some (ut T (EM (m-c.getD m)),ut T (T-EM (m-f.getD m))):=by
 unfold FA;rw[Lj g,Fn g b,Fn g b];generalize EM (m-c.getD m)=x;generalize EM (m-f.getD m)=y;by_cases h:tk.getD (m+1)<=m
 ·rw[decide_eq_true h,if_pos rfl,if_pos h]
 ·rw[decide_eq_false h,if_neg (by decide),if_neg h];have e:(1:Rat)-ut T y=ut T (T-y):=by rw[←Hj b,TD]
  rw[e];by_cases i:T<=x+y
  ·rw[if_pos i,if_neg (by rw[lA b];lia)]
  ·rw[if_neg i,if_pos (by rw[lA b];lia)]
noncomputable def Kq(a b:g6)(H G:Hp):Prop:=∀p o,p≠a->p≠b->H p=some o->G p=some o
def Gp{U:List Str}{i:Int}(b:0<=i)(c:i<U.length):zA (U.map V.str) i=some (.str (jG U i)):=by
 obtain ⟨h,e⟩:=yD b c;have f:(U.map V.str)[i.toNat]?=some (.str (jG U i)):=by rw[t5,i7 h,e];rfl
 have:=iT f;rwa[lw b]at this
def lC{b:Type}{l:List b}{i:Nat}{x:b}(h:l[i]?=some x):l.take (i+1)=l.take i++[x]:=by have c:=(i5.mp h).1;rw[D7 c];have:=(i5.mp h).2;rw[this]
def Cn{U:List Str}{u:Int}{b:List (Int×Int×Int)}{i:Nat}{r:Int×Int×Int}(h:b[i]?=some r):kn (eU U u (b.take (i+1)))=kn (eU U u (b.take i))++[(i0 (jG U r.1),i0 (jG U r.2.1),ut u r.2.2)]:=by rw[lC h];simp[kn,eU]
def Kj{U:List Str}{u:Int}{ps:List (Int×Int)}{i:Nat}{r:Int×Int}(h:ps[i]?=some r):rA U u (ps.take (i+1))=rA U u (ps.take i)++[(i0 (jG U r.1),ut u r.2)]:=by rw[lC h];simp[rA]
def Ho{u:Int}{ps:List (Int×Int)}{i:Nat}{r:Int×Int}(h:ps[i]?=some r):jM u (ps.take (i+1))=jM u (ps.take i)++[(j5 r.1,ut u r.2)]:=by rw[lC h];simp[jM]
noncomputable def lB(rs:List (Int×Int×Int)):List Int:=rs.map (·.1)++rs.map (·.2.1)
noncomputable def iI(rs:List (Int×Int×Int))(ps:List (Int×Int)):List (Int×Int):=ps.filter fun x=>decide (x.1∈lB rs)
def Br{b:List (Int×Int×Int)}{ps:List (Int×Int)}{i:Nat}{r:Int×Int}(h:ps[i]?=some r)(c:r.1∈lB b):iI b (ps.take (i+1))=iI b (ps.take i)++[r]:=by rw[lC h];unfold iI;rw[W7,T5 (by simpa using c),List.filter_nil]
def Kh{b:List (Int×Int×Int)}{ps:List (Int×Int)}{i:Nat}{r:Int×Int}(h:ps[i]?=some r)(c:¬r.1∈lB b):iI b (ps.take (i+1))=iI b (ps.take i):=by rw[lC h];unfold iI;rw[W7,T6 (by simpa using c),List.filter_nil,K4]
def NO{b:List (Int×Int×Int)}{ps:List (Int×Int)}{x:Int×Int}(h:x∈iI b ps):x∈ps:=(Q0.mp h).1
def Bs(b:List (Int×Int×Int))(ps:List (Int×Int)):(iI b ps).length<=ps.length:=jh _ _
structure gN(U:List Str)(u:Int)(rs:List (Int×Int×Int))(ps ts:List (Int×Int)):Prop where
 u0:0<u
 u1:u<=10^12
 nd:U.Nodup
 n2:2<=U.length
 n98:U.length<=98
 rok:∀r∈rs,0<=r.1/\r.1<U.length/\0<=r.2.1/\r.2.1<U.length/\1<=r.2.2/\r.2.2<=10^31
 pok:∀r∈ps,0<=r.1/\r.1<U.length/\0<=r.2/\r.2<=10^105
 tok:∀r∈ts,0<=r.1/\0<=r.2/\r.2<=10^105
 r1:1<=rs.length
 rl:rs.length<=110
 pl:ps.length<=20
 tl:ts.length<=20
 ns:∀x∈U,Sw x
section
variable {G:Hp}{dd:g6}{U:List Str}{u:Int}{rs:List (Int×Int×Int)}{ps ts:List (Int×Int)}{ln lr lp lt:g6}
def XH{c:Type}{R:Hp->V->c->Prop}{l:g6}{vs:List V}{ds:List c}{v:V}{b:c}(g:∀ {H H' v b},R H v b->TK H H'->R H' v b)(h:G l=some (.lst vs))(p:Paired (R G) vs ds)(r:R G v b):LQ R (upd G l (.lst (vs++[v]))) l (ds++[b]):=
 {_,aC,Pd.snoc (Pd.imp p fun v b f=>g f (TK.lst h)) (g r (TK.lst h))}
def tD{g:Type}{R:Hp->V->g->Prop}{l k:g6}{vs xs:List V}{ds:List g}(i:∀ {H H' v b},R H v b->TK H H'->R H' v b)(h:G k=some (.lst vs))(c:l≠k)(q:LQ R G l ds):LQ R (upd G k (.lst xs)) l ds:=
 let ⟨m,e,p⟩:=q;{m,aW c e,Pd.imp p fun v b f=>i f (TK.lst h)}
def yE{p q:g6}{kv:List (aL×V)}{xs:List V}(b:G p=some (.dK kv))(c:G q=some (.lst xs)):p≠q:=fun e=>by rw[e,c]at b;cases b
def fX.nam(h:fX G dd U u rs ps ts ln lr lp lt)(b:ln≠lr)(n2:ln≠lp)(n3:ln≠lt)(x:Str):fX (upd G ln (.lst (U.map V.str++[.str x]))) dd (U++[x]) u rs ps ts ln lr lp lt:=
 {{_,aW (yE h.d h.nm) h.d},by rw[B6];exact aC,tD kY.tk h.nm (u7 b) h.rq,tD gD.tk h.nm (u7 n2) h.pq,tD gD.tk h.nm (u7 n3) h.tq}
def fX.rnn{vs:List V}{p:g6}{x:Int×Int×Int}(h:fX G dd U u rs ps ts ln lr lp lt)(b:G lr=some (.lst vs))(pv:Paired (kY G) vs rs)(c:kY G (.ref p) x)(f:ln≠lr)(n2:lr≠lp)(n3:lr≠lt):fX (upd G lr (.lst (vs++[.ref p]))) dd U u (rs++[x]) ps ts ln lr lp lt:=
 {{_,aW (yE h.d b) h.d},aW f h.nm,XH kY.tk b pv c,tD gD.tk b (u7 n2) h.pq,tD gD.tk b (u7 n3) h.tq}
end
def pG{H:Hp}{kvs:List (aL×V)}{D:AL aL Int}(i:KQ IQ H kvs D)(k:aL)(z:Int):(bI kvs k).getD (.int z)=.int ((aV D k).getD z):=by
 rcases i.val (k:=k) with ⟨c,f⟩|⟨v,b,c,f,g⟩
 ·rw[c,f];rfl
 ·rw[c,f];exact g
def Gs(D:AL aL Int)(x:Int×Int):(if (aV D (j5 x.1)).getD x.2<x.2 then (aV D (j5 x.1)).getD x.2 else x.2)=(match aV D (j5 x.1) with|none=>x.2|some v=>if v<x.2 then v else x.2):=by
 cases aV D (j5 x.1) with
|none=>
  show (if x.2<x.2 then x.2 else x.2)=x.2;split <;> rfl
|some v=>rfl
def zB{b:Type}(l:AL aL b)(k:aL)(v:b):(eX l k v).length<=l.length+1:=by
 cases e:aV l k with
|none=>rw[IP e];exact k7 _
|some w=>rw[CA e];exact R6 _
def OF{D:AL aL Int}{x:Int×Int}{P:Int->Prop}(h:∀y∈D,P y.2)(b:P x.2):∀y∈XG D x,P y.2:=by
 intro y c;unfold XG at c;rcases fD (x:=y.1) (y:=y.2) c with ⟨_,e⟩|⟨_,f⟩
 ·rw[e];cases e2:aV D (j5 x.1) with
 |none=>exact b
 |some v=>
   dsimp only;split
   ·exact h _ (cM e2)
   ·exact b
 ·exact h y f
def Cs{D:AL aL Int}{x:Int×Int}{P:aL->Prop}(h:∀y∈D,P y.1)(f:P (j5 x.1)):∀y∈XG D x,P y.1:=by
 intro y b;unfold XG at b;rcases fD (x:=y.1) (y:=y.2) b with ⟨e,_⟩|⟨_,c⟩
 ·rw[e];exact f
 ·exact h y c
def CC.start{U:List Str}{u:Int}{o:List (Int×Int×Int)}{c:List (aL×Rat)}{tk:Nat->Option Rat}{D:AL aL Int}(m:(D.map (·.1)).Nodup)(g:∀x∈D,∃i:Nat,x.1=j5 (i:Int)/\i<U.length)(f:∀x∈D,0<=x.2/\x.2<=10^105)(h:mT U u D=aV (lst c)):CC U u o c tk D:=by
 refine {m,g,fun x b=>?_,fun p t e=>?_,fun p t e=>?_}
 ·have:=f x b;have q:0<D.length:=vy b;lia
 ·rw[h]at e;exact .push e
 ·rw[h];exact {t,e,dg}
def Lg{D:AL aL Int}{x:Int×Int}(b:(D.map (·.1)).Nodup):((XG D x).map (·.1)).Nodup:=qC b
def Mj{tk:Nat->Option Rat}{u:Int}{k:Nat}{T a b:Int}{D:AL aL Int}(h:aV D (j5 a)=none):Ei tk u k T a b D:=fun v e=>by rw[h]at e;cases e
def Ml{tk:Nat->Option Rat}{u:Int}{k:Nat}{T a b v:Int}{D:AL aL Int}(h:aV D (j5 a)=some v)(hn:¬cO tk k (ut u (v+T))):Ei tk u k T a b D:=fun c e n=>by rw[h]at e;cases e;exact absurd n hn
theorem Se{tk:Nat->Option Rat}{u:Int}{k:Nat}{T a b v:Int}{D:AL aL Int}(h:aV D (j5 a)=some v)(hn:¬v+T<(aV D (j5 b)).getD (v+T+1)):Ei tk u k T a b D:=fun c e n=>by
 rw[h]at e;cases e;cases e2:aV D (j5 b) with
|none=>
  rw[e2]at hn;exact absurd (show v+T<v+T+1 by lia) hn
|some w=>rw[e2]at hn;exact {w,rfl,iy.mp hn}
structure My(U:List Str)(u:Int)(rs:List (Int×Int×Int))(qs:List (aL×Rat))(tk:Nat->Option Rat)(D0 D:AL aL Int)(c:Bool)(Z:Prop):Prop where
 d:CC U u rs qs tk D
 le:mu U.length D<=mu U.length D0
 ch:c=true->mu U.length D<mu U.length D0
 st:c=false->D=D0/\Z
def My.imp{U:List Str}{u:Int}{i:List (Int×Int×Int)}{g:List (aL×Rat)}{tk:Nat->Option Rat}{b D:AL aL Int}{c:Bool}{Z f:Prop}(h:My U u i g tk b D c Z)(k:D=b->Z->f):My U u i g tk b D c f:={h.d,h.le,h.ch,fun e=>{(h.st e).1,k (h.st e).1 (h.st e).2}}
def Ou{c:TT}{i:TS}{D:gM}{f:St}{H:Hp}(g:Nat->St->Hp->Prop){q:Nat}(o:g q f H)(hs:∀m f H,g m f H->c f H fun b H1=>if b=true then ∃N:St->Hp->Prop,(∀σ' H',N σ' H'->∃m',m'<m/\g m' σ' H')/\i {D with nx:=N,ct:=N,bk:=D.nx} f H1 else D.nx f H1):JE c i D f H:={g,{_,o},hs}
def zK{z:Int}(h:z.natAbs<=10^115):Sm 8000 z:=E6 h (by decide)
def XC(z:Int):0<=EM z:=by unfold EM;split <;> lia
def XD{z b:Int}(h:z<=b)(c:0<=b):EM z<=b:=by unfold EM;split <;> omega
def WF{S:List Int}{i:Int}(c:0<=i)(f:i<S.length):∃m∈S,zA (S.map V.int) i=some (.int m):=by
 have b:i.toNat<S.length:=by omega
 refine {S[i.toNat],O8 b,?_};have:(S.map V.int)[i.toNat]?=some (.int S[i.toNat]):=by rw[t5,i7 b];rfl
 have:=iT this;rwa[lw c]at this
def UA{u z:Int}(f:0<u)(g:u<=10^13)(h:z.natAbs<=10^115):Sz 400 (ut u z):=by
 have b:u≠0:=by lia
 have e:=lI (t:=z) b;have i:=pX (t:=z) b;have c:=iZ (t:=z) b;have m:=iY (t:=z) b;refine {?_,?_}
 ·show ((m5 z u).num).natAbs<2^400;rw[e.1];exact E6 (show (dS z u).natAbs<=10^115 by lia) (by decide)
 ·show (((m5 z u).den:Int)).natAbs<2^400;rw[e.2];have:eJ z u∣u:={_,c.symm}
  have o:=mh f this;exact E6 (show (eJ z u).natAbs<=10^13 by lia) (by decide)
section
open Sem (wp)
end
def aY.turnL(ch:List g6)(I:aY X ag σ H s)(g:∀b∈ch,vQ X ag H b)(k:∀b o,b∉ch->s.heap.get? b=some o->h'.get? b=some o):aY X ag σ H {s with heap:=h',toks:=t'}:=by
 refine I.step (g':=s.gens) (d':=s.drawn) (ch:=ch) (fun b E=>?_) (fun b o _ _ f e _=>k b o f e) (fun b o _ _ f e _=>{o.slots,k b o f e}) (fun _ _ _ _ n=>n)
  (fun b o f e=>{o,k b o f e}) (fun _ _ e=>e) (fun _ _ _ e=>e) (fun b N e=>{#[],by rw[e];simp}) (fun m G=>?_) (fun b u e=>?_) I.bare
 ·obtain ⟨K,A,M,B,C,D⟩:=g b E;exact {B,A,C,D}
 ·obtain ⟨o,w,i,J,r⟩:=G;exact {o,w,i,k _ o (fun z=>(g _ z).2.1 rfl) J,r}
 ·refine (I.hok b u e).stay (fun c v f q=>k c v ?_ q) (fun _ q=>q) fun _ _ q=>q;intro z;have:=(g c z).1;rcases f with rfl|f
  ·rw[this]at e;cases e
  ·rw[this]at f;cases f
theorem XT{κ:Type}:∀{kvs:List (κ×V)}{vs:List (κ×f9)}{i:Nat}{k:κ}{v:V},KV kvs vs->kvs[i]?=some (k,v)->∃u,vs[i]?=some (k,u)/\bJ v u
|_,_,_,_,_,.nil,e=>by simp at e
|_,_,0,k,v,.cons (b:=q) r _,e=>by
  simp at e;subst e;exact {q.2,by simp;exact Prod.ext r.1.symm rfl,r.2}
|_,_,i+1,k,v,.cons _ t,e=>by obtain ⟨u,h,r⟩:=XT (i:=i) (k:=k) (v:=v) t (by simpa using e);exact {u,by simpa using h,r}
def aY.pairAt(I:aY X ag σ H s)(f:aY X ag σ H {s with heap:=h2,toks:=s.toks})(J:bJ x u)(C:bJ y u2)(i:h2.get? s.heap.objs.size=some {cls:=.type "tuple",data:=.seq #[u,u2]}):aY X ag σ (upd H s.heap.objs.size (.tup [x,y])) {s with heap:=h2,toks:=s.toks}:=by
 have B:H s.heap.objs.size=none:=I.hok.fresh (k7 _);have A:∀{b:g6},b<s.heap.objs.size->H b=none->upd H s.heap.objs.size (.tup [x,y]) b=none:=fun {b} w e=>by rw[aX (q7 w)];exact e
 have g:∀{b:g6}{o:HO},H b=some o->upd H s.heap.objs.size (.tup [x,y]) b=some o:=fun {b o} e=>by rw[aX (aB e B)];exact e
 refine {f.ok,f.os,f.bare,{f.base.keep,f.base.slot,fun b o q n E=>A ?_ (f.base.free b o q n E),f.base.there,fun b D q=>g (f.base.tups b D q),fun b o v q=>g (f.base.frzs b o v q),fun b G q=>?_},f.loc,f.cell,A I.lt f.free,fun y c q=>A ?_ (f.freeC y c q),fun p hp=>?_,fun b o q=>?_,f.len}
 ·exact j3 (p7 q) I.sz
 ·obtain ⟨m,z⟩:=f.base.tbls b G q;exact {m,g z}
 ·obtain ⟨v,z⟩:=I.cell y c q;exact z.lt
 ·obtain ⟨K,M,N⟩:=f.pin p hp;exact {K,A (p7 (I.pin p hp).1) M,N}
 ·by_cases w:b=s.heap.objs.size
  ·subst w;rw[aC]at q;cases q;exact {{by rw[B8];simp,_,i,rfl},[u,u2],.cons J (.cons C .nil),_,i,rfl,_,rfl}
  ·rw[aX w]at q;exact (f.hok b o q).stay (fun _ _ _ z=>z) (fun c z=>g z) fun c D z=>g z
noncomputable def Ty(a:g6)(o:Obj)(kvs:List (aL×V)):It:=
 {fun i H=>H a=some (.frz o (.dK kvs))/\i<kvs.length,fun i H x H'=>∃T k v,x=.ref T/\H T=none/\H'=upd H T (.tup [kV k,v])/\kvs[i]?=some (k,v),fun i H=>H a=some (.frz o (.dK kvs))/\kvs.length<=i}
def JC{P:m9}{w:w6}{K:y8}{C:List D9}{k1:Nat}{Q:Pos}(a it:g6)(o:Obj)(kvs:List (aL×V)):
  RW P w K (.Tuple C k1 Q) (Ty a o kvs) [it] it (fun i h=>∃es ep ok O,o.data=.dict es ep/\IsItemIter h it a i kvs.length ep ok O) where
 mem:=by simp
 obj:=fun i h st b hb=>by
  have e:b=it:=by simpa using hb
  subst e;obtain ⟨_,_,_,_,_,e⟩:=st;exact {_,e,fun v z=>nomatch z}
 keep:=fun i h h' ⟨es,ep,ok,O,q,st⟩ k=>{es,ep,ok,O,q,k it (by simp) _ st}
 item:=by
  intro X hP hw hK G i B s σ H E I S st hg;subst hP hw hK;obtain ⟨ha,T⟩:=hg;obtain ⟨hd,vs,es,ep,m,R,U⟩:=wD I ha;obtain ⟨Z,Y,ok,O,g,st⟩:=st;rw[R]at g;cases g;obtain ⟨⟨k,v⟩,hx⟩:∃p,kvs[i]?=some p:={_,i7 T}
  obtain ⟨u,hu,ru⟩:=XT m hx;have f:=m.length;rw[f]at st;have b':=p7 st;refine wpAny_pyNext_items_item st U hu fun N h' M J hT c' kp=>?_;refine {_,rfl,wpAny_letOwnedTupleGo_items (s:={s with heap:=h'}) J fun h2 b1 sb=>?_};have D:s.heap.objs.size≠it:=C6 b';have k2:∀c o,c∉[it]->s.heap.get? c=some o->h2.get? c=some o:=fun c o n q=>by have n':c≠it:=fun z=>n (by simp[z]);exact (sb.2 c n').trans (kp c o n' q)
  have I1:aY X B σ H {s with heap:=h2,toks:=s.toks}:=I.turnL [it] S k2;have a':h2.get? s.heap.objs.size=some {cls:=.type "tuple",data:=.seq #[N,u]}:=(sb.2 _ D).trans hT;have I2:=I.pairAt I1 (DM M) ru a';refine {.ref s.heap.objs.size,_,I2,rfl,{s.heap.objs.size,k,v,rfl,I.hok.fresh (k7 _),rfl,hx},{es,ep,N,u,R,by rw[f];exact b1},fun c G=>?_};have e:c=it:=by simpa using G
  subst e;rw[aX (u7 D)];exact (S c G).1
 done:=by
  intro X hP hw hK G i B s σ H E I S st hg;subst hP hw hK;obtain ⟨ha,T⟩:=hg;obtain ⟨hd,vs,es,ep,m,R,U⟩:=wD I ha;obtain ⟨Z,Y,ok,O,g,st⟩:=st;rw[R]at g;cases g;have f:=m.length;rw[f]at st T;refine wpAny_pyNext_items_end (show X.A.in1.handled=none from I.ok.hd G) st U (by simpa using T) fun h' eb=>{rfl,?_}
  exact I.turnL (t':=s.toks) [it] S fun c o n q=>eb c o (fun z=>n (by simp[z])) q
 self:=fun _ _ _ _ _ ⟨_,_,_,_,_,st⟩ h=>PySem.W.kcp_self st h
section
variable {X:Cx}
noncomputable def XY(C:g6->Prop)(tl:TE):TI:=fun σ H R=>tl σ H fun x H1=>∃a,C a/\x=.ref a/\∃kvs,H1 a=some (.dK kvs)/\∀o,R (Ty a o kvs) (upd H1 a (.frz o (.dK kvs)))
def WH(C:g6->Prop)(S:PE X l tl)(c:R0 l "items" X.env (K3 l X.env)=K3 l X.env:=by rfl)(f:(bn.endLine==pos.line)=true:=by rfl):PI X (.Tuple elts k1 tpos) (.Call (.Attribute l "items" bn) [] [] pos) (XY C tl):=by
 intro A s Y H R I h;refine io (T:="dict") (id:="dict.items") c rfl f X0 sj PySem.F.type_dict_items (dD (S A s Y H _ I h) fun v i ⟨x,Z,M,W,U⟩=>?_);obtain ⟨a,_,e,m,hk,q⟩:=U;subst e;cases W;obtain ⟨_,Q,K,J,o,O,B,g,r⟩:=M.hok a _ hk;have N:i.heap.DictAt (bS X.prog X.w) a K B:={o,O,g,r}
 have D:=N.dictOf;have E:=M.freeze hk g;refine {D.typeIs,D.mapOf.noDict,?_};show j0 _ _ (wn pos (.builtin "dict.items") [.ref a] [] []) _ _ i;refine method_meetsIn sj PySem.F.entry_dict_items rfl (PySem.evalArgs_none {rfl,D.typeIs,PySem.F.args_dict_items_1 _,_,meets_dict_items (bS X.prog X.w) a Q,{K,D},?_});refine wpAny_pyIter_items (knd:=bS X.prog X.w) (d:=a) (kvs:=K) (ep:=B) {_,o0 _ rfl,rfl,rfl} (N.push _) ?_;have G:(i.heap.push {cls:=.type "dict_items",data:=.fields #[.ref a]}).objs.size=i.heap.objs.size+1:=L5 ..;refine {_,[_],_,_,_,rfl,(E.kept (t':=i.toks) fun b o e=>i4 _ (i4 _ e)),JC a _ o m,{O,B,.none,.none,r.2.1,?_},fun b P=>?_,q o}
 ·rw[J.length];exact o0 _ rfl
 ·have e:b=(i.heap.push {cls:=.type "dict_items",data:=.fields #[.ref a]}).objs.size:=by simpa using P
  rw[G]at e;subst e;exact E.fpOk (R6 _) (E.hok.fresh (R6 _))
variable {scope:di}{tn names:List Str}{is:List Nat}{elt l:D9}{elts:List D9}{k1:Nat}{tpos bn cc:Pos}{ifs:List D9}{pos:Pos}{tl te:TE}{tc:Option TT}{g:TG}
noncomputable def TW(tl:TE)(te:TE)(tc:Option TT)(g:TG)(k:Nat)(is:List Nat):TE:=fun σ H Q=>∃a,mO H a/\EY (XY (·=a) tl) te tc g k is σ H fun v H'=>Q v (melt a H')
def WL(m:rR X scope tn names is)(A:X.calm=true)(E:PE X l tl)(D:∀C s0 H0 ex,PG (bU X scope (cF X.env names) (tn++names) C s0 H0 ex) (.Tuple elts k1 tpos) g)(B:∀C s0 H0 ex,PE (bU X scope (cF X.env names) (tn++names) C s0 H0 ex) elt te)(G:∀C s0 H0 ex,Ef (bU X scope (cF X.env names) (tn++names) C s0 H0 ex) ifs tc)(b:R0 l "items" X.env (K3 l X.env)=K3 l X.env:=by rfl)(c:(bn.endLine==cc.line)=true:=by rfl)(hs:∀x,V1 (.Call (.Attribute l "items" bn) [] [] cc) X.env x=L3 x:=by intro _;rfl):
  PE X (.ListComp elt [{.Tuple elts k1 tpos,.Call (.Attribute l "items" bn) [] [] cc,ifs,0}] scope pos) (TW tl te tc g tn.length is):=by
 intro f s K H Q I h;obtain ⟨a,J,h⟩:=h;have w:∀o u,X.H₀ a≠some (.frz o u):=fun o u e=>J _ _ (I.base.frzs a o u e);refine dD (eZ m A (WH (·=a) E b c) D B G hs f s K H _ I h) fun u N ⟨v,M,i,r,q⟩=>{v,_,i.melt w,r,q}
end
section
variable {σ:St}{H:Hp}{Q:VK}{te:TE}{a7:St}{K:y8}
def Bf(a:g6)(c:mO H a)(h:tl σ H fun x H1=>∃b,b=a/\x=.ref b/\∃kvs,H1 b=some (.dK kvs)/\∀o',mM te o g (C7 k none) (qD σ is) (fun v H'=>Q v (melt a H')) (Ty b o' kvs) (upd H1 b (.frz o' (.dK kvs)))):TW tl te o g k is σ H Q:={a,c,h}
def VU(hn:kvs.length<=1000)(w:g6->Nat->List V->Hp->Prop)(I:∀f,H f=none->w f 0 [] (upd H f (.lst [])))(D:∀f i ys g,H f=none->i<=kvs.length->w f i ys g->g a=some (.frz o (.dK kvs)))(hs:∀f i ys g T k v,H f=none->kvs[i]?=some (k,v)->ys.length<=i->g f=some (.lst ys)->g T=none->w f i ys g->c (some (kV k)::some v::a7) (upd g T (.tup [kV k,v])) fun b H3=>if b=true then te (some (kV k)::some v::a7) H3 (BR kvs.length f (w f) ys i) else yQ kvs.length f (w f) ys i H3)(N:∀f ys g,H f=none->g f=some (.lst ys)->ys.length<=kvs.length->w f kvs.length ys g->Q (.ref f) g):mM te (some c) (HW K 2 (tI (iD 0) (tI (iD 1) YI))) (C7 2 none) a7 Q (Ty a o kvs) H:=by
 intro f s;refine {fW kvs.length f (w f),{kvs.length,by simp,w4 _,k7 _,aC,I f s},fun i m ys g M=>?_};obtain ⟨rfl,G,C,A,p⟩:=M;have q:=D f i ys g s G p;refine {A,?_};rcases F8 i kvs.length with E|B
 ·refine .inr {eR (B9 C (by lia)),{q,E},fun W x R O z=>?_};obtain ⟨T,k,v,rfl,J,rfl,P⟩:=z;obtain ⟨S,U,rfl⟩:=Rk O;exact CQ aC {kV k,[v],rfl,v,[],rfl,rfl,{[some (kV k),some v],rfl,rfl},hs f i ys g T k v s P C A J p}
 ·cases (fb G B:i=kvs.length);exact .inl {{q,k7 _},N f ys g s A C p}
end
def OC(hk:H d=some (.dK kvs))(s:aK (upd H d (.frz o (.dK kvs))) G):aK H (melt d G):=fun b u c=>by
 by_cases z:b=d
 ·subst z;rw[hk]at c;cases c;exact DH (s _ _ aC)
 ·rw[sY z];exact s _ _ (aW z c)
noncomputable def Uv:R2:=fun x y H Q=>∃p q kvs kws,x=.ref p/\y=.ref q/\H p=some (.dK kvs)/\H q=some (.dK kws)/\kvs.length=kws.length/\(∀kv∈kvs,∃d w,bI kws kv.1=some w/\oM H d kv.2/\oM H d w/\uO d<=20)/\Q (.bl false) H
theorem HV(I:aY X ag σ H s)(o:A.units+20<N2)(c:KV kws ws):∀{kvs:List (aL×V)}{vs:List (aL×f9)},KV kvs vs->(∀kv∈kvs,∃d w,bI kws kv.1=some w/\oM H d kv.2/\oM H d w/\uO d<=20)->PySem.W.KeqHits A s ws vs true
|_,_,.nil,_=>.nil
|_,_,.cons (a:=p) (b:=q) r t,h=>by
  obtain ⟨d,w,e,f,m,B⟩:=h p L8;have rv:=c.val p.1;rw[e,r.1]at rv;cases ev:Y8 ws q.1 with
 |none=>rw[ev]at rv;cases rv
 |some y=>rw[ev]at rv;have i:=KM I d d (A:=A) f m r.2 (show bJ w y from rv) (by lia);rw[oM.same_eq d d f f]at i;exact PySem.W.KeqHits.hit (e:=true) (b:=true) ev i (HV I o c t fun kv g=>h kv (E4 _ g))
section
open PySem.SeqAt PySem.MeetsSeq PySem.MeetsSeq2 PySem.MeetsSeq3
open PySem.AutoSeq1 (wpAny_loadPart')
variable {prog:m9}{w:w6}
noncomputable def LF(prog:m9)(w:w6)(A:B2)(s:i6)(y x:f9):Prop:=∀(E:f9->i6->Prop)(Q:Bool->i6->Prop),Q true s->j0 (j8 prog w) A (eqBool y x) Q E s
def LF.of(h:EqAt A s y x true):LF prog w A s y x:=fun E Q q=>h prog w E Q q
def QN(l b:g6)(items c:Array f9)(n n2:Nat)(H D:Option g6)(K G:Array (Option f9))(hsz:items.size=c.size)(k:Nat):
  ∀i:Nat,items.size-i=k->MeetsIn prog w (J0.«list.__eq__.loop» {[.ref l,.ref b,D4 i,D4 3],[]})
   (fun A R s=>s.heap.get? l=some {cls:=.type "list",dict:=H,data:=.seq items n,slots:=K}/\s.heap.get? b=some {cls:=.type "list",dict:=D,data:=.seq c n2,slots:=G} /\
    (∀j (M:j<items.size) (N:j<c.size),LF prog w A.in1 s items[j] c[j])/\R (.ok (.ret (.bool false))) s):=by
 induction k with
|zero=>
  intro i hk A R s h;obtain ⟨hp,g,d,tk,J⟩:=s;obtain ⟨B,q,E,h⟩:=h
  wp_walk using B7 B,B7 q
  have m:items[((i:Nat):Int).toNat]?=none:=by simp;omega
  have o:c[((i:Nat):Int).toNat]?=none:=by simp;omega
  rw[m,o]
  wp_walk using B7 B,B7 q
  show R (.ok (.ret (.bool (items.size !=c.size)))) _;rw[hsz];simpa using h
|succ k ih=>
  intro i hk A R s h;obtain ⟨hp,g,d,tk,J⟩:=s;obtain ⟨B,q,E,h⟩:=h
  wp_walk using B7 B,B7 q
  have C:i<items.size:=by omega
  have f:i<c.size:=by omega
  have m:items[((i:Nat):Int).toNat]?=some items[i]:=by simp[C]
  have o:c[((i:Nat):Int).toNat]?=some c[i]:=by simp[f]
  have I:((i:Int)+1)=((i+1:Nat):Int):=by push_cast;rfl
  rw[m,o];refine e9 (E i C f _ _ ?_)
  wp_walk
  rw[I];exact {F0 plain_eq_loop _,C1 entry_eq_loop (by
   rw[z9 plain_eq_loop _];exact ih (i+1) (by omega) A R _ {B,q,E,h})}
def QS(l b:g6)(items c:Array f9)(n n2:Nat)(m f:Option g6)(B i:Array (Option f9))(hsz:items.size=c.size):
  MeetsIn prog w (J0.«list.__ne__» {[.ref l,.ref b],[]})
   (fun A R s=>s.heap.get? l=some {cls:=.type "list",dict:=m,data:=.seq items n,slots:=B}/\s.heap.get? b=some {cls:=.type "list",dict:=f,data:=.seq c n2,slots:=i} /\
    (∀j (G:j<items.size) (H:j<c.size),LF prog w A.in1 s items[j] c[j])/\R (.ok (.ret (.bool false))) s):=by
 intro A R s h;obtain ⟨hp,g,d,tk,I⟩:=s;obtain ⟨q,o,C,h⟩:=h;have E:=sw;have D:¬(items.size !=c.size)=true:=by simp[hsz]
 wp_walk using B7 q,B7 o
 exact {F0 plain_eq_loop _,C1 entry_eq_loop (by
  rw[z9 plain_eq_loop _];exact QN l b items c n n2 m f B i hsz _ 0 rfl A R _ {q,o,C,h})}
end
noncomputable def PB(H:Hp)(x y:V):Prop:=(∃d,oM H d x/\oM H d y/\uO d<=20)∨∃p q kvs kws,x=.ref p/\y=.ref q/\H p=some (.dK kvs)/\H q=some (.dK kws)/\kvs.length=kws.length/\∀kv∈kvs,∃d w,bI kws kv.1=some w/\oM H d kv.2/\oM H d w/\uO d<=20
def OO(I:aY X ag σ H s)(T:A.units+30<N2)(h:PB H x y)(m:bJ x u)(rv:bJ y v):LF X.prog X.w A s u v:=by
 rcases h with ⟨d,c,D,S⟩|⟨p,q,M,N,rfl,rfl,hp,K,J,b⟩
 ·have e:=KM I d d (A:=A) c D m rv (by lia);rw[oM.same_eq d d c c]at e;exact .of e
 ·cases m;cases rv;by_cases e:p=q
  ·rw[e];exact .of (Y2 _)
  ·intro E Q G;unfold eqBool;refine E9 ?_;refine wpAny_ite_split (fun f=>absurd (by have:=eq_of_beq f;injection this) e) (fun _=>?_);obtain ⟨U,O,P,g,o⟩:=yU I.hok hp;obtain ⟨W,n2,R,i,B⟩:=yU I.hok K;have C:P.length=R.length:=by rw[←g.length,←i.length,J]
   refine e9 (keq_eq (r:=true) O n2 o B (by lia) (fun _=>HV I (A:=A.in1) (by show A.units+1+20<N2;lia) i g b) (K9 ?_));rw[C];simpa using G
noncomputable def Uu:R2:=fun x y H Q=>∃p q xs ys,x=.ref p/\y=.ref q/\H p=some (.lst xs)/\H q=some (.lst ys)/\xs.length=ys.length/\(∀(i:Nat)(x y:V),xs[i]?=some x->ys[i]?=some y->PB H x y)/\Q (.bl false) H
def WO(hu:X.A.units+64<N2):lN X (E7 .NotEq) Uu:=by
 intro J s σ H x y v u Q I W Y h;obtain ⟨p,q,Z,ys,rfl,rfl,hp,O,hl,c,k⟩:=h;cases W;cases Y;obtain ⟨z1,f,S,o,l1,m⟩:=I.lstM hp;obtain ⟨z2,g,n2,w,l2,B⟩:=I.lstM O;refine vq (op:=.NotEq) {_,m,rfl} {_,B,rfl} slot_list_ne (Z7 slot_list_ne {_,m,rfl} PySem.F.entry_list_ne (PySem.F.args_list_ne_2 _ _) (QS p q f.toArray g.toArray S n2 none none #[] #[] (by rw[l8,l8];lia)) {m,B,fun j K M=>?_,?_}) (by lia)
 ·have P:j<f.length:=by simpa using K
  have R:j<g.length:=by simpa using M
  have E:j<Z.length:=by lia
  have G:j<ys.length:=by lia
  obtain ⟨a,C,T⟩:=o.get (i:=j) (i7 E);obtain ⟨b,D,U⟩:=w.get (i:=j) (i7 G);rw[i7 P]at C;rw[i7 R]at D;have N:=OO I (A:=X.A.in1) (by show X.A.units+1+30<N2;lia) (c j _ _ (i7 E) (i7 G)) T U;cases C;cases D;simpa using N
 ·exact {(fun x=>nomatch x),.bl false,H,I,rfl,k}
section
variable {te:TE}{Q:VK}{H:Hp}{a7:St}
def VX(hn:kvs.length<=1000)(w:g6->Nat->List V->Hp->Prop)(E:∀f,H f=none->w f 0 [] (upd H f (.lst [])))(B:∀f i ys s,H f=none->i<=kvs.length->w f i ys s->s a=some (.frz o (.dK kvs)))(hs:∀f i ys s k v,H f=none->kvs[i]?=some (k,v)->ys.length<=i->s f=some (.lst ys)->w f i ys s->c (some (kV k)::a7) s fun b H3=>if b=true then te (some (kV k)::a7) H3 (BR kvs.length f (w f) ys i) else yQ kvs.length f (w f) ys i H3)(G:∀f ys s,H f=none->s f=some (.lst ys)->ys.length<=kvs.length->w f kvs.length ys s->Q (.ref f) s):mM te (some c) (iD 0) (C7 1 none) a7 Q (Na a o kvs) H:=by
 intro f g;refine {fW kvs.length f (w f),{kvs.length,by simp,w4 _,k7 _,aC,E f g},?_};rintro i m ys s ⟨rfl,I,D,A,p⟩;have q:=B f i ys s g I p;refine {A,?_};by_cases C:i<kvs.length
 ·refine .inr {eR (by lia),{q,C},fun M x K J y=>?_};obtain ⟨rfl,k,v,e,rfl⟩:=y;obtain ⟨o,rfl⟩:=XM J;exact {{[some (kV k)],rfl,rfl},hs f i ys _ k v g e D A p}
 ·have e:i=kvs.length:=by lia
  subst e;exact .inl {{q,k7 _},G f ys s g A D p}
end
def XQ{x b B:Int}(o:0<x)(i:0<b)(c:x∣B)(f:b∣B):0<x.fdiv (m7 x b)*b/\x.fdiv (m7 x b)*b∣B/\x∣x.fdiv (m7 x b)*b/\b∣x.fdiv (m7 x b)*b:=by
 obtain ⟨n,rfl⟩:∃n:Nat,x=n:={x.toNat,by lia}
 obtain ⟨m,rfl⟩:∃m:Nat,b=m:={b.toNat,by lia}
 have hn:0<n:=by lia
 have g:0<m:=by lia
 have e:((n:Int).fdiv (m7 n m))*(m:Int)=((n.lcm m:Nat):Int):=by rw[show m7 (n:Int) (m:Int)=Nat.gcd n m from rfl,show (n:Int).fdiv (Nat.gcd n m:Int)=((n/Nat.gcd n m:Nat):Int) by rw[uq _ (no _)];rfl,←Int.natCast_mul];congr 1;unfold Nat.lcm;exact Nat.div_mul_right_comm (Nat.gcd_dvd_left n m) m
 rw[e];refine {by exact_mod_cast Nat.lcm_pos hn g,?_,by exact_mod_cast Nat.dvd_lcm_left n m,by exact_mod_cast Nat.dvd_lcm_right n m};rw[←jw]at c f ⊢;rw[Int.natAbs_natCast]at c f ⊢;exact Nat.lcm_dvd c f
noncomputable abbrev gal:Bool->Keyed->Array Keyed->Nat->Nat->Nat->StateT SortSt Sem (Option Nat):=sortPriv% PySem.Builtin.gallop
noncomputable abbrev mgL:Array Keyed->Array Keyed->StateT SortSt Sem (Array Keyed):=sortPriv% PySem.Builtin.mergeLo
noncomputable abbrev mgH:Array Keyed->Array Keyed->StateT SortSt Sem (Array Keyed):=sortPriv% PySem.Builtin.mergeHi
noncomputable def ZJ(a₀ x:Array j9):Prop:=∀p∈x.toList,p∈a₀.toList
structure SB(a₀:Array j9)(st:B3):Prop where
 perm:(arrOf st).Perm a₀
 kind:kindOf st=mq
 ok:failedOf st=none
def ZJ.at(h:ZJ a₀ x)(b:i<x.size):x[i]∈a₀.toList:=h _ (by simp)
def ZJ.ext(h:ZJ a₀ x)(i j:Nat):ZJ a₀ (x.extract i j):=fun p hp=>h p (by
 rw[U6]at hp;exact xo (jz hp))
section
variable {A:B2}{E:f9->i6->Prop}{s:i6}{a₀:Array j9}{M:Model}
def bR{st:B3}{arr:Array j9}{i:Nat}{Q:j9->B3->Prop}(h:i<arr.size)(q:Q arr[i] st):wpS M A E s (elem' arr i) Q st:=by rw[elem'_eq,getElem?_pos arr i h];exact k9 q
def SB.in{st:B3}(h:SB a₀ st):ZJ a₀ (arrOf st):=fun p hp=>(rp.mp h.perm).mem_iff.mp hp
def SB.sz{st:B3}(h:SB a₀ st):(arrOf st).size=a₀.size:=h.perm.size_eq
structure SG(st st':B3):Prop where
 kind:kindOf st'=kindOf st
 arr:arrOf st'=arrOf st
 pend:pendingOf st'=pendingOf st
 ok:failedOf st'=failedOf st
def SG.refl(st:B3):SG st st:={rfl,rfl,rfl,rfl}
def SG.gal{st b:B3}(h:SG st b)(g:Nat):SG st (lj (kindOf b) (arrOf b) (pendingOf b) g (failedOf b)):={h.1,h.2,h.3,h.4}
def dX(a:Array j9)(i:Nat):(a.extract i a.size).toList=a.toList.drop i:=by rw[U6];exact D2 (by simp)
def jZ(a:Array j9)(i k:Nat):(a.extract i (i+k)).toList=(a.toList.drop i).take k:=by rw[U6];show (a.toList.drop i).take (i+k-i)=_;rw[Nat.add_sub_cancel_left]
def cI{b:Type}{st:B3}{c:Prop}{i:Decidable c}{p q:StateT B3 Sem b}{Q:b->B3->Prop}(f:c->wpS M A E s p Q st)(g:¬c->wpS M A E s q Q st):wpS M A E s (if c then p else q) Q st:=by
 split
 ·exact f ‹_›
 ·exact g ‹_›
def dC{b:Type}{st:B3}{x y:Nat}{i:Decidable ((x==y)=true)}{p q:StateT B3 Sem b}{Q:b->B3->Prop}(c:x=y->wpS M A E s p Q st)(f:x≠y->wpS M A E s q Q st):wpS M A E s (if (x==y)=true then p else q) Q st:=by
 split
 ·exact c (eq_of_beq ‹(x==y)=true›)
 ·exact f (fun e=>‹¬(x==y)=true› (by rw[e];exact beq_self_eq_true y))
def pO{b:Type}{st:B3}{c:Prop}{i:Decidable c}{p q:StateT B3 Sem b}{Q:b->B3->Prop}(h:wpS M A E s (if c then p else q) Q st):wpS M A E s (if c then p else q) Q st:=h
def LI{b f:Type}{st:B3}{c:Prop}{i:Decidable c}{F:f->StateT B3 Sem b}{x y:f}{Q:b->B3->Prop}(T:∀x,wpS M A E s (F x) Q st):wpS M A E s (if c then F x else F y) Q st:=cI (fun _=>T _) fun _=>T _
def CD{b c f:Type}{st:B3}{p:StateT B3 Sem b}{Q:b->B3->Prop}(F:Unit->c->f->StateT B3 Sem b)(I:c->f->Prop)(h:(∀x y,I x y->wpS M A E s (F () x y) Q st)->wpS M A E s p Q st)(T:∀x y,I x y->wpS M A E s (F () x y) Q st):wpS M A E s p Q st:=h T
def tV(a:Array j9)(n:Nat):(a.extract 0 n).toList=a.toList.take n:=by rw[U6];show (a.toList.drop 0).take (n-0)=_;rw[Nat.sub_zero,dk]
def kO(a:Array j9)(h:i<=n):a.toList.drop i=(a.extract i n).toList++a.toList.drop n:=by
 obtain ⟨k,rfl⟩:∃k,n=i+k:={n-i,by lia}
 rw[jZ,←drop_drop,je]
def yS{a:Array j9}{i:Nat}(b:i<a.size):a.toList.drop i=[a[i]]++a.toList.drop (i+1):=by rw[um (by simpa using b)];rfl
def ZY{b:Type}{x st:b}{Q:PUnit->b->Prop}(h:Q ⟨⟩ x):wpS M A E s (set x:StateT b Sem PUnit) Q st:=by unfold wpS;rw[StateT.run_set];exact i8 {rfl,h}
noncomputable abbrev Pn:=Nat×Nat×Nat
noncomputable def OZ:List Pn->Nat->Nat->Prop
|[],b,e=>b=e
|x::r,b,e=>x.1=b/\0<x.2.1/\OZ r (b+x.2.1) e
theorem OZ.le:∀{l:List Pn}{b e:Nat},OZ l b e->b<=e
|[],_,_,h=>jq h
|_::_,_,_,⟨_,_,h⟩=>by have:=h.le;lia
theorem OZ.at:∀{l:List Pn}{b e i:Nat}{x y:Pn},OZ l b e->l[i]?=some x->l[i+1]?=some y->y.1=x.1+x.2.1/\0<x.2.1/\0<y.2.1/\y.1+y.2.1<=e/\OZ ((l.set i (x.1,x.2.1+y.2.1,x.2.2)).eraseIdx (i+1)) b e
|[],_,_,_,_,_,_,c,_=>by simp at c
|[_],_,_,0,_,_,_,_,f=>by simp at f
|u::v::r,b,e,0,x,y,⟨m,g,H,G,h⟩,c,f=>by
  simp only[J2,F9]at c;simp only[J3,J2,F9]at f;subst c f;have:=h.le;refine {by lia,g,G,by lia,m,Nat.add_pos_left g _,?_};show OZ r _ e;rw[←add_assoc];exact h
|u::r,b,e,i+1,x,y,⟨m,g,h⟩,c,f=>by rw[J3]at c f;obtain ⟨o,q,B,C,D⟩:=h.at c f;exact {o,q,B,C,m,g,D}
def PV{l:List j9}{i:Nat}(h:i<l.length)(y:j9):l.set i y=l.take i++y::l.drop (i+1):=by rw[List.set_eq_take_append_cons_drop,if_pos h]
theorem Rt:∀(ys:List j9)(arr:Array j9)(b k:Nat),b+k+ys.length<=arr.size->((ys.zipIdx k).foldl (fun a x=>match x with|(p,j)=>a.setIfInBounds (b+j) p) arr).toList=arr.toList.take (b+k)++ys++arr.toList.drop (b+k+ys.length)
|[],arr,b,k,_=>by simp
|y::ys,arr,b,k,h=>by
  rw[K2]at h;rw[List.zipIdx_cons,List.foldl_cons];refine (Rt ys (arr.setIfInBounds (b+k) y) b (k+1) (by rw[Array.size_setIfInBounds];lia)).trans ?_;have i:b+k<arr.toList.length:=by rw[m6];lia
  have c:(arr.toList.take (b+k)).length=b+k:=by rw[V8];lia
  have f:(arr.toList.take (b+k)++y::arr.toList.drop (b+k+1)).take (b+(k+1))=arr.toList.take (b+k)++[y]:=by rw[List.take_append,c,D2 (by lia),show b+(k+1)-(b+k)=1 by lia];rfl
  have g:(arr.toList.take (b+k)++y::arr.toList.drop (b+k+1)).drop (b+(k+1)+ys.length)=arr.toList.drop (b+k+(ys.length+1)):=by rw[List.drop_append,c,Z6 (by lia),show b+(k+1)+ys.length-(b+k)=ys.length+1 by lia,List.drop_succ_cons,drop_drop,O1];congr 1;lia
  rw[fx,PV i,f,g,K2,D6,D6,D6];rfl
def Lu{c:Prop}{i:Decidable c}{n:Nat}(h:1<n):(if c then n-2-1 else n-2)+1<n:=by split <;> omega
end
section
variable {κ:j9->Int}
noncomputable def kv(κ:j9->Int)(a:Array j9)(i:Nat):Int:=((a[i]?).map κ).getD 0
def bY{a:Array j9}{i:Nat}(h:i<a.size):kv κ a i=κ a[i]:=by unfold kv;rw[getElem?_pos a i h];rfl
def eN{a b:Array j9}{i j:Nat}(h:a[i]?=b[j]?):kv κ a i=kv κ b j:=by unfold kv;rw[h]
noncomputable def IS(κ:j9->Int)(l:List j9):Prop:=l.Pairwise fun x y=>κ x<=κ y
structure jE(κ:j9->Int)(l r:List j9):Prop where
 perm:l.Perm r
 ord:∀z,l.filter (fun x=>decide (κ x=z))=r.filter (fun x=>decide (κ x=z))
def jE.refl(l:List j9):jE κ l l:={ku.refl _,fun _=>rfl}
def jE.trans{a b c:List j9}(h:jE κ a b)(g:jE κ b c):jE κ a c:={h.perm.trans g.perm,fun z=>(h.ord z).trans (g.ord z)}
def jE.app{a b c d:List j9}(h:jE κ a b)(g:jE κ c d):jE κ (a++c) (b++d):={h.perm.append g.perm,fun z=>by rw[W7,W7,h.ord,g.ord]}
def jE.comm{a b:List j9}(h:∀x∈a,∀y∈b,κ x≠κ y):jE κ (a++b) (b++a):={List.perm_append_comm,fun z=>by
 rw[W7,W7];by_cases e:a.filter (fun x=>decide (κ x=z))=[]
 ·rw[e,K4,O1]
 ·have g:b.filter (fun x=>decide (κ x=z))=[]:=by
   rw[wb];intro y m;obtain ⟨x,i⟩:=List.exists_mem_of_ne_nil _ e;obtain ⟨c,f⟩:=Q0.mp i;have:=h x c y m;have o:=of_decide_eq_true f;simp only[decide_eq_true_eq];lia
  rw[g,K4,O1]}
def lV{a:Array j9}{i n:Nat}{y:j9}(h:y∈(a.toList.drop i).take n):∃j,i<=j/\j<i+n/\j<a.size/\κ y=kv κ a j:=by
 obtain ⟨k,hk,e⟩:=List.mem_iff_getElem.mp h;rw[V8,my,m6]at hk;have b:i+k<a.size:=by omega
 refine {i+k,by omega,by omega,b,?_};rw[bY b,←e,U0,U1];rfl
def pB{a:Array j9}{i:Nat}{y:j9}(h:y∈a.toList.drop i):∃j,i<=j/\j<a.size/\κ y=kv κ a j:=by
 have e:a.toList.drop i=(a.toList.drop i).take (a.size-i):=by rw[D2];simp
 rw[e]at h;obtain ⟨j,b,_,c,f⟩:=lV (κ:=κ) h;exact {j,b,c,f}
def HQ{a:Array j9}{i:Nat}{y:j9}(h:y∈a.toList.take i):∃j,j<i/\j<a.size/\κ y=kv κ a j:=by
 have b:y∈(a.toList.drop 0).take i:=by rw[dk];exact h
 obtain ⟨j,g,m,c,f⟩:=lV (κ:=κ) b;exact {j,by lia,c,f}
noncomputable def bO(κ:j9->Int)(a:Array j9)(i j:Nat):Prop:=∀p q,i<=p->p<=q->q<j->kv κ a p<=kv κ a q
def bO.mono{a:Array j9}{i j b c:Nat}(h:bO κ a i j)(o:i<=b)(s:c<=j):bO κ a b c:=fun p q g f m=>h p q (by lia) f (by lia)
def bO.cong{a b:Array j9}{i j:Nat}(h:bO κ a i j)(e:∀q,i<=q->q<j->kv κ b q=kv κ a q):bO κ b i j:=fun p q c g f=>by rw[e p c (by lia),e q (by lia) f];exact h p q c g f
def bO.srd{a:Array j9}{i n:Nat}(h:bO κ a i (i+n)):IS κ ((a.toList.drop i).take n):=by unfold IS;rw[V4];intro p q hp c b;rw[V8,my,m6]at hp c;have:=h (i+p) (i+q) (by lia) (by lia) (by lia);rw[bY (by lia),bY (by lia)]at this;rw[U0,U1,U0,U1];exact this
def bO.of{a:Array j9}{i n:Nat}(hn:i+n<=a.size)(h:IS κ ((a.toList.drop i).take n)):bO κ a i (i+n):=by
 unfold IS at h;rw[V4]at h;intro p q hp b m;rcases Nat.lt_or_eq_of_le b with e|e
 ·have g:((a.toList.drop i).take n).length=n:=by
   rw[V8,my,m6];lia
  have:=h (p-i) (q-i) (by lia) (by lia) (by lia);rw[U0,U1,U0,U1]at this;rw[bY (show p<a.size by lia),bY (show q<a.size by lia)];have c:i+(p-i)=p:=by lia
  have f:i+(q-i)=q:=by lia
  simp only[c,f]at this;exact this
 ·rw[e];exact L0 _
def bO.all{a:Array j9}(h:bO κ a 0 a.size):IS κ a.toList:=by have:=bO.srd (n:=a.size) (i:=0) (by rw[ji];exact h);rw[dk,D2 (by simp)]at this;exact this
def bO.ofAll{a:Array j9}(h:IS κ a.toList):bO κ a 0 a.size:=by have:=bO.of (κ:=κ) (a:=a) (i:=0) (n:=a.size) (by lia) (by rw[dk,D2 (by simp)];exact h);rw[ji]at this;exact this
def pD{a:Array j9}{i j q:Nat}(h:q<j-i)(b:j<=a.size):kv κ (a.extract i j) q=kv κ a (i+q):=by refine eN ?_;rw[J9,if_pos (by lia)]
def bO.ext{a:Array j9}{i j:Nat}(h:bO κ a i j)(b:j<=a.size):bO κ (a.extract i j) 0 (j-i):=fun p q f g c=>by rw[pD (by lia) b,pD c b];exact h _ _ (by lia) (by lia) (by lia)
end
noncomputable def ZT(prog:m9)(w:w6)(a₀:Array j9)(κ:j9->Int):Prop:=∀{A:B2}{E:f9->i6->Prop}{s:i6}{st:B3}{x y:j9}{Q:Option Bool->B3->Prop},kindOf st=mq->x∈a₀.toList->y∈a₀.toList->Q (some (decide (κ x<κ y))) st->wpS (j8 prog w) A E s (lt' x y) Q st
section
variable {prog:m9}{w:w6}{A:B2}{E:f9->i6->Prop}{s:i6}{a₀:Array j9}{κ:j9->Int}
noncomputable def iF(κ:j9->Int)(left:Bool)(key:j9)(arr:Array j9)(i:Nat):Bool:=if left=true then decide (kv κ arr i<κ key) else !decide (κ key<kv κ arr i)
def iF.le{left:Bool}{c:j9}{arr:Array j9}{b n i j:Nat}(hs:bO κ arr b (b+n))(f:i<=j)(g:j<n)(h:iF κ left c arr (b+j)=true):iF κ left c arr (b+i)=true:=by
 have:=hs (b+i) (b+j) (by lia) (by lia) (by lia);unfold iF at h⊢;cases left with
|true=>
  simp only[if_true,decide_eq_true_eq]at h ⊢;lia
|false=>simp only[J6,if_false,X5,decide_eq_false_iff_not]at h ⊢;lia
def iF.ge{left:Bool}{c:j9}{arr:Array j9}{b n i j:Nat}(hs:bO κ arr b (b+n))(f:i<=j)(g:j<n)(h:iF κ left c arr (b+i)=false):iF κ left c arr (b+j)=false:=by
 cases e:iF κ left c arr (b+j) with
|false=>rfl
|true=>rw[iF.le hs f g e]at h;cases h
def mC(Z:ZT prog w a₀ κ){st:B3}{left:Bool}{g:j9}{arr:Array j9}{b n f:Nat}{Q:Option Nat->B3->Prop}(hk:kindOf st=mq)(R:g∈a₀.toList)(P:ZJ a₀ arr)(hb:b+n<=arr.size)(hh:f<n)(hs:bO κ arr b (b+n))(h:∀k,k<=n->(∀i,i<k->iF κ left g arr (b+i)=true)->(∀i,k<=i->i<n->iF κ left g arr (b+i)=false)->Q (some k) st):wpS (j8 prog w) A E s (gal left g arr b n f) Q st:=by
 have N:∀i,i<n->∀Q:Option Bool->B3->Prop,Q (some (iF κ left g arr (b+i))) st->wpS (j8 prog w) A E s (do
   let x ←elem' arr (b+i)
   if left=true then lt' x g else do
    let l ←lt' g x
    L3 (Option.map (fun x=>!x) l)) Q st:=by
  intro i D Q q;have O:b+i<arr.size:=by lia
  refine j4 (bR O ?_);unfold iF at q;rw[bY O]at q;split
  ·rename_i e;rw[if_pos e]at q;exact Z hk (P.at O) R q
  ·rename_i e;rw[if_neg e]at q;exact j4 (Z hk R (P.at O) (k9 q))
 refine j4 (N f hh _ (pO ?_));generalize hF:(fun(_:Unit)(_:Nat)(_:Nat)=>_)=F;have T:∀p q lo D,lo<=D->D<=n->(∀i,i<lo->iF κ left g arr (b+i)=true)->(∀i,D<=i->i<n->iF κ left g arr (b+i)=false)->wpS (j8 prog w) A E s (F () p q lo D) Q st:=by
  subst hF;intro p q lo D l1 l2 b1 b2;refine j4 (O9 (E1 (I:=fun x c B=>B=st/\∃l o,c=(none,l,o)/\l<=o/\o<=n/\(∀i,i<l->iF κ left g arr (b+i)=true)/\(∀i,o<=i->i<n->iF κ left g arr (b+i)=false)/\o+x<=n+l) (Q:=fun c B=>B=st/\∃l o,c=(none,l,o)/\l=o/\o<=n/\(∀i,i<l->iF κ left g arr (b+i)=true)/\(∀i,o<=i->i<n->iF κ left g arr (b+i)=false)) ?_ ?_ {rfl,_,_,rfl,l1,l2,b1,b2,by lia}) ?_)
  ·rintro x c B _ _ ⟨rfl,l,o,rfl,Y,S,U,W,v5⟩;dsimp only;split
   ·exact k9 {rfl,l,o,rfl,by lia,S,U,W}
   ·refine j4 (N _ (by lia) _ ?_);dsimp only;cases e:iF κ left g arr (b+(l+(o-l)/2)) with
   |true=>exact k9 {rfl,_,_,rfl,by lia,S,fun i D=>iF.le hs (show i<=l+(o-l)/2 by lia) (by lia) e,W,by lia}
   |false=>exact k9 {rfl,_,_,rfl,by lia,by lia,U,fun i D K=>iF.ge hs D K e,by lia}
  ·rintro c B ⟨rfl,l,o,rfl,Y,S,U,W,v5⟩;exact {rfl,l,o,rfl,by lia,S,U,W}
  ·rintro c B ⟨rfl,l,o,rfl,Y,S,U,W⟩;exact k9 (h _ S (by rw[←Y];exact U) W)
 clear hF;refine cI (fun right=>?_) fun right=>?_
 ·refine j4 (O9 (E1 (I:=fun x c m=>m=st/\∃l o,c=(none,l,o)/\l<o/\f+l<n/\iF κ left g arr (b+(f+l))=true/\x+1<=o) (Q:=fun c m=>m=st/\∃l o,c=(none,l,o)/\l<o/\f+l<n/\iF κ left g arr (b+(f+l))=true/\(n-f<=o∨(f+o<n/\iF κ left g arr (b+(f+o))=false))) ?_ ?_ {rfl,0,1,rfl,by lia,by lia,right,by lia}) ?_)
  ·rintro x c m _ _ ⟨rfl,l,o,rfl,H,G,C,J⟩;dsimp only;split
   ·exact k9 {rfl,l,o,rfl,H,G,C,.inl (by assumption)}
   ·refine j4 (N _ (by lia) _ ?_);dsimp only;cases e:iF κ left g arr (b+(f+o)) with
   |true=>exact k9 {rfl,_,_,rfl,by lia,by lia,e,by lia}
   |false=>exact k9 {rfl,_,_,rfl,H,G,C,.inr {by lia,e}}
  ·rintro c m ⟨rfl,l,o,rfl,H,G,C,J⟩;exact {rfl,l,o,rfl,H,G,C,.inl (by lia)}
  ·rintro c m ⟨rfl,l,o,rfl,H,G,C,J⟩;refine T _ _ _ _ (by o_law) (by o_law) (fun i D=>iF.le hs (by o_law) G C) fun i D K=>?_;rcases J with J|⟨J,X⟩
   ·(try dsimp only at *);lia
   ·exact iF.ge hs (show f+o<=i by o_law) K X
 ·replace right:=Bool.eq_false_iff.mpr right;refine j4 (O9 (E1 (I:=fun x c m=>m=st/\∃l o,c=(none,l,o)/\l<o/\l<=f/\iF κ left g arr (b+(f-l))=false/\x+1<=o) (Q:=fun c m=>m=st/\∃l o,c=(none,l,o)/\l<o/\l<=f/\iF κ left g arr (b+(f-l))=false/\(f+1<=o∨(o<=f/\iF κ left g arr (b+(f-o))=true))) ?_ ?_ {rfl,0,1,rfl,by lia,by lia,right,by lia}) ?_)
  ·rintro x c m _ _ ⟨rfl,l,o,rfl,H,G,C,J⟩;dsimp only;split
   ·exact k9 {rfl,l,o,rfl,H,G,C,.inl (by assumption)}
   ·refine j4 (N _ (by lia) _ ?_);dsimp only;cases e:iF κ left g arr (b+(f-o)) with
   |true=>exact k9 {rfl,_,_,rfl,H,G,C,.inr {by lia,e}}
   |false=>exact k9 {rfl,_,_,rfl,by lia,by lia,e,by lia}
  ·rintro c m ⟨rfl,l,o,rfl,H,G,C,J⟩;exact {rfl,l,o,rfl,H,G,C,.inl (by lia)}
  ·rintro c m ⟨rfl,l,o,rfl,H,G,C,J⟩;refine T _ _ _ _ (by o_law) (by o_law) (fun i D=>?_) fun i D K=>iF.ge hs (by o_law) K C;rcases J with J|⟨J,X⟩
   ·(try dsimp only at *);lia
   ·exact iF.le hs (show i<=f-o by o_law) (by lia) X
structure rP(κ:j9->Int)(a b:Array j9)(o:List j9)(ia ib:Nat):Prop where
 sb:jE κ o (a.toList.take ia++b.toList.take ib)
 so:IS κ o
 oa:∀x∈o,∀j,ia<=j->j<a.size->κ x<=kv κ a j
 ob:∀x∈o,∀j,ib<=j->j<b.size->κ x<=kv κ b j
 ba:∀i,i<ib->i<b.size->∀j,ia<=j->j<a.size->kv κ b i<kv κ a j
def rP.xa{a b:Array j9}{o:List j9}{g D:Nat}(h:rP κ a b o g D)(J:bO κ a 0 a.size){k:Nat}(hk:g+k<=a.size)(N:∀i,g<=i->i<g+k->∀j,D<=j->j<b.size->kv κ a i<=kv κ b j):rP κ a b (o++(a.toList.drop g).take k) (g+k) D:=by
 refine {?_,?_,fun x c j m f=>?_,fun x c j m f=>?_,fun i m f j R K=>h.ba i m f j (by lia) K}
 ·rw[take_add];refine (h.sb.app (jE.refl _)).trans ?_;rw[D6,D6];refine (jE.refl _).app (jE.comm fun x c y C=>?_);obtain ⟨i,q,B,Q⟩:=HQ (κ:=κ) c;obtain ⟨j,G,P,H,I⟩:=lV (κ:=κ) C;have:=h.ba i q B j G H;lia
 ·refine U4.mpr {h.so,(J.mono (w4 _) hk).srd,fun x c y C=>?_};obtain ⟨j,G,P,H,I⟩:=lV (κ:=κ) C;rw[I];exact h.oa x c j G H
 ·rcases u9.mp c with c|c
  ·exact h.oa x c j (by lia) f
  ·obtain ⟨i,q,B,O,e⟩:=lV (κ:=κ) c;rw[e];exact J i j (w4 _) (by lia) f
 ·rcases u9.mp c with c|c
  ·exact h.ob x c j m f
  ·obtain ⟨i,q,B,O,e⟩:=lV (κ:=κ) c;rw[e];exact N i q B j m f
def rP.xb{a b:Array j9}{o:List j9}{B m:Nat}(h:rP κ a b o B m)(J:bO κ b 0 b.size){k:Nat}(hk:m+k<=b.size)(G:∀i,m<=i->i<m+k->∀j,B<=j->j<a.size->kv κ b i<kv κ a j):rP κ a b (o++(b.toList.drop m).take k) B (m+k):=by
 refine {?_,?_,fun x f j q g=>?_,fun x f j q g=>?_,fun i q g j C D=>?_}
 ·rw[take_add,←D6];exact h.sb.app (jE.refl _)
 ·refine U4.mpr {h.so,(J.mono (w4 _) hk).srd,fun x f y N=>?_};obtain ⟨j,P,R,Q,K⟩:=lV (κ:=κ) N;rw[K];exact h.ob x f j P Q
 ·rcases u9.mp f with f|f
  ·exact h.oa x f j q g
  ·obtain ⟨i,H,I,O,e⟩:=lV (κ:=κ) f;rw[e];exact R8 (G i H I j q g)
 ·rcases u9.mp f with f|f
  ·exact h.ob x f j (by lia) g
  ·obtain ⟨i,H,I,O,e⟩:=lV (κ:=κ) f;rw[e];exact J i j (w4 _) (by lia) g
 ·rcases F8 i m with c|c
  ·exact h.ba i c g j C D
  ·exact G i c q j C D
def iL{a:Array j9}{i:Nat}(b:i<a.size):(a.toList.drop i).take 1=[a[i]]:=by rw[yS b];rfl
def rP.pa{a b out:Array j9}{c f:Nat}(h:rP κ a b out.toList c f)(B:bO κ a 0 a.size)(C:bO κ b 0 b.size)(m:c<a.size)(g:f<b.size->kv κ a c<=kv κ b f):rP κ a b (out.push a[c]).toList (c+1) f:=by
 have:=h.xa B (k:=1) (by lia) fun i D G j o q=>by
  have:i=c:=by lia
  subst this;exact O7 (g (by lia)) (C f j (w4 _) o q)
 rw[iL m]at this;rw[L6];exact this
def rP.pb{a b out:Array j9}{f c:Nat}(h:rP κ a b out.toList f c)(B:bO κ a 0 a.size)(C:bO κ b 0 b.size)(m:c<b.size)(g:f<a.size->kv κ b c<kv κ a f):rP κ a b (out.push b[c]).toList f (c+1):=by
 have:=h.xb C (k:=1) (by lia) fun i D G j o q=>by
  have:i=c:=by lia
  subst this;exact nr (g (by lia)) (B f j (w4 _) o q)
 rw[iL m]at this;rw[L6];exact this
def rP.ga{a b out:Array j9}{c f:Nat}(h:rP κ a b out.toList c f)(B:bO κ a 0 a.size)(C:bO κ b 0 b.size){k:Nat}(hk:c+k<=a.size)(m:f<b.size)(g:∀i,i<k->iF κ false b[f] a (c+i)=true):rP κ a b (out++a.extract c (c+k)).toList (c+k) f:=by rw[B0,jZ];refine h.xa B hk fun i D G j o q=>?_;have:=g (i-c) (by lia);rw[show c+(i-c)=i by lia]at this;unfold iF at this;simp only[J6,if_false,X5,decide_eq_false_iff_not]at this;rw[←bY (κ:=κ) m]at this;have:=C f j (w4 _) o q;lia
def rP.gb{a b out:Array j9}{f c:Nat}(h:rP κ a b out.toList f c)(B:bO κ a 0 a.size)(C:bO κ b 0 b.size){k:Nat}(hk:c+k<=b.size)(m:f<a.size)(g:∀i,i<k->iF κ true a[f] b (c+i)=true):rP κ a b (out++b.extract c (c+k)).toList f (c+k):=by rw[B0,jZ];refine h.xb C hk fun i D G j o q=>?_;have:=g (i-c) (by lia);rw[show c+(i-c)=i by lia]at this;unfold iF at this;simp only[if_true,decide_eq_true_eq]at this;rw[←bY (κ:=κ) m]at this;have:=B f j (w4 _) o q;lia
noncomputable def IU(κ:j9->Int)(a b r:Array j9):Prop:=jE κ r.toList (a.toList++b.toList)/\IS κ r.toList
def rP.end{a b:Array j9}{o:List j9}{c f:Nat}(h:rP κ a b o c f)(g:a.size<=c)(i:b.size<=f):jE κ o (a.toList++b.toList)/\IS κ o:=by have e:=h.sb;rw[D2 (by simpa using g),D2 (by simpa using i)]at e;exact {e,h.so}
def rP.doneA{a b out:Array j9}{c f:Nat}(h:rP κ a b out.toList c f)(g:bO κ a 0 a.size)(o:c<=a.size)(m:f=b.size):IU κ a b (out++a.extract c a.size++b.extract f b.size):=by
 have:=h.xa g (k:=a.size-c) (by lia) fun i q B j C D=>by lia
 have e:=this.end (by lia) (by lia);unfold IU;rw[B0,B0,dX,dX,Z6 (l:=b.toList) (by simp;lia),K4];rw[D2 (by simp)]at e;exact e
def rP.doneB{a b out:Array j9}{f c:Nat}(h:rP κ a b out.toList f c)(g:bO κ b 0 b.size)(o:c<=b.size)(m:f=a.size):IU κ a b (out++a.extract f a.size++b.extract c b.size):=by
 have:=h.xb g (k:=b.size-c) (by lia) fun i q B j C D=>by lia
 have e:=this.end (by lia) (by lia);unfold IU;rw[B0,B0,dX,dX,Z6 (l:=a.toList) (by simp;lia),K4];rw[D2 (by simp)]at e;exact e
def rP.last{a b out:Array j9}{c f:Nat}(h:rP κ a b out.toList c f)(G:bO κ a 0 a.size)(H:bO κ b 0 b.size)(J:f<=b.size)(I:c+1=a.size)(o:∀j,j<b.size->kv κ b j<kv κ a (a.size-1)):IU κ a b (out++b.extract f b.size++a.extract c a.size):=by
 have g:=h.xb H (k:=b.size-f) (by lia) fun i q B j C D=>by
  have:j=a.size-1:=by lia
  rw[this];exact o i (by lia)
 have m:=g.xa G (k:=a.size-c) (by lia) fun i q B j C D=>by lia
 have e:=m.end (by lia) (by lia);unfold IU;rw[B0,B0,dX,dX];rw[D2 (l:=b.toList.drop f) (by simp),D2 (l:=a.toList.drop c) (by simp)]at e;exact e
def YX{left:Bool}{b:j9}{arr:Array j9}{i:Nat}(h:iF κ false b arr i=false):κ b<kv κ arr i:=by unfold iF at h;simpa using h
def YW{b:j9}{arr:Array j9}{i:Nat}(h:iF κ true b arr i=false):κ b<=kv κ arr i:=by unfold iF at h;simpa using h
inductive Hf {β:Type} (κ:j9->Int) (a b:Array j9) (st:B3) (n:Nat):Option (Array j9)×Array j9×Nat×Nat×β->B3->Prop
|mk {out:Array j9} {i j x st'} (g:SG st st') (m:rP κ a b out.toList i j) (p:i+1<a.size) (q:j<b.size) (r:n<=i+j):Hf κ a b st n (none,out,i,j,x) st'
inductive Tf {β:Type} (κ:j9->Int) (a b:Array j9) (st:B3) (n:Nat):Option (Array j9)×Array j9×Nat×Nat×β->B3->Prop
|r {r x st'} (g:SG st st') (h:IU κ a b r):Tf κ a b st n (some r,x) st'
|n {m c st'} (z:Hf κ a b st m c st') (h:n<=m):Tf κ a b st n c st'
def SU(R:ZT prog w a₀ κ){st:B3}{a b:Array j9}{Q:Array j9->B3->Prop}(hk:kindOf st=mq)(U:ZJ a₀ a)(W:ZJ a₀ b)(h1:0<a.size)(S:0<b.size)(B:bO κ a 0 a.size)(C:bO κ b 0 b.size)(hf:kv κ b 0<kv κ a 0)(hl:kv κ b (b.size-1)<kv κ a (a.size-1))(h:∀r f,SG st f->IU κ a b r->Q r f):wpS (j8 prog w) A E s (mgL a b) Q st:=by
 have G:∀j,j<b.size->kv κ b j<kv κ a (a.size-1):=fun j hj=>nu (C j (b.size-1) (w4 _) (by lia) (by lia)) hl;have Y:rP κ a b (#[b[0]]:Array j9).toList 0 1:=by
  have z:rP κ a b (#[]:Array j9).toList 0 0:={jE.refl _,Z9,(fun _ z=>nomatch z),(fun _ z=>nomatch z),fun i Z=>absurd Z (R9 _)}
  exact z.pb B C S fun _=>hf
 refine j4 (mj (L9 {rfl,j4 (bR S (dC (fun e=>k9 (h _ _ (SG.refl _) (Y.doneA B (w4 _) e))) fun n1=>dC (fun e=>k9 (h _ _ (SG.refl _) (Y.last B C S e G))) fun n2=>j4 (W9 (j4 (O9 (E1 (I:=fun j=>Hf κ a b st (j+1)) (Q:=Tf κ a b st (a.size+b.size+1)) ?_ (fun c f z=>.n z (by lia)) {SG.refl _,Y,by lia,by lia,by lia}) ?_)))))}))
 rotate_left
 ·rintro c f (⟨g,K⟩|⟨⟨g,m,p,q,r⟩,z⟩)
  ·exact k9 (h _ _ g K)
  ·lia
 rintro j c a' _ hj ⟨g,m,p,q,r⟩;refine j4 (O9 (E1 (I:=fun i=>Hf κ a b st (j+1+i)) (Q:=Tf κ a b st (j+2)) ?_ (fun c f z=>.n z (by lia)) {g,m,p,q,r}) ?_)
 ·rintro i c f _ Z ⟨g,m,p,q,r⟩;have o:=W6 p;refine j4 (bR q (j4 (bR o (j4 (R (g.kind.trans hk) (W.at q) (U.at o) (cI (fun c=>?_) fun c=>?_))))))
  ·have P:=m.pb B C q fun _=>by rw[bY q,bY o];exact of_decide_eq_true c
   refine j4 (bR q (dC (fun e=>k9 (.r g (P.doneA B (M5 o) e))) fun _=>?_));have z:∀x:Nat×Nat,Hf κ a b st (j+1+(i+1)) (none,_,_,_,x) _:=fun _=>{g,P,p,by o_law,by lia}
   exact cI (fun _=>k9 (.n (z _) (by lia))) fun _=>k9 (z _)
  ·have P:=m.pa B C o fun _=>iy.mp fun t=>c (decide_eq_true (by rw[bY q,bY o]at t;exact t));refine j4 (bR o (dC (fun e=>k9 (.r g (P.last B C (M5 q) e G))) fun _=>?_));have z:∀x:Nat×Nat,Hf κ a b st (j+1+(i+1)) (none,_,_,_,x) _:=fun _=>{g,P,by o_law,q,by lia}
   exact cI (fun _=>k9 (.n (z _) (by lia))) fun _=>k9 (z _)
 rintro c f (⟨g,K⟩|⟨⟨g,m,p,q,r⟩,z⟩)
 ·exact k9 (.r g K)
 refine j4 (mj (L9 {rfl,j4 (O9 (E1 (I:=fun _=>Hf κ a b st (j+2)) (Q:=Tf κ a b st (j+2)) ?_ (fun c f z=>.n z (k7 _)) {g,m,p,q,B9 z r}) ?_)}))
 rotate_left
 ·rintro c f (⟨g,K⟩|⟨⟨g,m,p,q,r⟩,z⟩)
  ·exact k9 (.r g K)
  ·exact j4 (P9 (k9 {g.gal _,m,p,q,B9 z r}))
 rintro i c b' _ _ ⟨g,m,p,q,r⟩;refine pO ?_;generalize J:(fun(_:Unit)(_:Nat)=>_)=F;refine LI ?_;subst J;intro mg;refine j4 (P9 (j4 (bR q (j4 (mC R (g.kind.trans hk) (W.at q) U (by o_law) (by o_law) (B.mono (w4 _) (by o_law)) fun k X O N=>pO ?_)))));have mk:=m.ga B C (k:=k) (by o_law) q O;have H:=fun l=>YX (left:=true) (N k (k7 _) l);rw[←bY (κ:=κ) q]at H;generalize J:(fun(_:Unit)(_:Array j9)(_:Nat)=>_)=F;refine CD F (fun D i=>rP κ a b D.toList i _/\i+1<a.size/\j+2<=i+_/\kv κ b _<kv κ a i) (fun T=>cI (fun _=>dC (fun e=>k9 (.r (g.gal _) (mk.last B C (M5 q) e G))) fun _=>dC (fun e=>k9 (.r (g.gal _) (mk.doneB C (M5 q) e))) fun _=>T _ _ {mk,by o_law,by o_law,H (by o_law)}) fun z=>T _ _ {m,p,r,by have:=H (by o_law);rw[X8 z,add_zero]at this;exact this}) ?_;subst J;clear m p r mk H N O;rintro D i ⟨m,p,r,y⟩;have o:=W6 p;have m:=m.pb B C q fun _=>y;refine j4 (bR q (dC (fun e=>k9 (.r (g.gal _) (m.doneA B (M5 o) e))) fun _=>j4 (bR o (j4 (mC R (g.kind.trans hk) (U.at o) W (by o_law) (by o_law) (C.mono (w4 _) (by o_law)) fun k X O N=>pO ?_)))));have mk:=m.gb B C (k:=k) (by o_law) o O;have H:=fun l=>YW (N k (k7 _) l);rw[←bY (κ:=κ) o]at H;generalize J:(fun(_:Unit)(_:Array j9)(_:Nat)=>_)=F;refine CD F (fun D l=>rP κ a b D.toList i l/\l<b.size/\j+2<=i+l/\kv κ a i<=kv κ b l) (fun T=>cI (fun _=>dC (fun e=>k9 (.r (g.gal _) (mk.doneA B (M5 o) e))) fun _=>T _ _ {mk,by o_law,by o_law,H (by o_law)}) fun z=>T _ _ {m,by o_law,by o_law,by have:=H (by o_law);rw[X8 z,add_zero]at this;exact this}) ?_;subst J;clear m q r mk H N O;rintro D l ⟨m,q,r,y⟩;have m:=m.pa B C o fun _=>y;refine j4 (bR o (dC (fun e=>k9 (.r (g.gal _) (m.last B C (M5 q) e G))) fun _=>?_));have z:∀x:Nat×Nat×Nat,Hf κ a b st (j+2) (none,_,_,_,x) _:=fun _=>{g.gal mg,m,by o_law,q,by o_law}
 exact cI (fun _=>k9 (.n (z _) (k7 _))) fun _=>k9 (z _)
structure rQ(κ:j9->Int)(a b:Array j9)(o:List j9)(na nb:Nat):Prop where
 sb:jE κ o.reverse (a.toList.drop na++b.toList.drop nb)
 so:IS κ o.reverse
 oa:∀x∈o,∀j,j<na->j<a.size->kv κ a j<=κ x
 ob:∀x∈o,∀j,j<nb->j<b.size->kv κ b j<=κ x
 ba:∀i,na<=i->i<a.size->∀j,j<nb->j<b.size->kv κ b j<kv κ a i
def jT(a:Array j9)(i n:Nat):(a.extract i n).toList=(a.toList.drop i).take (n-i):=by rw[U6]
def hV{a:Array j9}{i n:Nat}{y:j9}(h:y∈(a.extract i n).toList):∃j,i<=j/\j<n/\j<a.size/\κ y=kv κ a j:=by rw[jT]at h;obtain ⟨j,b,g,c,f⟩:=lV (κ:=κ) h;exact {j,b,by lia,c,f}
def LN{a:Array j9}{i n:Nat}(h:bO κ a i n):IS κ (a.extract i n).toList:=by rw[jT];exact bO.srd fun p q b c f=>h p q b c (by omega)
def rQ.xa{a b:Array j9}{o:List j9}{g B:Nat}(h:rQ κ a b o g B)(N:bO κ a 0 a.size){k:Nat}(hk:k<=g)(hn:g<=a.size)(H:∀i,k<=i->i<g->∀j,j<B->j<b.size->kv κ b j<kv κ a i):rQ κ a b (o++(a.extract k g).toList.reverse) k B:=by
 have C:(o++(a.extract k g).toList.reverse).reverse=(a.extract k g).toList++o.reverse:=by rw[V7,Q9]
 refine {?_,?_,fun x f j q m=>?_,fun x f j q m=>?_,fun i q m j D G=>?_}
 ·rw[C,kO a hk,D6];exact (jE.refl _).app h.sb
 ·rw[C];refine U4.mpr {LN (N.mono (w4 _) hn),h.so,fun x f y O=>?_};obtain ⟨j,R,P,Q,e⟩:=hV (κ:=κ) f;rw[e];exact h.oa y (S3.mp O) j P Q
 ·rcases u9.mp f with f|f
  ·exact h.oa x f j (by lia) m
  ·obtain ⟨i,I,J,K,e⟩:=hV (κ:=κ) (S3.mp f);rw[e];exact N j i (w4 _) (by lia) K
 ·rcases u9.mp f with f|f
  ·exact h.ob x f j q m
  ·obtain ⟨i,I,J,K,e⟩:=hV (κ:=κ) (S3.mp f);rw[e];exact R8 (H i I J j q m)
 ·rcases F8 i g with c|c
  ·exact H i q c j D G
  ·exact h.ba i c m j D G
def rQ.xb{a b:Array j9}{o:List j9}{H f:Nat}(h:rQ κ a b o H f)(K:bO κ b 0 b.size){k:Nat}(hk:k<=f)(hn:f<=b.size)(O:∀i,k<=i->i<f->∀j,j<H->j<a.size->kv κ a j<=kv κ b i):rQ κ a b (o++(b.extract k f).toList.reverse) H k:=by
 have I:(o++(b.extract k f).toList.reverse).reverse=(b.extract k f).toList++o.reverse:=by rw[V7,Q9]
 refine {?_,?_,fun x c j m g=>?_,fun x c j m g=>?_,fun i m g j S N=>h.ba i m g j (by lia) N}
 ·rw[I,kO b hk];refine ((jE.refl _).app h.sb).trans ?_;rw[←D6,←D6];refine jE.app (jE.comm fun x c y C=>?_) (jE.refl _);obtain ⟨i,D,q,B,Q⟩:=hV (κ:=κ) c;obtain ⟨j,J,G,R⟩:=pB (κ:=κ) C;have:=h.ba j J G i q B;lia
 ·rw[I];refine U4.mpr {LN (K.mono (w4 _) hn),h.so,fun x c y C=>?_};obtain ⟨j,J,G,P,e⟩:=hV (κ:=κ) c;rw[e];exact h.ob y (S3.mp C) j G P
 ·rcases u9.mp c with c|c
  ·exact h.oa x c j m g
  ·obtain ⟨i,D,q,B,e⟩:=hV (κ:=κ) (S3.mp c);rw[e];exact O i D q j m g
 ·rcases u9.mp c with c|c
  ·exact h.ob x c j (by lia) g
  ·obtain ⟨i,D,q,B,e⟩:=hV (κ:=κ) (S3.mp c);rw[e];exact K j i (w4 _) (by lia) B
def ON{a:Array j9}{i:Nat}(c:0<i)(b:i-1<a.size):(a.extract (i-1) i).toList.reverse=[a[i-1]]:=by rw[jT,show i-(i-1)=1 by omega,iL b];rfl
def rQ.pa{a b out:Array j9}{c f:Nat}(h:rQ κ a b out.toList c f)(B:bO κ a 0 a.size)(C:bO κ b 0 b.size)(m:0<c)(q:c-1<a.size)(o:0<f->f<=b.size->kv κ b (f-1)<kv κ a (c-1))(g:f<=b.size):rQ κ a b (out.push a[c-1]).toList (c-1) f:=by
 have:=h.xa B (k:=c-1) (by lia) (by lia) fun i D G j H I=>by
  have:i=c-1:=by lia
  subst this;exact nu (C j (f-1) (w4 _) (by lia) (by lia)) (o (by lia) g)
 rw[ON m q]at this;rw[L6];exact this
def rQ.pb{a b out:Array j9}{f c:Nat}(h:rQ κ a b out.toList f c)(B:bO κ a 0 a.size)(C:bO κ b 0 b.size)(m:0<c)(q:c-1<b.size)(o:0<f->f<=a.size->kv κ a (f-1)<=kv κ b (c-1))(g:f<=a.size):rQ κ a b (out.push b[c-1]).toList f (c-1):=by
 have:=h.xb C (k:=c-1) (by lia) (by lia) fun i D G j H I=>by
  have:i=c-1:=by lia
  subst this;exact O7 (B j (f-1) (w4 _) (by lia) (by lia)) (o (by lia) g)
 rw[ON m q]at this;rw[L6];exact this
def rQ.ga{a b out:Array j9}{f c:Nat}(h:rQ κ a b out.toList f c)(B:bO κ a 0 a.size)(C:bO κ b 0 b.size){k:Nat}(hk:k<=f)(hn:f<=a.size)(D:0<c)(g:c-1<b.size)(m:∀i,k<=i->i<f->iF κ false b[c-1] a (0+i)=false):rQ κ a b (out++(a.extract k f).reverse).toList k c:=by rw[B0,U5];refine h.xa B hk hn fun i o q j G H=>?_;have:=YX (left:=true) (m i o q);rw[ji,←bY (κ:=κ) g]at this;exact nu (C j (c-1) (w4 _) (by lia) g) this
def rQ.gb{a b out:Array j9}{c f:Nat}(h:rQ κ a b out.toList c f)(B:bO κ a 0 a.size)(C:bO κ b 0 b.size){k:Nat}(hk:k<=f)(hn:f<=b.size)(D:0<c)(g:c-1<a.size)(m:∀i,k<=i->i<f->iF κ true a[c-1] b (0+i)=false):rQ κ a b (out++(b.extract k f).reverse).toList c k:=by rw[B0,U5];refine h.xb C hk hn fun i o q j G H=>?_;have:=YW (m i o q);rw[ji,←bY (κ:=κ) g]at this;exact O7 (B j (c-1) (w4 _) (by lia) g) this
def rQ.end{a b:Array j9}{o:List j9}(h:rQ κ a b o 0 0):jE κ o.reverse (a.toList++b.toList)/\IS κ o.reverse:=by have e:=h.sb;rw[dk,dk]at e;exact {e,h.so}
def rQ.doneA{a b out:Array j9}{c f:Nat}(h:rQ κ a b out.toList c f)(m:bO κ a 0 a.size)(hn:c<=a.size)(g:f=0):IU κ a b (a.extract 0 c++b.extract 0 f++out.reverse):=by subst g;have e:=(h.xa m (k:=0) (w4 _) hn fun i o q j B C=>by lia).end;unfold IU;rw[B0,B0,U5,show (b.extract 0 0).toList=[] by simp,K4];rw[V7,Q9]at e;exact e
def rQ.doneB{a b out:Array j9}{c f:Nat}(h:rQ κ a b out.toList c f)(m:bO κ b 0 b.size)(hn:f<=b.size)(g:c=0):IU κ a b (a.extract 0 c++b.extract 0 f++out.reverse):=by subst g;have e:=(h.xb m (k:=0) (w4 _) hn fun i o q j B C=>by omega).end;unfold IU;rw[B0,B0,U5,show (a.extract 0 0).toList=[] by simp,O1];rw[V7,Q9]at e;exact e
def rQ.first{a b out:Array j9}{c f:Nat}(h:rQ κ a b out.toList c f)(G:bO κ a 0 a.size)(H:bO κ b 0 b.size)(hn:c<=a.size)(m:f=1)(I:0<b.size)(o:∀j,j<a.size->kv κ b 0<kv κ a j):IU κ a b (b.extract 0 f++a.extract 0 c++out.reverse):=by
 subst m;have g:=h.xa G (k:=0) (w4 _) hn fun i q B j C D=>by
  have:j=0:=by lia
  subst this;exact o i (by lia)
 have e:=(g.xb H (k:=0) (w4 _) (by lia) fun i q B j C D=>by lia).end;unfold IU;rw[B0,B0,U5];rw[V7,V7,Q9,Q9,←D6]at e;exact e
inductive Hg {β:Type} (κ:j9->Int) (a b:Array j9) (st:B3) (n:Nat):Option (Array j9)×Nat×Nat×Array j9×β->B3->Prop
|mk {out:Array j9} {i j x st'} (g:SG st st') (m:rQ κ a b out.toList i j) (o:0<i) (p:i<=a.size) (t:1<j) (q:j<=b.size) (r:i+j+n<=a.size+b.size):Hg κ a b st n (none,i,j,out,x) st'
inductive Tg {β:Type} (κ:j9->Int) (a b:Array j9) (st:B3) (n:Nat):Option (Array j9)×Nat×Nat×Array j9×β->B3->Prop
|r {r x st'} (g:SG st st') (h:IU κ a b r):Tg κ a b st n (some r,x) st'
|n {m c st'} (z:Hg κ a b st m c st') (h:n<=m):Tg κ a b st n c st'
def SV(X:ZT prog w a₀ κ){st:B3}{a b:Array j9}{Q:Array j9->B3->Prop}(hk:kindOf st=mq)(Y:ZJ a₀ a)(Z:ZJ a₀ b)(h1:0<a.size)(W:0<b.size)(D:bO κ a 0 a.size)(B:bO κ b 0 b.size)(hf:kv κ b 0<kv κ a 0)(hl:kv κ b (b.size-1)<kv κ a (a.size-1))(h:∀r f,SG st f->IU κ a b r->Q r f):wpS (j8 prog w) A E s (mgH a b) Q st:=by
 have N:∀j,j<a.size->kv κ b 0<kv κ a j:=fun j hj=>nr hf (D 0 j (w4 _) (w4 _) hj);have w0:=sub_lt h1 yu;have m0:rQ κ a b (#[a[a.size-1]]:Array j9).toList (a.size-1) b.size:=by
  have z:rQ κ a b (#[]:Array j9).toList a.size b.size:={by rw[Z6 (by simp),Z6 (by simp)];exact jE.refl _,Z9,(fun _ z=>nomatch z),(fun _ z=>nomatch z),fun i hi a'=>by lia}
  exact z.pa D B h1 w0 (fun _ _=>hl) (k7 _)
 refine j4 (mj (L9 {rfl,j4 (bR w0 (dC (fun e=>k9 (h _ _ (SG.refl _) (m0.doneB B (k7 _) e))) fun n1=>dC (fun e=>k9 (h _ _ (SG.refl _) (m0.first D B (Nat.sub_le _ _) e W N))) fun n2=>j4 (W9 (j4 (O9 (E1 (I:=fun j=>Hg κ a b st (j+1)) (Q:=Tg κ a b st (a.size+b.size+1)) ?_ (fun c f z=>.n z (by lia)) {SG.refl _,m0,by lia,by lia,by lia,by lia,by lia}) ?_)))))}))
 rotate_left
 ·rintro c f (⟨g,P⟩|⟨⟨g,m,o,p,t,q,r⟩,z⟩)
  ·exact k9 (h _ _ g P)
  ·lia
 rintro j c b' _ hj ⟨g,m,o,p,t,q,r⟩;refine j4 (O9 (E1 (I:=fun i=>Hg κ a b st (j+1+i)) (Q:=Tg κ a b st (j+2)) ?_ (fun c f z=>.n z (by lia)) {g,m,o,p,t,q,r}) ?_)
 ·rintro i c f _ hi ⟨g,m,o,p,t,q,r⟩;have H:=j3 (sub_lt o yu) p;have C:=j3 (sub_lt (W6 t) yu) q;refine j4 (bR C (j4 (bR H (j4 (X (g.kind.trans hk) (Z.at C) (Y.at H) (cI (fun c=>?_) fun c=>?_))))))
  ·have U:=m.pa D B o H (fun _ _=>by rw[bY C,bY H];exact of_decide_eq_true c) q;refine j4 (bR H (dC (fun e=>k9 (.r g (U.doneB B q e))) fun _=>?_));have z:∀x:Nat×Nat,Hg κ a b st (j+1+(i+1)) (none,_,_,_,x) _:=fun _=>{g,U,by o_law,by o_law,t,q,by o_law}
   exact cI (fun _=>k9 (.n (z _) (by lia))) fun _=>k9 (z _)
  ·have U:=m.pb D B (W6 t) C (fun _ _=>iy.mp fun t=>c (decide_eq_true (by rw[bY C,bY H]at t;exact t))) p;refine j4 (bR C (dC (fun e=>k9 (.r g (U.first D B p e W N))) fun _=>?_));have z:∀x:Nat×Nat,Hg κ a b st (j+1+(i+1)) (none,_,_,_,x) _:=fun _=>{g,U,o,p,by o_law,by o_law,by o_law}
   exact cI (fun _=>k9 (.n (z _) (by lia))) fun _=>k9 (z _)
 rintro c f (⟨g,P⟩|⟨⟨g,m,o,p,t,q,r⟩,z⟩)
 ·exact k9 (.r g P)
 refine j4 (mj (L9 {rfl,j4 (O9 (E1 (I:=fun _=>Hg κ a b st (j+2)) (Q:=Tg κ a b st (j+2)) ?_ (fun c f z=>.n z (k7 _)) {g,m,o,p,t,q,by o_law}) ?_)}))
 rotate_left
 ·rintro c f (⟨g,P⟩|⟨⟨g,m,o,p,t,q,r⟩,z⟩)
  ·exact k9 (.r g P)
  ·exact j4 (P9 (k9 {g.gal _,m,o,p,t,q,by o_law}))
 rintro i c c' _ _ ⟨g,m,o,p,t,q,r⟩;refine pO ?_;generalize O:(fun(_:Unit)(_:Nat)=>_)=F;refine LI ?_;subst O;intro mg;have C:=j3 (sub_lt (W6 t) yu) q;refine j4 (P9 (j4 (bR C (j4 (mC X (g.kind.trans hk) (Z.at C) Y (by o_law) (by o_law) (D.mono (w4 _) (by o_law)) fun k J S R=>pO ?_)))));have mk:=m.ga D B J p (W6 t) C R;have G:=fun l=>S (k-1) l;unfold iF at G;simp only[J6,if_false,X5,decide_eq_false_iff_not,iy]at G;rw[←bY (κ:=κ) C,ji]at G;generalize O:(fun(_:Unit)(_:Nat)(_:Array j9)=>_)=F;refine CD F (fun i K=>rQ κ a b K.toList i _/\0<i/\i<=a.size/\i+_+(j+2)<=a.size+b.size/\kv κ a (i-1)<=kv κ b (_-1)) (fun T=>cI (fun _=>dC (fun e=>k9 (.r (g.gal _) (mk.doneB B q e))) fun _=>T _ _ {mk,by o_law,by o_law,by o_law,G (by o_law)}) fun z=>T _ _ {m,o,p,r,by have:=G (by o_law);rw[fb J (wz.mp (X8 z))]at this;exact this}) ?_;subst O;clear m o p r mk G R S;rintro i K ⟨m,o,p,r,y⟩;have m:=m.pb D B (W6 t) C (fun _ _=>y) p;have H:=j3 (sub_lt o yu) p;refine j4 (bR C (dC (fun e=>k9 (.r (g.gal _) (m.first D B p e W N))) fun _=>j4 (bR H (j4 (mC X (g.kind.trans hk) (Y.at H) Z (by o_law) (by o_law) (B.mono (w4 _) (by o_law)) fun k J S R=>pO ?_)))));have mk:=m.gb D B J (M5 C) o H R;have G:=fun l=>S (k-1) l;unfold iF at G;simp only[if_true,decide_eq_true_eq]at G;rw[←bY (κ:=κ) H,ji]at G;generalize O:(fun(_:Unit)(_:Nat)(_:Array j9)=>_)=F;refine CD F (fun l K=>rQ κ a b K.toList i l/\1<l/\l<=b.size/\i+l+(j+2)<=a.size+b.size/\kv κ b (l-1)<kv κ a (i-1)) (fun T=>cI (fun _=>dC (fun e=>k9 (.r (g.gal _) (mk.first D B p e W N))) fun _=>dC (fun e=>k9 (.r (g.gal _) (mk.doneA D p e))) fun _=>T _ _ {mk,by o_law,by o_law,by o_law,G (by o_law)}) fun z=>T _ _ {m,by o_law,by o_law,by o_law,by have:=G (by o_law);rw[fb J (wz.mp (X8 z))]at this;exact this}) ?_;subst O;clear m t q r mk G R S;rintro l K ⟨m,t,q,r,y⟩;have m:=m.pa D B o H (fun _ _=>y) q;refine j4 (bR H (dC (fun e=>k9 (.r (g.gal _) (m.doneB B q e))) fun _=>?_));have z:∀x:Nat×Nat×Nat,Hg κ a b st (j+2) (none,_,_,_,x) _:=fun _=>{g.gal mg,m,by o_law,by o_law,t,q,by o_law}
 exact cI (fun _=>k9 (.n (z _) (k7 _))) fun _=>k9 (z _)
structure qE(κ:j9->Int)(a₀:Array j9)(st:B3):Prop where
 sb:jE κ (arrOf st).toList a₀.toList
 kind:kindOf st=mq
 ok:failedOf st=none
def qE.b{st:B3}(h:qE κ a₀ st):SB a₀ st:={rp.mpr h.sb.perm,h.kind,h.ok}
def qE.sz{st:B3}(h:qE κ a₀ st):(arrOf st).size=a₀.size:=h.b.sz
def qE.set{st:B3}(h:qE κ a₀ st){xs:Array j9}(hp:jE κ xs.toList (arrOf st).toList):qE κ a₀ (setArr st xs):={hp.trans h.sb,h.kind,h.ok}
def rS(m:ZT prog w a₀ κ){st:B3}{i j:Nat}{Q:Option Bool->B3->Prop}(g:qE κ a₀ st)(o:i<a₀.size)(q:j<a₀.size)(h:Q (some (decide (kv κ (arrOf st) i<kv κ (arrOf st) j))) st):wpS (j8 prog w) A E s (ltAt' i j) Q st:=by
 rw[ltAt'_eq];have c:i<(arrOf st).size:=by rw[g.sz];exact o
 have f:j<(arrOf st).size:=by rw[g.sz];exact q
 rw[bY c,bY f]at h;refine j4 (W9 ?_);exact j4 (bR c (j4 (bR f (m g.kind (g.b.in.at c) (g.b.in.at f) h))))
noncomputable def oJ(κ:j9->Int)(x:Array j9):List Pn->Nat->Nat->Prop
|[],b,e=>b=e
|t::r,b,e=>t.1=b/\0<t.2.1/\bO κ x b (b+t.2.1)/\oJ κ x r (b+t.2.1) e
theorem oJ.chn{x:Array j9}:∀{l:List Pn}{b e:Nat},oJ κ x l b e->OZ l b e
|[],_,_,h=>h
|_::_,_,_,⟨c,f,_,h⟩=>{c,f,h.chn}
theorem oJ.cong{x i:Array j9}:∀{l:List Pn}{b e:Nat},oJ κ x l b e->(∀q,b<=q->q<e->kv κ i q=kv κ x q)->oJ κ i l b e
|[],_,_,h,_=>h
|_::_,b,e,⟨m,o,B,h⟩,c=>{m,o,B.cong fun q f g=>c q f (by have:=h.chn.le;lia),h.cong fun q f g=>c q (by lia) g}
theorem oJ.ge{x:Array j9}:∀{l:List Pn}{b e i:Nat}{t:Pn},oJ κ x l b e->l[i]?=some t->b<=t.1/\bO κ x t.1 (t.1+t.2.1)
|[],_,_,_,_,_,h=>by simp at h
|u::r,b,e,0,t,⟨f,m,g,h⟩,c=>by
  simp only[J2,F9]at c;subst c;exact {by lia,by rw[f];exact g}
|u::r,b,e,i+1,t,⟨f,m,g,h⟩,c=>by rw[J3]at c;have:=h.ge c;exact {by lia,this.2}
theorem oJ.mrg{x m:Array j9}:∀{l:List Pn}{b e i:Nat}{t u:Pn},oJ κ x l b e->l[i]?=some t->l[i+1]?=some u->(∀q,q<t.1->kv κ m q=kv κ x q)->(∀q,u.1+u.2.1<=q->kv κ m q=kv κ x q)->bO κ m t.1 (u.1+u.2.1)->oJ κ m ((l.set i (t.1,t.2.1+u.2.1,t.2.2)).eraseIdx (i+1)) b e
|[],_,_,_,_,_,_,c,_,_,_,_=>by simp at c
|[_],_,_,0,_,_,_,_,f,_,_,_=>by simp at f
|u0::v::r,b,e,0,t,u,⟨o,D,G,H,K,N,h⟩,c,f,B,C,sg=>by
  simp only[J2,F9]at c;simp only[J3,J2,F9]at f;subst c f;refine {o,Nat.add_pos_left D _,?_,?_}
  ·rw[o,H]at sg;rw[←add_assoc];exact sg
  ·show oJ κ m r _ e;rw[←add_assoc];exact h.cong fun q I J=>C q (by lia)
|u0::r,b,e,i+1,t,u,⟨o,D,G,h⟩,c,f,B,C,sg=>by rw[J3]at c f;have g:=(h.ge c).1;exact {o,D,G.cong fun q I J=>B q (by lia),h.mrg c f B C sg}
theorem oJ.add{x:Array j9}:∀{l:List Pn}{b e n q:Nat},oJ κ x l b e->0<n->bO κ x e (e+n)->oJ κ x (l++[(e,n,q)]) b (e+n)
|[],b,e,n,q,h,hn,sg=>by
  cases h;exact {rfl,hn,sg,rfl}
|_::_,_,_,_,_,⟨c,f,g,h⟩,hn,sg=>{c,f,g,h.add hn sg}
theorem oJ.mod{x:Array j9}:∀{l:List Pn}{b e:Nat}(i c:Nat),oJ κ x l b e->oJ κ x (l.modify i fun x=>(x.1,x.2.1,c)) b e
|[],_,_,0,_,h=>h
|[],_,_,_+1,_,h=>h
|_::_,_,_,0,_,h=>h
|_::_,_,_,i+1,c,⟨f,g,m,h⟩=>{f,g,m,h.mod i c}
theorem oJ.len{x:Array j9}:∀{l:List Pn}{b e:Nat},oJ κ x l b e->b+l.length<=e
|[],_,_,h=>by cases h;exact k7 _
|t::_,_,_,⟨_,c,_,h⟩=>by have:=h.len;rw[K2];lia
def Mb{arr m:Array j9}{i j k:Nat}(o:i<=j)(B:j<=k)(C:k<=arr.size)(hp:jE κ m.toList ((arr.extract i j).toList++(arr.extract j k).toList)):∃z:Array j9,(m.toList.zipIdx.foldl (fun a x=>match x with|(p,l)=>a.setIfInBounds (i+l) p) arr)=z/\jE κ z.toList arr.toList/\(∀q,q<i∨k<=q->kv κ z q=kv κ arr q)/\∀q,i<=q->q<k->kv κ z q=kv κ m (q-i):=by
 have f:m.toList.length=k-i:=by rw[hp.perm.length_eq,m8];simp only[m6,M9];lia
 have e:=Rt m.toList arr i 0 (by lia);rw[show m.toList.zipIdx=m.toList.zipIdx 0 from rfl];generalize (m.toList.zipIdx 0).foldl (fun a x=>match x with|(p,l)=>a.setIfInBounds (i+l) p) arr=z at e⊢;rw[add_zero,f,show i+(k-i)=k by lia,D6]at e;have g:arr.toList=arr.toList.take i++(((arr.extract i j).toList++(arr.extract j k).toList)++arr.toList.drop k):=by rw[D6,←kO arr B,←kO arr o,je]
 have b:(arr.toList.take i).length=i:=by rw[V8,m6];lia
 refine {z,rfl,?_,fun q c=>?_,fun q D G=>?_}
 ·rw[e]
  conv=>arg 3;rw[g]
  exact (jE.refl _).app (hp.app (jE.refl _))
 ·refine eN ?_;rw[←x8,←x8,e];rcases c with c|c
  ·rw[K7 (by lia),uv c]
  ·rw[C8 (by lia),b,C8 (by lia),f,me];congr 1;lia
 ·refine eN ?_;rw[←x8,←x8,e,C8 (by lia),b,K7 (by lia)]
def KK{x y r:Array j9}(h:jE κ r.toList (x.toList++y.toList)){q:Nat}(g:q<r.size):(∃j,j<x.size/\kv κ r q=kv κ x j)∨∃j,j<y.size/\kv κ r q=kv κ y j:=by
 have f:r[q]∈r.toList:=by simp
 have b:=h.perm.mem_iff.mp f;rw[bY g];rcases u9.mp b with z|z
 ·obtain ⟨j,_,c,e⟩:=pB (κ:=κ) (i:=0) (by rw[dk];exact z);exact .inl {j,c,e}
 ·obtain ⟨j,_,c,e⟩:=pB (κ:=κ) (i:=0) (by rw[dk];exact z);exact .inr {j,c,e}
def wJ(HL:ZT prog w a₀ κ){st:B3}{i e:Nat}{Q:Bool->B3->Prop}(D:qE κ a₀ st)(hc:oJ κ (arrOf st) (pendingOf st).toList 0 e)(he:e<=a₀.size)(hi:i+1<(pendingOf st).size)(h:∀o,qE κ a₀ o->oJ κ (arrOf o) (pendingOf o).toList 0 e->(pendingOf o).size+1=(pendingOf st).size->(∀q,e<=q->kv κ (arrOf o) q=kv κ (arrOf st) q)->Q true o):wpS (j8 prog w) A E s (mergeAt' i) Q st:=by
 obtain ⟨⟨B,O,Y⟩,e1⟩:∃x,(pendingOf st)[i]?=some x:={_,getElem?_pos _ i (by lia)}
 obtain ⟨⟨f,J,pv⟩,e2⟩:∃x,(pendingOf st)[i+1]?=some x:={_,getElem?_pos _ (i+1) hi}
 have R:(pendingOf st).toList[i]?=some (B,O,Y):=by rw[x8];exact e1
 have S:(pendingOf st).toList[i+1]?=some (f,J,pv):=by rw[x8];exact e2
 obtain ⟨c1,c2,c3,c4,_⟩:=hc.chn.at (i:=i) R S;have sA:=(hc.ge R).2;have sB:=(hc.ge S).2;dsimp only at c1 c2 c3 c4 sA sB;have g':=D.sz;refine j4 (W9 ?_);simp only[e1,e2];refine j4 (ZY ?_);have T:(((pendingOf st).setIfInBounds i (B,O+J,Y)).eraseIdxIfInBounds (i+1)).size+1=(pendingOf st).size:=by rw[←m6,ox,fx,List.length_eraseIdx,List.length_set,m6,if_pos hi];lia
 have c6:∀Z:Array j9,(∀q,q<B->kv κ Z q=kv κ (arrOf st) q)->(∀q,f+J<=q->kv κ Z q=kv κ (arrOf st) q)->bO κ Z B (f+J)->oJ κ Z (((pendingOf st).setIfInBounds i (B,O+J,Y)).eraseIdxIfInBounds (i+1)).toList 0 e:=by intro Z d1 d2 d3;rw[ox,fx];exact hc.mrg R S d1 d2 d3
 have u1:f<(arrOf st).size:=by lia
 refine j4 (bR u1 ?_);refine j4 (mC (arr:=arrOf st) HL D.kind (D.b.in.at u1) D.b.in (by lia) c2 sA fun k hk kB kA=>?_);have f1:∀q,B<=q->q<B+k->kv κ (arrOf st) q<=kv κ (arrOf st) f:=fun q q1 q2=>by have:=kB (q-B) (by lia);rw[show B+(q-B)=q by lia]at this;unfold iF at this;simp only[J6,if_false,X5,decide_eq_false_iff_not]at this;rw[←bY (κ:=κ) u1]at this;lia
 have f2:k<O->kv κ (arrOf st) f<kv κ (arrOf st) (B+k):=fun q=>by have:=YX (left:=true) (kA k (k7 _) q);rw[←bY (κ:=κ) u1]at this;exact this
 dsimp only;refine dC (fun ez=>k9 (h _ {D.sb,D.kind,D.ok} (c6 _ (fun _ _=>rfl) (fun _ _=>rfl) fun p q G P H=>?_) T fun _ _=>rfl)) fun d'=>?_
 ·rcases F8 q f with z|z
  ·exact sA p q G P (by lia)
  ·rcases F8 p f with y|y
   ·exact O7 (f1 p G (by lia)) (sB f q (k7 _) z H)
   ·exact sB p q y P H
 have u2:B+k+(O-k)-1<(arrOf st).size:=by lia
 refine j4 (bR u2 ?_);refine j4 (mC (arr:=arrOf st) HL D.kind (D.b.in.at u2) D.b.in (by lia) (by lia) sB fun C e' b' a'=>?_);have el:B+k+(O-k)-1=f-1:=by lia
 have f3:∀q,f+C<=q->q<f+J->kv κ (arrOf st) (f-1)<=kv κ (arrOf st) q:=fun q q1 q2=>by have:=YW (a' (q-f) (by lia) (by lia));rw[show f+(q-f)=q by lia,←bY (κ:=κ) u2,el]at this;exact this
 have f4:0<C->kv κ (arrOf st) (f+C-1)<kv κ (arrOf st) (f-1):=fun q=>by have:=b' (C-1) (by lia);unfold iF at this;simp only[if_true,decide_eq_true_eq]at this;rw[←bY (κ:=κ) u2,el,show f+(C-1)=f+C-1 by lia]at this;exact this
 dsimp only;refine dC (fun ez=>k9 (h _ {D.sb,D.kind,D.ok} (c6 _ (fun _ _=>rfl) (fun _ _=>rfl) fun p q G P H=>?_) T fun _ _=>rfl)) fun c'=>?_
 ·rcases F8 q f with z|z
  ·exact sA p q G P (by lia)
  ·rcases F8 p f with y|y
   ·exact O7 (sA p (f-1) G (by lia) (by lia)) (f3 q (by lia) H)
   ·exact sB p q y P H
 have W:∀(r:Array j9)(o:B3),SG (lj (kindOf st) (arrOf st) (((pendingOf st).setIfInBounds i (B,O+J,Y)).eraseIdxIfInBounds (i+1)) (gallopOf st) (failedOf st)) o->IU κ ((arrOf st).extract (B+k) f) ((arrOf st).extract f (f+C)) r->Q true (lj (kindOf o) (r.toList.zipIdx.foldl (fun a x=>match x with|(p,l)=>a.setIfInBounds (B+k+l) p) (arrOf o)) (pendingOf o) (gallopOf o) (failedOf o)):=by
  intro r o g hp;have e3:arrOf o=arrOf st:=g.arr;have e4:pendingOf o=(((pendingOf st).setIfInBounds i (B,O+J,Y)).eraseIdxIfInBounds (i+1)):=g.pend;rw[e3,e4];have f':r.size=f+C-(B+k):=by have:=hp.1.perm.length_eq;rw[m8]at this;simp only[m6,M9]at this;lia
  obtain ⟨z,ez,z1,K,z3⟩:=Mb (κ:=κ) (arr:=arrOf st) (m:=r) (i:=B+k) (j:=f) (k:=f+C) (by lia) (by lia) (by lia) hp.1;rw[ez];have sr:=bO.ofAll hp.2;have rv:∀q,B+k<=q->q<f+C->∃j,B+k<=j/\j<f+C/\kv κ z q=kv κ (arrOf st) j:=fun q q1 q2=>by
   rw[z3 q q1 q2];rcases KK hp.1 (q:=q-(B+k)) (by lia) with ⟨j,X,I⟩|⟨j,X,I⟩
   ·rw[M9]at X;rw[pD (by lia) (by lia)]at I;exact {_,by lia,by lia,I}
   ·rw[M9]at X;rw[pD (by lia) (by lia)]at I;exact {_,by lia,by lia,I}
  refine h _ {z1.trans D.sb,g.kind.trans D.kind,g.ok.trans D.ok} (c6 _ (fun q hq=>K q (.inl (by lia))) (fun q hq=>K q (.inr (by lia))) fun p q G P H=>?_) T fun q hq=>K q (.inr (by lia));show kv κ z p<=kv κ z q;rcases F8 p (B+k) with U|U
  ·rw[K p (.inl U)];rcases F8 q (B+k) with b1|b1
   ·rw[K q (.inl b1)];exact sA p q G P (by lia)
   ·rcases F8 q (f+C) with N|N
    ·obtain ⟨j,X,j2,I⟩:=rv q b1 N;rw[I];rcases F8 j f with c|c
     ·exact sA p j G (by lia) (by lia)
     ·exact O7 (f1 p G U) (sB f j (k7 _) c (by lia))
    ·rw[K q (.inr N)];exact O7 (f1 p G U) (sB f q (k7 _) (by lia) H)
  ·rcases F8 p (f+C) with a2|a2
   ·rcases F8 q (f+C) with N|N
    ·rw[z3 p U a2,z3 q (by lia) N];exact sr _ _ (w4 _) (by lia) (by lia)
    ·obtain ⟨j,X,j2,I⟩:=rv p U a2;rw[I,K q (.inr N)];rcases F8 j f with c|c
     ·exact O7 (sA j (f-1) (by lia) (by lia) (by lia)) (f3 q N H)
     ·exact sB j q c (by lia) H
   ·rw[K p (.inr a2),K q (.inr (by lia))];exact sB p q (by lia) P H
 have x1:((arrOf st).extract (B+k) f).size=f-(B+k):=by rw[M9];lia
 have x2:((arrOf st).extract f (f+C)).size=C:=by rw[M9];lia
 have g1:bO κ ((arrOf st).extract (B+k) f) 0 ((arrOf st).extract (B+k) f).size:=by rw[x1];exact (sA.mono (by lia) (by lia)).ext (by lia)
 have g2:bO κ ((arrOf st).extract f (f+C)) 0 ((arrOf st).extract f (f+C)).size:=by rw[x2];have:=(sB.mono (k7 _) (show f+C<=f+J by lia)).ext (by lia);rw[show f+C-f=C by lia]at this;exact this
 have g3:kv κ ((arrOf st).extract f (f+C)) 0<kv κ ((arrOf st).extract (B+k) f) 0:=by rw[pD (by lia) (by lia),pD (by lia) (by lia)];exact f2 (by lia)
 have g4:kv κ ((arrOf st).extract f (f+C)) (((arrOf st).extract f (f+C)).size-1)<kv κ ((arrOf st).extract (B+k) f) (((arrOf st).extract (B+k) f).size-1):=by rw[x1,x2,pD (by lia) (by lia),pD (by lia) (by lia)];have:=f4 (by lia);rw[show f+(C-1)=f+C-1 by lia,show B+k+(f-(B+k)-1)=f-1 by lia];exact this
 refine cI (fun _=>?_) fun _=>?_
 ·refine j4 (SU HL D.kind (D.b.in.ext _ _) (D.b.in.ext _ _) (by rw[x1];lia) (by rw[x2];lia) g1 g2 g3 g4 fun r o g hp=>?_);refine j4 (P9 (j4 (W9 (k9 ?_))));have:=W r o g hp;rw[←show (failedOf o).isNone=true by rw[show failedOf o=failedOf st from g.ok,D.ok];rfl]at this;exact this
 ·refine j4 (SV HL D.kind (D.b.in.ext _ _) (D.b.in.ext _ _) (by rw[x1];lia) (by rw[x2];lia) g1 g2 g3 g4 fun r o g hp=>?_);refine j4 (P9 (j4 (W9 (k9 ?_))));have:=W r o g hp;rw[←show (failedOf o).isNone=true by rw[show failedOf o=failedOf st from g.ok,D.ok];rfl]at this;exact this
def DG{a:Array j9}{i j:Nat}(h:i<=j)(b:j<=a.size):((gi a i j ((j-i)/2)).extract i j).toList=(a.extract i j).toList.reverse:=by
 refine gt fun k=>?_;have f:(a.extract i j).toList.length=j-i:=by rw[m6,M9];lia
 rw[x8,J9];rcases F8 k (j-i) with c|c
 ·rw[if_pos (by rw[mr];lia),gn b,if_pos (by lia),List.getElem?_reverse (by lia),f,x8,J9,if_pos (by lia)];congr 1;lia
 ·rw[if_neg (by rw[mr];lia),S5 (by rw[yh];lia)]
def pV{a:Array j9}{i j q:Nat}(b:j<=a.size)(h:q<i∨j<=q):(gi a i j ((j-i)/2))[q]?=a[q]?:=by rw[gn b,if_neg (by lia)]
def DS{a:Array j9}{i j k:Nat}(b:i<=j)(c:j<=k):(a.extract i k).toList=(a.extract i j).toList++(a.extract j k).toList:=by rw[jT,jT,jT,show k-i=(j-i)+(k-j) by lia,take_add,drop_drop,show i+(j-i)=j by lia]
def KL{a b:Array j9}{i j:Nat}(hs:a.size=b.size)(h:∀q,i<=q->q<j->a[q]?=b[q]?):(a.extract i j).toList=(b.extract i j).toList:=by
 refine gt fun k=>?_;rw[x8,x8,J9,J9,hs];by_cases c:k<min j b.size-i
 ·rw[if_pos c,if_pos c];exact h _ (by lia) (by lia)
 ·rw[if_neg c,if_neg c]
def BZ(a:Array j9){i j:Nat}(b:i<=j):a.toList=(a.extract 0 i).toList++((a.extract i j).toList++a.toList.drop j):=by rw[←kO a b,tV,je]
def MU{a b:Array j9}{i j:Nat}(c:i<=j)(m:j<=a.size)(hs:b.size=a.size)(f:∀q,q<i∨j<=q->b[q]?=a[q]?)(h:jE κ (b.extract i j).toList (a.extract i j).toList):jE κ b.toList a.toList:=by
 rw[BZ a c,BZ b c,KL (a:=b) (b:=a) (i:=0) (j:=i) hs fun q _ g=>f q (.inl g)];refine (jE.refl _).app (h.app ?_);have e:b.toList.drop j=a.toList.drop j:=by refine gt fun k=>?_;rw[me,me,x8,x8];exact f _ (.inr (by lia))
 rw[e];exact jE.refl _
structure ZL(κ:j9->Int)(a b:Array j9)(lo x q:Nat):Prop where
 sz:b.size=a.size
 hx:q+1<=x
 hs:lo+x<=a.size
 out:∀i,i<lo∨lo+x-(q+1)<=i->b[i]?=a[i]?
 yeq:∀i,lo+x-(q+1)<=i->i<lo+x->kv κ b i=kv κ b (lo+x-1)
 xgt:∀i,lo<=i->i<lo+x-(q+1)->kv κ b (lo+x-1)<kv κ b i
 xni:∀i j,lo<=i->i<=j->j<lo+x-(q+1)->kv κ b j<=kv κ b i
 sb:jE κ (b.extract lo (lo+x-(q+1))).toList.reverse (a.extract lo (lo+x-(q+1))).toList
structure Eh(κ:j9->Int)(a b:Array j9)(lo x:Nat)(z:Int):Prop where
 sz:b.size=a.size
 hs:lo+x<=a.size
 out:∀i,i<lo∨lo+x<=i->b[i]?=a[i]?
 ni:∀i j,lo<=i->i<=j->j<lo+x->kv κ b j<=kv κ b i
 ge:∀i,lo<=i->i<lo+x->z<=kv κ b i
 sb:jE κ (b.extract lo (lo+x)).toList.reverse (a.extract lo (lo+x)).toList
def ZL.flip{a b f:Array j9}{lo x q:Nat}(d:ZL κ a b lo x q)(R:f.size=b.size)(C:∀i,i<lo+x-(q+1)∨lo+x<=i->f[i]?=b[i]?)(N:(f.extract (lo+x-(q+1)) (lo+x)).toList=(b.extract (lo+x-(q+1)) (lo+x)).toList.reverse):Eh κ a f lo x (kv κ b (lo+x-1)):=by
 have hx:=d.hx;have hs:=d.hs;have Y:=d.sz;have J:∀i,lo+x-(q+1)<=i->i<lo+x->kv κ f i=kv κ b (lo+x-1):=fun i m o=>by
  have g:i<f.size:=by lia
  have O:f[i]∈(f.extract (lo+x-(q+1)) (lo+x)).toList:=by rw[jf];refine {i-(lo+x-(q+1)),?_};rw[x8,J9,if_pos (by lia),show lo+x-(q+1)+(i-(lo+x-(q+1)))=i by lia];exact getElem?_pos f i g
  rw[N,S3]at O;obtain ⟨j,H,I,U,e⟩:=hV (κ:=κ) O;rw[bY g,e];exact d.yeq j H I
 have D:∀i,i<lo+x-(q+1)->kv κ f i=kv κ b i:=fun i g=>eN (C i (.inl g));refine {by lia,hs,fun i g=>?_,fun i j m o T=>?_,fun i m o=>?_,?_}
 ·rcases g with g|g
  ·exact (C i (.inl (by lia))).trans (d.out i (.inl g))
  ·exact (C i (.inr g)).trans (d.out i (.inr (by lia)))
 ·rcases F8 j (lo+x-(q+1)) with c|c
  ·rw[D j c,D i (by lia)];exact d.xni i j m o c
  ·rw[J j c T];rcases F8 i (lo+x-(q+1)) with B|B
   ·rw[D i B];exact R8 (d.xgt i m B)
   ·rw[J i B (by lia)];exact L0 _
 ·rcases F8 i (lo+x-(q+1)) with c|c
  ·rw[D i c];exact R8 (d.xgt i m c)
  ·rw[J i c o];exact L0 _
 ·rw[DS (a:=f) (j:=lo+x-(q+1)) (by lia) (by lia),DS (a:=a) (j:=lo+x-(q+1)) (by lia) (by lia),N,V7,Q9];have Q:(f.extract lo (lo+x-(q+1))).toList=(b.extract lo (lo+x-(q+1))).toList:=KL R fun i _ o=>C i (.inl o);have K:(b.extract (lo+x-(q+1)) (lo+x)).toList=(a.extract (lo+x-(q+1)) (lo+x)).toList:=KL Y fun i m _=>d.out i (.inr m);rw[Q,K];refine ((jE.refl _).app d.sb).trans (jE.comm fun u P v S=>?_);rw[←K]at P;obtain ⟨j,H,I,U,e⟩:=hV (κ:=κ) P;have G:=S3.mp (d.sb.perm.mem_iff.mpr S);obtain ⟨k,W,X,k3,Z⟩:=hV (κ:=κ) G;have:=d.xgt k W X;have:=d.yeq j H I;lia
def Eh.next{a b:Array j9}{lo x:Nat}{z:Int}(f:Eh κ a b lo x z)(h:lo+x<a.size)(hz:kv κ b (lo+x)<z):ZL κ a b lo (x+1) 0:=by
 refine {f.sz,by lia,by lia,fun i m=>f.out i (by lia),fun i c g=>?_,fun i c g=>?_,fun i j c g o=>f.ni i j c g (by lia),f.sb}
 ·have:i=lo+(x+1)-1:=by lia
  rw[this]
 ·have:=f.ge i c (by lia);rw[show lo+(x+1)-1=lo+x by lia];lia
def Eh.turn{a b:Array j9}{lo x:Nat}{z:Int}(f:Eh κ a b lo x z):bO κ (gi b lo (lo+x) ((lo+x-lo)/2)) lo (lo+x)/\jE κ (gi b lo (lo+x) ((lo+x-lo)/2)).toList a.toList/\∀q,q<lo->kv κ (gi b lo (lo+x) ((lo+x-lo)/2)) q=kv κ a q:=by
 have g:lo+x<=b.size:=by rw[f.sz];exact f.hs
 refine {fun p q B D C=>?_,?_,fun q c=>?_}
 ·have e:∀k,lo<=k->k<lo+x->kv κ (gi b lo (lo+x) ((lo+x-lo)/2)) k=kv κ b (lo+(lo+x)-1-k):=fun k m o=>eN (by rw[gn g,if_pos {m,o}]);rw[e p B (by omega),e q (by omega) C];exact f.ni _ _ (by omega) (by omega) (by omega)
 ·refine MU (i:=lo) (j:=lo+x) (by omega) f.hs (by rw[mr];exact f.sz) (fun q c=>(pV g c).trans (f.out q c)) ?_;rw[DG (by omega) g];exact f.sb
 ·exact eN ((pV g (.inl c)).trans (f.out q (.inl c)))
def ZL.flip0{a b:Array j9}{lo x:Nat}(d:ZL κ a b lo x 0):Eh κ a b lo x (kv κ b (lo+x-1)):=by have c:=d.hx;have hs:=d.hs;have f:=d.sz;refine d.flip rfl (fun _ _=>rfl) ?_;rw[jT,show lo+x-(lo+x-(0+1))=1 by lia,iL (by lia)];rfl
def ZL.flipM{a b:Array j9}{lo x q:Nat}(d:ZL κ a b lo x q):Eh κ a (gi b (lo+x-(q+1)) (lo+x) ((lo+x-(lo+x-(q+1)))/2)) lo x (kv κ b (lo+x-1)):=by have f:=d.hx;have hs:=d.hs;have g:=d.sz;exact d.flip (mr ..) (fun i c=>pV (by lia) c) (DG (by lia) (by lia))
structure Mx(κ:j9->Int)(st st1:B3):Prop where
 kind:kindOf st1=kindOf st
 ok:failedOf st1=failedOf st
 pend:pendingOf st1=pendingOf st
 perm:(arrOf st1).Perm (arrOf st)
def Mx.set{st b:B3}(h:Mx κ st b){xs:Array j9}(hp:xs.Perm (arrOf b)):Mx κ st (setArr b xs):={h.kind,h.ok,h.pend,hp.trans h.perm}
def ER(B:ZT prog w a₀ κ){st c:B3}{i j:Nat}{Q:Option Bool->B3->Prop}(q:qE κ a₀ st)(g:Mx κ st c)(C:i<a₀.size)(D:j<a₀.size)(h:Q (some (decide (kv κ (arrOf c) i<kv κ (arrOf c) j))) c):wpS (j8 prog w) A E s (ltAt' i j) Q c:=by
 have o:SB a₀ c:={g.perm.trans q.b.perm,g.kind.trans q.kind,g.ok.trans q.ok}
 rw[ltAt'_eq];have f:i<(arrOf c).size:=by rw[o.sz];exact C
 have m:j<(arrOf c).size:=by rw[o.sz];exact D
 rw[bY f,bY m]at h;refine j4 (W9 ?_);exact j4 (bR f (j4 (bR m (B o.kind (o.in.at f) (o.in.at m) h))))
def SW(P:ZT prog w a₀ κ){st:B3}{lo nrem:Nat}{Q:Option Nat->B3->Prop}(D:qE κ a₀ st)(hn:lo+nrem<=a₀.size)(h1:1<=nrem)(h:∀m g,qE κ a₀ g->pendingOf g=pendingOf st->1<=m->m<=nrem->bO κ (arrOf g) lo (lo+m)->(∀q,q<lo->kv κ (arrOf g) q=kv κ (arrOf st) q)->Q (some m) g):wpS (j8 prog w) A E s (countRun' lo nrem) Q st:=by
  have d':=D.sz;have N:∀{a:Array j9}{x:Nat},1<=x->bO κ a lo (lo+x)->¬kv κ a (lo+x)<kv κ a (lo+x-1)->bO κ a lo (lo+(x+1)):=fun {a x} hx sg hc p q p1 p2 p3=>by
    rcases F8 q (lo+x) with c|c
    . exact sg p q p1 p2 c
    . have e:q=lo+x:=by lia
      rcases F8 p (lo+x) with T|T
      . have:=sg p (lo+x-1) p1 (by lia) (by lia)
        rw[e];lia
      . have e2:p=q:=by lia
        rw[e2];exact L0 _
  have b':bO κ (arrOf st) lo (lo+1):=fun p q p1 p2 p3=>by
    have:p=q:=by lia
    rw[this];exact L0 _
  refine j4 (O9 (E1 (I:=fun x c g=>g=st/\c=(none,x)/\bO κ (arrOf st) lo (lo+x)) (Q:=fun c g=>g=st/\∃x,c=(none,x)/\1<=x/\x<=nrem/\bO κ (arrOf st) lo (lo+x)/\(x<nrem->kv κ (arrOf st) (lo+x)<kv κ (arrOf st) (lo+x-1))) ?_ ?_ {rfl,rfl,b'}) ?_)
  . rintro x c g S h4 ⟨rfl,rfl,sg⟩
    refine j4 (rS P D (by o_law) (by o_law) (cI (fun c=>?_) fun c=>?_))
    . exact k9 {rfl,x,rfl,S,by lia,sg,fun _=>of_decide_eq_true c}
    . exact k9 {rfl,rfl,N S sg fun z=>c (decide_eq_true z)}
  . rintro c g ⟨rfl,rfl,sg⟩
    exact {rfl,_,rfl,by lia,by lia,by rw[show max 1 nrem=nrem by lia]at *;exact sg,fun z=>by lia}
  . rintro c g ⟨rfl,n,rfl,S,h4,sg,K⟩
    refine dC (fun _=>k9 (h _ _ D rfl S h4 sg fun _ _=>rfl)) fun h5=>?_;dsimp only at h5;have K:=K (by lia);have dM:1<n->¬kv κ (arrOf g) lo<kv κ (arrOf g) (lo+n-1)->ZL κ (arrOf g) (gi (arrOf g) lo (lo+n) ((lo+n-lo)/2)) lo (n+1) 0:=fun n1 c=>by
      have U:∀i,lo<=i->i<lo+n->kv κ (arrOf g) i=kv κ (arrOf g) (lo+n-1):=fun i C H=>by have a1:=sg lo i (k7 _) C H;have a2:=sg i (lo+n-1) C (by lia) (by lia);lia
      have km:∀i,lo<=i->i<lo+n->kv κ (gi (arrOf g) lo (lo+n) ((lo+n-lo)/2)) i=kv κ (arrOf g) (lo+n-1):=fun i C H=>by rw[eN (κ:=κ) (b:=arrOf g) (j:=lo+(lo+n)-1-i) (by rw[gn (by lia),if_pos {C,H}])];exact U _ (by lia) (by lia)
      have f:Eh κ (arrOf g) (gi (arrOf g) lo (lo+n) ((lo+n-lo)/2)) lo n (kv κ (arrOf g) (lo+n-1)):={mr ..,by lia,fun i hi=>pV (by lia) hi,fun i j C H i3=>by rw[km i C (by lia),km j (by lia) i3];exact L0 _,fun i C H=>by rw[km i C H];exact L0 _,by rw[DG (by lia) (by lia),Q9];exact jE.refl _}
      refine f.next (by lia) ?_;rw[eN (κ:=κ) (b:=arrOf g) (j:=lo+n) (pV (by lia) (.inr (k7 _)))];exact K
    have d1:¬1<n->ZL κ (arrOf g) (arrOf g) lo (n+1) 0:=fun n1=>by
      have e:n=1:=by lia
      subst e;refine {rfl,by lia,by lia,fun _ _=>rfl,fun i C H=>?_,fun i C H=>?_,fun i j C H i3=>?_,?_}
      . have:i=lo+(1+1)-1:=by lia
        rw[this]
      . have:i=lo+1-1:=by lia
        rw[this];exact K
      . have:i=j:=by lia
        rw[this];exact L0 _
      . rw[jT,show lo+(1+1)-(0+1)-lo=1 by lia,iL (by lia)]
        exact jE.refl _
    refine cI (fun a'=>j4 (rS P D (by o_law) (by o_law) (cI (fun _=>k9 (h _ _ D rfl S h4 sg fun _ _=>rfl)) fun c=>j4 (mi ?_)))) fun a'=>?_
    all_goals
      refine j4 (mj (L9 {rfl,?_}));refine j4 (O9 (E1 (I:=fun x c B=>Mx κ g B/\∃q,c=(none,x,q)/\ZL κ (arrOf g) (arrOf B) lo x q) (Q:=fun c B=>Mx κ g B/\∃x q,c=(none,x,q)/\x<=nrem/\ZL κ (arrOf g) (arrOf B) lo x q) ?_ ?_ {by first|exact {rfl,rfl,rfl,zw ..}|exact {rfl,rfl,rfl,Array.Perm.refl _},0,rfl,by first|exact dM (by o_law) (fun z=>c (decide_eq_true z))|exact d1 (by o_law)}) ?_)
      . rintro x c B h6 h7 ⟨J,q,rfl,d⟩
        have hx:=d.hx;refine j4 (ER P D J (by o_law) (by o_law) (cI (fun c=>?_) fun c=>?_))
        . have c:=of_decide_eq_true c
          refine cI (fun _=>?_) fun q0=>?_
          . refine j4 (mi (k9 {J.set (zw ..),0,rfl,d.flipM.next (by have:=D.sz;lia) ?_}))
            rw[eN (κ:=κ) (b:=arrOf B) (j:=lo+x) (pV (by have:=d.sz;have:=D.sz;lia) (.inr (k7 _)))];exact c
          . have q0:q=0:=(by o_law)
            subst q0;exact k9 {J,0,rfl,d.flip0.next (by have:=D.sz;lia) c}
        . refine j4 (ER P D J (by o_law) (by o_law) (cI (fun T=>?_) fun T=>?_))
          . exact k9 {J,x,q,rfl,by lia,d}
          . have e:kv κ (arrOf B) (lo+x)=kv κ (arrOf B) (lo+x-1):=by
              have a1:¬kv κ (arrOf B) (lo+x)<kv κ (arrOf B) (lo+x-1):=fun z=>c (decide_eq_true z);have a2:¬kv κ (arrOf B) (lo+x-1)<kv κ (arrOf B) (lo+x):=fun z=>T (decide_eq_true z);lia
            refine k9 {J,q+1,rfl,d.sz,by lia,by have:=D.sz;lia,fun i hi=>d.out i (by lia),fun i C H=>?_,fun i C H=>?_,fun i j C H i3=>d.xni i j C H (by lia),?_}
            . rw[show lo+(x+1)-1=lo+x by lia,e]
              rcases F8 i (lo+x) with z|z
              . exact d.yeq i (by lia) z
              . rw[show i=lo+x by lia,e]
            . rw[show lo+(x+1)-1=lo+x by lia,e]
              exact d.xgt i C (by lia)
            . rw[show lo+(x+1)-(q+1+1)=lo+x-(q+1) by lia]
              exact d.sb
      . rintro c B ⟨J,q,rfl,d⟩
        refine {J,_,_,rfl,(by o_law),d}
      . rintro c B ⟨J,x,q,rfl,h7,d⟩
        have hx:=d.hx;have R:∀o:B3,Mx κ g o->∀z:Int,Eh κ (arrOf g) (arrOf o) lo x z->qE κ a₀ (setArr o (gi (arrOf o) lo (lo+x) ((lo+x-lo)/2)))/\pendingOf (setArr o (gi (arrOf o) lo (lo+x) ((lo+x-lo)/2)))=pendingOf g/\bO κ (gi (arrOf o) lo (lo+x) ((lo+x-lo)/2)) lo (lo+x)/\∀q,q<lo->kv κ (gi (arrOf o) lo (lo+x) ((lo+x-lo)/2)) q=kv κ (arrOf g) q:=fun o G z f=>by obtain ⟨t1,t2,t3⟩:=f.turn;exact {{t2.trans D.sb,G.kind.trans D.kind,G.ok.trans D.ok},G.pend,t1,t3}
        refine cI (fun _=>j4 (mi (j4 (mi ?_)))) fun q0=>j4 (mi ?_)
        all_goals
          refine j4 (O9 (E1 (I:=fun y c o=>(qE κ a₀ o/\pendingOf o=pendingOf g/\∀q,q<lo->kv κ (arrOf o) q=kv κ (arrOf g) q)/\c=(none,y)/\bO κ (arrOf o) lo (lo+y)) (Q:=fun c o=>(qE κ a₀ o/\pendingOf o=pendingOf g/\∀q,q<lo->kv κ (arrOf o) q=kv κ (arrOf g) q)/\∃y,c=(none,y)/\1<=y/\y<=nrem/\bO κ (arrOf o) lo (lo+y)) ?_ ?_ ?_) ?_)
          . rintro y c o h8 h9 ⟨G,rfl,O⟩
            refine j4 (rS P G.1 (by o_law) (by o_law) (cI (fun c=>?_) fun c=>?_))
            . exact k9 {G,_,rfl,(by o_law),by lia,O}
            . exact k9 {G,rfl,N (by o_law) O fun z=>c (decide_eq_true z)}
          . rintro c o ⟨G,rfl,O⟩
            exact {G,_,rfl,(by o_law),(by o_law),O}
          . first
            | (obtain ⟨W,X,Y,Z⟩:=R _ (J.set (zw ..)) _ d.flipM
               exact {{W,X,Z},rfl,Y})
            | (have c':q=0:=(by o_law)
               subst c';obtain ⟨W,X,Y,Z⟩:=R _ J _ d.flip0;exact {{W,X,Z},rfl,Y})
          . rintro c o ⟨G,y,rfl,h8,h9,O⟩
            exact k9 (h _ _ G.1 G.2.1 h8 h9 O G.2.2)
def KD{a:Array j9}{lo k l:Nat}(hs:lo+k<a.size)(f:l<=k)(q:Nat):kv κ (wo a (lo+k) (lo+k-(lo+l))) q=if q=lo+l then kv κ a (lo+k) else if lo+l<q/\q<=lo+k then kv κ a (q-1) else kv κ a q:=by
 have e:=getElem?_bubble hs (lo+k-(lo+l)) (by lia) q;rw[show lo+k-(lo+k-(lo+l))=lo+l by lia]at e;split at e
 ·rename_i c;rw[if_pos c];exact eN e
 ·rename_i c;rw[if_neg c];split at e
  ·rename_i b;rw[if_pos b];exact eN e
  ·rename_i b;rw[if_neg b];exact eN e
def Al{a:Array j9}{lo k l:Nat}(hs:lo+k<a.size)(C:l<=k)(o:∀i,l<=i->i<k->kv κ a (lo+k)<kv κ a (lo+i)):jE κ (wo a (lo+k) (lo+k-(lo+l))).toList a.toList:=by
 have f:∀q,(wo a (lo+k) (lo+k-(lo+l)))[q]?=if q=lo+l then a[lo+k]? else if lo+l<q/\q<=lo+k then a[q-1]? else a[q]?:=fun q=>by have e:=getElem?_bubble hs (lo+k-(lo+l)) (by lia) q;rwa[show lo+k-(lo+k-(lo+l))=lo+l by lia]at e
 refine MU (i:=lo+l) (j:=lo+k+1) (by lia) (by lia) (Am ..) (fun q D=>?_) ?_
 ·rw[f,if_neg (by lia),if_neg (by lia)]
 ·have g:((wo a (lo+k) (lo+k-(lo+l))).extract (lo+l) (lo+k+1)).toList=[a[lo+k]]++(a.extract (lo+l) (lo+k)).toList:=by
   refine gt fun q=>?_;have b:(a.extract (lo+l) (lo+k)).toList.length=k-l:=by rw[m6,M9];lia
   rw[x8,J9];rcases F8 q (k+1-l) with c|c
   ·rw[if_pos (by rw[Am];lia),f];cases q with
   |zero=>
     rw[if_pos (by lia)];exact getElem?_pos a (lo+k) hs
   |succ q=>rw[if_neg (by lia),if_pos (by lia)];show _=(a.extract (lo+l) (lo+k)).toList[q]?;rw[x8,J9,if_pos (by lia)];congr 1
   ·rw[if_neg (by rw[Am];lia),S5 (by rw[m8,b];show 1+(k-l)<=q;lia)]
  have m:(a.extract (lo+l) (lo+k+1)).toList=(a.extract (lo+l) (lo+k)).toList++[a[lo+k]]:=by rw[DS (j:=lo+k) (by lia) (by lia)];congr 1;rw[jT,show lo+k+1-(lo+k)=1 by lia,iL hs]
  rw[g,m];refine jE.comm fun x b y B=>?_;rw[i9.mp b,←bY (κ:=κ) hs];obtain ⟨j,G,H,I,e⟩:=hV (κ:=κ) B;have:=o (j-lo) (by lia) (by lia);rw[show lo+(j-lo)=j by lia]at this;lia
def SX(U:ZT prog w a₀ κ){st:B3}{lo n ok:Nat}{Q:Bool->B3->Prop}(S:qE κ a₀ st)(hn:lo+n<=a₀.size)(h1:1<=ok)(Y:ok<=n)(sg:bO κ (arrOf st) lo (lo+ok))(h:∀b,qE κ a₀ b->pendingOf b=pendingOf st->bO κ (arrOf b) lo (lo+n)->(∀q,q<lo->kv κ (arrOf b) q=kv κ (arrOf st) q)->Q true b):wpS (j8 prog w) A E s (binarySort' lo n ok) Q st:=by
 have a':=S.sz;refine j4 (O9 (E1 (I:=fun k c b=>c=(none,())/\qE κ a₀ b/\pendingOf b=pendingOf st/\bO κ (arrOf b) lo (lo+k)/\∀q,q<lo->kv κ (arrOf b) q=kv κ (arrOf st) q) (Q:=fun c b=>c=(none,())/\qE κ a₀ b/\pendingOf b=pendingOf st/\bO κ (arrOf b) lo (lo+n)/\∀q,q<lo->kv κ (arrOf b) q=kv κ (arrOf st) q) ?_ ?_ {rfl,S,rfl,by rw[show max ok 1=ok by lia];exact sg,fun _ _=>rfl}) ?_)
 ·rintro k c f W h2 ⟨rfl,C,K,m,J⟩;have b':=C.sz;refine j4 (O9 (E1 (I:=fun x c g=>g=f/\∃l r,c=(none,l,r)/\l<=r/\r<=k/\(∀i,i<l->kv κ (arrOf f) (lo+i)<=kv κ (arrOf f) (lo+k))/\(∀i,r<=i->i<k->kv κ (arrOf f) (lo+k)<kv κ (arrOf f) (lo+i))/\r+x<=k+l) (Q:=fun c g=>g=f/\∃l r,c=(none,l,r)/\l=r/\r<=k/\(∀i,i<l->kv κ (arrOf f) (lo+i)<=kv κ (arrOf f) (lo+k))/\(∀i,r<=i->i<k->kv κ (arrOf f) (lo+k)<kv κ (arrOf f) (lo+i))) ?_ ?_ {rfl,_,_,rfl,w4 _,k7 _,(fun i X=>absurd X (R9 _)),(fun i T i2=>by lia),by lia}) ?_)
  ·rintro x c g _ _ ⟨rfl,l,r,rfl,N,o,G,D,v5⟩;refine cI (fun c=>k9 {rfl,_,_,rfl,(by o_law),o,G,D}) fun c=>?_;refine j4 (rS U C (by o_law) (by o_law) (cI (fun B=>?_) fun B=>?_))
   ·have B:=of_decide_eq_true B;exact k9 {rfl,_,_,rfl,(by o_law),(by o_law),G,fun i T i2=>nr B (m _ _ (by lia) (by lia) (by lia)),(by o_law)}
   ·have B:¬_:=fun z=>B (decide_eq_true z);exact k9 {rfl,_,_,rfl,(by o_law),o,fun i T=>O7 (m (lo+i) (lo+(l+r)/2) (by lia) (by o_law) (by o_law)) (iy.mp B),D,(by o_law)}
  ·rintro c g ⟨rfl,l,r,rfl,N,o,G,D,v5⟩;exact {rfl,l,r,rfl,(by o_law),o,G,D}
  ·rintro c g ⟨rfl,l,r,rfl,N,o,G,D⟩;subst N;have hk:lo+k<(arrOf g).size:=by lia
   refine j4 (P9 (k9 {rfl,C.set (Al hk o D),K,fun p q p1 p2 p3=>?_,fun q Z=>?_}))
   ·show kv κ (wo (arrOf g) (lo+k) (lo+k-(lo+l))) p<=kv κ (wo (arrOf g) (lo+k) (lo+k-(lo+l))) q;rw[KD hk o,KD hk o];by_cases O:p=lo+l
    ·rw[if_pos O];by_cases H:q=lo+l
     ·rw[if_pos H];exact L0 _
     ·rw[if_neg H,if_pos (by lia)];have:=D (q-1-lo) (by lia) (by lia);rw[show lo+(q-1-lo)=q-1 by lia]at this;exact R8 this
    ·rw[if_neg O];by_cases P:lo+l<p/\p<=lo+k
     ·rw[if_pos P,if_neg (by lia),if_pos (by lia)];exact m _ _ (by lia) (by lia) (by lia)
     ·rw[if_neg P];by_cases H:q=lo+l
      ·rw[if_pos H];have:=G (p-lo) (by lia);rw[show lo+(p-lo)=p by lia]at this;exact this
      ·rw[if_neg H];by_cases R:lo+l<q/\q<=lo+k
       ·rw[if_pos R];exact m _ _ (by lia) (by lia) (by lia)
       ·rw[if_neg R];exact m _ _ (by lia) (by lia) (by lia)
   ·show kv κ (wo (arrOf g) (lo+k) (lo+k-(lo+l))) q=_;rw[KD hk o,if_neg (by lia),if_neg (by lia)];exact J q Z
 ·rintro c f ⟨rfl,C,K,m,J⟩;rw[show max (max ok 1) n=n by lia]at m;exact {rfl,C,K,m,J}
 ·rintro c f ⟨rfl,C,K,m,J⟩;exact k9 (h _ C K m J)
def ST(U:ZT prog w a₀ κ){st:B3}{Q:Unit->B3->Prop}(hB:qE κ a₀ st)(hp:pendingOf st=#[])(h:∀b,qE κ a₀ b->IS κ (arrOf b).toList->Q () b):wpS (j8 prog w) A E s sortRuns' Q st:=by
 refine j4 (W9 ?_);have h':=hB.sz;refine j4 (O9 (E1 (I:=fun x c b=>∃lo,c=(none,lo)/\qE κ a₀ b/\oJ κ (arrOf b) (pendingOf b).toList 0 lo/\lo<=a₀.size/\min x a₀.size<=lo) (Q:=fun c b=>∃lo,c=(none,lo)/\qE κ a₀ b/\oJ κ (arrOf b) (pendingOf b).toList 0 lo/\lo=a₀.size) ?_ ?_ {_,rfl,hB,by rw[hp];rfl,w4 _,by lia}) ?_)
 ·rintro x c a' _ _ ⟨lo,rfl,P,R,g3,gx⟩;have f':=P.sz;refine cI (fun hc=>k9 {lo,rfl,P,R,fb g3 (by have hc:(arrOf st).size<=lo:=hc;lia)}) fun h1=>?_;have g':lo<(arrOf st).size:=Nat.lt_of_not_le h1;refine j4 (SW U P (lo:=lo) (nrem:=(arrOf st).size-lo) (by lia) (by lia) fun m o G J N g7 Z b'=>?_);have K:∀(n:Nat)(g:B3),qE κ a₀ g->oJ κ (arrOf g) (pendingOf g).toList 0 lo->0<n->lo+n<=a₀.size->bO κ (arrOf g) lo (lo+n)->∃O,((none:Option Unit),lo+n)=(none,O)/\qE κ a₀ (setPending g ((pendingOf g).push (lo,n,0)))/\oJ κ (arrOf (setPending g ((pendingOf g).push (lo,n,0)))) (pendingOf (setPending g ((pendingOf g).push (lo,n,0)))).toList 0 O/\O<=a₀.size/\min (x+1) a₀.size<=O:=by
   intro n g i B W X C;refine {lo+n,rfl,{i.sb,i.kind,i.ok},?_,X,by lia};show oJ κ (arrOf g) ((pendingOf g).push (lo,n,0)).toList 0 (lo+n);rw[L6];exact B.add W C
  have c2:oJ κ (arrOf o) (pendingOf o).toList 0 lo:=by rw[J];exact R.cong fun q _ Y=>b' q Y
  refine cI (fun h2=>?_) fun h2=>?_
  ·refine j4 (mj (L9 {rfl,?_}));have T:lo+min ((arrOf st).size-lo) (vv (arrOf st).size (arrOf st).size 0)<=a₀.size:=by lia
   have z3:m<=min ((arrOf st).size-lo) (vv (arrOf st).size (arrOf st).size 0):=by have:m<vv (arrOf st).size (arrOf st).size 0:=h2;lia
   have z2:0<min ((arrOf st).size-lo) (vv (arrOf st).size (arrOf st).size 0):=by lia
   refine j4 (SX U G T N z3 Z fun g g8 g9 H c'=>?_);refine cI (fun q=>nomatch q) fun _=>?_;have D:oJ κ (arrOf g) (pendingOf g).toList 0 lo:=by rw[g9];exact c2.cong fun q _ Y=>c' q Y
   refine j4 (W9 ?_);dsimp only;cases hb:(pendingOf g).back? with
  |none=>exact j4 (P9 (k9 (K _ _ g8 D z2 T H)))
  |some t=>
    obtain ⟨s1,n1,q⟩:=t;dsimp only;refine j4 (O9 (E1 (I:=fun _ c b=>c=(none,())/\qE κ a₀ b/\oJ κ (arrOf b) (pendingOf b).toList 0 lo/\bO κ (arrOf b) lo (lo+min ((arrOf st).size-lo) (vv (arrOf st).size (arrOf st).size 0))) (Q:=fun c b=>c=(none,())/\qE κ a₀ b/\oJ κ (arrOf b) (pendingOf b).toList 0 lo/\bO κ (arrOf b) lo (lo+min ((arrOf st).size-lo) (vv (arrOf st).size (arrOf st).size 0))) ?_ (fun _ _ h=>h) {rfl,g8,D,H}) ?_)
    ·rintro y c f _ _ ⟨rfl,i,B,C⟩;refine j4 (W9 ?_)
     try dsimp only
     by_cases hs:(pendingOf f).size>1
     ·obtain ⟨⟨s2,n2,S⟩,e⟩:∃x,(pendingOf f)[(pendingOf f).size-2]?=some x:={_,getElem?_pos _ _ (by lia)}
      rw[if_pos hs,e];dsimp only;refine cI (fun _=>k9 {rfl,i,B,C}) fun _=>?_;refine j4 (wJ U i B g3 (by show (pendingOf f).size-2+1<(pendingOf f).size;lia) fun e' W X _ k6=>?_);exact k9 {rfl,W,X,C.cong fun q q1 Y=>k6 q q1}
     ·rw[if_neg hs];exact k9 {rfl,i,B,C}
    ·rintro c f ⟨rfl,i,B,C⟩;dsimp only;refine j4 (P9 (j4 (P9 (k9 (K _ _ {i.sb,i.kind,i.ok} ?_ z2 T C)))));show oJ κ (arrOf f) ((pendingOf f).modify ((pendingOf f).size-1) _).toList 0 lo;rw[xv];exact B.mod _ _
  ·have z2:0<m:=by lia
   have T:lo+m<=a₀.size:=by lia
   have D:=c2;have H:=Z;refine j4 (W9 ?_);dsimp only;cases hb:(pendingOf o).back? with
  |none=>exact j4 (P9 (k9 (K _ _ G D z2 T H)))
  |some t=>
    obtain ⟨s1,n1,q⟩:=t;dsimp only;refine j4 (O9 (E1 (I:=fun _ c b=>c=(none,())/\qE κ a₀ b/\oJ κ (arrOf b) (pendingOf b).toList 0 lo/\bO κ (arrOf b) lo (lo+m)) (Q:=fun c b=>c=(none,())/\qE κ a₀ b/\oJ κ (arrOf b) (pendingOf b).toList 0 lo/\bO κ (arrOf b) lo (lo+m)) ?_ (fun _ _ h=>h) {rfl,G,D,H}) ?_)
    ·rintro y c f _ _ ⟨rfl,i,B,C⟩;refine j4 (W9 ?_)
     try dsimp only
     by_cases hs:(pendingOf f).size>1
     ·obtain ⟨⟨s2,n2,S⟩,e⟩:∃x,(pendingOf f)[(pendingOf f).size-2]?=some x:={_,getElem?_pos _ _ (by lia)}
      rw[if_pos hs,e];dsimp only;refine cI (fun _=>k9 {rfl,i,B,C}) fun _=>?_;refine j4 (wJ U i B g3 (by show (pendingOf f).size-2+1<(pendingOf f).size;lia) fun e' W X _ k6=>?_);exact k9 {rfl,W,X,C.cong fun q q1 Y=>k6 q q1}
     ·rw[if_neg hs];exact k9 {rfl,i,B,C}
    ·rintro c f ⟨rfl,i,B,C⟩;dsimp only;refine j4 (P9 (j4 (P9 (k9 (K _ _ {i.sb,i.kind,i.ok} ?_ z2 T C)))));show oJ κ (arrOf f) ((pendingOf f).modify ((pendingOf f).size-1) _).toList 0 lo;rw[xv];exact B.mod _ _
 ·rintro c a' ⟨lo,rfl,P,R,g3,gx⟩;exact {lo,rfl,P,R,by rw[show max 0 (arrOf st).size=a₀.size by lia]at gx;lia}
 ·rintro c a' ⟨lo,rfl,P,R,rfl⟩;refine j4 (O9 (E1 (I:=fun x c b=>c=(none,())/\qE κ a₀ b/\oJ κ (arrOf b) (pendingOf b).toList 0 a₀.size/\(pendingOf b).size+x<=a₀.size+1) (Q:=fun c b=>c=(none,())/\qE κ a₀ b/\oJ κ (arrOf b) (pendingOf b).toList 0 a₀.size/\(pendingOf b).size<=1) ?_ ?_ {rfl,P,R,by have:=R.len;rw[m6]at this;lia}) ?_)
  ·rintro x c o _ _ ⟨rfl,G,J,N⟩;refine j4 (W9 ?_);refine cI (fun hc=>k9 {rfl,G,J,hc}) fun h1=>?_;refine j4 (wJ U G J (k7 _) ?_ fun g g7 g8 g9 _=>?_)
   ·have h2:1<(pendingOf o).size:=Nat.lt_of_not_le h1;exact Lu h2
   ·exact k9 {rfl,g7,g8,by lia}
  ·rintro c o ⟨rfl,G,J,N⟩;exact {rfl,G,J,by rw[show max 0 (arrOf st).size=a₀.size by lia]at N;lia}
  ·rintro c o ⟨rfl,G,J,N⟩;refine k9 (h _ G (bO.all ?_));have d':=G.sz;rw[←m6]at N
   match hl:(pendingOf o).toList,J,N with
  |[],J,_=>
    intro p q _ _ q3;have:0=a₀.size:=J;lia
  |[t],⟨_,_,sg,e⟩,_=>
    have e:0+t.2.1=a₀.size:=e;rw[d',←e];exact sg
  |_::_::_,_,N=>simp at N
end
end L2
namespace L2
open PySem PySem.Spec PyProof.Rows PySem.W
noncomputable def kN(p:j9):Int:=numOf p.1
def Vd{prog:m9}{w:w6}{b:Array f9}{vs:List f9}{kz:List Int}(hk:X3 b.toList kz):ZT prog w (b.zip vs.toArray) kN:=by intro A E s st x y Q c i o q;obtain ⟨n,t,f⟩:=ksk_intKeys (vs:=vs) hk _ i;obtain ⟨m,u,g⟩:=ksk_intKeys (vs:=vs) hk _ o;unfold kN at q;rw[f,g]at q;rw[lt'_eq];refine j4 (W9 ?_);rw[c,keyLt'_oneType,f,g];refine j4 (mj (iu (oneLt_int {rfl,?_})));exact k9 q
noncomputable def Sq{α:Type}(r l:List (Int×α)):Prop:=r.Perm l/\r.Pairwise (fun p q=>p.1<=q.1)/\∀z,r.filter (fun p=>decide (p.1=z))=l.filter fun p=>decide (p.1=z)
noncomputable def Te(kz:List Int)(vs out:List f9):Prop:=∃ps:List (Int×f9),Sq ps (kz.zip vs)/\out=ps.map xn
def gK{l:List j9}(h:l.length<2):IS kN l:=by
 unfold IS;cases l with
|nil=>exact .nil
|cons a t=>
  cases t with
 |nil=>exact .cons (fun _ z=>nomatch z) .nil
 |cons b t=>exact absurd h (by show ¬t.length+2<2;lia)
def Ll{b:Array f9}{vs:List f9}{kz:List Int}(hk:X3 b.toList kz){xs:Array j9}(hp:jE kN xs.toList (b.zip vs.toArray).toList)(hs:IS kN xs.toList):Te kz vs (xs.map (·.2)).toList:=by
 have e:(b.zip vs.toArray).toList.map (fun p:j9=>(numOf p.1,p.2))=kz.zip vs:=by rw[ksk_zip,←hk.nums,List.zip_map_left];exact List.map_congr_left fun ⟨x,y⟩ _=>rfl
 refine {xs.toList.map (fun p:j9=>(numOf p.1,p.2)),{?_,P5.mpr hs,fun z=>?_},by rw[Array.toList_map,R5];rfl}
 ·rw[←e];exact hp.perm.map _
 ·rw[←e,X7,X7];exact congrArg _ (hp.ord z)
section
variable {prog:m9}{w:w6}{A:B2}{E:f9->i6->Prop}{s:i6}{h₀:C3}{L:g6}{m:Str->Option f9}{news:List (g6×Obj)}{a kS:g6}{vs:List f9}{kz:List Int}{keys:Array f9}{e e1:Nat}{P:PySem.Fin->i6->Prop}
def GB{st:B3}(F:Fr h₀ L s.heap m)(N:wy h₀ L s.heap (news++[(kS,seqObj "list" keys e),(a,seqObj "list" #[] e1)]))(H:kS≠a)(J:∀p∈news,p.1≠kS)(I:∀p∈news,p.1≠a)(hk:X3 keys.toList kz)(O:kz.length=vs.length)(hn:vs.length<=1000)(hp:jE kN (arrOf st).toList (keys.zip vs.toArray).toList)(hs:IS kN (arrOf st).toList)(G:failedOf st=none)(h:∀h' tk out c,Fr h₀ L h' m->wy h₀ L h' ((a,seqObj "list" out c)::news)->Te kz vs out.toList->P (.done (.ret .none)) {s with heap:=h',toks:=tk}):
  j0 (j8 prog w) A (ksk_tail a false e1 (.ref kS) st) P E s:=by
 have K:=N (kS,seqObj "list" keys e) (x9 _ (.head _));have B:=N (a,seqObj "list" #[] e1) (x9 _ (.tail _ (.head _)));have i:keys.size=vs.length:=by have:=hk.length;rw[m6]at this;lia
 have g:=Ll (vs:=vs) hk hp hs;have f:((arrOf st).map (·.2)).size=vs.length:=by rw[Array.size_map,←m6,hp.perm.length_eq,m6,Array.size_zip,i,l8,mw]
 unfold ksk_tail;simp only[J6,if_false];generalize (arrOf st).map (·.2)=o at g f⊢;have M:=E8 s.heap kS (A8 fun _=>(#[]:Array f9));have b:(s.heap.update kS (A8 fun _=>(#[]:Array f9))).get? a=some (seqObj "list" #[] e1):=(M.2 a H.symm).trans B.1;have Q:=E8 (s.heap.update kS (A8 fun _=>(#[]:Array f9))) a (A8 fun _=>o);obtain ⟨C,D⟩:∃C,((s.heap.update kS (A8 fun _=>(#[]:Array f9))).update a (A8 fun _=>o)).get? a=some (seqObj "list" o C):={_,uz b fun _=>o}
 refine e9 (qf K.1 rfl ?_ (by rw[i,B8];lia) (w4 _));refine e9 (wpAny_letGo (e9 (seqEpoch_at b rfl ?_)));refine e9 (qf b rfl ?_ (w4 _) (B9 (jq f) (by rw[B8];lia)));rw[G];simp only[bne_self_eq_false,J6,if_false];refine i8 (h _ _ _ C (ksk_fr (ksk_fr F M K.2.1 K.2.2) Q B.2.1 B.2.2) (fun p hp=>?_) g);rcases x6.mp hp with rfl|hp
 ·exact {D,B.2}
 ·exact zy (zy (fun q R=>N q (D3 _ R)) M J) Q I p hp
def Ag(F:Fr h₀ L s.heap m)(N:wy h₀ L s.heap (news++[(kS,seqObj "list" keys e),(a,seqObj "list" #[] e1)]))(i:kS≠a)(B:∀p∈news,p.1≠kS)(o:∀p∈news,p.1≠a)(hk:X3 keys.toList kz)(f:kz.length=vs.length)(hn:vs.length<=1000)(h:∀h' tk out c,Fr h₀ L h' m->wy h₀ L h' ((a,seqObj "list" out c)::news)->Te kz vs out.toList->P (.done (.ret .none)) {s with heap:=h',toks:=tk}):
  j0 (j8 prog w) A (ksk_end a false vs.toArray e1 (.ref kS) keys) P E s:=by
 have C:keys.size=vs.length:=by have:=hk.length;rw[m6]at this;lia
 unfold ksk_end;simp only[J6,if_false];by_cases g:vs.toArray.size<2
 ·rw[if_pos g,if_pos g];refine e9 (i8 ?_);rw[StateT.run_pure];refine e9 (i8 ?_);exact GB (st:=lj general' (keys.zip vs.toArray) #[] 7 none) F N i B o hk f hn (jE.refl _) (gK (by rw[m6,Array.size_zip];lia)) rfl h
 ·rw[if_neg g,if_neg g];rw[l8]at g;rw[ksk_kind hk (by rw[C];lia)];refine e9 (i8 ?_);refine e9 (K0 (ST (Vd hk) (st:=lj mq (keys.zip vs.toArray) #[] 7 none) (Q:=fun _ b=>qE kN (keys.zip vs.toArray) b/\IS kN (arrOf b).toList) {jE.refl _,rfl,rfl} rfl fun b q r=>{q,r}) ?_ fun _ _ e=>e);rintro ⟨⟨⟩,b⟩ D ⟨rfl,hp,hs⟩;exact GB F N i B o hk f hn hp.sb hs hp.ok h
def UV(F:Fr h₀ L s.heap m)(N:wy h₀ L s.heap (news++[(kS,seqObj "list" #[] 0),(a,seqObj "list" #[] e1)]))(B:kS≠a)(G:∀p∈news,p.1≠kS)(R:∀p∈news,p.1≠a)(D:kz.length=vs.length)(hn:vs.length<=1000)
  (I:∀(i:Nat)(v:f9)(k:Int),vs[i]?=some v->kz[i]?=some k->∀(h:C3)(tk:Nat)(own:List (g6×Obj)),Fr h₀ L h m->wy h₀ L h (news++own) ->
   j0 (j8 prog w) A (jt f [v]) (KskEnd h₀ L m (news++own) k {s with heap:=h,toks:=tk}) (fun _ _=>False) {s with heap:=h,toks:=tk})
  (h:∀h' tk out c,Fr h₀ L h' m->wy h₀ L h' ((a,seqObj "list" out c)::news)->Te kz vs out.toList->P (.done (.ret .none)) {s with heap:=h',toks:=tk}) :
  j0 (j8 prog w) A (ksk_rest a f false vs.toArray e1 (.ref kS)) P E s:=by
 unfold ksk_rest;refine e9 (L9 ?_)
 first
 |rw[List.forIn_toArray]
 |(rw[←fy];simp only[List.toList_toArray])
 |rw[←fy]
 refine e9 (ksk_fold (fun i S=>∃h' tk b e,S={s with heap:=h',toks:=tk}/\Fr h₀ L h' m/\wy h₀ L h' (news++[(kS,seqObj "list" b e),(a,seqObj "list" #[] e1)])/\X3 b.toList (kz.take i)) vs 0 s
  {s.heap,s.toks,#[],0,rfl,F,N,by simpa using X3.nil} ?step ?done)
 case step=>
  rintro j x S U ⟨h',tk,b,e,rfl,K,J,hk⟩;rw[ji]at hk;rw[ji];have hj:j<vs.length:=(i5.mp U).1;obtain ⟨k,C⟩:∃k,kz[j]?=some k:={_,i7 (by lia)}
  have hz:b.size<=vs.length:=by have h1:=hk.length;rw[m6,V8]at h1;lia
  refine e9 (iu (K0 (I j x k U C h' tk _ K J) (fun v a' he=>?_) fun _ _ hF=>hF.elim));obtain ⟨g,b',H,rfl,rfl,X,M⟩:=he
  try dsimp only
  have o:=M (kS,seqObj "list" b e) (x9 _ (.head _));have W:=M (a,seqObj "list" #[] e1) (x9 _ (.tail _ (.head _)));have T:=E8 g kS (A8 (·.push (.int k H)));obtain ⟨O,Q⟩:∃O,(g.update kS (A8 (·.push (.int k H)))).get? kS=some (seqObj "list" (b.push (.int k H)) O):={_,uz o.1 (·.push (.int k H))}
  refine e9 (qf o.1 rfl ?_ (by rw[B8];lia) (B9 (jq (Array.size_push ..)) (by rw[B8];lia)));refine i8 {rfl,_,_,b.push (.int k H),O,rfl,ksk_fr X T o.2.1 o.2.2,fun p hp=>?_,by rw[L6,Y9,C];exact ksk_snoc hk};rcases u9.mp hp with hp|hp
  ·exact zy (fun q hq=>M q (D3 _ hq)) T G p hp
  ·rcases x6.mp hp with rfl|hp
   ·exact {Q,o.2}
   ·rw[i9.mp hp];exact {(T.2 a B.symm).trans W.1,W.2}
 case done=>
  rintro S ⟨h',tk,b,e,rfl,K,J,hk⟩;rw[show kz.take (0+vs.length)=kz from D2 (by lia)]at hk;have o:=J (kS,seqObj "list" b e) (x9 _ (.head _))
  try dsimp only
  refine e9 (listItems_at o.1 rfl ?_);exact Ag K J B G R hk D hn fun h3 ZM out c Y Z k3=>h h3 ZM out c Y Z k3
def UU(F:Fr h₀ L s.heap m)(N:wy h₀ L s.heap news)(H:s.heap.get? a=some (seqObj "list" vs.toArray n))(o:a≠L)(g:h₀.get? a=none)(C:∀p∈news,p.1≠a)(B:kz.length=vs.length)(hn:vs.length<=1000)
  (G:∀(i:Nat)(v:f9)(k:Int),vs[i]?=some v->kz[i]?=some k->∀(h:C3)(tk:Nat)(own:List (g6×Obj)),Fr h₀ L h m->wy h₀ L h (news++own) ->
   j0 (j8 prog w) A (jt f [v]) (KskEnd h₀ L m (news++own) k {s with heap:=h,toks:=tk}) (fun _ _=>False) {s with heap:=h,toks:=tk})
  (h:∀h' tk out c,Fr h₀ L h' m->wy h₀ L h' ((a,seqObj "list" out c)::news)->Te kz vs out.toList->P (.done (.ret .none)) {s with heap:=h',toks:=tk}) :
  j0 (j8 prog w) A (ksk_tree a f false) P E s:=by
 have M:a<s.heap.objs.size:=p7 H;have K:=E8 s.heap a (A8 fun _=>(#[]:Array f9));obtain ⟨e1,D⟩:∃e1,(s.heap.update a (A8 fun _=>(#[]:Array f9))).get? a=some (seqObj "list" #[] e1):={_,uz H fun _=>#[]}
 have I:=ksk_fr F K o g;have J:=zy N K C;have q:((s.heap.update a (A8 fun _=>(#[]:Array f9))).push (seqObj "tuple" vs.toArray 0)).objs.size=s.heap.objs.size+1:=by rw[qh,ip]
 have b:=(I.push (seqObj "tuple" vs.toArray 0)).ns.lt;unfold ksk_tree;refine e9 (listItems_at H rfl ?_);refine e9 (qf H rfl ?_ (by rw[l8,B8];lia) (w4 _));refine e9 (seqEpoch_at D rfl ?_);refine e9 (wpAny_newTuple ?_ (by show vs.length<=_;rw[B8];lia));refine e9 (xw (E9 ?_) (w4 _));refine UV (s:={s with heap:=((s.heap.update a (A8 fun _=>(#[]:Array f9))).push (seqObj "tuple" vs.toArray 0)).push (seqObj "list" #[] 0)}) (kS:=((s.heap.update a (A8 fun _=>(#[]:Array f9))).push (seqObj "tuple" vs.toArray 0)).objs.size)
  ((I.push _).push _) (fun p hp=>?_) (by rw[q];exact C6 (B5 M)) (fun p hp=>by rw[q];exact q7 (B5 (p7 (N p hp).1))) C B hn G h
 rcases u9.mp hp with hp|hp
 ·exact {i4 _ (i4 _ (J p hp).1),(J p hp).2}
 ·rcases x6.mp hp with rfl|hp
  ·exact {o0 _ rfl,C6 b,xu (B9 F.above (M5 b))}
  ·rw[i9.mp hp];exact {i4 _ (i4 _ D),o,g}
end
end L2
namespace L2
open PySem PySem.Spec PyProof.Rows
noncomputable abbrev Li(q1 q2 q3:Pos):D9:=.Subscript (.Name "pair" q1) (.Constant (.int 0) 0 q2) q3
noncomputable abbrev Lh(q0:Pos):Arguments:={posonlyargs:=[],args:=[{arg:="pair",annotation:=none,pos:=q0}],vararg:=none,kwonlyargs:=[],kw_defaults:=[],kwarg:=none,defaults:=[]}
noncomputable abbrev ZP:di:={kind:=.function,names:=[("pair",.local)],isGenerator:=false,isCoroutine:=false,more:=[]}
section
variable {prog:m9}{w:w6}{A:B2}{s:i6}
def XS(i:A.depth<mm)(D:s.heap.NoLimit)(H:s.heap.get? f=some (kla_obj name qual (Lh q0) (Li q1 q2 q3) ZP [] pm c ct))(G:s.heap.CodeRec (.ref c) qual)(I:xf s.heap r #[x,y]):
  j0 (j8 prog w) A (jt (.ref f) [.ref r]) (fun v K=>v=x/\∃h' tk,K={s with heap:=h',toks:=tk}/\∀b o,s.heap.get? b=some o->h'.get? b=some o) E s:=by
 refine wf (PySem.W.kla_callFunE i H rfl rfl rfl rfl G ?_);rw[show wq (kla_fn name qual (Lh q0) (Li q1 q2 q3) ZP [] pm (.ref c) ct) {[.ref r],[]}=(L3 [("pair",n9 r)]:Sem (List (Str×f9))) from rfl];refine i8 (zl (show ∀x∈ZP.names,x.2≠fj.cell by decide) (fun x J=>by rw[i9.mp J];rfl) (fun g B C=>?_) rfl);have hk:∀b o,s.heap.get? b=some o->g.get? b=some o:=fun b o e=>C.extBut b o (q7 (p7 e)) (i4 _ e);refine {D.keeps hk,PySem.W.kla_codeExpr ?_};refine qm (wg (zn rfl rfl B rfl ?_) (by decide));refine wpAny_Constant_int ?_;have m:xf g r #[x,y]:=let ⟨o,e,q⟩:=I;{o,hk _ _ e,q};refine kf (x:=x) m.typeIs slot_tuple_getitem.lookup (getItem_tuple (j:=0) m (by decide) (by decide) rfl rfl {rfl,rfl,g,_,rfl,hk}) rfl
end
noncomputable abbrev Tv(h:C3)(z TI TO:g6)(f0:f9)(b:Bool):Prop:=h.get? z=some {cls:=.type "zip",dict:=none,data:=.fields #[f0,.bool b,.bool false,.ref TI,.ref TO],slots:=#[]}
structure KZ(h:C3)(z TI TO i1 i2 l1 l2:g6)(k:Nat)(xs ys:Array f9):Prop where
 zp:∃f0 b,Tv h z TI TO f0 b/\((k=0/\f0=.none/\b=false)∨(1<=k/\∃(T:g6)(o:Obj),f0=D4 T/\h.get? T=some o/\T≠z/\T≠TO/\T≠i1/\T≠i2))
 ti:xg h TI (.ref i1) (.ref i2)
 to:∃a b,xg h TO a b
 p1:h.IsListIter i1 l1 k
 p2:h.IsListIter i2 l2 k
 q1:h.IsList l1 xs
 q2:h.IsList l2 ys
section
open Sem (wp)
variable {prog:m9}{w:w6}{A:B2}{E:f9->i6->Prop}{s:i6}{z TI TO i1 i2 l1 l2:g6}{k:Nat}{xs ys:Array f9}
def KZ.keep(Z:KZ h z TI TO i1 i2 l1 l2 k xs ys)(kp:∀b o,h.get? b=some o->h'.get? b=some o):KZ h' z TI TO i1 i2 l1 l2 k xs ys:=by
 obtain ⟨⟨q,i,G,g⟩,c,⟨a,b,f⟩,B,C,K,M⟩:=Z;refine {{q,i,kp _ _ G,?_},kp _ _ c,{a,b,kp _ _ f},B.at fun o e=>kp _ o e,C.at fun o e=>kp _ o e,K.at fun o e=>kp _ o e,M.at fun o e=>kp _ o e};rcases g with g|⟨H,T,J,m,D,I⟩
 ·exact .inl g
 ·exact .inr {H,T,J,m,kp _ _ D,I}
def Hi(b:s.heap.get? a=some o)(h:Q (some o) s):j0 (j8 prog w) A (loadIfAlive a) Q E s:=fun c p _=>by show wp _ _ (.loadIfAlive a .pure) _ _ _ _;rw[Sem.wp_loadIfAlive,b];exact h
def EQ{T:g6}{o:Obj}{b:Bool}{Q:Bool->i6->Prop}(f:Tv s.heap z TI TO (D4 T) b)(m:s.heap.get? T=some o)(k:∀h',h'.objs.size=s.heap.objs.size->(∀c o,c≠z->s.heap.get? c=some o->h'.get? c=some o)->Tv h' z TI TO (D4 T) true->Q false {s with heap:=h'}):j0 (j8 prog w) A (M8 (.ref z)) Q E s:=by
 unfold M8;refine e9 (im f rfl (x:=D4 T) rfl ?_);show j0 _ _ (loadIfAlive ((T:Int).toNat) >>= _) _ _ _;refine e9 (Hi (o:=o) (by rw[ic];exact m) ?_);rw[if_neg (by simp)];refine e9 (im f rfl (x:=.bool b) rfl ?_);cases b with
|true=>
  rw[if_neg (by decide)];exact i8 (k _ rfl (fun _ _ _ e=>e) f)
|false=>rw[if_pos (by decide)];exact e9 (wpAny_setField_rec f (by simp) fun q g i=>i8 (k q i.1 (fun c o n e=>i.extBut _ _ n e) g))
def SR{Q:f9->i6->Prop}(D:jv z TI TO i1 i2 l1 l2)(Z:KZ s.heap z TI TO i1 i2 l1 l2 k xs ys)(hx:xs[k]?=some x)(hy:ys[k]?=some y)
  (hQ:∀h',KZ h' z TI TO i1 i2 l1 l2 (k+1) xs ys->xg h' s.heap.objs.size x y->h'.objs.size=s.heap.objs.size+1 ->
   (∀c o,c≠z->c≠TO->c≠i1->c≠i2->s.heap.get? c=some o->h'.get? c=some o)->Q (.ref s.heap.objs.size) {s with heap:=h'}) :
  j0 (j8 prog w) A (J0.«zip.__next__» {[.ref z],[]}) (fun O s'=>∃v,O=.done (.ret v)/\Q v s') E s:=by
 obtain ⟨⟨f0,b0,B,hf⟩,i,⟨a,b,m⟩,P,S,K,M⟩:=Z;have lz:=p7 B;have Y:=p7 m;have a':i1<s.heap.objs.size:=by obtain ⟨_,e,_⟩:=P;exact p7 e
 have b':i2<s.heap.objs.size:=by obtain ⟨_,e,_⟩:=S;exact p7 e
 have J:∀{c:g6},c<s.heap.objs.size->s.heap.objs.size≠c:=fun h=>C6 h;rcases hf with ⟨rfl,rfl,rfl⟩|⟨k1,T,oT,rfl,gT,I⟩
 ·refine zip_next_item D B i m P S K M hx hy fun h' a1 a2 a3 a4 a5 a6 G=>?_;exact hQ h' {{_,_,a1,.inr {k7 _,_,_,rfl,a5,J lz,J Y,J a',J b'}},G _ _ D.TIz D.TITO D.TIi1 D.TIi2 i,{_,_,a2},a3,a4,K.at fun o e=>G _ o D.l1z D.l1TO D.l1i1 D.l1i2 e,M.at fun o e=>G _ o D.l2z D.l2TO D.l2i1 D.l2i2 e} a5 a6 G
 ·show j0 _ _ (field (.ref z) 2 >>= _) _ _ _;refine e9 (im B rfl (x:=.bool false) rfl ?_);show j0 _ _ (field (.ref z) 3 >>= _) _ _ _;refine e9 (im B rfl (x:=.ref TI) rfl ?_);refine e9 (wpAny_seqItems i rfl ?_);show j0 _ _ (M8 (.ref z) >>= _) _ _ _;refine e9 (EQ B gT fun m0 e0 g X=>?_);rw[if_neg (by decide)];simp only[←fy,forIn_cons,List.forIn_nil];refine e9 (e9 (e9 (E9 ?_)));show j0 _ _ (X4 (.ref i1) >>= _) _ _ _;refine e9 (yo (P.at fun o e=>g _ o D.i1z e) (K.at fun o e=>g _ o D.l1z e) hx fun m1 R q=>i8 (i8 ?_));refine e9 (e9 (E9 ?_));show j0 _ _ (X4 (.ref i2) >>= _) _ _ _;refine e9 (yo (S.at fun o e=>q.extBut _ o D.i12.symm (g _ o D.i2z e)) (M.at fun o e=>q.extBut _ o D.l2i1 (g _ o D.l2z e)) hy fun f U H=>i8 (i8 (i8 ?_)));refine e9 (wpAny_newTuple (i8 {_,rfl,?_}) (by show 2<=n7;decide));have e2:f.objs.size=s.heap.objs.size:=by rw[H.1,q.1,e0]
  have up:∀c o,c≠z->c≠i1->c≠i2->s.heap.get? c=some o->(f.push {cls:=.type "tuple",data:=.seq #[x,y]}).get? c=some o:=fun c o n1 n2 n3 e=>i4 _ (H.extBut _ _ n3 (q.extBut _ _ n2 (g _ _ n1 e)));have W:xg (f.push {cls:=.type "tuple",data:=.seq #[x,y]}) f.objs.size x y:=o0 _ rfl;have C:Tv (f.push {cls:=.type "tuple",data:=.seq #[x,y]}) z TI TO (D4 T) true:=i4 _ (H.extBut _ _ D.i2z.symm (q.extBut _ _ D.i1z.symm X));have N:(f.push {cls:=.type "tuple",data:=.seq #[x,y]}).objs.size=f.objs.size+1:=L5 ..;show Q (.ref f.objs.size) {s with heap:=f.push {cls:=.type "tuple",data:=.seq #[x,y]}};have r1:(f.push {cls:=.type "tuple",data:=.seq #[x,y]}).IsListIter i1 l1 (k+1):=R.at fun o e=>i4 _ (H.extBut _ o D.i12 e);have r2:(f.push {cls:=.type "tuple",data:=.seq #[x,y]}).IsListIter i2 l2 (k+1):=U.at fun o e=>i4 _ e;generalize f.push {cls:=.type "tuple",data:=.seq #[x,y]}=m3 at up W C N r1 r2 ⊢;rw[e2]at W N ⊢;exact hQ m3 {{_,_,C,.inr {Nat.succ_pos _,T,oT,rfl,up _ _ I.1 I.2.2.1 I.2.2.2 gT,I}},up _ _ D.TIz D.TIi1 D.TIi2 i,{_,_,up _ _ D.TOz D.TOi1 D.TOi2 m},r1,r2,K.at fun o e=>up _ o D.l1z D.l1i1 D.l1i2 e,M.at fun o e=>up _ o D.l2z D.l2i1 D.l2i2 e} W N fun c o n1 _ n3 n4 e=>up c o n1 n3 n4 e
def ZW(C:A.handled=none)(D:jv z TI TO i1 i2 l1 l2)(Z:KZ s.heap z TI TO i1 i2 l1 l2 k xs ys)(G:xs[k]?=none)(B:∀h' e,(∀c o,c≠z->c≠TO->c≠i1->c≠i2->s.heap.get? c=some o->h'.get? c=some o)->(∃o,h'.get? e=some o/\o.cls=.type "StopIteration")->E (.ref e) {s with heap:=h'}):
  j0 (j8 prog w) A (J0.«zip.__next__» {[.ref z],[]}) Q E s:=by
 obtain ⟨⟨X,U,i,O⟩,g,⟨a,b,m⟩,q,J,H,S⟩:=Z;rcases O with ⟨rfl,rfl,rfl⟩|⟨_,T,oT,rfl,K,nT⟩
 ·exact zip_next_end C D i g m q J H S (.inl G) B
 show j0 _ _ (field (.ref z) 2 >>= _) _ _ _;refine e9 (im i rfl (x:=.bool false) rfl ?_);show j0 _ _ (field (.ref z) 3 >>= _) _ _ _;refine e9 (im i rfl (x:=.ref TI) rfl (e9 (wpAny_seqItems g rfl ?_)));show j0 _ _ (M8 (.ref z) >>= _) _ _ _;refine e9 (EQ i K fun Y W f M=>?_);rw[if_neg (by decide)];simp only[←fy,forIn_cons,List.forIn_nil];refine e9 (e9 (e9 (E9 ?_)));show j0 _ _ (X4 (.ref i1) >>= _) _ _ _;refine e9 (wpAny_nextOf_list_end C (q.at fun o e=>f _ o D.i1z e) (H.at fun o e=>f _ o D.l1z e) G fun P e I N=>?_);exact B P e (fun c o R _ n3 _ x=>I _ _ n3 (f _ _ R x)) N
def HK(D:jv z TI TO i1 i2 l1 l2)(Z:KZ s.heap z TI TO i1 i2 l1 l2 k xs ys)(C:xs[k]?=some x)(G:ys[k]?=some y)
  (B:∀h',KZ h' z TI TO i1 i2 l1 l2 (k+1) xs ys->xg h' s.heap.objs.size x y->h'.objs.size=s.heap.objs.size+1 ->
   (∀c o,c≠z->c≠TO->c≠i1->c≠i2->s.heap.get? c=some o->h'.get? c=some o)->Q (some (.ref s.heap.objs.size)) {s with heap:=h'}) :
  j0 (j8 prog w) A (S9 (.ref z)) Q E s:=by
 have b:s.TypeIs (.ref z) "zip":=by obtain ⟨⟨I,H,q,J⟩,_⟩:=Z;exact {_,q,rfl}
 unfold S9;refine e9 (iu (jl (name:=K5 "__next__") b fk (P7 fk b F.entry_zip_next ?_ (F.args_zip_next_1 _))));exact SR D Z C G fun h' f g i m=>i8 (B h' f g i m)
def JX(B:A.handled=none)(D:jv z TI TO i1 i2 l1 l2)(Z:KZ s.heap z TI TO i1 i2 l1 l2 k xs ys)(G:xs[k]?=none)(i:∀h',(∀c o,c≠z->c≠TO->c≠i1->c≠i2->s.heap.get? c=some o->h'.get? c=some o)->Q none {s with heap:=h'}):j0 (j8 prog w) A (S9 (.ref z)) Q E s:=by
 have f:s.TypeIs (.ref z) "zip":=by obtain ⟨⟨I,H,g,J⟩,_⟩:=Z;exact {_,g,rfl}
 unfold S9;refine e9 (iu (jl (name:=K5 "__next__") f fk (P7 fk f F.entry_zip_next ?_ (F.args_zip_next_1 _))));refine ZW B D Z G fun h' e kp q=>?_;obtain ⟨o,C,m⟩:=q;exact e9 (jk (T:="StopIteration") (b:=true) {o,C,m} isSubtype_stop (i8 (i _ kp)))
noncomputable def OX(xs ys:Array f9)(n0:Nat)(h:C3)(ts:List g6):Prop:=ts.Nodup/\∀(j:Nat)(t:g6),ts[j]?=some t->n0<=t/\∃x y,xs[j]?=some x/\ys[j]?=some y/\xg h t x y
def ZX{R:Result->i6->Prop}{n0:Nat}(hh:A.handled=none)(D:jv z TI TO i1 i2 l1 l2)(m:S≠z/\S≠TI/\S≠TO/\S≠i1/\S≠i2/\S≠l1/\S≠l2)(hl:xs.size=ys.size)(hz:xs.size<=1000)(f:z<n0/\TO<n0/\i1<n0/\i2<n0/\S<n0):
  ∀(n i:Nat)(h:C3)(tk:Nat)(g:Array f9)(c:Nat)(C:List g6),xs.size-i=n->i<=xs.size->n0<=h.objs.size->KZ h z TI TO i1 i2 l1 l2 i xs ys->h.get? S=some {cls:=.type "list",dict:=none,data:=.seq g c,slots:=#[]}->g.toList=C.map n9->C.length=i->OX xs ys n0 h C ->
   (∀b o,s.heap.get? b=some o->b≠z->b≠TO->b≠i1->b≠i2->b≠S->h.get? b=some o) ->
   (∀h' f' G c' K,h'.get? S=some {cls:=.type "list",dict:=none,data:=.seq G c',slots:=#[]}->G.toList=K.map n9->K.length=xs.size->OX xs ys n0 h' K ->
    (∀b o,s.heap.get? b=some o->b≠z->b≠TO->b≠i1->b≠i2->b≠S->h'.get? b=some o)->R (.ok (.ret res)) {s with heap:=h',toks:=f'}) ->
   X2 (j8 prog w) A (.builtin "list.extend.loop" {[.ref S,.ref z,res],[]}) R {s with heap:=h,toks:=tk}:=by
 intro n
 induction n with
|zero=>
  intro i h tk g c C hn hi J Z hS N X hp kp hR;have:i=xs.size:=by lia
  subst this;refine C1 zk ?_;rw[z9 R4 _];show j0 _ A.in1 (S9 (.ref z) >>= _) _ _ _;refine e9 (JX (by simpa using hh) D Z (by simp) fun h' eb=>?_);have up:∀t,n0<=t->t≠z/\t≠TO/\t≠i1/\t≠i2:=fun t q=>{C6 (j3 f.1 q),C6 (j3 f.2.1 q),C6 (j3 f.2.2.1 q),C6 (j3 f.2.2.2.1 q)}
  refine i8 (hR h' tk g c C (eb _ _ m.1 m.2.2.1 m.2.2.2.1 m.2.2.2.2.1 hS) N X {hp.1,fun j t e=>?_} fun b o e U n2 n3 n4 n5=>eb b o U n2 n3 n4 (kp b o e U n2 n3 n4 n5));obtain ⟨q,x,y,M,e2,O⟩:=hp.2 j t e;obtain ⟨u1,u2,u3,u4⟩:=up t q;exact {q,x,y,M,e2,eb _ _ u1 u2 u3 u4 O}
|succ n ih=>
  intro i h tk g c C hn hi J Z hS N X hp kp hR;have Q:i<xs.size:=by lia
  refine C1 zk ?_;rw[z9 R4 _];show j0 _ A.in1 (S9 (.ref z) >>= _) _ _ _;obtain ⟨x,hx⟩:∃v,xs[i]?=some v:={_,K6 Q}
  obtain ⟨y,hy⟩:∃v,ys[i]?=some v:={_,K6 (show i<ys.size by lia)}
  refine e9 (HK D Z hx hy fun h' Z' gp W Y=>?_);dsimp only at Z' gp W Y;have I:h'.get? S=_:=Y _ _ m.1 m.2.2.1 m.2.2.2.1 m.2.2.2.2.1 hS;have H:g.size=i:=by rw[←m6,N,j6,X]
  show j0 _ A.in1 (jm S (·.push (.ref h.objs.size)) >>= _) _ _ _;refine e9 ?_;have up:∀t,n0<=t->t≠z/\t≠TO/\t≠i1/\t≠i2/\S≠t:=fun t q=>{C6 (j3 f.1 q),C6 (j3 f.2.1 q),C6 (j3 f.2.2.1 q),C6 (j3 f.2.2.2.1 q),q7 (j3 f.2.2.2.2 q)}
  have e':(C++[h.objs.size]).Nodup:=Z3.mpr {hp.1,by simp,fun a N b hb e=>by
   rw[i9.mp hb]at e;obtain ⟨j,P⟩:=N9 N;obtain ⟨_,_,_,_,_,O⟩:=hp.2 j a P;exact q7 (p7 O) e}
  have B:∀b o,b≠S->h'.get? b=some o->(h'.update S (A8 (·.push (.ref h.objs.size)))).get? b=some o:=fun b o n e=>(D5 _ _ (u7 n)).trans e;have Z2:KZ (h'.update S (A8 (·.push (.ref h.objs.size)))) z TI TO i1 i2 l1 l2 (i+1) xs ys:=by
   obtain ⟨⟨f0,b0,gz,hf⟩,a',⟨a,b,b'⟩,g1,g2,t1,t2⟩:=Z';refine {{f0,b0,B _ _ m.1.symm gz,?_},B _ _ m.2.1.symm a',{a,b,B _ _ m.2.2.1.symm b'},g1.at fun o e=>B _ o m.2.2.2.1.symm e,g2.at fun o e=>B _ o m.2.2.2.2.1.symm e,t1.at fun o e=>B _ o m.2.2.2.2.2.1.symm e,t2.at fun o e=>B _ o m.2.2.2.2.2.2.symm e};rcases hf with ⟨h0,_⟩|⟨h1,T,oT,M,gT,nT⟩
   ·exact absurd h0 (Nat.succ_ne_zero _)
   ·by_cases eT:T=S
    ·subst eT;exact .inr {h1,T,_,M,J1 _ I rfl,nT}
    ·exact .inr {h1,T,oT,M,B _ _ eT gT,nT}
  refine U2 I rfl (i8 {F0 R4 _,ih (i+1) _ tk (g.push (.ref h.objs.size)) _ (C++[h.objs.size]) (by lia) Q (by rw[ip,W];lia) Z2 (J1 _ I rfl) (by rw[L6,N,B6];rfl) (by simp[X]) {e',fun j t e=>?_} (fun b o e U n2 n3 n4 n5=>B _ _ n5 (Y b o U n2 n3 n4 (kp b o e U n2 n3 n4 n5))) hR})
   (by rw[H,B8];lia) (by show (g.push (.ref h.objs.size)).size<=n7+1;rw[Array.size_push,H,B8];lia)
  rcases F8 j C.length with P|P
  ·rw[K7 P]at e;obtain ⟨q,x',y',M,e2,O⟩:=hp.2 j t e;obtain ⟨u1,u2,u3,u4,u5⟩:=up t q;exact {q,x',y',M,e2,B _ _ u5.symm (Y _ _ u1 u2 u3 u4 O)}
  ·rw[C8 P]at e;have d':j-C.length=0:=by
    rcases Nat.eq_zero_or_pos (j-C.length) with z0|z0
    ·exact z0
    ·rw[S5 (by simp only[jg];exact z0)]at e;cases e
   rw[d']at e;cases e;have:j=i:=by lia
   subst this;exact {J,x,y,hx,hy,B _ _ (up _ J).2.2.2.2.symm gp}
def IX:ke (.type "zip") "__len__"=L3 none:=by rw[gh,U8];kernel_rfl
def EO:ke (.type "zip") "__length_hint__"=L3 none:=by rw[gh,U8];kernel_rfl
def IF(hh:A.handled=none)(D:jv z TI TO i1 i2 l1 l2)(Z:KZ s.heap z TI TO i1 i2 l1 l2 0 xs ys)(hl:xs.size=ys.size)(hz:xs.size<=1000)(h:∀h' tk ts,s.heap.objs.size<=h'.objs.size->ts.length=xs.size->OX xs ys s.heap.objs.size h' ts->(∀b o,s.heap.get? b=some o->b≠z->b≠TO->b≠i1->b≠i2->h'.get? b=some o)->Q (ts.map n9) {s with heap:=h',toks:=tk}):
  j0 (j8 prog w) A (ri (.ref z)) Q E s:=by
 unfold ri;refine e9 (ml (C1 ld ?_));rw[z9 lc _];show j0 _ A.in1 (yx [] >>= fun l=>again (.builtin "list.__iadd__" {[l,.ref z],[]})) _ _ s;refine e9 (M0 ?_);refine i8 {F0 U7 _,C1 qp ?_};rw[z9 U7 _];have B:∀b o,s.heap.get? b=some o->(s.heap.push {cls:=.type "list",data:=.seq ([]:List f9).toArray}).get? b=some o:=fun b o e=>i4 _ e;have f:(s.heap.push {cls:=.type "list",data:=.seq ([]:List f9).toArray}).get? s.heap.objs.size=some {cls:=.type "list",data:=.seq ([]:List f9).toArray}:=o0 _ rfl;have K:(s.heap.push {cls:=.type "list",data:=.seq ([]:List f9).toArray}).objs.size=s.heap.objs.size+1:=L5 ..;have Z1:=Z.keep B;have i:∀{c:g6}{o:Obj},s.heap.get? c=some o->s.heap.objs.size≠c:=fun e=>C6 (p7 e);obtain ⟨⟨f0,b0,I,hf⟩,J,⟨a,b,G⟩,⟨o1,R,r1⟩,⟨o2,T,r2⟩,⟨o3,X,r3⟩,⟨o4,Y,r4⟩⟩:=id Z;have h1:L7 (.ref s.heap.objs.size) (.ref z)=false:=by simp[L7,i I]
 have C:Y3 {s with heap:=s.heap.push {cls:=.type "list",data:=.seq ([]:List f9).toArray}} (.ref z) "zip":={_,B _ _ I,rfl}
 show j0 _ A.in1 (K8 (.ref s.heap.objs.size) (.ref z) (.ref s.heap.objs.size)) _ _ _;unfold K8;refine e9 (Y6 C ?_);rw[if_neg (by rw[h1];decide)];refine e9 (qx C F.slot_zip_iter (P7 F.slot_zip_iter C F.entry_zip_iter (show j0 _ _ (ret (.ref z)) _ _ _ from i8 {_,rfl,"zip",_,C,fk.lookup,?_}) (F.args_zip_iter_1 _)));refine e9 (E9 ?_);unfold O0;refine e9 (gg C IX ?_);show j0 _ A.in1 (specialOf (n9 z) (K5 "__length_hint__") >>= _) _ _ _;refine e9 (gg C EO ?_);refine i8 ?_;show j0 _ A.in1 (rule "list.extend.makes-room" >>= fun _=>J0.List.listTouch (.ref s.heap.objs.size) >>= fun _=>
  again (.builtin "list.extend.loop" {[.ref s.heap.objs.size,.ref z,.ref s.heap.objs.size],[]})) _ _ _
 refine e9 (L9 (e9 ?_));show j0 _ A.in1 (jm s.heap.objs.size (·.push .none) >>= fun _=>jm s.heap.objs.size (·.pop)) _ _ _;refine e9 (U2 f rfl ?_);have g:=J1 (A8 (·.push M7)) f rfl;refine U2 g rfl ?_;have m:=J1 (A8 (·.pop)) g rfl;have H:∀b o,s.heap.get? b=some o ->
   (((s.heap.push {cls:=.type "list",data:=.seq ([]:List f9).toArray}).update s.heap.objs.size (A8 (·.push M7))).update s.heap.objs.size (A8 (·.pop))).get? b=some o:=
  fun b o e=>(D5 _ _ (i e)).trans ((D5 _ _ (i e)).trans (B _ _ e))
 have M:(((s.heap.push {cls:=.type "list",data:=.seq ([]:List f9).toArray}).update s.heap.objs.size (A8 (·.push M7))).update s.heap.objs.size (A8 (·.pop))).objs.size=s.heap.objs.size+1:=by rw[ip,ip,K]
 refine i8 {F0 R4 _,?_};refine ZX (A:=A) (s:=s) (S:=s.heap.objs.size) (n0:=s.heap.objs.size+1) (by simpa using hh) D {i I,i J,i G,i R,i T,i X,i Y} hl hz {B5 (p7 I),B5 (p7 G),B5 (p7 R),B5 (p7 T),M3 _} xs.size 0 _ s.toks #[] _ [] rfl (w4 _) (by rw[M];exact k7 _) (Z.keep H) m rfl rfl {nodup_nil,fun j t e=>by simp at e} (fun b o e _ _ _ _ _=>H _ _ e) fun h' N P c' O U g2 g3 W g5=>?_;show j0 _ A (load s.heap.objs.size >>= _) _ _ _;refine e9 (ig U ?_);refine i8 ?_;rw[g2];exact h h' N O (M5 (p7 U)) g3 {W.1,fun j t e=>let ⟨q,r⟩:=W.2 j t e;{Nat.le_of_succ_le q,r}} fun b o e n1 n2 n3 n4=>g5 b o e n1 n2 n3 n4 (q7 (p7 e))
end
section
variable {prog:m9}{w:w6}{A:B2}{E:f9->i6->Prop}{s:i6}{z TI TO i1 i2 l1 l2:g6}{xs ys:Array f9}
def JG(hh:A.handled=none)(I:A.depth<mm)(g':∀h:C3,(∀b o,s.heap.get? b=some o->b≠L->b≠z->b≠TO->b≠i1->b≠i2->h.get? b=some o)->h.NoLimit)(hL:s.heap.Ns L m)(nL:L≠z/\L≠TO/\L≠i1/\L≠i2)(ho:s.heap.get? f=some (kla_obj name qual (Lh q0) (Li q1 q2 q3) ZP [] pm c ct))(hc:s.heap.CodeRec (.ref c) qual)(nf:f≠L/\f≠z/\f≠TO/\f≠i1/\f≠i2)(nc:c≠L/\c≠z/\c≠TO/\c≠i1/\c≠i2)(D:jv z TI TO i1 i2 l1 l2)(Z:KZ s.heap z TI TO i1 i2 l1 l2 0 xs ys)(hl:xs.size=ys.size)(d':xs.size<=1000)(hk:X3 xs.toList kz)
  (h:∀R h' tk out c' C ps,s.heap.objs.size<=R->h'.Ns L m->h'.get? R=some (seqObj "list" out c')->C.length=xs.size->OX xs ys s.heap.objs.size h' C->Sq (ps:List (Int×f9)) (kz.zip (C.map n9))->out.toList=ps.map xn->(∀t∈C,t≠R) ->
   (∀b o,s.heap.get? b=some o->b≠L->b≠z->b≠TO->b≠i1->b≠i2->h'.get? b=some o)->Q (.ref R) {s with heap:=h',toks:=tk}) :
  j0 (j8 prog w) A (jt (.builtin "sorted") [.ref z] [(K5 "key",.ref f)]) Q E s:=by
 refine call_function_entry_kw kind_sorted plain_sorted entry_sorted (ksk_s1 _ _) ?_;unfold J0.«sorted»;refine e9 (m:=checkCount "sorted" 1 1 _) (i8 ?_);refine e9 (IF (by simpa using hh) D Z hl (by lia) fun B a' C b' W hp kp=>?_);have J:(C.map n9).length=xs.size:=by rw[j6,W]
 refine e9 (xw ?_ (by rw[J,B8];lia));have U:(B.push (seqObj "list" (C.map n9).toArray 0)).get? B.objs.size=some (seqObj "list" (C.map n9).toArray 0):=o0 _ rfl;have Y:∀b o,B.get? b=some o->(B.push (seqObj "list" (C.map n9).toArray 0)).get? b=some o:=fun b o e=>i4 _ e;have S:B.Ns L m:=let ⟨o,es,G,e,r⟩:=hL;{o,es,G,kp _ _ e nL.1 nL.2.1 nL.2.2.1 nL.2.2.2,r};have M:∀{b:g6}{o:Obj},B.get? b=some o->b≠B.objs.size:=fun e=>q7 (p7 e);show j0 _ _ _ _ _ {s with heap:=B.push (seqObj "list" (C.map n9).toArray 0),toks:=a'};refine e9 (E9 (wpAny_call_entry_kw slot_list_sort {_,U,rfl} entry_list_sort ?body (ksk_l1 _ _)))
 case body=>
  show j0 (j8 prog w) A.in1.in1 (J0.«list.sort» {[.ref B.objs.size],[(K5 "key",.ref f)]}) _ _ _;rw[ksk_t1];have N1:wy (Att.noObjs s.heap) L (B.push (seqObj "list" (C.map n9).toArray 0)) (Att.ledger B L L):=fun ⟨b,o⟩ hb=>by obtain ⟨n1,_,e⟩:=Att.mem_ledger.mp hb;exact {Y _ _ e,n1,Att.noObjs_get _ _}
  have F1:Fr (Att.noObjs s.heap) L (B.push (seqObj "list" (C.map n9).toArray 0)) m:={let ⟨o,es,G,e,r⟩:=S;{o,es,G,Y _ _ e,r},fun b o e=>(by rw[Att.noObjs_get]at e;cases e),w4 _}
  have i':∀{h:C3}{own:List (g6×Obj)},wy (Att.noObjs s.heap) L h (Att.ledger B L L++own)->∀b o,B.get? b=some o->b≠L->h.get? b=some o:=fun N b o e n=>(N (b,o) (D3 _ (Att.mem_ledger.mpr {n,n,e}))).1;refine UU (s:={s with heap:=B.push (seqObj "list" (C.map n9).toArray 0),toks:=a'}) (h₀:=Att.noObjs s.heap) (L:=L) (m:=m) (news:=Att.ledger B L L) (kz:=kz) F1 N1 U (u7 (M S.choose_spec.choose_spec.choose_spec.1)) (Att.noObjs_get _ _) (fun ⟨b,o⟩ hb=>M (Att.mem_ledger.mp hb).2.2) (by rw[J,←hk.length,m6]) (by rw[J];exact d') ?turn fun h' tk out c' F' N' k'=>{_,rfl,?_}
  case turn=>
   intro i v kk hv f' g tk own Fg Ng;have T:=i' Ng;rw[t5]at hv;obtain ⟨t,ht,rfl⟩:=A9.mp hv;obtain ⟨P,x,y,O,ey,G⟩:=hp.2 i t ht;have tL:t≠L:=C6 (j3 hL.lt P);obtain ⟨H,rfl⟩:∃H,x=.int kk H:=by have:=hk.get (i:=i) (n:=kk) f';obtain ⟨H,e⟩:=this;rw[←x8]at O;rw[O]at e;exact {H,l7 e}
   have K:∀b o,s.heap.get? b=some o->b≠L->b≠z->b≠TO->b≠i1->b≠i2->g.get? b=some o:=fun b o e n1 n2 n3 n4 n5=>T _ _ (kp _ _ e n2 n3 n4 n5) n1;have e':g.CodeRec (.ref c) qual:=let ⟨c0,o,vs,H,e0,e1,e2⟩:=hc;{c0,o,vs,H,e0,(by cases e0;exact K _ _ e1 nc.1 nc.2.1 nc.2.2.1 nc.2.2.2.1 nc.2.2.2.2),e2};refine K0 (XS (A:=A.in1.in1) (s:={s with heap:=g,toks:=tk}) (E:=fun _ _=>False) I (g' g K) (K _ _ ho nf.1 nf.2.1 nf.2.2.1 nf.2.2.2.1 nf.2.2.2.2) e' ({_,T _ _ G tL,rfl,_,rfl}:xf g t #[.int kk H,y])) (fun v s' hq=>?_) fun _ _ q=>q;obtain ⟨rfl,h',j',rfl,X⟩:=hq;exact {h',j',H,rfl,rfl,Fg.kept X,Ng.grown X}
  ·obtain ⟨ps,p1,p2⟩:=k';have T:∀b o,B.get? b=some o->b≠L->h'.get? b=some o:=fun b o e n=>(N' (b,o) (E4 _ (Att.mem_ledger.mpr {n,n,e}))).1;refine i8 {_,rfl,h _ h' tk out c' C ps b' F'.ns (N' _ L8).1 W {hp.1,fun j t e=>?_} p1 p2 (fun t ht=>?_) fun b o e n1 n2 n3 n4 n5=>T _ _ (kp _ _ e n2 n3 n4 n5) n1}
   ·obtain ⟨P,x,y,O,ey,G⟩:=hp.2 j t e;exact {P,x,y,O,ey,T _ _ G (C6 (j3 hL.lt P))}
   ·obtain ⟨j,hj⟩:=N9 ht;obtain ⟨P,x,y,O,ey,G⟩:=hp.2 j t hj;exact M G
end
noncomputable def LG(c:g6)(qual:Str):HO:=.ext fun h=>h.CodeRec (.ref c) qual
def Dr(k:h.CodeRec (.ref c) qual):dJ P w H h c (LG c qual):=
 {k,(let ⟨_,o,_,_,b,f,_⟩:=k;{o,by cases b;exact f}),fun _ _ ⟨g,o,m,t,b,f,i⟩ kp=>{g,o,m,t,b,by cases b;exact kp _ f,i}}
noncomputable def ZN(pos:Pos)(c:g6):Array f9:=#[D4 pos.line,D4 pos.col,.ref c]
noncomputable def nR(T:g6)(pos:Pos)(qual:Str)(H:Hp):Prop:=H T=some (.tbl #[])∨∃c,H T=some (.tbl (ZN pos c))/\H c=some (LG c qual)
def nR.same(t:nR T pos qual H)(s:aK H H'):nR T pos qual H':=by
 rcases t with t|⟨c,t,u⟩
 ·exact .inl (s _ _ t)
 ·exact .inr {c,s _ _ t,s _ _ u}
noncomputable def zZ(mg:Str->Option f9)(h:C3):Prop:=∃bm o,mg "__builtins__"=some (.ref bm)/\bm≠qj/\bm≠C2/\h.get? bm=some o/\o.cls=.type "module"/\o.dict=some qj/\o.data=.plain
structure Tc(T:g6)(lp q0 q1 q2 q3:Pos)(qual:Str)(H:Hp)(g h:C3)(f c:g6):Prop where
 kp:∀b o,g.get? b=some o->b≠T->h.get? b=some o
 tb:h.get? T=some (wj (ZN lp c))
 fn:∃pm ct,h.get? f=some (kla_obj "<lambda>" qual (Lh q0) (Li q1 q2 q3) ZP [] pm c ct)
 cd:h.CodeRec (.ref c) qual
 fge:g.objs.size<=f
 cs:(H T=some (.tbl #[])/\g.objs.size<=c)∨(H T=some (.tbl (ZN lp c))/\H c=some (LG c qual))
def RT(b:Pos)(c:g6):codeAmong b (ZN b c).toList=some (.ref c):=by show (if ((b.line:Int)==b.line&&(b.col:Int)==b.col)=true then some (n9 c) else _)=_;rw[if_pos (by simp)]
def XR(I:aY X ag σ H s)(kp:∀b o,s.heap.get? b=some o->s2.heap.get? b=some o)(m:X.env.code=.ref c0)(hK:jr X.K c0 T=true)(B:zZ X.mg X.base)(D:qi ZP X.env=L3 [])(hq:X.env.qual++"<lambda>"=qual)(hT:nR T lp qual H)(k:∀f c h tk,Tc T lp q0 q1 q2 q3 qual H s2.heap h f c->Q (.ref f) {s2 with heap:=h,toks:=tk}):
  j0 (j8 X.prog X.w) X.A (K3 (.Lambda (Lh q0) (Li q1 q2 q3) ZP lp) X.env) Q E s2:=by
 subst hq;have P:∀b o,X.base.get? b=some o->s2.heap.get? b=some o:=fun b o e=>kp _ _ (I.bk b o e);have Z:s2.heap.Ns C2 X.mg:=I.mod.glob.keeps P;have C:CodeHd s2.heap c0 T:=(codeHd_of_K I.mod.kin hK).keeps P;have i:∃ps,H T=some (.tbl ps):=by
  rcases hT with t|⟨c,t,_⟩
  ·exact {_,t}
  ·exact {_,t}
 obtain ⟨Tp,i⟩:=i;have g:s2.heap.get? T=some (wj Tp):=kp _ _ (show s.heap.get? T=some _ from I.hok T _ i);have hb:s2.heap.BuiltinsAt X.mg T:=by
  obtain ⟨bm,o,b1,b2,b3,b4,b5⟩:=B;exact {bm,o,b1,b2,b3,fun e=>(by have:=(I.bs _ _ b4).2;rw[e,i]at this;cases this),P _ _ b4,b5}
 have R:C2≠T:=fun q=>by
  obtain ⟨o,es,ep,e,hd,_⟩:=Z;rw[q,g]at e;cases e;cases hd
 refine PySem.W.kla_eval rfl ?_;rcases hT with t|⟨c,t,u⟩
 ·have O:Tp=#[]:=by rw[t]at i;cases i;rfl
  subst O;refine PySem.W.kla_makeFunction (ps:=#[]) D I.ok.glob Z m C g trivial rfl R hb fun c' N h' tk M G S J Y=>?_;refine k _ c' _ tk {fun b o e n=>i4 _ (M b o n e),i4 _ Y,{_,N,o0 _ rfl},J.push _,?_,.inl {t,G}};exact B9 G (M5 S)
 ·have O:Tp=ZN lp c:=by rw[t]at i;cases i;rfl
  subst O;have hc:s2.heap.CodeRec (.ref c) (X.env.qual++"<lambda>"):=(show s.heap.CodeRec (.ref c) _ from (I.hok c _ u).1).keeps kp;refine PySem.W.kla_makeFunctionHit D I.ok.glob Z m C g trivial (RT lp c) hb fun N h' tk M U=>?_;exact k _ c _ tk {fun b o e n=>i4 _ (M b o e),i4 _ (M _ _ g),{_,N,o0 _ rfl},(hc.keeps M).push _,U,.inr {t,u}}
theorem YK{i m:Type}:∀{T:List (i×m)},(T.map (·.1)).Nodup->∀{p q:i×m},p∈T->q∈T->p.1=q.1->p=q
|t::T,o,p,q,hp,f,e=>by
  obtain ⟨g,n2⟩:=T4.mp o;rcases x6.mp hp with c|c
  ·rcases x6.mp f with b|b
   ·rw[c,b]
   ·exact absurd (show t.1∈T.map (·.1) by rw[←c,e];exact lm b) g
  ·rcases x6.mp f with b|b
   ·exact absurd (show t.1∈T.map (·.1) by rw[←b,←e];exact lm c) g
   ·exact YK n2 c b e
def Md{c f:Type}{T:List (c×f)}(q:(T.map (·.1)).Nodup){A:List (c×f)}:∀{B:List (c×f)},(∀p∈A,p∈T)->(∀p∈B,p∈T)->A.map (·.1)=B.map (·.1)->A=B:=by
 induction A with
|nil=>
  intro B _ _ e;cases B with
 |nil=>rfl
 |cons _ _=>cases e
|cons a A ih=>
  intro B g i e;cases B with
 |nil=>cases e
 |cons b B=>obtain ⟨m,o⟩:=U9 e;rw[YK q (g _ (.head _)) (i _ (.head _)) m,ih (fun p h=>g p (.tail _ h)) (fun p h=>i p (.tail _ h)) o]
def Db{c:Type}{f:g6×c->Int}{A:List (g6×c)}:∀{B:List (g6×c)},(A.map (fun p=>(f p,n9 p.1))=B.map fun p=>(f p,n9 p.1))->A.map (·.1)=B.map (·.1):=by
 induction A with
|nil=>
  intro B e;cases B with
 |nil=>rfl
 |cons _ _=>cases e
|cons a A ih=>
  intro B e;cases B with
 |nil=>cases e
 |cons b B=>obtain ⟨g,i⟩:=U9 e;rw[K1,K1,ih i,n9.inj (congrArg xn g)]
def sU{w A:Type}{g:w->A}:∀{l:List A}{m:List A},l.Perm m->∀{xs:List w},m=xs.map g->∃ys:List w,ys.Perm xs/\l=ys.map g:=by
 intro l m p
 induction p with
|nil=>intro xs e;exact {xs,.refl _,e}
|cons x p ih=>
  intro xs e;cases xs with
 |nil=>cases e
 |cons a xs=>
   obtain ⟨c,i⟩:=U9 e;obtain ⟨ys,q,f⟩:=ih i;exact {a::ys,q.cons a,by rw[f,c];rfl}
|swap x y l=>
  intro xs e;cases xs with
 |nil=>cases e
 |cons a xs=>
   cases xs with
  |nil=>cases e
  |cons b xs=>
    obtain ⟨c,f⟩:=U9 e;obtain ⟨i,B⟩:=U9 f;exact {b::a::xs,ku.swap _ _ _,by rw[c,i,B];rfl}
|trans p q o s=>intro xs e;obtain ⟨ys,C,c⟩:=s e;obtain ⟨E,D,f⟩:=o c;exact {E,D.trans C,f}
theorem BJ{c f:Type}[BEq c][LawfulBEq c]:∀{l:List (c×f)}{a:c}{b:f},(l.map (·.1)).Nodup->(a,b)∈l->l.lookup a=some b
|[],_,_,_,h=>nomatch h
|(x,y)::l,a,b,i,h=>by
  obtain ⟨g,n2⟩:=T4.mp i;rcases x6.mp h with e|h
  ·cases e;simp[Q3]
  ·have:a≠x:=fun e=>g (e▸w8.mpr {_,h,rfl});rw[iq,beq_eq_false_iff_ne.mpr this];exact BJ n2 h
theorem kJ{b c:Type}[BEq b][LawfulBEq b]:∀{l:List (b×c)}{a:b},a∉l.map (·.1)->l.lookup a=none
|[],_,_=>rfl
|(x,y)::l,a,h=>by have:a≠x:=fun e=>h (e▸L8);rw[iq,beq_eq_false_iff_ne.mpr this];exact kJ fun q=>h (E4 _ q)
noncomputable def Bk(K:y8)(T:g6)(lp:Pos)(qual:Str):List V->Hp->VK->Prop:=fun vs H Q=>∃(p q:g6)(ks:List Int)(xs:List V),vs=[.ref p,.ref q]/\cS K H p (ks.map V.int)/\cS K H q xs/\ks.length=xs.length/\ks.length<=1000/\nR T lp qual H /\
 ∀(l:g6)(G:Hp)(tr:List (g6×(Int×V))),H l=none->Kp T H G->nR T lp qual G->G l=some (.lst (tr.map fun p=>V.ref p.1))->(∀p∈tr,G p.1=some (.tup [.int p.2.1,p.2.2]))->Sq (tr.map (·.2)) (ks.zip xs)->Q (.ref l) G
def QE(hr:eP kk X.A)(hc:X.calm=true)(S':Gl X "sorted")(T':X.mg "sorted"=none)(hg:Gl X "zip")(hm:X.mg "zip"=none)(Q':X.env.code=.ref c0)(hK:jr X.K c0 T=true)(B:zZ X.mg X.base)(R':qi ZP X.env=L3 [])(hq:X.env.qual++"<lambda>"=qual)(ha:PA X [a,b] t)(he:v9 [.Call (.Name "zip" p2) [a,b] [] pos2] X.env=[(false,K3 (.Call (.Name "zip" p2) [a,b] [] pos2) X.env)])(hs:v9 [a,b] X.env=(false,K3 a X.env)::v9 [b] X.env)(V':(O5 pos2 (v9 [b] X.env)).any (·.1)=false):
    PE X (.Call (.Name "sorted" p) [.Call (.Name "zip" p2) [a,b] [] pos2] [{some "key",.Lambda (Lh q0) (Li q1 q2 q3) ZP lp,kpos}] pos) (Tm (Bk X.K T lp qual) t):=by
  intro r' s σ H Q I h;refine S7 (lX I S' T' qB ?_ (by decide) (by decide));refine callWith_kw ?_;show j0 _ _ (yp (O5 pos (v9 [.Call (.Name "zip" p2) [a,b] [] pos2] X.env))) _ _ s;rw[he];show j0 _ _ (yp ((false,K3 (.Call (.Name "zip" p2) [a,b] [] pos2) X.env)::O5 pos [])) _ _ s;refine P4 ?_;refine Call_ (lX I hg hm Mn (F6 (dD (ha pos2 r' s σ H _ I h) fun us M z=>?_) hs V'));obtain ⟨vs,H1,J,r1,p1,j',ks,xs,e,ga,gb,hl,hn,hT,q⟩:=z;subst e;obtain ⟨u1,u2,rfl,ra,rb⟩:=r1.two;cases ra;cases rb;obtain ⟨h',w',n',_⟩:=J.list ga;obtain ⟨k',K',o',_⟩:=J.list gb;refine call_zip_2 n'.isList o'.isList fun m1 z1 z2 z3 z4 z5 e5 kp=>?_;refine S6 ?_;have la:p1<M.heap.objs.size:=by obtain ⟨o,n,g,_⟩:=n';exact p7 g
  have lb:j'<M.heap.objs.size:=by obtain ⟨o,n,g,_⟩:=o';exact p7 g
  have Z0:KZ m1 (M.heap.objs.size+4) (M.heap.objs.size+2) (M.heap.objs.size+3) M.heap.objs.size (M.heap.objs.size+1) p1 j' 0 h'.toArray k'.toArray:=
    {{_,_,z1,.inl {rfl,rfl,rfl}},z2,{_,_,z3},z4,z5,n'.isList.at fun o e=>kp _ o e,o'.isList.at fun o e=>kp _ o e}
  have lL:=J.lt;have I':p1≠T/\j'≠T:=by
    have tH:∃ps,M.heap.get? T=some (wj ps):=by
      rcases hT with t|⟨c,t,_⟩
      . exact {_,J.hok T _ t}
      . exact {_,J.hok T _ t}
    obtain ⟨ps,tH⟩:=tH;constructor
    . rintro rfl
      obtain ⟨o,n,g,gc,_⟩:=n';rw[tH]at g;cases g;cases gc
    . rintro rfl
      obtain ⟨o,n,g,gc,_⟩:=o';rw[tH]at g;cases g;cases gc
  have S:T<M.heap.objs.size:=by
    rcases hT with t|⟨c,t,_⟩
    . exact J.hok.lt t
    . exact J.hok.lt t
  show j0 _ _ (evalAll ((do let v ←K3 (.Lambda (Lh q0) (Li q1 q2 q3) ZP lp) X.env;nz pos;L3 v)::[])) _ _ _;refine wpAny_evalAll_cons (e9 (XR (s2:={M with heap:=m1}) J kp Q' hK B R' hq hT fun f c h3 tk Y=>e9 (qe (i8 ?_))));refine wpAny_evalAll_nil ?_;have hN:∃N,M.heap.objs.size=N:={_,rfl}
  obtain ⟨N,hN⟩:=hN;have e':∀b o,M.heap.get? b=some o->b<N:=fun b o e=>hN▸p7 e;have b':N+5<=f:=by have:=Y.fge;rw[e5,hN]at this;exact this
  have C:∀{c i:Nat},c<N->c≠N+i:=fun h=>q7 (j3 h (gr _ _));have nf:∀{d i:Nat},N+5<=d->i<5->d≠N+i:=fun h1 h2 e=>absurd h1 (by rw[e];lia);have ne:∀{i j:Nat},i≠j->N+i≠N+j:=fun h z=>h (Nat.add_left_cancel z);have n0:∀{i:Nat},0<i->N+i≠N:=fun h=>C6 (Nat.lt_add_of_pos_right h);rw[hN]at Z0 la lb lL S;have D:jv (N+4) (N+2) (N+3) N (N+1) p1 j':={ne (by decide),ne (by decide),(n0 (by decide)).symm,ne (by decide),ne (by decide),n0 (by decide),ne (by decide),n0 (by decide),ne (by decide),(n0 (by decide)).symm,C la,C la,q7 la,C la,C lb,C lb,q7 lb,C lb}
  have P:∀b o,m1.get? b=some o->b≠T->h3.get? b=some o:=Y.kp;have Z:KZ h3 (N+4) (N+2) (N+3) N (N+1) p1 j' 0 h'.toArray k'.toArray:=by
    obtain ⟨⟨f0,b0,gz,hf⟩,N',⟨a,b,O'⟩,g1,g2,t1,t2⟩:=Z0;refine {{f0,b0,P _ _ gz (u7 (C S)),?_},P _ _ N' (u7 (C S)),{a,b,P _ _ O' (u7 (C S))},g1.at fun o e=>P _ o e (C6 S),g2.at fun o e=>P _ o e (u7 (C S)),t1.at fun o e=>P _ o e I'.1,t2.at fun o e=>P _ o e I'.2};rcases hf with hf|⟨hk,_⟩
    . exact .inl hf
    . exact absurd hk (by decide)
  have cN:(N+5<=c)∨(c<N/\c≠X.env.locals/\H1 c=some (LG c qual)):=by
    rcases Y.cs with ⟨_,g⟩|⟨_,g⟩
    . rw[e5,hN]at g;exact .inl g
    . exact .inr {hN▸J.hok.lt g,aB g J.free,g}
  have a':c≠X.env.locals/\c≠N+4/\c≠N+3/\c≠N/\c≠N+1:=by
    rcases cN with g|⟨g,g2,_⟩
    . exact {C6 (j3 lL (B9 (gr _ _) g)),nf g (by decide),nf g (by decide),nf (i:=0) g (by decide),nf g (by decide)}
    . exact {g2,C g,C g,q7 g,C g}
  have M':f≠X.env.locals/\f≠N+4/\f≠N+3/\f≠N/\f≠N+1:=
    {C6 (j3 lL (B9 (gr _ _) b')),nf b' (by decide),nf b' (by decide),nf (i:=0) b' (by decide),nf b' (by decide)}
  obtain ⟨pm,ct,gf⟩:=Y.fn;obtain ⟨mL,D',δ⟩:=id J.loc;have s':∀b o,M.heap.get? b=some o->b≠T->h3.get? b=some o:=fun b o e n=>P _ _ (kp _ _ e) n;have LT:X.env.locals≠T:=by
    rcases hT with t|⟨c,t,_⟩
    . exact u7 (aB t J.free)
    . exact u7 (aB t J.free)
  have P':h3.Ns X.env.locals mL:=let ⟨o,es,ep,e,r⟩:=D';{o,es,ep,s' _ _ e LT,r};have bT:∀b o,X.base.get? b=some o->b≠T/\b≠X.env.locals/\b<N/\M.heap.get? b=some o:=fun b o e=>by
    have U:=(J.bs b o e)
    refine {?_,?_,e' _ _ U.1,U.1}
    . rintro rfl
      rcases hT with t|⟨c,t,_⟩
      . rw[t]at U;cases U.2
      . rw[t]at U;cases U.2
    . exact q7 (j3 (p7 e) (B9 J.ok.bsz J.ok.above))
  have H':N+5<=h3.objs.size:=B9 b' (M5 (p7 gf));have sz:∀(l:List f9),l.toArray.size=l.length:=fun _=>rfl;have lk:h'.length=ks.length:=by rw[←w'.length,j6]
  have lx:k'.length=xs.length:=K'.length.symm;show j0 _ _ (jt (.builtin "sorted") [.ref (M.heap.objs.size+4)] [(K5 "key",.ref f)]) _ _ _;rw[hN];refine JG (s:={M with heap:=h3,toks:=tk}) (L:=X.env.locals) (m:=mL) (kz:=ks) (I.ok.hd hc) (by have:=hr.dp;lia) (fun g kg=>J.mod.nolimit.keeps fun b o e=>?_) P' {C lL,C lL,q7 lL,C lL} gf Y.cd M' a' D Z (by rw[sz,sz,lk,lx,hl]) (by rw[sz,lk];exact hn) (show X3 h' ks from uM w') fun R h4 L' Z' c' ts ps gR gL C' W' Qu pp po tR i'=>?_
  . obtain ⟨a1,a2,a3,a4⟩:=bT b o e
    exact kg b o (s' _ _ a4 a1) a2 (C a3) (C a3) (q7 a3) (C a3)
  dsimp only at gR gL C' Qu i';have l':∀b o,M.heap.get? b=some o->b≠T->b≠X.env.locals->h4.get? b=some o:=fun b o e n1 n2=>i' _ _ (s' _ _ e n1) n2 (C (e' _ _ e)) (C (e' _ _ e)) (q7 (e' _ _ e)) (C (e' _ _ e));have m':ts.length=ks.length:=by rw[W',sz,lk]
  have ez:ks.zip (ts.map n9)=(ts.zip (ks.zip xs)).map fun p=>(p.2.1,n9 p.1):=by
    apply gt;intro i;simp only[V5,t5,jy,List.getElem?_zipWith];rcases F8 i ks.length with hi|hi
    . rw[i7 hi,i7 (show i<ts.length by lia),i7 (show i<xs.length by lia)]
      rfl
    . rw[S5 hi,S5 (show ts.length<=i by lia)]
      rfl
  obtain ⟨tr,p',z'⟩:=sU pp.1 ez;have W:(tr.map (·.1)).Perm ts:=by have:=p'.map (·.1);rwa[zx (by rw[wm,m',←hl];exact jq (mw _).symm)]at this
  have X':(tr.map (·.1)).Nodup:=W.nodup_iff.mpr Qu.1;have E:∀p∈tr,N+5<=p.1/\p.1≠R/\p.1≠c/\∃x y,xg h4 p.1 x y/\bJ (V.int p.2.1) x/\bJ p.2.2 y:=fun p hp=>by
    have U':=p'.mem_iff.mp hp;obtain ⟨i,hi⟩:=N9 U';rw[V5]at hi;obtain ⟨h1,h2⟩:=hi;rw[V5]at h2;obtain ⟨ge,x,y,ex,ey,ep⟩:=Qu.2 i p.1 h1;obtain ⟨x',A',rx⟩:=w'.get (i:=i) (by rw[t5,h2.1];rfl);obtain ⟨y',B',ry⟩:=K'.get (i:=i) h2.2;have a1:h'[i]?=some x:=by simpa using ex
    have a2:k'[i]?=some y:=by simpa using ey
    rw[a1]at A';cases A';rw[a2]at B';cases B';have cl:c<h3.objs.size:=by obtain ⟨_,o,_,_,e0,e1,_⟩:=Y.cd;cases e0;exact p7 e1
    exact {B9 H' ge,tR _ (u8 h1),C6 (j3 cl ge),x,y,ep,rx,ry}
  have cR:c≠R:=by obtain ⟨_,o,_,_,e0,e1,_⟩:=Y.cd;cases e0;exact q7 (j3 (p7 e1) gR)
  have NR:N<=R:=B9 (B9 (gr _ _) H') gR;let G:Hp:=fun b=>if b=R then some (.lst (tr.map fun p=>V.ref p.1)) else match tr.lookup b with
   |some p=>some (.tup [.int p.1,p.2])
   |none=>if b=T then some (.tbl (ZN lp c)) else if b=c then some (LG c qual) else H1 b
  have GR:G R=some (.lst (tr.map fun p=>V.ref p.1)):=if_pos rfl;have Gt:∀p∈tr,G p.1=some (.tup [.int p.2.1,p.2.2]):=fun p hp=>by show (if p.1=R then _ else _)=_;rw[if_neg (E p hp).2.1];simp only[BJ X' hp]
  have q':∀b,b<N->b∉tr.map (·.1):=fun b hb hm=>by obtain ⟨p,hp,e⟩:=w8.mp hm;have:=(E p hp).1;rw[e]at this;lia
  have GT:G T=some (.tbl (ZN lp c)):=by show (if T=R then _ else _)=_;rw[if_neg (q7 (j3 S NR)),kJ (q' T S)];exact if_pos rfl
  have cT:c≠T:=by
    rintro rfl;obtain ⟨_,o,vs,_,e0,e1,U,e3⟩:=Y.cd;cases e0;have e4:=Y.tb;rw[e1]at e4;cases e4;cases U;have:(#[D4 lp.line,D4 lp.col,n9 c]:Array f9)[1]?=some (D4 lp.col):=rfl;rw[show ZN lp c=#[D4 lp.line,D4 lp.col,n9 c] from rfl,this]at e3;cases e3
  have Gc:G c=some (LG c qual):=by show (if c=R then _ else _)=_;rw[if_neg cR,kJ (fun hm=>by obtain ⟨p,hp,e⟩:=w8.mp hm;exact (E p hp).2.2.1 e)];show (if c=T then _ else _)=_;rw[if_neg cT];exact if_pos rfl
  have Gb:∀b,b<N->b≠T->b≠c->G b=H1 b:=fun b h1 h2 h3=>by show (if b=R then _ else _)=_;rw[if_neg (q7 (j3 h1 NR)),kJ (q' b h1)];show (if b=T then _ else _)=_;rw[if_neg h2];exact if_neg h3
  have Gk:Kp T H1 G:=fun b o n e=>by
    have hb:b<N:=hN▸J.hok.lt e;by_cases f':b=c
    . subst f'
      rcases cN with g|⟨_,_,g⟩
      . exact absurd (j3 hb (gr _ 5)) (yw.mpr g)
      . rw[e]at g;cases g;exact Gc
    . rw[Gb b hb n f'];exact e
  have Gn:∀b o,M.heap.get? b=some o->H1 b=none->G b=none:=fun b o e n=>by
    have hb:=e' _ _ e;have h2:b≠T:=by
      rintro rfl;rcases hT with t|⟨_,t,_⟩ <;> (rw[t]at n;cases n)
    have h3:b≠c:=by
      rintro rfl;rcases cN with g|⟨_,_,g⟩
      . exact absurd (j3 hb (gr _ 5)) (yw.mpr g)
      . rw[n]at g;cases g
    rw[Gb b hb h2 h3];exact n
  have J':∀l:List (g6×(Int×V)),bH (l.map fun p=>V.ref p.1) ((l.map fun p=>(p.2.1,n9 p.1)).map xn):=fun l=>by
    induction l with
   |nil=>exact .nil
   |cons p l ih=>exact .cons rfl ih
  have G':pL X.prog X.w G h4:=fun b u e=>by
    by_cases E':b=R
    . subst E'
      rw[GR]at e;cases e;refine {?_,Z'.toList,c',?_,?_}
      . rw[j6]
        have:tr.length=ts.length:=by rw[←j6 (f:=(·.1)) (as:=tr)];exact W.length_eq
        rw[this,m',B8];lia
      . rw[po,z'];exact J' tr
      . rw[C']
    . by_cases F':b∈tr.map (·.1)
      . obtain ⟨p,hp,rfl⟩:=w8.mp F'
        rw[Gt p hp]at e;cases e;obtain ⟨_,_,_,x,y,ep,rx,ry⟩:=E p hp;exact {{by show 2<=n7;decide,_,ep,rfl},[x,y],.cons rx (.cons ry .nil),_,ep,rfl,_,rfl}
      . by_cases O:b=T
        . subst O
          rw[GT]at e;cases e;exact i' _ _ Y.tb (u7 LT) (C S) (C S) (q7 S) (C S)
        . by_cases f':b=c
          . subst f'
            rw[Gc]at e;cases e;refine Dr ?_;obtain ⟨c1,o,vs,tt,e0,e1,U⟩:=Y.cd;cases e0;exact {_,o,vs,tt,rfl,i' _ _ e1 a'.1 a'.2.1 a'.2.2.1 a'.2.2.2.1 a'.2.2.2.2,U}
          . have e1:H1 b=some u:=by
              have q:G b=if b=T then some (HO.tbl (ZN lp c)) else if b=c then some (LG c qual) else H1 b:=by show (if b=R then _ else _)=_;rw[if_neg E',kJ F']
              rw[q,if_neg O,if_neg f']at e;exact e
            refine (J.hok b u e1).stay (fun d v hd r=>?_) (fun d r=>Gk d _ ?_ r) fun d α r=>Gk d _ ?_ r
            . have h1:H1 d≠none/\d≠T:=by
                rcases hd with rfl|hd
                . exact {by rw[e1];simp,O}
                . refine {by rw[hd];simp,?_}
                  rintro rfl;rcases hT with t|⟨_,t,_⟩ <;> (rw[t]at hd;cases hd)
              exact l' d v r h1.2 fun z=>h1.1 (z▸J.free)
            . rintro rfl
              rcases hT with t|⟨_,t,_⟩ <;> (rw[t]at r;cases r)
            . rintro rfl
              rcases hT with t|⟨_,t,_⟩ <;> (rw[t]at r;cases r)
  have Y':∀m,M.heap.Ns X.env.locals m->h4.Ns X.env.locals m:=fun m hm=>by
    have:m=mL:=by obtain ⟨o,es,ep,e,d,_,r⟩:=hm;obtain ⟨o2,γ,β,U,d2,_,r2⟩:=D';rw[e]at U;cases U;rw[d]at d2;cases d2;funext x;rw[←r x,r2 x]
    rw[this];exact gL
  have I4 : aY X r' σ G {M with heap:=h4,toks:=L'}:=J.step (g':=M.gens) (d':=M.drawn) (t':=L') (ch:=[]) (fun _ z=>nomatch z) (fun b o n1 _ _ e n=>l' b o e (by
        rintro rfl;rcases hT with t|⟨_,t,_⟩ <;> (rw[t]at n;cases n)) n1) (fun b o n1 _ _ e n=>{o.slots,l' b o e (by
        rintro rfl;rcases hT with t | ⟨_,t,_⟩ <;> (rw[t]at n;cases n)) n1}) (fun b o _ e n=>Gn b o e n) (fun b o _ e=>?_)
      (fun b α e=>Gk b _ (by
        rintro rfl;rcases hT with t|⟨_,t,_⟩ <;> (rw[t]at e;cases e)) e) (fun b o u e=>Gk b _ (by
        rintro rfl;rcases hT with t | ⟨_,t,_⟩ <;> (rw[t]at e;cases e)) e) (fun b ε e=>?_) Y' G' J.bare
  . exact {.ref R,G,I4,rfl,q R G tr (by
      cases e:H1 R with
     |none=>rfl
     |some u=>exact absurd (hN▸J.hok.lt e) (yw.mpr NR)) Gk (.inr {c,GT,Gc}) GR Gt (by
        have e0:(ts.zip (ks.zip xs)).map (·.2)=ks.zip xs:=List.map_snd_zip (by rw[wm,m',←hl];exact jq (mw _));obtain ⟨_,u',v'⟩:=pp;rw[z']at u' v';rw[ez]at v';rw[P5]at u';refine {e0▸p'.map (·.2),P5.mpr u',fun z=>?_};have:=v' z;rw[X7,X7]at this;rw[←e0,X7,X7];refine congrArg _ (Md (T:=ts.zip (ks.zip xs)) (by rw[zx (by rw[wm,m',←hl];exact jq (mw _).symm)];exact Qu.1) (fun p h=>p'.mem_iff.mp (Q0.mp h).1) (fun p h=>(Q0.mp h).1) (Db this)))}
  . by_cases hb:b=X.env.locals
    . subst hb
      obtain ⟨o2,_,_,U,_⟩:=gL;exact {o2,U}
    . by_cases O:b=T
      . subst O
        exact {_,i' _ _ Y.tb (u7 LT) (C S) (C S) (q7 S) (C S)}
      . exact {o,l' b o e O hb}
  . by_cases O:b=T
    . subst O
      rcases Y.cs with ⟨t,_⟩|⟨t,_⟩
      . rw[t]at e;cases e
        exact {ZN lp c,by rw[GT];simp}
      . rw[t]at e;cases e
        exact {#[],by rw[GT];simp}
    . exact {#[],by rw[Gk b _ O e];simp}
def QV{P:m9}{w:w6}{K:y8}{G mb:Str->Option f9}{CX:zY}{k:Nat}{fa a T c0:g6}{fd:M6}{x:Str}{sp:Sp}{c:i6}{vs:List f9}{ns:List Int}(KX:K.In c.heap)(X:c.heap.Ns C2 G)(f:c.heap.Ns qj mb)(g':∀x:Str,x≠"__name__"->mb x=C5 x)(W:c.heap.NoLimit)(hg:c.gens=#[])(J:c.heap.get? T=some (wj #[]))(hC:jr K c0 T=true)(d':K.lookup T=none)(hB:zZ G c.heap)(S:c.heap.get? a=some {cls:=.type "list",data:=.seq vs.toArray})(hi:X3 vs ns)(hl:ns.length<=n7)(hr:eP k rj)(F:∀base:C3,K.In base->base.Ns C2 G->zZ G base->jV P w K G base CX k fa fd [x] sp)(M:∀(s:i6)(u:f9),X6 s fd {[u],[]} [(x,u)])(h':∀H:Hp,H T=some (.tbl #[])->cS K H a (ns.map V.int)->sp [.ref a] H (fun v _=>v=.bl true) fun _ _ _=>False)(c':∀H e i,CX [] H c (fun _ _ _=>False) e i->False):
  X2 (j8 P w) rj (.call (.ref fa) {[.ref a],[]}) (fun r i=>r=.ok (.ret (.bool true))/\OldK c.heap i.heap/\i.os=c.os/\lg i.gens) c:=by
 have rv:=tU hi;have Z:=hi.length;have aT:a≠T:=by rintro rfl;rw[S]at J;cases J
 have D:∀H:Hp,H T=some (.tbl #[])->cS K H a (ns.map V.int)->pL P w H c.heap->(∀b,H b≠none->b=a∨b=T)->(H a≠none->K.lookup a=none/\∃o N,H a=some (.frz o (.lst N))) ->
   X2 (j8 P w) rj (.call (.ref fa) {[.ref a],[]}) (fun r i=>r=.ok (.ret (.bool true))/\OldK c.heap i.heap/\i.os=c.os/\lg i.gens) c:=by
  intro H hO hS Y hA hK;have g:∀{b:g6}{o:Obj},c.heap.get? b=some o->H b=none->(zS c.heap H).get? b=some o:=fun e n=>YB e n;have a':∀{b:g6}{o:Obj},c.heap.get? b=some o->(∀N n,o.data≠.seq N n)->(∀N,o.data≠.fields N)->H b=none:=fun {b o} e d1 d2=>by
   cases q:H b with
  |none=>rfl
  |some u=>
    rcases hA b (by rw[q];simp) with A|A
    ·subst A;rw[S]at e;cases e;exact absurd rfl (d1 _ _)
    ·subst A;rw[J]at e;cases e;exact absurd rfl (d2 _)
  have B:∀{b:g6}{m:Str->Option f9},c.heap.Ns b m->(zS c.heap H).Ns b m:=fun {b m} ⟨o,es,ep,e,d,r⟩=>{o,es,ep,g e (a' e (fun _ _ z=>by rw[d]at z;cases z) fun _ z=>by rw[d]at z;cases z),d,r}
  have Q:K.In (zS c.heap H):=fun b o e=>g (KX b o e) (by
   cases q:H b with
  |none=>rfl
  |some u=>
    rcases hA b (by rw[q];simp) with A|A
    ·subst A;rw[(hK (by rw[q];simp)).1]at e;cases e
    ·subst A;rw[d']at e;cases e)
  have hM:Mod K G (zS c.heap H):={Q,B X,{mb,B f,g'},let ⟨mc,h1,h2⟩:=W;{mc,B h1,h2}}
  have b':zZ G (zS c.heap H):=let ⟨bm,o,b1,b2,b3,b4,b5,b6,b7⟩:=hB;{bm,o,b1,b2,b3,g b4 (a' b4 (fun _ _ z=>by rw[b7]at z;cases z) fun _ z=>by rw[b7]at z;cases z),b5,b6,b7};have e0:vR P w K G (zS c.heap H) rj [] c H:={rfl,hM,fun b o e=>Cm e,jq (RB _ _),trivial,fun b f=>absurd (show b∈([]:List g6) from f) (by simp),Y,.of_eq hg}
  refine gu ((F _ Q (B X) b').run rj [] c H {[.ref a],[]} [.ref a] [.ref a] _ _ hr e0 (M c (.ref a)) (.cons rfl .nil) (h' H hO hS)) fun r i h=>?_;cases r with
 |error e=>exact (c' H e i h).elim
 |ok fl=>
   cases fl with
  |next=>exact P3 h
  |brk=>exact P3 h
  |cont=>exact P3 h
  |ret u=>
    obtain ⟨v,H',os,O,un,E,r',q⟩:=h;have q':v=.bl true:=q;subst q';obtain rfl:u=rk true:=r';have kb:∀b o,c.heap.get? b=some o->b≠T->i.heap.get? b=some o:=fun b o e n=>by
     cases q:H b with
    |none=>exact un.keep b o e q (by intro z;exact absurd (show b∈([]:List g6) from z) (by simp)) (by simp)
    |some u=>
      rcases hA b (by rw[q];simp) with A|A
      ·subst A;obtain ⟨ob,N,z⟩:=(hK (by rw[q];simp)).2;have z2:=un.frzs b ob _ z;obtain ⟨e1,_⟩:=Y b _ z;obtain ⟨e2,_⟩:=E b _ z2;rw[e]at e1;cases e1;exact e2
      ·exact absurd A n
    obtain ⟨I,f'⟩:=un.tbls T _ hO;have R:i.heap.get? T=some (wj (#[]++I)):=E T _ f';refine {rfl,{fun b o e=>?_,fun b o e=>?_},os,O}
    ·by_cases f:b=T
     ·subst f;rw[J]at e;cases e;exact .inr (.inl {((codeHd_of_K KX hC).tab J).isCodeTable,rfl,#[],I,rfl,R})
     ·exact .inl (kb b o e f)
    ·by_cases f:b=T
     ·subst f;exact {_,R}
     ·exact {o,kb b o e f}
 cases hk:K.lookup a with
|some o=>
  have e:=KX a o hk;rw[S]at e;cases e;refine D (fun b=>if b=T then some (.tbl #[]) else none) (if_pos rfl) (.inr {_,vs.toArray,_,hk,rfl,rfl,rfl,by rw[l8,Z];exact hl,by simpa using rv}) (fun b u z=>?_) (fun b z=>?_) fun z=>absurd (if_neg aT) z
  ·by_cases f:b=T
   ·have C:=(if_pos f).symm.trans z;cases C;subst f;exact J
   ·have C:=(if_neg f).symm.trans z;cases C
  ·by_cases f:b=T
   ·exact .inr f
   ·exact absurd (if_neg f) z
|none=>
  refine D (fun b=>if b=T then some (.tbl #[]) else if b=a then some (.frz {cls:=.type "list",data:=.seq vs.toArray} (.lst (ns.map V.int))) else none) (if_pos rfl) (.inl (.inr {{cls:=.type "list",data:=.seq vs.toArray},(if_neg aT).trans (if_pos rfl)})) (fun b u z=>?_) (fun b z=>?_) fun _=>{hk,_,_,(if_neg aT).trans (if_pos rfl)}
  ·by_cases f:b=T
   ·have C:=(if_pos f).symm.trans z;cases C;subst f;exact J
   ·have z1:=(if_neg f).symm.trans z;by_cases f:b=a
    ·have C:=(if_pos f).symm.trans z1;cases C;subst f;exact {S,by rw[j6];exact hl,vs,_,rv,S}
    ·have C:=(if_neg f).symm.trans z1;cases C
  ·by_cases f:b=T
   ·exact .inr f
   ·by_cases U:b=a
    ·exact .inl U
    ·refine absurd ?_ z;show (if b=T then _ else if b=a then _ else _)=_;rw[if_neg f,if_neg U]
def walk_ofT{l:pf}{n k:Nat}{q:m9}{loose:List Str}{XP:(Str->Option f9)->C3->Prop}{YP:w6->C3->Prop}{d:DefRec}{K:Params->y8}{CX:w6->zY}{sp:w6->Sp}{x:Str}{T c0:g6}(hn:l.most=some n)(hn2:n<=n7)(hdf:d.params.defaults=[])(hr:eP k rj)(hY:∀(w:w6)(h:C3),YP w h->(K w.params).In h/\h.get? T=some (wj #[]))(hC:∀P,jr (K P) c0 T=true)(hKT:∀P,(K P).lookup T=none)
  (F:∀(w:w6)(mg:Str->Option f9)(fa:g6)(h:C3),(K w.params).In h->h.Ns C2 mg->mg d.name=some (.ref fa) ->
   ∃fd:M6,(∀(s:i6)(u:f9),X6 s fd {[u],[]} [(x,u)]) /\
    ∀base:C3,(K w.params).In base->base.Ns C2 mg->zZ mg base->jV l.prog w (K w.params) mg base (CX w) k fa fd [x] (sp w))
  (hsp:∀(w:w6)(H:Hp)(a:g6)(ns:List Int),ns.length<=n->H T=some (.tbl #[])->cS (K w.params) H a (ns.map V.int)->sp w [.ref a] H (fun v _=>v=.bl true) fun _ _ _=>False)
  (hCX:∀(w:w6)(H:Hp)(s:i6)(e:f9)(s':i6),CX w [] H s (fun _ _ _=>False) e s'->False) :
  PySem.W.WalkO q loose XP YP l.row.toRowW d [] (fun f vs=>PySem.call f vs):=by
 refine Att.attach_call hn hdf fun w s₀ s₁ mg mb fa o pm cd doc a vs ns G Y ho hd hcd hmg hobj hints hlen hg=>?_;obtain ⟨KX,hT⟩:=hY w _ Y;obtain ⟨fd,hb,hF⟩:=F w mg fa _ KX G.T.g hmg;have hB:zZ mg s₁.heap:=by
  obtain ⟨bm,ob,b1,b2,b3,b4,b5,b6⟩:=G.T.bmain;refine {bm,ob,b1,b2,fun q=>?_,b3,b4,b5,b6};obtain ⟨o,es,ep,e,hd,_⟩:=G.T.g;rw[q,e]at b3;cases b3;rw[hd]at b6;cases b6
 exact QV KX G.T.g G.T.b G.T.builtins G.T.nolimit hg hT (hC _) (hKT _) hB hobj hints (B9 hlen hn2) hr hF hb (fun H hO hS=>hsp w H a ns hlen hO hS) fun H e s'=>hCX w H s₁ e s'
structure Ub(K:y8)(mg:Str->Option f9)(x:Str)(st:E2)(ps:List Str)(c T:g6):Prop where
 ex:∃(f:g6)(fd:M6),(∃(oc:f9)(od:Option g6)(dV kV doc pm:f9)(an:Option g6)(ct:f9)(osl:Array (Option f9)),
  fd=ik x x (cH st) (bP st) (aG st) dV kV doc pm an (.ref c) ct/\K.lookup f=some {oc,od,.func fd,osl}/\F5 K (.ref c) x=true)/\C0 K (.ref f)=true/\mg x=some (.ref f)/\fG K fd ps []
 hd:jr K c T=true
def cB.ofC{P:m9}{w:w6}{K:y8}{D:Str->Option f9}{i:C3}{k:Nat}{x:Str}{st:E2}{N ps:List Str}{sp:Sp}{c T:g6}(d:Ub K D x st ps c T)(S:aM N ps (aG st))(C:∀vs H Q E,sp vs H Q E->vs.length=ps.length)
  (m:∀ (f:g6) (A:B2)(g:List Env)(s:i6)(H:Hp)(vs:List V)(Q:VK)(E:XK),eP k (A.deeper (ii x (aG st) s.heap.objs.size f (.ref c)))->sp vs H Q E ->
   ∃t,zJ (rL mB P w K D i N x (aG st) f (.ref c) A g s H E).nox (bP st) t/\t {nx:=fun _ H'=>Q .non H',rt:=Q} (start N vs) H):cB P w K D i (k+1) x ps sp:=by
 obtain ⟨f,W,⟨X,Y,U,kV,G,Z,O,R,M,rfl,J,o⟩,kp,a,b⟩:=d.ex;refine {f,_,a,kp,b,yO J o S C fun A g s H vs Q E I B=>?_};obtain ⟨t,h,q⟩:=m f A g s H vs Q E I B;exact {t,h.nox,q}
def Mg{K:y8}{w:Str->Option f9}{h:C3}{x:Str}{st:E2}{ps:List Str}{f c T:g6}{A:f9}{B m:Option g6}{i:Array (Option f9)}{q kV g s o:f9}(X:K.In h)(G:h.Ns C2 w)(a:nsIn K C2 x=some (some (.ref f)))(l:K.lookup f=some {A,B,.func (ik x x (cH st) (bP st) (aG st) q kV g s m (.ref c) o),i})(C:F5 K (.ref c) x=true)(k:C0 K (.ref f)=true)(t:jr K c T=true)(b:∀us:List f9,us.length=ps.length->wq (ik x x (cH st) (bP st) (aG st) q kV g s m (.ref c) o) {us,[]}=L3 (ps.zip us)):Ub K w x st ps c T:=
 {{f,_,{A,B,q,kV,g,s,m,o,i,rfl,l,C},k,mg_of X G a,.all b},t}
section
open PySem.SeqAt PySem.MeetsSeq PySem.MeetsSeq2 PySem.MeetsSeq3
open PySem.AutoSeq1 (wpAny_loadPart')
variable {prog:m9}{w:w6}
def RF(l b:g6)(items c:Array f9)(n n2:Nat)(H D:Option g6)(K G:Array (Option f9))(hsz:items.size=c.size)(k:Nat):
  ∀i:Nat,items.size-i=k->MeetsIn prog w (J0.«list.__eq__.loop» {[.ref l,.ref b,D4 i,D4 2],[]})
   (fun A R s=>s.heap.get? l=some {cls:=.type "list",dict:=H,data:=.seq items n,slots:=K}/\s.heap.get? b=some {cls:=.type "list",dict:=D,data:=.seq c n2,slots:=G} /\
    (∀j (M:j<items.size) (N:j<c.size),LF prog w A.in1 s items[j] c[j])/\R (.ok (.ret (.bool true))) s):=by
 induction k with
|zero=>
  intro i hk A R s h;obtain ⟨hp,g,d,tk,J⟩:=s;obtain ⟨B,q,E,h⟩:=h
  wp_walk using B7 B,B7 q
  have m:items[((i:Nat):Int).toNat]?=none:=by simp;omega
  have o:c[((i:Nat):Int).toNat]?=none:=by simp;omega
  rw[m,o]
  wp_walk using B7 B,B7 q
  show R (.ok (.ret (.bool (items.size==c.size)))) _;rw[hsz];simpa using h
|succ k ih=>
  intro i hk A R s h;obtain ⟨hp,g,d,tk,J⟩:=s;obtain ⟨B,q,E,h⟩:=h
  wp_walk using B7 B,B7 q
  have C:i<items.size:=by omega
  have f:i<c.size:=by omega
  have m:items[((i:Nat):Int).toNat]?=some items[i]:=by simp[C]
  have o:c[((i:Nat):Int).toNat]?=some c[i]:=by simp[f]
  have I:((i:Int)+1)=((i+1:Nat):Int):=by push_cast;rfl
  rw[m,o];refine e9 (E i C f _ _ ?_)
  wp_walk
  rw[I];exact {F0 plain_eq_loop _,C1 entry_eq_loop (by
   rw[z9 plain_eq_loop _];exact ih (i+1) (by omega) A R _ {B,q,E,h})}
def QT(l b:g6)(items c:Array f9)(n n2:Nat)(m f:Option g6)(B i:Array (Option f9))(hsz:items.size=c.size):
  MeetsIn prog w (J0.«list.__eq__» {[.ref l,.ref b],[]})
   (fun A R s=>s.heap.get? l=some {cls:=.type "list",dict:=m,data:=.seq items n,slots:=B}/\s.heap.get? b=some {cls:=.type "list",dict:=f,data:=.seq c n2,slots:=i} /\
    (∀j (G:j<items.size) (H:j<c.size),LF prog w A.in1 s items[j] c[j])/\R (.ok (.ret (.bool true))) s):=by
 intro A R s h;obtain ⟨hp,g,d,tk,I⟩:=s;obtain ⟨q,o,C,h⟩:=h;have E:=sw;have D:¬(items.size !=c.size)=true:=by simp[hsz]
 wp_walk using B7 q,B7 o
 exact {F0 plain_eq_loop _,C1 entry_eq_loop (by
  rw[z9 plain_eq_loop _];exact RF l b items c n n2 m f B i hsz _ 0 rfl A R _ {q,o,C,h})}
end
noncomputable def Uy:R2:=fun x y H Q=>∃p q xs ys,x=.ref p/\y=.ref q/\H p=some (.lst xs)/\H q=some (.lst ys)/\xs.length=ys.length/\(∀(i:Nat)(x y:V),xs[i]?=some x->ys[i]?=some y->PB H x y)/\Q (.bl true) H
def Kt(hu:X.A.units+64<N2):lN X (E7 .Eq) Uy:=by
 intro J s σ H x y v u Q I W Y h;obtain ⟨p,q,Z,ys,rfl,rfl,hp,O,hl,c,k⟩:=h;cases W;cases Y;obtain ⟨z1,f,S,o,l1,m⟩:=I.lstM hp;obtain ⟨z2,g,n2,w,l2,B⟩:=I.lstM O;refine vq (op:=.Eq) {_,m,rfl} {_,B,rfl} slot_list_eq (Z7 slot_list_eq {_,m,rfl} PySem.F.entry_list_eq (PySem.F.args_list_eq_2 _ _) (QT p q f.toArray g.toArray S n2 none none #[] #[] (by rw[l8,l8];lia)) {m,B,fun j K M=>?_,?_}) (by lia)
 ·have P:j<f.length:=by simpa using K
  have R:j<g.length:=by simpa using M
  have E:j<Z.length:=by lia
  have G:j<ys.length:=by lia
  obtain ⟨a,C,T⟩:=o.get (i:=j) (i7 E);obtain ⟨b,D,U⟩:=w.get (i:=j) (i7 G);rw[i7 P]at C;rw[i7 R]at D;have N:=OO I (A:=X.A.in1) (by show X.A.units+1+30<N2;lia) (c j _ _ (i7 E) (i7 G)) T U;cases C;cases D;simpa using N
 ·exact {(fun x=>nomatch x),.bl true,H,I,rfl,k}
def Tr{H:Hp}{a:g6}(h:H a=none)(o:HO):∃G,upd H a o=G/\aK H G/\G a=some o:={_,rfl,aK.new h,aC}
def xN{H:Hp}{Q:VK}{xs:List V}(k:∀p G,H p=none->aK H G->G p=some (.lst xs)->Q (.ref p) G)(h:xs.length<=1000:=by exact F4 rfl):Lf Q xs H:=dH (fun p e=>k p _ e (aK.new e) aC) h
def JM{H:Hp}{Q:VK}{xs:List V}(k:∀p G,H p=none->aK H G->G p=some (.tup xs)->Q (.ref p) G)(h:xs.length<=1000:=by exact F4 rfl):Hn Q xs H:=bD (fun p e=>k p _ e (aK.new e) aC) h
end L2
namespace Lw
open PySem L2
set_option maxHeartbeats 0
set_option compiler.extract_closed false
set_option hygiene false
local macro_rules | `(tactic| fail $s:str) => do
 let s:=s.getString
 if s="a" then return ← `(tactic|with_reducible assumption)
 if s="d" then return ← `(tactic|first|decide|lia)
 if s="r" then return ← `(tactic|exact rfl)
 if s="h" then return ← `(tactic|walk_at"hp")
 if s="n" then return ← `(tactic|first|with_reducible assumption|(refine u7 ?_;with_reducible assumption))
 if s="N" then return ← `(tactic|first|exact HC.n_net|exact HC.n_pushes|exact HC.n_takings|exact HC.n_moment|exact HC.n_moments)
 let a:=(s.splitOn ",").tail
 let q:=fun w=>Lean.Syntax.mkStrLit w
 let p:=fun n:String=>(⟨.ident .none n.toRawSubstring n.toName [.decl (`L2++n.toName) []]⟩:Lean.Ident)
 let b ← a.toArray.mapM fun w=>match w.splitOn "!" with
  |[n,k]=>`(tacticSeq|(with_reducible refine' $(p n) ?ih ?_);case ih=>fail $(q k))
  |[n,k,l]=>`(tacticSeq|(with_reducible refine' $(p n) ?ih ?ie ?_);(case ih=>fail $(q k));case ie=>fail $(q l))
  |_=>`(tacticSeq|with_reducible refine $(p w) ?_)
 `(tactic|first $[|$b]*)
local macro_rules | `(tactic| specialize $e) => `(tactic| exact $e (by fail"d") (by fail"d"))
local macro_rules | `(tactic| walk_at "hp") => `(tactic| first
 |with_reducible assumption
 |with_reducible exact aC
 |(fail",aO!a";walk_at"hp")
 |(fail",aW!n";walk_at"hp")
 |(fail",aK.app!a";walk_at"hp")
  | (fail",Kp.app!a!n";walk_at"hp"))
local macro_rules | `(tactic| walk_at "go1") => `(tactic| first
 |fail",lF"
 |(fail",Ph";fail",xM")
 |(fail",Oy";fail",Uj")
 |(fail",Qd";fail",Up")
 |fail",Qi,Ax,Ov!r,r_c,Ul,Ug,Ql,r_U,Si,Ui,Iq,As,VQ,oV!d,Ja!d"
 |((with_reducible refine oB ?mc ?_);case mc=>first|specialize fF.r|specialize fF.l)
 |((with_reducible refine iH ?mc ?_);case mc=>specialize pN.of)
 |fail",Ip,Ii,Uh,Us,Pt,Uo,Qj,Uk,Pi,Ka,Pc,Iu,Kb,Pg,Iv,Pa,Iz,Jq,Fx,Jv,Ow,Fy,Jx,Bh,Jb,Ut,Jt,Qa,Js,Jr,Be,Bc,Ba,Uq,Ay,Jm,Av,Ox,Pe,Ju,Je,Jf,Jg,Ix,Iy,VZ!h,Qf!h,CQ!h,NG!h,Pb,Ir,Ry,Rh,Rw,Qk,Pp,Po,Jj,Pu,Jw,Im,Il,Au,Jc!h,xO!h,NE!h!r,iW!h!r,Gd,Vi,Vh,Wo,Wp,Lv,Lx!d,Rp!d")
local macro_rules | `(tactic| walk_at "go") => `(tactic| repeat (walk_at "go1"))
local macro_rules | `(tactic| walk_at "gos") => `(tactic| repeat ((fail_if_success (fail",lF")); walk_at "go1"))
set_option hygiene true
theorem bC{CX:zY}{P:m9}{w:w6}{K:y8}{o:Str->Option f9}{g:C3}{N:List Str}{i:Str}{c:di}{f:g6}{m:f9}{A:B2}{b:List Env}{s:i6}{H:Hp}{E:XK}:(rL CX P w K o g N i c f m A b s H E).K=K:=rfl
theorem aR{X:Cx}:X.nox.K=X.K:=rfl
theorem Dl{P:List f9->Prop}(h:P []):∀us:List f9,us.length=0->P us:=fun us e=>(Q1.mp e).symm▸h
theorem zV{n:Nat}{P:List f9->Prop}(h:∀a us,us.length=n->P (a::us)):∀us:List f9,us.length=n+1->P us:=fun us=>List.casesOn (motive:=fun us=>us.length=n+1->P us) us (fun e=>absurd e (Nat.succ_ne_zero n).symm) fun a us e=>h a us (Nat.succ.inj e)
theorem el_1{P:List f9->Prop}(h:∀b,P [b]):∀us:List f9,us.length=1->P us:=zV fun b=>Dl (h b)
theorem el_2{P:List f9->Prop}(h:∀b c,P [b,c]):∀us:List f9,us.length=2->P us:=zV fun b=>zV fun c=>Dl (h b c)
theorem el_3{P:List f9->Prop}(h:∀b c f,P [b,c,f]):∀us:List f9,us.length=3->P us:=zV fun b=>zV fun c=>zV fun f=>Dl (h b c f)
theorem el_4{P:List f9->Prop}(h:∀b c f g,P [b,c,f,g]):∀us:List f9,us.length=4->P us:=zV fun b=>zV fun c=>zV fun f=>zV fun g=>Dl (h b c f g)
local macro_rules | `(tactic| w_left) => `(tactic| first | exact J8 rfl | exact J5 rfl | exact fun _ _ _ _ _ _ => el_1 fun _ => rfl | exact fun _ _ _ _ _ _ => el_2 fun _ _ => rfl | exact fun _ _ _ _ _ _ => el_3 fun _ _ _ => rfl | exact ⟨rfl,rfl,rfl,by k_is,rfl,by k_is,by k_is⟩)
local macro_rules | `(tactic| w_means) => `(tactic| first | exact .inl rfl | exact .inr rfl | assumption)
local macro_rules | `(tactic| w_on) => `(tactic| walk_at "go")
local macro_rules | `(tactic| apply $e) => `(tactic| (refine $e; w_on))
noncomputable def iB(i:Nat):E2:=PySem.Challenge.pw_tilefall_k84_whole_time_in_parts.main.body.getD i (.Pass {0,0,0,0})
set_option hygiene false
local macro_rules | `(tactic| walk_at "go1") => `(tactic| first
 |fail",Um,Pw,Ij,Pm,Vc!h!r"
 |((with_reducible refine' Vl ?ia1 ?ia2 ?ia3 ?ia4 ?_);(case ia1=>walk_at"hp");(case ia2=>exact HC.cl);(case ia3=>fail"N");(case ia4=>exact rfl))
  | ((with_reducible refine' Uf ?ia1 ?ia2 ?ia3 ?ia4 ?_);(case ia1=>walk_at"hp");(case ia2=>exact HC.cl);(case ia3=>fail"N");(case ia4=>exact F4 rfl)))
noncomputable abbrev tT:g6:=165
noncomputable abbrev LT(H:Hp):Prop:=nR 165 {60,59,60,79} (("sorted_by"++".<locals>.":Str)++"<lambda>") H
theorem LT.ex{H:Hp}(h:LT H):∃ps,H tT=some (.tbl ps):=by
 rcases h with h|⟨_,h,_⟩
 ·exact {_,h}
 ·exact {_,h}
theorem kT{H H':Hp}{a:g6}{o:HO}(k:Kp tT H H')(t:LT H)(h:H a=some o)(b:∀ps,o≠.tbl ps):H' a=some o:=
 let ⟨ps,e⟩:=t.ex;k _ _ (fN h e (b ps)) h
theorem kTf{H H':Hp}{a:g6}(k:Kp tT H H')(t':LT H')(h:H' a=none):H a=none:=by
 cases e:H a with
|none=>rfl
|some o=>
  obtain ⟨c,b⟩:=t'.ex;rw[k _ _ (u7 (aB b h)) e]at h;cases h
theorem LT.ins{H:Hp}{p C dx:g6}{b:List (Str×V)}{o:HO}(t:LT H)(h:H p=some (.ins C dx b)):LT (L2.upd H p o):=by
 rcases t with t|⟨c,t,u⟩
 ·exact .inl (by rw[aX (fN t h (by intro z;cases z))];exact t)
 ·exact .inr {c,by rw[aX (fN t h (by intro z;cases z))];exact t,by rw[aX (fN u h (by intro z;cases z))];exact u}
theorem Ud{H H':Hp}(k:Kp tT H H')(t:LT H):TK H H':=fun p b e=>kT k t e (fun _ z=>nomatch z)
def FrD(B:Nat)(H:Hp)(v:V):Prop:=∃q:Rat,cA H v q/\q.den∣B/\Sz 2000 q
structure Tj(K:y8)(mg:Str->Option f9)(C:g6):Prop where
 m:mg "Hall"=some (.ref C)
 cl:EK K C
 mks:pc K C=true
 kp:C0 K (.ref C)=true
 n_net:fP K C "net"
 n_pushes:fP K C "pushes"
 n_takings:fP K C "takings"
 n_moment:fP K C "moment"
 n_moments:fP K C "moments"
noncomputable def gI(s:E2):List E2:=match s with|.ClassDef _ _ _ b _ _ _ _ _ _ _=>b|_=>[]
noncomputable abbrev xG:E2:=iB 8
theorem GH:aM ["thing"] ["thing"] (aG xG):=by w_left
noncomputable abbrev mE:E2:=iB 9
theorem fJ:aM ["one","other","rest"] ["one","other"] (aG mE):=by w_left
noncomputable abbrev qM:E2:=iB 10
theorem xC:aM ["thing"] ["thing"] (aG qM):=by w_left
noncomputable abbrev iG:E2:=iB 11
theorem oP:aM ["top","bottom","divisor"] ["top","bottom"] (aG iG):=by w_left
noncomputable abbrev NB:E2:=iB 12
theorem oQ:aM ["one","other","shared","part","top","divisor"] ["one","other"] (aG NB):=by w_left
noncomputable abbrev xF:E2:=iB 13
theorem GG:aM ["one","other"] ["one","other"] (aG xF):=by w_left
noncomputable abbrev MV:E2:=iB 14
theorem VB:aM ["one","other"] ["one","other"] (aG MV):=by w_left
noncomputable abbrev AX:E2:=iB 15
theorem JJ:aM ["one","other"] ["one","other"] (aG AX):=by w_left
noncomputable abbrev AW:E2:=iB 16
theorem JI:aM ["one","other"] ["one","other"] (aG AW):=by w_left
noncomputable abbrev uU:E2:=iB 17
theorem CN:aM ["thing"] ["thing"] (aG uU):=by w_left
noncomputable abbrev nB:E2:=iB 18
theorem iM:aM ["fractions","bottom","each"] ["fractions"] (aG nB):=by w_left
noncomputable abbrev fM:E2:=iB 19
theorem sL:aM ["fractions","things","pairs"] ["fractions","things"] (aG fM):=by w_left
noncomputable abbrev nC:E2:=iB 21
theorem GF:aM ["net"] ["net"] (aG nC):=by w_left
noncomputable abbrev qL:E2:=iB 22
theorem gO:aM ["net","beside","number","run"] ["net"] (aG qL):=by w_left
noncomputable abbrev nX:E2:=iB 24
theorem fQ:aM ["deeds","least","thing","moment"] ["deeds"] (aG nX):=by w_left
noncomputable abbrev GL:E2:=iB 25
theorem PY:aM ["taken","number","moment"] ["taken","number","moment"] (aG GL):=by w_left
noncomputable abbrev qN:E2:=iB 26
theorem gP:aM ["waiting","earliest","post"] ["waiting"] (aG qN):=by w_left
noncomputable abbrev gJ:E2:=iB 27
theorem dY:aM ["net","pushes","takings","beside","taken","pushed","waiting","fallen","post","number","other","moment"] ["net","pushes","takings"] (aG gJ):=by w_left
noncomputable abbrev eC:E2:=iB 28
theorem nW:aM ["net","pushes","takings","fallen"] ["net","pushes","takings"] (aG eC):=by w_left
noncomputable abbrev oR:E2:=iB 30
theorem vG:aM ["fell","time","moment"] ["fell","time","moment"] (aG oR):=by w_left
noncomputable abbrev qK:E2:=iB 31
theorem kC:aM ["run","moments","taken","moment","first","last"] ["run","moments","taken","moment"] (aG qK):=by w_left
noncomputable abbrev xH:E2:=iB 32
theorem GI:aM ["fell","time","beyond"] ["fell","time","beyond"] (aG xH):=by w_left
noncomputable abbrev lE:E2:=iB 33
theorem eY:aM ["run","moments","one","other","met"] ["run","moments"] (aG lE):=by w_left
noncomputable abbrev uT:E2:=iB 34
theorem CL:aM ["ending"] ["ending"] (aG uT):=by w_left
noncomputable abbrev uV:E2:=iB 35
theorem mX:aM ["run","moments","taken","ending","ended"] ["run","moments","taken"] (aG uV):=by w_left
noncomputable abbrev AY:E2:=iB 39
theorem JK:aM ["_law_script","_law_k"] ["_law_script","_law_k"] (aG AY):=by w_left
noncomputable abbrev MY:E2:=iB 40
theorem xB:aM ["_law_cell","_law_k","_law_number_here"] ["_law_cell","_law_k"] (aG MY):=by w_left
noncomputable abbrev GK:E2:=iB 41
theorem AV:aM ["_law_script","_law_k","_law_cell"] ["_law_script","_law_k"] (aG GK):=by w_left
noncomputable abbrev Fo:E2:=iB 42
theorem CM:aM ["_law_top","_law_bottom","_law_one","_law_other"] ["_law_top","_law_bottom"] (aG Fo):=by w_left
noncomputable abbrev MX:E2:=iB 43
theorem eB:aM ["_law_number_here","_law_letters","_law_count","_law_size","_law_word","_law_k","_law_at","_law_names","_law_tail","_law_sign"] ["_law_number_here"] (aG MX):=by w_left
noncomputable abbrev VE:E2:=iB 44
theorem Ak:aM ["_law_number_here"] ["_law_number_here"] (aG VE):=by w_left
noncomputable abbrev MZ:E2:=iB 45
theorem mD:aM ["_law_here_here","_law_number_here","_law_extra","_law_letters","_law_many","_law_k","_law_last"] ["_law_here_here","_law_number_here","_law_extra"] (aG MZ):=by w_left
noncomputable abbrev VH:E2:=iB 46
theorem fR:aM ["_law_script","_law_most","_law_extra","_law_names","_law_unit","_law_here_here","_law_k","_law_number_here","_law_kind","_law_a","_law_b","_law_moment"] ["_law_script","_law_most","_law_extra"] (aG VH):=by w_left
noncomputable abbrev VF:E2:=iB 47
theorem VC:aM ["_law_here_here","_law_names"] ["_law_here_here"] (aG VF):=by w_left
noncomputable abbrev oS:E2:=iB 48
theorem AU:aM ["_law_here_here","_law_used"] ["_law_here_here"] (aG oS):=by w_left
noncomputable abbrev MW:E2:=iB 49
theorem sK:aM ["_law_here_here","_law_found","_law_number_here","_law_moment"] ["_law_here_here"] (aG MW):=by w_left
noncomputable abbrev Fp:E2:=iB 50
theorem fY:aM ["_law_here_here","_law_taken_here","_law_due_here","_law_post","_law_moment","_law_changed","_law_rising","_law_k","_law_a","_law_b","_law_time_here","_law_one","_law_other","_law_comes"] ["_law_here_here"] (aG Fp):=by w_left
noncomputable abbrev VG:E2:=iB 52
theorem mW:aM ["_law_here_here","_law_due_here","_law_k","_law_moment","_law_a","_law_b","_law_time_here","_law_taken_here","_law_first","_law_last"] ["_law_here_here","_law_due_here","_law_k","_law_moment"] (aG VG):=by w_left
noncomputable abbrev VI:E2:=iB 53
theorem MT:aM ["_law_script","_law_here_here"] ["_law_script"] (aG VI):=by w_left
noncomputable abbrev oU:E2:=iB 54
theorem lD:aM ["_law_here_here","_law_due_here","_law_number_here","_law_standing_posts","_law_used","_law_whole_runs","_law_kind","_law_later"] ["_law_here_here","_law_due_here","_law_number_here"] (aG oU):=by w_left
noncomputable abbrev Fs:E2:=iB 55
theorem Ig:aM ["_law_here_here","_law_deed_here"] ["_law_here_here","_law_deed_here"] (aG Fs):=by w_left
noncomputable abbrev nY:E2:=(gI (iB 37)).getD 2 (.Pass {0,0,0,0})
theorem tX:aM ["self","moment"] ["self","moment"] (aG nY):=by w_left
noncomputable abbrev gU:E2:=(gI (iB 37)).getD 7 (.Pass {0,0,0,0})
theorem qX:aM ["self"] ["self"] (aG gU):=by w_left
noncomputable abbrev jN:E2:=(gI (iB 37)).getD 8 (.Pass {0,0,0,0})
theorem cG:aM ["self","taken","told","number","run","ending"] ["self"] (aG jN):=by w_left
noncomputable abbrev pP:E2:=(gI (iB 37)).getD 6 (.Pass {0,0,0,0})
theorem mZ:aM ["self","time","before","told","fresh"] ["self","time"] (aG pP):=by w_left
noncomputable abbrev qO:E2:=(gI (iB 37)).getD 1 (.Pass {0,0,0,0})
theorem xD:aM ["self"] ["self"] (aG qO):=by w_left
noncomputable abbrev sN:E2:=(gI (iB 37)).getD 11 (.Pass {0,0,0,0})
theorem qJ:aM ["self","number","taken"] ["self","number"] (aG sN):=by w_left
noncomputable abbrev uW:E2:=(gI (iB 37)).getD 5 (.Pass {0,0,0,0})
theorem CO:aM ["self","number"] ["self","number"] (aG uW):=by w_left
noncomputable abbrev iC:E2:=(gI (iB 37)).getD 3 (.Pass {0,0,0,0})
theorem mY:aM ["self","post"] ["self","post"] (aG iC):=by w_left
noncomputable abbrev uX:E2:=(gI (iB 37)).getD 4 (.Pass {0,0,0,0})
theorem CP:aM ["self","post"] ["self","post"] (aG uX):=by w_left
noncomputable abbrev Os:E2:=iB 56
theorem Oq:aM ["_law_hall_here","_law_here_here","_law_deed_here"] ["_law_hall_here","_law_here_here","_law_deed_here"] (aG Os):=by w_left
noncomputable abbrev xI:E2:=iB 57
theorem fL:aM ["_law_hall_here","_law_here_here","_law_time_here","_law_number_here","_law_told_here","_law_left_here","_law_k","_law_part"] ["_law_hall_here","_law_here_here","_law_time_here","_law_number_here"] (aG xI):=by w_left
noncomputable abbrev lQ:E2:=(gI (iB 37)).getD 10 (.Pass {0,0,0,0})
theorem xE:aM ["self"] ["self"] (aG lQ):=by w_left
noncomputable abbrev xJ:E2:=(gI (iB 37)).getD 9 (.Pass {0,0,0,0})
theorem GJ:aM ["self"] ["self"] (aG xJ):=by w_left
noncomputable abbrev VD:E2:=iB 58
theorem Aj:aM ["_law_hall_here","_law_here_here","_law_number_here"] ["_law_hall_here","_law_here_here","_law_number_here"] (aG VD):=by w_left
noncomputable abbrev nZ:E2:=(gI (iB 37)).getD 0 (.Pass {0,0,0,0})
theorem tY:aM ["self","net"] ["self","net"] (aG nZ):=by w_left
noncomputable abbrev sM:E2:=iB 59
theorem oO:aM ["_law_script","_law_here_here","_law_net_here","_law_halls","_law_k","_law_number_here","_law_deed_here","_law_found"] ["_law_script"] (aG sM):=by w_left
inductive AE (K:y8) (vs:List V) (H:Hp) (Q:VK) (EE:XK):Prop
|mk (x:V) (t:f9) (b c:Bool) (h0':vs=[x]) (h1':pJ K H x t) (h2':W3 K t (.type "int")=some b) (h3':W3 K t (.type "bool")=some c) (h4':Q (.bl (b&&!c)) H):AE K vs H Q EE
noncomputable def LO(K:y8):Sp:=fun vs H Q EE=>AE K vs H Q EE
inductive MK (vs:List V) (H:Hp) (Q:VK) (EE:XK):Prop
|mk (a b:Int) (h0':vs=[.int a,.int b]) (h1':Q (.int (m7 a b:Int)) H):MK vs H Q EE
noncomputable def Ff:Sp:=fun vs H Q EE=>MK vs H Q EE
inductive wV (K:y8) (vs:List V) (H:Hp) (Q:VK) (EE:XK):Prop
|mk (x:V) (r:Bool) (h0':vs=[x]) (h1':Frq K H x r) (h2':Q (.bl r) H):wV K vs H Q EE
noncomputable def FR(K:y8):Sp:=fun vs H Q EE=>wV K vs H Q EE
inductive sI (K:y8) (vs:List V) (H:Hp) (Q:VK) (EE:XK):Prop
|mk (t b:Int) (h0':vs=[.int t,.int b]) (h1':b≠0) (h2':Sm 8000 b) (h3':∀p,H p=none->Q (.ref p) (upd H p (.tup [.int (dS t b),.int (eJ t b)]))):sI K vs H Q EE
noncomputable def wY(K:y8):Sp:=fun vs H Q EE=>sI K vs H Q EE
inductive GA (vs:List V) (H:Hp) (Q:VK) (EE:XK):Prop
|mk (x y:V) (q r:Rat) (h0':vs=[x,y]) (h1':cA H x q) (h2':cA H y r) (h3':Sz 8000 q) (h4':Sz 8000 r) (h5':∀v H',cA H' v (q+r)->aK H H'->Q v H'):GA vs H Q EE
noncomputable def US:Sp:=fun vs H Q EE=>GA vs H Q EE
inductive FP (vs:List V) (H:Hp) (Q:VK) (EE:XK):Prop
|mk (x y:V) (q r:Rat) (h0':vs=[x,y]) (h1':cA H x q) (h2':cA H y r) (h3':Sz 8000 q) (h4':Sz 8000 r) (h5':∀v H',cA H' v (q-r)->aK H H'->Q v H'):FP vs H Q EE
noncomputable def UI:Sp:=fun vs H Q EE=>FP vs H Q EE
inductive FG (vs:List V) (H:Hp) (Q:VK) (EE:XK):Prop
|mk (x y:V) (q r:Rat) (h0':vs=[x,y]) (h1':cA H x q) (h2':cA H y r) (h3':Sz 3000 q) (h4':Sz 3000 r) (h5':∀v H',cA H' v (q*r)->aK H H'->Q v H'):FG vs H Q EE
noncomputable def UD:Sp:=fun vs H Q EE=>FG vs H Q EE
inductive FW (vs:List V) (H:Hp) (Q:VK) (EE:XK):Prop
|mk (x y:V) (q r:Rat) (h0':vs=[x,y]) (h1':cA H x q) (h2':cA H y r) (h3':Sz 3000 q) (h4':Sz 3000 r) (h5':r≠0) (h6':∀v H',cA H' v (q/r)->aK H H'->Q v H'):FW vs H Q EE
noncomputable def UN:Sp:=fun vs H Q EE=>FW vs H Q EE
inductive AO (vs:List V) (H:Hp) (Q:VK) (EE:XK):Prop
|mk (x y:V) (q r:Rat) (h0':vs=[x,y]) (h1':cA H x q) (h2':cA H y r) (h3':Sz 8000 q) (h4':Sz 8000 r) (h5':Q (.bl (decide (q<r))) H):AO vs H Q EE
noncomputable def MD:Sp:=fun vs H Q EE=>AO vs H Q EE
theorem Rr(q:Rat):Rs (.int q.num) (.int (q.den:Int))=true:=by have b:=q.den_pos;have c:m7 q.num q.den=1:=q.reduced;unfold Rs;simp only[decide_eq_true_eq,Y5];lia
inductive FN (K:y8) (vs:List V) (H:Hp) (Q:VK) (EE:XK):Prop
|mk (x:V) (t:Rat) (h0':vs=[x]) (h1':cA H x t) (h2':0<=t.num) (h3':Sz 8000 t) (h4':Q (.bl true) H):FN K vs H Q EE
noncomputable def UH(K:y8):Sp:=fun vs H Q EE=>FN K vs H Q EE
noncomputable def JD(D:Int)(q:Rat):Int:=q.num*D.fdiv q.den
inductive wN (vs:List V) (H:Hp) (Q:VK) (EE:XK):Prop
|mk (l:g6) (xs:List V) (qs:List Rat) (B:Nat) (h0':vs=[.ref l]) (h1':H l=some (.lst xs)) (h2':Paired (cA H) xs qs) (h3':xs.length<=500) (h4':0<B) (h5':B<2^400) (h6':(∀q∈qs,q.den∣B/\Sz 2000 q)) (h7':∀(p:g6)(H':Hp)(D:Int),H p=none->aK H H'->0<D->(∀q∈qs,(q.den:Int)∣D)->H' p=some (.lst ((qs.map (JD D)).map V.int))->Q (.ref p) H'):wN vs H Q EE
noncomputable def FD:Sp:=fun vs H Q EE=>wN vs H Q EE
inductive oN (K:y8) (vs:List V) (H:Hp) (Q:VK) (EE:XK):Prop
|mk (l l2:g6) (xs ys:List V) (qs:List Rat) (B:Nat) (h0':vs=[.ref l,.ref l2]) (h1':H l=some (.lst xs)) (h2':H l2=some (.lst ys)) (h3':Paired (cA H) xs qs) (h4':xs.length=ys.length) (h5':xs.length<=400) (h6':0<B) (h7':B<2^400) (h8':(∀q∈qs,q.den∣B/\Sz 2000 q)) (h9':LT H) (h10':∀(p:g6)(H':Hp)(D:Int)(ps:List (Int×V)),H p=none->Kp tT H H'->LT H'->0<D->(∀q∈qs,(q.den:Int)∣D)->Sq ps ((qs.map (JD D)).zip ys)->H' p=some (.lst (ps.map (·.2)))->Q (.ref p) H'):oN K vs H Q EE
noncomputable def rX(K:y8):Sp:=fun vs H Q EE=>oN K vs H Q EE
inductive AH (w:w6) (vs:List V) (H:Hp) (Q:VK) (EE:XK):Prop
|mk (l:g6) (n:List bX) (U:List Str) (h0':vs=[.ref l]) (h1':LQ jK H l (kn n)) (h2':n.length<=120) (h3':U.length<=63) (h4':(∀x∈names n,x∈U)) (h5':∀p H' (ys:List Str),H p=none->aK H H'->H' p=some (.lst (ys.map V.str))->ys.Nodup->(∀x,x∈ys↔x∈names n)->Q (.ref p) H'):AH w vs H Q EE
noncomputable def LV(w:w6):Sp:=fun vs H Q EE=>AH w vs H Q EE
inductive MR (vs:List V) (H:Hp) (Q:VK) (EE:XK):Prop
|mk (l:g6) (net:List (hZ aL)) (h0':vs=[.ref l]) (h1':LQ jK H l net) (h2':net.length<=120) (h3':∀d H',H d=none->aK H H'->Ej H' d net->Q (.ref d) H'):MR vs H Q EE
noncomputable def Fm:Sp:=fun vs H Q EE=>MR vs H Q EE
inductive MC (vs:List V) (H:Hp) (Q:VK) (EE:XK):Prop
|mk (l:g6) (ds:List (aL×Rat)) (h0':vs=[.ref l]) (h1':LQ wI H l ds) (h2':ds.length<=500) (h3':(∀x∈ds,Sz 8000 x.2)) (h4':∀d H',H d=none->aK H H'->DQ cA H' d (lst ds)->Q (.ref d) H'):MC vs H Q EE
noncomputable def Fe:Sp:=fun vs H Q EE=>MC vs H Q EE
noncomputable def WN(tm:AL aL Rat)(k:Int)(t:Rat):Bool:=match aV tm (j5 k) with|none=>false|some u=>decide (u<t)
inductive LX (vs:List V) (H:Hp) (Q:VK) (EE:XK):Prop
|mk (d:g6) (tm:AL aL Rat) (k:Int) (v:V) (t:Rat) (h0':vs=[.ref d,.int k,v]) (h1':DQ cA H d tm) (h2':cA H v t) (h3':(∀x∈tm,Sz 8000 x.2)) (h4':Sz 8000 t) (h5':Q (.bl (WN tm k t)) H):LX vs H Q EE
noncomputable def Fb:Sp:=fun vs H Q EE=>LX vs H Q EE
inductive MO (vs:List V) (H:Hp) (Q:VK) (EE:XK):Prop
|mk (a:g6) (W:AL aL (nU aL)) (h0':vs=[.ref a]) (h1':DQ kZ H a W) (h2':(W.map (·.1)).Nodup) (h3':(∀x∈W,Sz 8000 x.2.1)) (h4':W≠[]) (h5':∀p e,(p,e)∈W->(∀w∈W,e.1<=w.2.1)->Q (kV p) H):MO vs H Q EE
noncomputable def Fj:Sp:=fun vs H Q EE=>MO vs H Q EE
noncomputable def cQ(ts:List (aL×Rat)):Nat->Option Rat:=fun k=>aV (lst ts) (j5 (k:Int))
inductive ML (vs:List V) (H:Hp) (Q:VK) (EE:XK):Prop
|mk (l:g6) (net:List (hZ aL)) (lp:g6) (ps:List (aL×Rat)) (vt:V) (ts:List (aL×Rat)) (D M:Nat) (h0':vs=[.ref l,.ref lp,vt]) (h1':mP H l net D M) (h2':RY H lp ps D M) (h3':RX H vt ts) (h4':zI D M) (h5':∀d H' F,H d=none->aK H H'->DQ kZ H' d F->pM net (aV (lst ps)) (cQ ts) F->F.length<=ps.length+2*net.length->(∀x∈F,Bd D (M*1000) x.2.1)->Q (.ref d) H'):ML vs H Q EE
noncomputable def Fh:Sp:=fun vs H Q EE=>ML vs H Q EE
inductive UK (w:w6) (vs:List V) (H:Hp) (Q:VK) (EE:XK):Prop
|mk (l:g6) (n:List bX) (lp:g6) (ps:List (aL×Rat)) (vt:V) (ts:List (aL×Rat)) (D M:Nat) (U:List Str) (h0':vs=[.ref l,.ref lp,vt]) (h1':mP H l (kn n) D M) (h2':RY H lp ps D M) (h3':RX H vt ts) (h4':zI D M) (h5':U.length<=63) (h6':(∀x∈names n,x∈U)) (h7':∀d H' F (ys:List Str),H d=none->aK H H'->DQ fI H' d (ys.map fun y=>(i0 y,fO F (i0 y)))->pM (kn n) (aV (lst ps)) (cQ ts) F->(∀x∈F,Bd D (M*1000) x.2.1)->ys.Nodup->(∀x,x∈ys↔x∈names n)->Q (.ref d) H'):UK w vs H Q EE
noncomputable def Om(w:w6):Sp:=fun vs H Q EE=>UK w vs H Q EE
structure pK(D M:Nat):Prop where
 ne:D≠0
 d3:D<2^300
 m:M*1000*D<2^400
theorem Wl:2^400<=2^8000:=W2 (by decide) (by decide)
theorem pK.d{D M:Nat}(R:pK D M):D<2^400:=j3 R.d3 (W2 (by decide) (by decide))
theorem pK.r8{D M:Nat}(R:pK D M):zI D M:={R.ne,j3 R.d Wl,j3 R.m Wl}
theorem pK.sz{D M:Nat}{q:Rat}(R:pK D M)(h:Bd D (M*1000) q):Sz 400 q:=h.sz R.ne R.d R.m
structure cU(H:Hp)(ln lp lt:g6)(n:List bX)(ps ts:List (aL×Rat))(D M:Nat)(U:List Str):Prop where
 nq:mP H ln (kn n) D M
 pq:RY H lp ps D M
 tq:LQ wI H lt ts
 tl:ts.length<=100
 tz:∀r∈ts,Sz 400 r.2
 R:pK D M
 u2:U.length<=63
 nm:∀x∈names n,x∈U
 n1:ln≠lp
 n2:ln≠lt
 n3:lp≠lt
theorem cU.mv{H H':Hp}{ln f i:g6}{n:List bX}{ps m:List (aL×Rat)}{D M:Nat}{U:List Str}(h:cU H ln f i n ps m D M U)(e:∀l xs,H l=some (.lst xs)->H' l=some (.lst xs))(t:TK H H'):cU H' ln f i n ps m D M U:=
 have g:∀{o:Type}{R:Hp->V->o->Prop}{l:g6}{c:List o},LQ R H l c->(∀ {H H' v b},R H v b->TK H H'->R H' v b)->LQ R H' l c:=fun ⟨k,a,b⟩ s=>{k,e _ _ a,Pd.imp b fun v b q=>s q t}
 {{g h.nq.lq jK.tk,h.nq.len,h.nq.bd,h.nq.pos},{g h.pq.lq wI.tk,h.pq.len,h.pq.bd},g h.tq wI.tk,h.tl,h.tz,h.R,h.u2,h.nm,h.n1,h.n2,h.n3}
theorem cU.sm{H H':Hp}{ln b c:g6}{n:List bX}{ps f:List (aL×Rat)}{D M:Nat}{U:List Str}(h:cU H ln b c n ps f D M U)(s:aK H H'):cU H' ln b c n ps f D M U:=h.mv (fun _ _ z=>s _ _ z) s.tk
structure dA(H:Hp)(dm:g6)(n:List bX)(ps ts:List (aL×Rat))(D M:Nat)(mo:aL->Option Rat)(ys:List Str):Prop where
 dq:DQ fI H dm (ys.map fun y=>(i0 y,mo (i0 y)))
 fal:iA (kn n) (aV (lst ps)) (cQ ts) mo
 bd:∀k q,mo k=some q->Bd D (M*1000) q
 nd:ys.Nodup
 mem:∀x,x∈ys↔x∈names n
theorem dA.mv{H H':Hp}{dm:g6}{n:List bX}{ps b:List (aL×Rat)}{D M:Nat}{mo:aL->Option Rat}{ys:List Str}(h:dA H dm n ps b D M mo ys)(e:∀o,H dm=some o->H' dm=some o)(t:TK H H'):dA H' dm n ps b D M mo ys:={DQ.mv h.dq fI.tk e t,h.fal,h.bd,h.nd,h.mem}
theorem dA.of{H:Hp}{dm:g6}{n:List bX}{ps c:List (aL×Rat)}{D M:Nat}{F:AL aL (nU aL)}{ys:List Str}(g:DQ fI H dm (ys.map fun y=>(i0 y,fO F (i0 y))))(m:pM (kn n) (aV (lst ps)) (cQ c) F)(f:∀x∈F,Bd D (M*1000) x.2.1)(o:ys.Nodup)(b:∀x,x∈ys↔x∈names n):dA H dm n ps c D M (fO F) ys:=
 {g,m.falls,fun k q e=>by
  unfold fO at e;rw[A9]at e;obtain ⟨x,i,rfl⟩:=e;exact f _ (cM i),o,b}
theorem dA.get{H:Hp}{dm:g6}{n:List bX}{ps B:List (aL×Rat)}{D M:Nat}{mo:aL->Option Rat}{ys:List Str}{g:List (aL×V)}(h:dA H dm n ps B D M mo ys)(e:H dm=some (.dK g)):∀y,(y∈names n/\∃v,bI g (i0 y)=some v/\fI H v (mo (i0 y)))∨(y∉names n/\bI g (i0 y)=none):=fun y=>by
 obtain ⟨s,f,A⟩:=h.dq;cases f.symm.trans e;have w:((ys.map fun y=>((i0 y:aL),mo (i0 y))).map (·.1)).Nodup:=by rw[R5];exact P5.mpr (h.nd.imp fun h e=>h (oq e))
 rcases A.val (k:=i0 y) with ⟨b,c⟩|⟨C,E,b,c,m⟩
 ·refine .inr {fun o=>?_,b};exact mN c _ (w8.mpr {y,(h.mem y).mpr o,rfl})
 ·obtain ⟨z,q,i⟩:=w8.mp (cM c);cases i;exact .inl {(h.mem y).mp q,C,b,m}
theorem YC{ln b c d:g6}{f:V}{dm:g6}:gY "moments" (.ref d) (bV ln b c f dm)=bV ln b c f d:=rfl
theorem YD{ln b c:g6}{f v:V}{dm:g6}:gY "moment" v (bV ln b c f dm)=bV ln b c v dm:=rfl
theorem CV{b:Type}{R:V->b->Prop}:∀{xs:List V}{ds:List b},Paired R xs ds->∀{i:Nat}{d:b},ds[i]?=some d->∃x,xs[i]?=some x/\R x d
|_,_,.nil,i,d,h=>by cases h
|_,_,.cons r t,0,d,h=>by cases h;exact {_,rfl,r}
|_,_,.cons r t,i+1,d,h=>CV t h
inductive LU (vs:List V) (H:Hp) (Q:VK) (EE:XK):Prop
|mk (vf vT vm:V) (o:Option Rat) (T m:Rat) (h0':vs=[vf,vT,vm]) (h1':fI H vf o) (h2':cA H vT T) (h3':cA H vm m) (h4':T≠0) (h5':Sz 400 T) (h6':Sz 400 m) (h7':(∀f,o=some f->Sz 400 f)) (h8':∀v H',cA H' v (GE o T m)->aK H H'->Q v H'):LU vs H Q EE
noncomputable def Fa:Sp:=fun vs H Q EE=>LU vs H Q EE
inductive FI (vs:List V) (H:Hp) (Q:VK) (EE:XK):Prop
|mk (pr d:g6) (vt vm:V) (a b:Str) (u:V) (T m:Rat) (kd:List (aL×V)) (oa ob tk:Option Rat) (va vb:V) (h0':vs=[.ref pr,.ref d,vt,vm]) (h1':H pr=some (.tup [.str a,.str b,u])) (h2':cA H u T) (h3':H d=some (.dK kd)) (h4':bI kd (i0 a)=some va) (h5':fI H va oa) (h6':bI kd (i0 b)=some vb) (h7':fI H vb ob) (h8':fI H vt tk) (h9':cA H vm m) (h10':T≠0) (h11':Sz 400 T) (h12':Sz 400 m) (h13':(∀f,oa=some f->Sz 400 f)) (h14':(∀f,ob=some f->Sz 400 f)) (h15':(∀f,tk=some f->Sz 400 f)) (h16':∀v H',tP H' v (FA oa ob tk T m)->aK H H'->Q v H'):FI vs H Q EE
noncomputable def UF:Sp:=fun vs H Q EE=>FI vs H Q EE
theorem UX{o:Option Rat}{T m:Rat}(c:T≠0)(g:Sz 400 T)(i:Sz 400 m)(q:∀f,o=some f->Sz 400 f):Sz 1300 (GE o T m):=by
 have b:Sz 1300 0:={pow_pos (by decide),Nat.one_lt_two_pow (by decide)}
 cases o with
|none=>exact b
|some f=>
  show Sz 1300 (if m<f then 0 else (m-f)/T);split
  ·exact b
  ·exact (Sz.div (Sz.sub i (q f rfl)) g c).mono (by decide)
inductive LS (vs:List V) (H:Hp) (Q:VK) (EE:XK):Prop
|mk (vf vT vb:V) (o:Option Rat) (T:Rat) (p:Option Rat) (h0':vs=[vf,vT,vb]) (h1':fI H vf o) (h2':cA H vT T) (h3':fI H vb p) (h4':Sz 400 T) (h5':(∀f,o=some f->Sz 400 f)) (h6':(∀f,p=some f->Sz 400 f)) (h7':∀H',aK H H'->Q (.bl (Oj o T p)) H'):LS vs H Q EE
noncomputable def Ez:Sp:=fun vs H Q EE=>LS vs H Q EE
inductive MN (vs:List V) (H:Hp) (Q:VK) (EE:XK):Prop
|mk (pr d:g6) (a b:Str) (u:V) (T:Rat) (kd:List (aL×V)) (oa ob:Option Rat) (va vb:V) (h0':vs=[.ref pr,.ref d]) (h1':H pr=some (.tup [.str a,.str b,u])) (h2':cA H u T) (h3':H d=some (.dK kd)) (h4':bI kd (i0 a)=some va) (h5':fI H va oa) (h6':bI kd (i0 b)=some vb) (h7':fI H vb ob) (h8':0<T) (h9':Sz 400 T) (h10':(∀f,oa=some f->Sz 400 f)) (h11':(∀f,ob=some f->Sz 400 f)) (h12':∀v H',zX H' v (vK a b oa ob T)->aK H H'->Q v H'):MN vs H Q EE
noncomputable def Fi:Sp:=fun vs H Q EE=>MN vs H Q EE
inductive MB (vs:List V) (H:Hp) (Q:VK) (EE:XK):Prop
|mk (v:V) (e:nP) (h0':vs=[v]) (h1':zX H v e) (h2':∀u,fI H u (yR e)->Q u H):MB vs H Q EE
noncomputable def Fd:Sp:=fun vs H Q EE=>MB vs H Q EE
theorem YM{a b:Str}{i m:Option Rat}{T:Rat}(g:Sz 400 T)(q:∀f,i=some f->Sz 400 f)(s:∀f,m=some f->Sz 400 f):∀t,yR (vK a b i m T)=some t->Sz 2000 t:=by
 have c:∀{o:Option Rat},(∀f,o=some f->Sz 400 f)->Sz 400 (o.getD 0):=fun {o} h=>by
  cases o with
 |none=>exact {pow_pos (by decide),Nat.one_lt_two_pow (by decide)}
 |some f=>exact h f rfl
 have w:Sz 10 (1/2:Rat):={by k_is,by k_is}
 intro t;unfold vK;split
 ·intro z;cases z
 ·split
  ·intro z;cases z;exact (Sz.add (c q) g).mono (by decide)
  ·split
   ·intro z;cases z;exact (Sz.add (c s) g).mono (by decide)
   ·intro z;cases z;exact (Sz.mul (Sz.add (Sz.add (c q) (c s)) g) w).mono (by decide)
inductive FV (vs:List V) (H:Hp) (Q:VK) (EE:XK):Prop
|mk (pr d:g6) (vt:V) (a b:Str) (u:V) (T:Rat) (kd:List (aL×V)) (oa ob tk:Option Rat) (va vb:V) (h0':vs=[.ref pr,.ref d,vt]) (h1':H pr=some (.tup [.str a,.str b,u])) (h2':cA H u T) (h3':H d=some (.dK kd)) (h4':bI kd (i0 a)=some va) (h5':fI H va oa) (h6':bI kd (i0 b)=some vb) (h7':fI H vb ob) (h8':fI H vt tk) (h9':0<T) (h10':Sz 400 T) (h11':(∀f,oa=some f->Sz 400 f)) (h12':(∀f,ob=some f->Sz 400 f)) (h13':(∀f,tk=some f->Sz 400 f)) (h14':∀v H',zX H' v (KN (vK a b oa ob T) tk)->aK H H'->Q v H'):FV vs H Q EE
noncomputable def UL:Sp:=fun vs H Q EE=>FV vs H Q EE
inductive FZ (K:y8) (vs:List V) (H:Hp) (Q:VK) (EE:XK):Prop
|mk (a:g6) (ns:List Int) (k:Int) (h0':vs=[.ref a,.int k]) (h1':cS K H a (ns.map V.int)) (h2':0<=k) (h3':∀r,Q (.int r) H):FZ K vs H Q EE
noncomputable def UR(K:y8):Sp:=fun vs H Q EE=>FZ K vs H Q EE
inductive uR (vs:List V) (H:Hp) (Q:VK) (EE:XK):Prop
|mk (c k:Int) (h0':vs=[.int c,.int k]) (h1':0<=k) (h2':k<=1000) (h3':∀r,Q (.int r) H):uR vs H Q EE
noncomputable def AN:Sp:=fun vs H Q EE=>uR vs H Q EE
inductive AK (K:y8) (vs:List V) (H:Hp) (Q:VK) (EE:XK):Prop
|mk (a:g6) (ns:List Int) (k:Int) (h0':vs=[.ref a,.int k]) (h1':cS K H a (ns.map V.int)) (h2':0<=k) (h3':k<=1000) (h4':∀r,Q (.int r) H):AK K vs H Q EE
noncomputable def LY(K:y8):Sp:=fun vs H Q EE=>AK K vs H Q EE
inductive wT (vs:List V) (H:Hp) (Q:VK) (EE:XK):Prop
|mk (t b:Int) (h0':vs=[.int t,.int b]) (h1':0<b) (h2':Sm 8000 t) (h3':Sm 8000 b) (h4':∀p,H p=none->Q (.ref p) (upd H p (.tup [.int (dS t b),.int (eJ t b)]))):wT vs H Q EE
noncomputable def FO:Sp:=fun vs H Q EE=>wT vs H Q EE
theorem at6:∀i:Int,0<=i->i<6->∃t:Str,zA [V.str "",V.str ".x",V.str ".ab.c",V.str ".zzzzzzzz.y.a",V.str "",V.str ""] i=some (.str t)/\t.length<=20/\((cl t).length=0∨(cl t).length=2∨(cl t).length=5∨(cl t).length=13)/\Wr (cl t):=by
 intro i b c;have:i=0∨i=1∨i=2∨i=3∨i=4∨i=5:=by lia
 rcases this with rfl|rfl|rfl|rfl|rfl|rfl <;> exact {_,rfl,by k_is,by k_is,by unfold Wr;decide +kernel}
inductive uQ (vs:List V) (H:Hp) (Q:VK) (EE:XK):Prop
|mk (c:Int) (h0':vs=[.int c]) (h1':∀l H' (U:List Str),H l=none->aK H H'->H' l=some (.lst (U.map V.str))->2<=U.length->U.length<=8->U.Nodup->(∀x∈U,Nq x)->(∀x∈U,Sw x)->Q (.ref l) H'):uQ vs H Q EE
noncomputable def AI:Sp:=fun vs H Q EE=>uQ vs H Q EE
theorem Tu{x0 x1 x2 x3:Int}(P:Int->Prop)(b:P x0)(c:P x1)(f:P x2)(g:P x3)(i:Int)(l:0<=i)(u:i<4):∃t:Int,zA [V.int x0,V.int x1,V.int x2,V.int x3] i=some (.int t)/\P t:=by
 have:i=0∨i=1∨i=2∨i=3:=by lia
 rcases this with rfl|rfl|rfl|rfl
 ·exact {_,rfl,b}
 ·exact {_,rfl,c}
 ·exact {_,rfl,f}
 ·exact {_,rfl,g}
inductive wP (vs:List V) (H:Hp) (Q:VK) (EE:XK):Prop
|mk (c:Int) (h0':vs=[.int c]) (h1':∀r H',aK H H'->1<=r->r<=10^31->Q (.int r) H'):wP vs H Q EE
noncomputable def FF:Sp:=fun vs H Q EE=>wP vs H Q EE
inductive AQ (vs:List V) (H:Hp) (Q:VK) (EE:XK):Prop
|mk (dd:g6) (U:List Str) (u:Int) (rs:List (Int×Int×Int)) (ps ts:List (Int×Int)) (ln lr lp lt:g6) (c:Int) (h0':vs=[.ref dd,.int c,.int 24]) (h1':fX H dd U u rs ps ts ln lr lp lt) (h2':2<=U.length) (h3':U.length<=8) (h4':rs.length<=20) (h5':ln≠lr) (h6':ln≠lp) (h7':ln≠lt) (h8':lr≠lp) (h9':lr≠lt) (h10':∀H' (i:Nat) (rs':List (Int×Int×Int)),Kq ln lr H H'->i<=24->fX H' dd (grown U i) u (rs++rs') ps ts ln lr lp lt->rs'.length<=24->(∀r∈rs',0<=r.1/\r.1<U.length+i/\0<=r.2.1/\r.2.1<U.length+i/\1<=r.2.2/\r.2.2<=10^31)->Q .non H'):AQ vs H Q EE
noncomputable def MJ:Sp:=fun vs H Q EE=>AQ vs H Q EE
inductive wW (K:y8) (vs:List V) (H:Hp) (Q:VK) (EE:XK):Prop
|mk (a:g6) (ns:List Int) (h0':vs=[.ref a,.int 23,.int 24]) (h1':cS K H a (ns.map V.int)) (h2':ns.length<=63) (h3':∀dd H' U u rs ps ts ln lr lp lt,H dd=none->aK H H'->U.length<=40/\rs.length<=60->gN U u rs ps ts->fX H' dd U u rs ps ts ln lr lp lt->H' dd=some (.dK (cL ln u lr lp lt))->Q (.ref dd) H'):wW K vs H Q EE
noncomputable def FS(K:y8):Sp:=fun vs H Q EE=>wW K vs H Q EE
structure lO(H H':Hp)(dd:g6)(U:List Str)(u:Int)(rs:List (Int×Int×Int))(ps ts:List (Int×Int))(ln lr lp lt:g6)(m:Nat):Prop where
 i:Ti U u rs ps ts m
 q:fX H' dd U u rs ps ts ln lr lp lt
 s:aK H H'
 f1:H lr=none
 f2:H lp=none
 f3:H lt=none
 n1:lr≠lp
 n2:lr≠lt
 n3:lp≠lt
 m:1<=m->rs≠[]
 d0:H' dd=some (.dK (cL ln u lr lp lt))
theorem CH{b:Type}{P:b->Prop}{l:List b}{x:b}(h:∀r∈l,P r)(f:P x):∀r∈l++[x],P r:=fun r c=>(u9.mp c).elim (h r) fun z=>by rw[i9.mp z];exact f
theorem DI{c:Type}{R:Hp->V->c->Prop}{G:Hp}{l:g6}{vs:List V}{ds:List c}{v:V}{b:c}(g:∀ {H H' v b},R H v b->TK H H'->R H' v b)(h:G l=some (.lst vs))(p:Paired (R G) vs ds)(r:R G v b):LQ R (upd G l (.lst (vs++[v]))) l (ds++[b]):=
 {_,aC,Pd.snoc (Pd.imp p fun v b f=>g f (TK.lst h)) (g r (TK.lst h))}
theorem uJ{g:Type}{R:Hp->V->g->Prop}{G:Hp}{l k:g6}{vs xs:List V}{ds:List g}(i:∀ {H H' v b},R H v b->TK H H'->R H' v b)(h:G k=some (.lst vs))(c:l≠k)(q:LQ R G l ds):LQ R (upd G k (.lst xs)) l ds:=
 let ⟨m,e,p⟩:=q;{m,aW c e,Pd.imp p fun v b f=>i f (TK.lst h)}
section
variable {H G:Hp}{dd:g6}{U:List Str}{u:Int}{rs:List (Int×Int×Int)}{ps ts:List (Int×Int)}{ln lr lp lt:g6}{m:Nat}
theorem lO.sm{b:Hp}(h:lO H G dd U u rs ps ts ln lr lp lt m)(s:aK G b):lO H b dd U u rs ps ts ln lr lp lt m:={h.i,h.q.sm s,h.s.trans s,h.f1,h.f2,h.f3,h.n1,h.n2,h.n3,h.m,s _ _ h.d0}
theorem uZ{p q:g6}{kv:List (aL×V)}{xs:List V}(b:G p=some (.dK kv))(c:G q=some (.lst xs)):p≠q:=fun e=>by rw[e,c]at b;cases b
theorem lO.run{vs:List V}{p:g6}{x:Int×Int×Int}(h:lO H G dd U u rs ps ts ln lr lp lt m)(b:G lr=some (.lst vs))(pv:Paired (kY G) vs rs)(f:kY G (.ref p) x)(ok:0<=x.1/\x.1<U.length/\0<=x.2.1/\x.2.1<U.length/\1<=x.2.2/\x.2.2<=10^31)(c:ln≠lr):lO H (upd G lr (.lst (vs++[.ref p]))) dd U u (rs++[x]) ps ts ln lr lp lt (m+1):=
  {{h.i.u0,h.i.u1,h.i.n2,h.i.n8,CH h.i.rok ok,h.i.pok,h.i.tok,by have:=h.i.len;rw[m8];show _+1+_+_<=_;lia},
   {{_,aW (uZ h.q.d b) h.q.d},aW c h.q.nm,DI kY.tk b pv f,uJ gD.tk b (u7 h.n1) h.q.pq,uJ gD.tk b (u7 h.n2) h.q.tq},
   Kp.upd.sm h.s h.f1,h.f1,h.f2,h.f3,h.n1,h.n2,h.n3,(fun _ z=>by simp at z),aW (uZ h.q.d b) h.d0}
theorem lO.pus{vs:List V}{p:g6}{x:Int×Int}(h:lO H G dd U u rs ps ts ln lr lp lt m)(b:G lp=some (.lst vs))(pv:Paired (gD G) vs ps)(g:gD G (.ref p) x)(ok:0<=x.1/\x.1<U.length/\0<=x.2/\x.2<=10^105)(c:ln≠lp)(f:rs≠[]):lO H (upd G lp (.lst (vs++[.ref p]))) dd U u rs (ps++[x]) ts ln lr lp lt (m+1):=
  {{h.i.u0,h.i.u1,h.i.n2,h.i.n8,h.i.rok,CH h.i.pok ok,h.i.tok,by have:=h.i.len;rw[m8];show _+(_+1)+_<=_;lia},
   {{_,aW (uZ h.q.d b) h.q.d},aW c h.q.nm,uJ kY.tk b h.n1 h.q.rq,DI gD.tk b pv g,uJ gD.tk b (u7 h.n3) h.q.tq},
   Kp.upd.sm h.s h.f2,h.f1,h.f2,h.f3,h.n1,h.n2,h.n3,(fun _=>f),aW (uZ h.q.d b) h.d0}
theorem lO.tak{vs:List V}{p:g6}{x:Int×Int}(h:lO H G dd U u rs ps ts ln lr lp lt m)(b:G lt=some (.lst vs))(pv:Paired (gD G) vs ts)(g:gD G (.ref p) x)(ok:0<=x.1/\0<=x.2/\x.2<=10^105)(c:ln≠lt)(f:rs≠[]):lO H (upd G lt (.lst (vs++[.ref p]))) dd U u rs ps (ts++[x]) ln lr lp lt (m+1):=
  {{h.i.u0,h.i.u1,h.i.n2,h.i.n8,h.i.rok,h.i.pok,CH h.i.tok ok,by have:=h.i.len;rw[m8];show _+_+(_+1)<=_;lia},
   {{_,aW (uZ h.q.d b) h.q.d},aW c h.q.nm,uJ kY.tk b h.n2 h.q.rq,uJ gD.tk b h.n3 h.q.pq,DI gD.tk b pv g},
   Kp.upd.sm h.s h.f3,h.f1,h.f2,h.f3,h.n1,h.n2,h.n3,(fun _=>f),aW (uZ h.q.d b) h.d0}
end
inductive AM (vs:List V) (H:Hp) (Q:VK) (EE:XK):Prop
|mk (dd:g6) (U:List Str) (u:Int) (rs:List (Int×Int×Int)) (ps ts:List (Int×Int)) (ln lr lp lt:g6) (h0':vs=[.ref dd]) (h1':gN U u rs ps ts) (h2':fX H dd U u rs ps ts ln lr lp lt) (h3':∀p H',H p=none->aK H H'->LQ jK H' p (kn (eU U u rs))->Q (.ref p) H'):AM vs H Q EE
noncomputable def MA:Sp:=fun vs H Q EE=>AM vs H Q EE
theorem On{z:Int}(b:0<=z)(c:z<=10^106):Sm 8000 z:=E6 (show z.natAbs<=10^106 by lia) (by decide)
inductive rY (vs:List V) (H:Hp) (Q:VK) (EE:XK):Prop
|mk (dd:g6) (U:List Str) (u:Int) (rs:List (Int×Int×Int)) (ps ts:List (Int×Int)) (ln lr lp lt:g6) (h0':vs=[.ref dd]) (h1':gN U u rs ps ts) (h2':fX H dd U u rs ps ts ln lr lp lt) (h3':∀p H',H p=none->aK H H'->LQ gD H' p (iI rs ps)->Q (.ref p) H'):rY vs H Q EE
noncomputable def wR:Sp:=fun vs H Q EE=>rY vs H Q EE
inductive AG (vs:List V) (H:Hp) (Q:VK) (EE:XK):Prop
|mk (dd:g6) (U:List Str) (u:Int) (rs:List (Int×Int×Int)) (ps ts:List (Int×Int)) (ln lr lp lt:g6) (h0':vs=[.ref dd]) (h1':gN U u rs ps ts) (h2':fX H dd U u rs ps ts ln lr lp lt) (h3':∀d H' (D:AL aL Int),H d=none->aK H H'->DQ IQ H' d D->Mv u D (jM u ts)->(∀x∈D,0<=x.2/\x.2<=10^105)->Q (.ref d) H'):AG vs H Q EE
noncomputable def LR:Sp:=fun vs H Q EE=>AG vs H Q EE
inductive DuK (dd dT d:g6) (U:List Str) (u:Int) (p:List (Int×Int)) (X:Hp) (i:Nat) (σ:St) (G:Hp):Prop
|mk (o2 o3:Option V) (D:AL aL Int) (e:σ=[some (.ref dd),some (.ref dT),some (.ref d),o2,o3,none,none,none,none,none,none,none,none,none]) (k:Kp d X G) (q:DQ IQ G d D) (t:mT U u D=aV (lst (rA U u (p.take i)))) (l:D.length<=i) (b:∀x∈D,0<=x.2/\x.2<=10^105) (n:(D.map (·.1)).Nodup) (y:∀x∈D,∃i:Nat,x.1=j5 (i:Int)/\i<U.length)
inductive Wa (dd dT d:g6) (X:Hp) (J:Bool->AL aL Int->Prop) (σ:St) (G:Hp):Prop
|mk (c:Bool) (D:AL aL Int) (o3 o4 o6 o7 o8 o9 o10 o11 o12 o13:Option V) (e:σ=[some (.ref dd),some (.ref dT),some (.ref d),o3,o4,some (.bl c),o6,o7,o8,o9,o10,o11,o12,o13]) (k:Kp d X G) (q:DQ IQ G d D) (j:J c D)
inductive DuM (dd dT d:g6) (k:Int) (r:Int×Int×Int) (X:Hp) (J:Bool->AL aL Int->Prop) (σ:St) (G:Hp):Prop
|mk (c:Bool) (D:AL aL Int) (o3 o4 o6 o11 o12 o13:Option V) (e:σ=[some (.ref dd),some (.ref dT),some (.ref d),o3,o4,some (.bl c),o6,some (.int k),some (.int r.1),some (.int r.2.1),some (.int r.2.2),o11,o12,o13]) (kp:Kp d X G) (q:DQ IQ G d D) (j:J c D)
inductive MP (vs:List V) (H:Hp) (Q:VK) (EE:XK):Prop
|mk (dd:g6) (U:List Str) (u:Int) (rs:List (Int×Int×Int)) (ps ts:List (Int×Int)) (ln lr lp lt:g6) (h0':vs=[.ref dd]) (h1':gN U u rs ps ts) (h2':fX H dd U u rs ps ts ln lr lp lt) (h3':∀d H' (D:AL aL Int),H d=none->aK H H'->DQ IQ H' d D->CC U u rs (rA U u (iI rs ps)) (cQ (jM u ts)) D->iA (kn (eU U u rs)) (aV (lst (rA U u (iI rs ps)))) (cQ (jM u ts)) (mT U u D)->Q (.ref d) H'):MP vs H Q EE
noncomputable def Fk:Sp:=fun vs H Q EE=>MP vs H Q EE
theorem Hr{u:Int}{T:AL aL Int}{b:List (aL×Rat)}(h:Mv u T b)(k:Nat):cQ b k=(aV T (j5 (k:Int))).map (ut u):=(h k).symm
theorem OA{u:Int}(b:0<u){T:AL aL Int}{f:List (aL×Rat)}(h:Mv u T f)(k:Nat)(c:Int):cO (cQ f) k (ut u c)↔c<=(aV T (j5 (k:Int))).getD c:=by
 unfold cO cQ;rw[←h];cases aV T (j5 (k:Int)) with
|none=>exact {fun _=>L0 _,fun _ w e=>nomatch e}
|some w=>exact {fun z=>(rV b).mp (z _ rfl),fun z v e=>by cases e;exact (rV b).mpr z}
inductive wU (vs:List V) (H:Hp) (Q:VK) (EE:XK):Prop
|mk (dd:g6) (U:List Str) (u:Int) (rs:List (Int×Int×Int)) (ps ts:List (Int×Int)) (ln lr lp lt:g6) (d:g6) (D:AL aL Int) (k:Nat) (r:Int×Int×Int) (m:Int) (h0':vs=[.ref dd,.ref d,.int (k:Int),.int m]) (h1':gN U u rs ps ts) (h2':fX H dd U u rs ps ts ln lr lp lt) (h3':DQ IQ H d D) (h4':CC U u rs (rA U u (iI rs ps)) (cQ (jM u ts)) D) (h5':rs[k]?=some r) (h6':0<=m) (h7':m<=10^109) (h8':∀v H',aK H H'->tP H' v (FA (mT U u D (i0 (jG U r.1))) (mT U u D (i0 (jG U r.2.1))) (cQ (jM u ts) k) (ut u r.2.2) (ut u m))->Q v H'):wU vs H Q EE
noncomputable def FQ:Sp:=fun vs H Q EE=>wU vs H Q EE
structure iE(H:Hp)(dd:g6)(U:List Str)(u:Int)(rs:List (Int×Int×Int))(ps ts:List (Int×Int))(ln lr lp lt:g6)(now:Int):Prop where
 d:H dd=some (.dK (cL ln u lr lp lt [(i0 "now",.int now)]))
 q:fX H dd U u rs ps ts ln lr lp lt
theorem iE.sm{H H':Hp}{c:g6}{U:List Str}{u:Int}{m:List (Int×Int×Int)}{ps o:List (Int×Int)}{ln g f i:g6}{b:Int}(h:iE H c U u m ps o ln g f i b)(s:aK H H'):iE H' c U u m ps o ln g f i b:={s _ _ h.d,h.q.sm s}
theorem jA{ln f c g:g6}{u b:Int}:bI (cL ln u f c g [(i0 "now",.int b)]) (i0 "now")=some (.int b):=by with_unfolding_all rfl
inductive wX (K:y8) (vs:List V) (H:Hp) (Q:VK) (EE:XK):Prop
|mk (a:g6) (ns:List Int) (h0':vs=[.ref a]) (h1':cS K H a (ns.map V.int)) (h2':ns.length<=63) (h3':∀dd H' U u rs ln lr lp lt,H dd=none->H lp=none->H lt=none->lp≠lt->ln≠lp->ln≠lt->lr≠lp->lr≠lt->aK H H'->U.length<=40/\rs.length<=60->gN U u rs [] []->iE H' dd U u rs [] [] ln lr lp lt 0->Q (.ref dd) H'):wX K vs H Q EE
noncomputable def FT(K:y8):Sp:=fun vs H Q EE=>wX K vs H Q EE
theorem XB{H:Hp}{Q:VK}{l p:g6}{b:List Int}(c:H l=some (.lst (b.map V.int)))(f:H p=some (.lst []))(k:Q (.bl (!b.isEmpty)) H):JO (.ref l) (.ref p) H Q:=by refine Rg (es:=[]) {l,_,rfl,c,BU _} {p,_,rfl,f,rfl} (B9 (BT _) (by decide)) ?_;cases b <;> exact k
theorem OB(is:List Nat):is.map (fun j:Nat=>V.int (j:Int))=(is.map (fun j:Nat=>(j:Int))).map V.int:=by rw[R5];rfl
theorem XA{H:Hp}{Q:VK}{l p:g6}{is:List Nat}(b:H l=some (.lst (is.map (fun j:Nat=>V.int (j:Int)))))(c:H p=some (.lst []))(k:Q (.bl (!is.isEmpty)) H):JO (.ref l) (.ref p) H Q:=by rw[OB]at b;refine XB b c ?_;cases is <;> exact k
theorem WG{is:List Nat}{z:Int}(h:is≠[]):∃j∈is,zA (is.map (fun j:Nat=>V.int (j:Int))) (z%(is.length:Int))=some (.int (j:Int)):=by have f:0<is.length:=Z4.mpr h;obtain ⟨m,c,e⟩:=WF (S:=is.map (fun j:Nat=>(j:Int))) (i:=z%(is.length:Int)) (r9 _ (by omega)) (by rw[j6];exact n6 _ (by omega));obtain ⟨j,b,rfl⟩:=w8.mp c;exact {j,b,by rw[OB];exact e}
inductive FX (vs:List V) (H:Hp) (Q:VK) (EE:XK):Prop
|mk (dd d:g6) (num:Int) (U:List Str) (u:Int) (rs:List (Int×Int×Int)) (ps ts:List (Int×Int)) (ln lr lp lt:g6) (now:Int) (D:AL aL Int) (h0':vs=[.ref dd,.ref d,.int num]) (h1':iE H dd U u rs ps ts ln lr lp lt now) (h2':gN U u rs ps ts) (h3':DQ IQ H d D) (h4':dd≠d) (h5':CC U u rs (rA U u (iI rs ps)) (cQ (jM u ts)) D) (h6':0<=now) (h7':now<=10^108) (h8':U.length<64) (h9':∀p w x H',H p=none->aK H H'->H' p=some (.tup [.str w,.int x])->((w="push"/\∃i:Nat,x=(i:Int)/\i<U.length/\(∃r∈rs,r.1=(i:Int)∨r.2.1=(i:Int))/\∀z,aV D (j5 (i:Int))=some z->now<z)∨(w="take"/\∃(k:Nat)(r:Int×Int×Int),x=(k:Int)/\rs[k]?=some r/\FA (mT U u D (i0 (jG U r.1))) (mT U u D (i0 (jG U r.2.1))) (cQ (jM u ts) k) (ut u r.2.2) (ut u now)≠none)∨(w="go"/\0<=x/\((∃y∈D,now+x=y.2)∨x<=10^30)))->Q (.ref p) H'):FX vs H Q EE
noncomputable def UO:Sp:=fun vs H Q EE=>FX vs H Q EE
inductive MQ (vs:List V) (H:Hp) (Q:VK) (EE:XK):Prop
|mk (dd:g6) (U:List Str) (u:Int) (rs:List (Int×Int×Int)) (ps ts:List (Int×Int)) (ln lr lp lt:g6) (now:Int) (pd:g6) (w:Str) (x:Int) (h0':vs=[.ref dd,.ref pd]) (h1':iE H dd U u rs ps ts ln lr lp lt now) (h2':H pd=some (.tup [.str w,.int x])) (h3':ln≠lp) (h4':ln≠lt) (h5':lr≠lp) (h6':lr≠lt) (h7':lp≠lt) (h8':((w="push"/\ps.length<=100/\∀H',jL [dd,lp,lt] H H'->iE H' dd U u rs (ps++[(x,now)]) ts ln lr lp lt now->Q .non H')∨(w="take"/\ts.length<=100/\∀H',jL [dd,lp,lt] H H'->iE H' dd U u rs ps (ts++[(x,now)]) ln lr lp lt now->Q .non H')∨(w="go"/\∀H',jL [dd,lp,lt] H H'->iE H' dd U u rs ps ts ln lr lp lt (now+x)->Q .non H'))):MQ vs H Q EE
noncomputable def Fl:Sp:=fun vs H Q EE=>MQ vs H Q EE
inductive FY (cC:g6) (vs:List V) (H:Hp) (Q:VK) (EE:XK):Prop
|mk (h dx ln lp lt:g6) (vm:V) (dm:g6) (v:V) (m:Rat) (o:Option Rat) (h0':vs=[.ref h,v]) (h1':H h=some (.ins cC dx (bV ln lp lt vm dm))) (h2':cA H vm m) (h3':fI H v o) (h4':Sz 8000 m) (h5':(∀q,o=some q->Sz 8000 q)) (h6':Q (.bl (ID m o)) H):FY cC vs H Q EE
noncomputable def UP(cC:g6):Sp:=fun vs H Q EE=>FY cC vs H Q EE
def EvD(B:Nat)(H:Hp)(v:V):Prop:=∃p s u iV,v=.ref p/\H p=some (.tup (.str s::u::iV))/\FrD B H u
theorem Sb{D M:Nat}{q:Rat}(h:Bd D M q):q.den∣2*D:=dvd_trans h.1 {2,Nat.mul_comm ..}
inductive Ev
|falls (t:Rat) (y:Str)
|met (t:Rat) (k:Nat) (s:Rat)
|swept (t:Rat) (k:Nat)
noncomputable def Ev.t:Ev->Rat
|.falls t _=>t
|.met t _ _=>t
|.swept t _=>t
noncomputable def iU(H:Hp)(v:V):Ev->Prop
|.falls t y=>∃p u,v=.ref p/\H p=some (.tup [.str "falls",u,.str y])/\cA H u t
|.met t k s=>∃p u w,v=.ref p/\H p=some (.tup [.str "met",u,.int (k:Int),w])/\cA H u t/\cA H w s
|.swept t k=>∃p u,v=.ref p/\H p=some (.tup [.str "swept",u,.int (k:Int)])/\cA H u t
theorem iU.tk{H H':Hp}{v:V}{e:Ev}(h:iU H v e)(t:TK H H'):iU H' v e:=by
 cases e with
|falls q y=>obtain ⟨p,u,e,h,f⟩:=h;exact {p,u,e,t _ _ h,f.tk t}
|met q k s=>obtain ⟨p,u,w,e,h,f,g⟩:=h;exact {p,u,w,e,t _ _ h,f.tk t,g.tk t}
|swept q k=>obtain ⟨p,u,e,h,f⟩:=h;exact {p,u,e,t _ _ h,f.tk t}
noncomputable def ZK(B:Nat)(e:Ev):Prop:=e.t.den∣B/\Sz 2000 e.t
noncomputable def vC(mo:aL->Option Rat)(y:Str):Option Ev:=(mo (i0 y)).map fun t=>.falls t y
theorem DP{b c:Type}{f:b->Option c}{l:List b}{i:Nat}{x:b}(h:l[i]?=some x):(l.take (i+1)).filterMap f=(l.take i).filterMap f++(f x).toList:=by rw[Y9,h,xc];congr 1
noncomputable def Ev.nk:Ev->Option Nat
|.falls _ _=>none
|.met _ k _=>some k
|.swept _ k=>some k
noncomputable def Ev.sec(a b:Ev):Prop:=match a,b with
|.falls _ y,.falls _ z=>y.cps.toList<=z.cps.toList
|.falls _ _,_=>True
|a,b=>∃i j,a.nk=some i/\b.nk=some j/\i<j
noncomputable def Ev.le(a b:Ev):Prop:=a.t<b.t∨a.t=b.t/\a.sec b
theorem Ev.le_one{a b:Ev}(h:a.le b)(g:b.le a):a=b:=by
 have o:∀q:Rat,¬q<q:=fun q=>Q6.mpr (dg);rcases h with h|⟨e,h⟩
 ·rcases g with g|⟨e,_⟩
  ·exact absurd g (Q6.mpr (ww h))
  ·rw[e]at h;exact absurd h (o _)
 ·rcases g with g|⟨_,g⟩
  ·rw[e]at g;exact absurd g (o _)
  ·cases a with
  |falls t y=>
    cases b with
   |falls u z=>
     have e:t=u:=e;have:y=z:=by have:=List.le_antisymm h g;cases y;cases z;exact congrArg Str.mk (Array.toList_inj.mp this)
     rw[e,this]
   |_=>obtain ⟨i,j,f,c,m⟩:=g;cases c
  |_=>
    cases b with
   |falls u z=>obtain ⟨i,j,f,c,m⟩:=h;cases c
   |_=>obtain ⟨i,j,f,c,m⟩:=h;obtain ⟨k,l,s,w,A⟩:=g;cases f;cases c;cases s;cases w;omega
inductive qI (cC:g6) (vs:List V) (H:Hp) (Q:VK) (EE:XK):Prop
|mk (h dx ln lp lt:g6) (vm:V) (dm:g6) (n:List bX) (ps ts:List (aL×Rat)) (D M:Nat) (U:List Str) (mo:aL->Option Rat) (ys:List Str) (h0':vs=[.ref h]) (h1':H h=some (.ins cC dx (bV ln lp lt vm dm))) (h2':cU H ln lp lt n ps ts D M U) (h3':dA H dm n ps ts D M mo ys) (h4':ys.length<64) (h5':∀p H' zs es,H p=none->aK H H'->H' p=some (.lst zs)->zs.length<=200->es.Perm (ys.filterMap (vC mo))->(es.Pairwise Ev.sec/\∀e∈es,e.nk=none)->Paired (iU H') zs es->(∀e∈es,ZK (2*D) e)->Q (.ref p) H'):qI cC vs H Q EE
noncomputable def uS(cC:g6):Sp:=fun vs H Q EE=>qI cC vs H Q EE
theorem YQ{D:Nat}{q:Rat}(b:D≠0)(h:q.den∣D):(q*(1/2)).den∣2*D:=by
 obtain ⟨a,rfl⟩:=Ko h b;rw[show (1/2:Rat)=m5 1 2 by k_is,T9,yi];have e:((D:Int)*2)=((2*D:Nat):Int):=by push_cast;lia
 rw[e];exact R3.mp (OQ (by lia))
theorem Dj{D:Nat}{a b:Str}{A B:Option Rat}{T:Rat}(c:D≠0)(m:T.den∣D)(s:∀f,A=some f->f.den∣D)(w:∀f,B=some f->f.den∣D):∀t,yR (vK a b A B T)=some t->t.den∣2*D:=by
 have i:∀{o:Option Rat},(∀f,o=some f->f.den∣D)->(o.getD 0).den∣D:=fun {o} h=>by
  cases o with
 |none=>exact Nat.one_dvd _
 |some f=>exact h f rfl
 have g:∀{q:Rat},q.den∣D->q.den∣2*D:=fun h=>dvd_trans h {2,Nat.mul_comm ..};intro t;unfold vK;split
 ·intro z;cases z
 ·split
  ·intro z;cases z;exact g (tM c (i s) m)
  ·split
   ·intro z;cases z;exact g (tM c (i w) m)
   ·intro z;cases z;exact YQ c (tM c (tM c (i s) (i w)) m)
theorem Dk{e:nP}{tk:Option Rat}:(∃t,KN e tk=.taken t)∨KN e tk=e:=by
 unfold KN;cases tk with
|none=>exact .inr rfl
|some u=>
  dsimp only;split
  ·exact .inl {_,rfl}
  ·exact .inr rfl
noncomputable def Rv(k:Nat):nP->Option Ev
|.met t s=>some (.met t k s)
|.swept _ t=>some (.swept t k)
|_=>none
noncomputable def jI(n:List bX)(mo:aL->Option Rat)(ts:List (aL×Rat))(i:Nat):Option Ev:=n[i]?.bind fun r=>Rv i (KN (vK r.1 r.2.1 (mo (i0 r.1)) (mo (i0 r.2.1)) r.2.2) (cQ ts i))
theorem Ih{n i:Nat}(h:i<n):(y9 n)[i]?=some i:=List.getElem?_range h
inductive sJ (cC:g6) (vs:List V) (H:Hp) (Q:VK) (EE:XK):Prop
|mk (h dx ln lp lt:g6) (vm:V) (dm:g6) (n:List bX) (ps ts:List (aL×Rat)) (D M:Nat) (U:List Str) (mo:aL->Option Rat) (ys:List Str) (h0':vs=[.ref h]) (h1':H h=some (.ins cC dx (bV ln lp lt vm dm))) (h2':cU H ln lp lt n ps ts D M U) (h3':dA H dm n ps ts D M mo ys) (h4':∀p H' zs,H p=none->aK H H'->H' p=some (.lst zs)->zs.length<=200->Paired (iU H') zs ((y9 n.length).filterMap (jI n mo ts))->(∀e∈(y9 n.length).filterMap (jI n mo ts),ZK (2*D) e)->Q (.ref p) H'):sJ cC vs H Q EE
noncomputable def xA(cC:g6):Sp:=fun vs H Q EE=>sJ cC vs H Q EE
noncomputable def fresh(m w:Rat)(e:Ev):Bool:=decide (m<e.t)&&ID w (some e.t)
theorem iU.two{H:Hp}{v:V}{e:Ev}(h:iU H v e):∃p sg u iV,v=.ref p/\H p=some (.tup (.str sg::u::iV))/\cA H u e.t:=by
 cases e with
|falls q y=>obtain ⟨p,u,e,h,f⟩:=h;exact {p,_,u,_,e,h,f}
|met q k s=>obtain ⟨p,u,w,e,h,f,g⟩:=h;exact {p,_,u,_,e,h,f}
|swept q k=>obtain ⟨p,u,e,h,f⟩:=h;exact {p,_,u,_,e,h,f}
theorem Da{b:Type}{f:b->Bool}{l:List b}{i:Nat}{x:b}(h:l[i]?=some x):(l.take (i+1)).filter f=(l.take i).filter f++(if f x=true then [x] else []):=by rw[Y9,h,W7];congr 1;show List.filter f [x]=_;cases e:f x <;> simp[e]
noncomputable def vN(n:List bX)(mo:aL->Option Rat)(ts:List (aL×Rat))(ys:List Str):List Ev:=ys.filterMap (vC mo)++(y9 n.length).filterMap (jI n mo ts)
theorem iU.one{H:Hp}{v:V}{a b:Ev}(h:iU H v a)(g:iU H v b):a=b:=by
 have s:∀{u:V}{q r:Rat},cA H u q->cA H u r->q=r:=fun ⟨p,e,x⟩ ⟨m,C,c⟩=>by rw[e]at C;cases C;rw[x]at c;simp only[F9,HO.tup.injEq,gy,V.int.injEq,and_true]at c;exact Rat.ext c.1 (qo c.2)
 cases a <;> cases b
 case falls.falls=>obtain ⟨p,u,rfl,x,f⟩:=h;obtain ⟨m,o,e,c,i⟩:=g;cases e;rw[x]at c;cases c;rw[s f i]
 case met.met=>obtain ⟨p,u,w,rfl,x,f,E⟩:=h;obtain ⟨m,o,D,e,c,i,A⟩:=g;cases e;rw[x]at c;simp only[F9,HO.tup.injEq,gy,V.int.injEq,and_true,true_and]at c;obtain ⟨rfl,B,rfl⟩:=c;rw[s f i,s E A,qo B]
 case swept.swept=>obtain ⟨p,u,rfl,x,f⟩:=h;obtain ⟨m,o,e,c,i⟩:=g;cases e;rw[x]at c;simp only[F9,HO.tup.injEq,gy,V.int.injEq,and_true,true_and]at c;obtain ⟨rfl,B⟩:=c;rw[s f i,qo B]
 case falls.met=>obtain ⟨p,u,rfl,x,f⟩:=h;obtain ⟨m,o,D,e,c,i⟩:=g;cases e;rw[x]at c;cases c
 case met.falls=>obtain ⟨p,u,w,rfl,x,f⟩:=h;obtain ⟨m,o,e,c,i⟩:=g;cases e;rw[x]at c;cases c
 case falls.swept=>obtain ⟨p,u,rfl,x,f⟩:=h;obtain ⟨m,o,e,c,i⟩:=g;cases e;rw[x]at c;cases c
 case swept.falls=>obtain ⟨p,u,rfl,x,f⟩:=h;obtain ⟨m,o,e,c,i⟩:=g;cases e;rw[x]at c;cases c
 case met.swept=>obtain ⟨p,u,w,rfl,x,f⟩:=h;obtain ⟨m,o,e,c,i⟩:=g;cases e;rw[x]at c;cases c
 case swept.met=>obtain ⟨p,u,rfl,x,f⟩:=h;obtain ⟨m,o,D,e,c,i⟩:=g;cases e;rw[x]at c;cases c
theorem Hq{D:Int}(b:0<D){q r:Rat}(h:(q.den:Int)∣D)(g:(r.den:Int)∣D)(k:JD D q<=JD D r):q<=r:=by
 obtain ⟨c,e⟩:=h;obtain ⟨d,f⟩:=g;have w:(0:Int)<q.den:=by have:=q.den_pos;lia
 have A:(0:Int)<r.den:=by have:=r.den_pos;lia
 unfold JD at k;have o:D.fdiv q.den=c:=by rw[e];exact Q8 _ (by lia)
 have s:D.fdiv r.den=d:=by rw[f];exact Q8 _ (by lia)
 rw[o,s]at k;have i:0<c:=vh (a:=q.den) (by rw[←e];exact b) w;have m:0<d:=vh (a:=r.den) (by rw[←f];exact b) A;rw[iw];refine Int.le_of_mul_le_mul_right (a:=c*d) ?_ (dh i m);have B:q.num*r.den*(c*d)=q.num*c*D:=by rw[f];ac_rfl
 have C:r.num*q.den*(c*d)=r.num*d*D:=by rw[e];ac_rfl
 rw[B,C];exact Int.mul_le_mul_of_nonneg_right k (R8 b)
theorem Qt{D:Int}(q:0<D){l:List Ev}(h:l.Pairwise fun a b=>JD D a.t<=JD D b.t)(g:∀z,(l.filter fun e=>decide (JD D e.t=z)).Pairwise Ev.sec)(m:∀e∈l,(e.t.den:Int)∣D):l.Pairwise Ev.le:=by
 induction l with
|nil=>exact .nil
|cons x l ih=>
  obtain ⟨i,o⟩:=W5.mp h;refine W5.mpr {fun y f=>?_,ih o (fun z=>?_) fun a s=>m a (.tail _ s)}
  ·by_cases c:x.t<y.t
   ·exact .inl c
   ·have t:=Rat.le_antisymm (Hq q (m x (.head _)) (m y (.tail _ f)) (i y f)) (Q6.mp c);have:=g (JD D x.t);rw[T5 (by simp)]at this;exact .inr {t,(W5.mp this).1 y (Q0.mpr {f,by rw[t];simp})}
  ·have:=g z;rw[V9]at this;split at this
   ·exact (W5.mp this).2
   ·exact this
theorem TM{H:Hp}{g:List V}{es:List Ev}(Q:Paired (iU H) g es)(hs:es.Pairwise Ev.sec){D:Int}(hD:0<D)(hd:∀e∈es,(e.t.den:Int)∣D){ps:List (Int×V)}(st:Sq ps ((es.map fun e=>JD D e.t).zip g)):∃c,c.Perm es/\Paired (iU H) (ps.map (·.2)) c/\c.Pairwise Ev.le:=by
 have hl:=Paired.length Q;obtain ⟨f,C⟩:∃f:Ev×V->Int×V,f=fun w=>(JD D w.1.t,w.2):={_,rfl}
 have Z:(es.map fun e=>JD D e.t).zip g=(es.zip g).map f:=by rw[List.zip_map_left,C];rfl
 obtain ⟨S,T,U⟩:=st;rw[Z]at S U;obtain ⟨W,K,G⟩:=sU S rfl;have q:∀w∈es.zip g,iU H w.2 w.1:=fun w m=>by obtain ⟨i,J⟩:=N9 m;rw[V5]at J;obtain ⟨e,N,h2⟩:=Paired.at Q J.2;rw[J.1]at N;cases N;exact h2
 have R:∀w∈W,iU H w.2 w.1:=fun w m=>q w (K.mem_iff.mp m);have s:∀{A B:List (Ev×V)},(∀w∈A,iU H w.2 w.1)->(∀w∈B,iU H w.2 w.1)->A.map (·.2)=B.map (·.2)->A.map (·.1)=B.map (·.1):=fun {A}=>by
  induction A with
 |nil=>intro B _ _ e;cases B with
  |nil=>rfl
  |cons _ _=>cases e
 |cons a A ih=>
   intro B O P e;cases B with
  |nil=>cases e
  |cons b B=>obtain ⟨E,Y⟩:=U9 e;show a.1::_=b.1::_;have E:a.2=b.2:=E;rw[iU.one (O a (.head _)) (by rw[E];exact P b (.head _)),ih (fun w h=>O w (.tail _ h)) (fun w h=>P w (.tail _ h)) Y]
 have fst:(es.zip g).map (·.1)=es:=zx (by lia);refine {W.map (·.1),fst▸K.map (·.1),?_,?_}
 ·rw[G,R5];have:∀A:List (Ev×V),(∀w∈A,iU H w.2 w.1)->Paired (iU H) (A.map ((·.2) ∘ f)) (A.map (·.1)):=fun A=>by
   induction A with
  |nil=>intro _;exact .nil
  |cons a A ih=>intro h;rw[C]at ih ⊢;exact .cons (h a (.head _)) (ih fun w m=>h w (.tail _ m))
  exact this W R
 ·have o:∀e∈W.map (·.1),e∈es:=fun e I=>by
   rw[←fst];exact (K.map (·.1)).mem_iff.mp I
  refine Qt hD ?_ (fun z=>?_) fun e I=>hd e (o e I)
  ·rw[G,C,P5]at T;exact P5.mpr T
  ·have X:=U z;rw[G,X7,X7]at X;have M:=congrArg (ka (·.2)) X;rw[R5,R5]at M;have s6:=s (fun w h=>R w (Q0.mp h).1) (fun w h=>q w (Q0.mp h).1) (by rw[C]at M;exact M);rw[X7];show AA _ (ka _ (W.filter _));refine (congrArg (AA Ev.sec) s6).mpr ?_;rw[←fst]at hs;exact P5.mpr ((P5.mp hs).filter _)
theorem YN{n:List bX}{mo:aL->Option Rat}{b:List (aL×Rat)}{i:Nat}{e:Ev}(h:jI n mo b i=some e):e.nk=some i:=by unfold jI at h;obtain ⟨r,_,h⟩:=Option.bind_eq_some_iff.mp h;generalize KN _ _=x at h;cases x <;> cases h <;> rfl
theorem Di{n:List bX}{mo:aL->Option Rat}{g:List (aL×Rat)}:((y9 n.length).filterMap (jI n mo g)).Pairwise Ev.sec:=by
 refine ij.mpr (ir.imp fun {i j} h a c b f=>?_);have x:=YN c;have y:=YN f;cases a with
|falls=>cases x
|_=>exact {i,j,x,y,h}
theorem Ai{a b:List Ev}(c:a.Pairwise Ev.sec)(i:b.Pairwise Ev.sec)(h:∀e∈a,e.nk=none)(g:∀e∈b,e.nk≠none):(a++b).Pairwise Ev.sec:=by
 refine U4.mpr {c,i,fun x m y o=>?_};have e:=h x m;have f:=g y o;cases x with
|falls t z=>
  cases y with
 |falls=>exact absurd rfl f
 |_=>trivial
|_=>cases e
inductive UJ (K:y8) (cC:g6) (vs:List V) (H:Hp) (Q:VK) (EE:XK):Prop
|mk (h dx ln lp lt:g6) (vm:V) (dm:g6) (v:V) (m:Rat) (n:List bX) (ps ts:List (aL×Rat)) (D M:Nat) (U:List Str) (mo:aL->Option Rat) (ys:List Str) (h0':vs=[.ref h,v]) (h1':H h=some (.ins cC dx (bV ln lp lt vm dm))) (h2':cU H ln lp lt n ps ts D M U) (h3':dA H dm n ps ts D M mo ys) (h4':cA H vm m) (h5':Bd D M m) (h6':LT H) (h7':ys.length<64) (h8':ys.length+n.length<200) (h9':∃t:Rat,cA H v t/\0<=t.num/\Sz 2000 t/\Bd D M (m+t)/\∀w vm' H' zs es,H w=none->H' w=some (.lst zs)->zs.length<=400->Paired (iU H') zs es->es.Perm ((vN n mo ts ys).filter (fresh m (m+t)))->es.Pairwise Ev.le->(∀e∈es,ZK (2*D) e)->jL [h,tT] H H'->LT H'->H' h=some (.ins cC dx (bV ln lp lt vm' dm))->cA H' vm' (m+t)->cU H' ln lp lt n ps ts D M U->dA H' dm n ps ts D M mo ys->Q (.ref w) H'):UJ K cC vs H Q EE
noncomputable def Ic(K:y8)(cC:g6):Sp:=fun vs H Q EE=>UJ K cC vs H Q EE
inductive wQ (cC:g6) (vs:List V) (H:Hp) (Q:VK) (EE:XK):Prop
|mk (h dx ln lp lt:g6) (vm:V) (dm:g6) (n:List bX) (ps ts:List (aL×Rat)) (D M:Nat) (U:List Str) (h0':vs=[.ref h]) (h1':H h=some (.ins cC dx (bV ln lp lt vm dm))) (h2':cU H ln lp lt n ps ts D M U) (h3':∀d H' mo ys,H d=none->jL [h] H H'->H' h=some (.ins cC dx (bV ln lp lt vm d))->dA H' d n ps ts D M mo ys->Q .non H'):wQ cC vs H Q EE
noncomputable def FJ(cC:g6):Sp:=fun vs H Q EE=>wQ cC vs H Q EE
inductive AF (K:y8) (cC:g6) (vs:List V) (H:Hp) (Q:VK) (EE:XK):Prop
|mk (h dx ln lp lt:g6) (vm:V) (dm:g6) (kk:Nat) (r:bX) (m:Rat) (n:List bX) (ps ts:List (aL×Rat)) (D M:Nat) (U:List Str) (mo:aL->Option Rat) (ys:List Str) (h0':vs=[.ref h,.int (kk:Int)]) (h1':H h=some (.ins cC dx (bV ln lp lt vm dm))) (h2':cU H ln lp lt n ps ts D M U) (h3':dA H dm n ps ts D M mo ys) (h4':cA H vm m) (h5':Bd D M m) (h6':n[kk]?=some r) (h7':∀w H',aK H H'->tP H' w (FA (mo (i0 r.1)) (mo (i0 r.2.1)) (cQ ts kk) r.2.2 m)->Q w H'):AF K cC vs H Q EE
noncomputable def LP(K:y8)(cC:g6):Sp:=fun vs H Q EE=>AF K cC vs H Q EE
inductive FH (K:y8) (cC:g6) (vs:List V) (H:Hp) (Q:VK) (EE:XK):Prop
|mk (h dx ln lp lt:g6) (vm:V) (dm:g6) (kk:Nat) (r:bX) (m:Rat) (n:List bX) (ps ts:List (aL×Rat)) (D M:Nat) (U:List Str) (mo:aL->Option Rat) (ys:List Str) (h0':vs=[.ref h,.int (kk:Int)]) (h1':H h=some (.ins cC dx (bV ln lp lt vm dm))) (h2':cU H ln lp lt n ps ts D M U) (h3':dA H dm n ps ts D M mo ys) (h4':cA H vm m) (h5':Bd D M m) (h6':ts.length<100) (h7':n[kk]?=some r) (h8':FA (mo (i0 r.1)) (mo (i0 r.2.1)) (cQ ts kk) r.2.2 m≠none) (h9':∀d H' mo' ys',H d=none->jL [h,lt] H H'->H' h=some (.ins cC dx (bV ln lp lt vm d))->cU H' ln lp lt n ps (ts++[(j5 (kk:Int),m)]) D M U->dA H' d n ps (ts++[(j5 (kk:Int),m)]) D M mo' ys'->Q .non H'):FH K cC vs H Q EE
noncomputable def UE(K:y8)(cC:g6):Sp:=fun vs H Q EE=>FH K cC vs H Q EE
inductive wS (cC:g6) (vs:List V) (H:Hp) (Q:VK) (EE:XK):Prop
|mk (h dx ln lp lt:g6) (vm:V) (dm:g6) (y:Str) (u:V) (kd:List (aL×V)) (h0':vs=[.ref h,.str y]) (h1':H h=some (.ins cC dx (bV ln lp lt vm dm))) (h2':H dm=some (.dK kd)) (h3':bI kd (i0 y)=some u) (h4':Q .non H):wS cC vs H Q EE
noncomputable def FM(cC:g6):Sp:=fun vs H Q EE=>wS cC vs H Q EE
inductive FK (cC:g6) (vs:List V) (H:Hp) (Q:VK) (EE:XK):Prop
|mk (h dx ln lp lt:g6) (vm:V) (dm:g6) (y:Str) (m:Rat) (n:List bX) (ps ts:List (aL×Rat)) (D M:Nat) (U:List Str) (mo:aL->Option Rat) (ys:List Str) (h0':vs=[.ref h,.str y]) (h1':H h=some (.ins cC dx (bV ln lp lt vm dm))) (h2':cU H ln lp lt n ps ts D M U) (h3':dA H dm n ps ts D M mo ys) (h4':cA H vm m) (h5':Bd D M m) (h6':ps.length<100) (h7':y∈names n) (h8':ID m (mo (i0 y))=false) (h9':∀d H' mo' ys',H d=none->jL [h,lp] H H'->H' h=some (.ins cC dx (bV ln lp lt vm d))->cU H' ln lp lt n (ps++[(i0 y,m)]) ts D M U->dA H' d n (ps++[(i0 y,m)]) ts D M mo' ys'->Q .non H'):FK cC vs H Q EE
noncomputable def UG(cC:g6):Sp:=fun vs H Q EE=>FK cC vs H Q EE
theorem XI{t b:Int}(f:0<=t)(c:0<b):0<=(m5 t b).num:=by
 rw[(lI (t:=t) (show b≠0 by lia)).1];rcases Int.lt_or_eq_of_le f with h|h
 ·exact R8 (XJ h c)
 ·have:=pX (t:=t) (show b≠0 by lia);lia
inductive UM (K:y8) (cC:g6) (vs:List V) (H:Hp) (Q:VK) (EE:XK):Prop
|mk (h dd pd:g6) (w:Str) (xx:Int) (dx de db cv:g6) (vm:V) (dm:g6) (m:Rat) (n:List bX) (ps ts:List (aL×Rat)) (D M:Nat) (U:List Str) (mo:aL->Option Rat) (ys:List Str) (u:Int) (rs:List (Int×Int×Int)) (ps' ts':List (Int×Int)) (ln lr lp lt:g6) (now:Int) (h0':vs=[.ref h,.ref dd,.ref pd]) (h1':H pd=some (.tup [.str w,.int xx])) (h2':H h=some (.ins cC dx (bV de db cv vm dm))) (h3':cU H de db cv n ps ts D M U) (h4':dA H dm n ps ts D M mo ys) (h5':cA H vm m) (h6':Bd D M m) (h7':LT H) (h8':iE H dd U u rs ps' ts' ln lr lp lt now) (h9':0<u) (h10':u<=10^12) (h11':((w="push"/\ps.length<100/\∃(i:Nat)(y:Str),xx=(i:Int)/\U[i]?=some y/\y∈names n/\ID m (mo (i0 y))=false/\∀d H' mo' ys',H d=none->jL [h,db] H H'->H' h=some (.ins cC dx (bV de db cv vm d))->cU H' de db cv n (ps++[(i0 y,m)]) ts D M U->dA H' d n (ps++[(i0 y,m)]) ts D M mo' ys'->Q .non H')∨(w="take"/\ts.length<100/\∃(kk:Nat)(r:bX),xx=(kk:Int)/\n[kk]?=some r/\FA (mo (i0 r.1)) (mo (i0 r.2.1)) (cQ ts kk) r.2.2 m≠none/\∀d H' mo' ys',H d=none->jL [h,cv] H H'->H' h=some (.ins cC dx (bV de db cv vm d))->cU H' de db cv n ps (ts++[(j5 (kk:Int),m)]) D M U->dA H' d n ps (ts++[(j5 (kk:Int),m)]) D M mo' ys'->Q .non H')∨(w="go"/\ys.length<64/\ys.length+n.length<200/\0<=xx/\xx<=10^109/\Bd D M (m+ut u xx)/\∀v vm' H' zs es,H v=none->H' v=some (.lst zs)->zs.length<=400->Paired (iU H') zs es->es.Perm ((vN n mo ts ys).filter (fresh m (m+ut u xx)))->es.Pairwise Ev.le->(∀e∈es,ZK (2*D) e)->jL [h,tT] H H'->LT H'->H' h=some (.ins cC dx (bV de db cv vm' dm))->cA H' vm' (m+ut u xx)->cU H' de db cv n ps ts D M U->dA H' dm n ps ts D M mo ys->Q (.ref v) H'))):UM K cC vs H Q EE
noncomputable def Ie(K:y8)(cC:g6):Sp:=fun vs H Q EE=>UM K cC vs H Q EE
theorem Wj{a b c:Rat}(h:a<=b)(g:b<c):a<c:=Rat.not_le.mp fun z=>Q6.mpr (Q5 z h) g
theorem fU{m w:Rat}{e:Ev}:fresh m w e=true↔m<e.t/\e.t<=w:=by unfold fresh ID;rw[Y5,decide_eq_true_eq,X5,decide_eq_false_iff_not,Q6]
theorem BQ{p q r:Ev->Bool}(h:∀e,r e=true↔p e=true∨q e=true)(d:∀e,p e=true->q e=true->False):∀l:List Ev,(l.filter r).Perm (l.filter p++l.filter q)
|[]=>.refl _
|x::l=>by
  have ih:=BQ h d l;cases a:p x with
 |true=>
   have b:q x=false:=Bool.eq_false_iff.mpr fun b=>d x a b;rw[T5 ((h x).mpr (.inl a)),T5 a,T6 (by rw[b];exact nofun)];exact ih.cons _
 |false=>
   cases b:q x with
  |true=>
    rw[T5 ((h x).mpr (.inr b)),T6 (by rw[a];exact nofun),T5 b];exact (ih.cons _).trans List.perm_middle.symm
  |false=>
    have c:¬r x=true:=fun c=>by
     rcases (h x).mp c with c|c
     ·rw[a]at c;cases c
     ·rw[b]at c;cases c
    rw[T6 c,T6 (by rw[a];exact nofun),T6 (by rw[b];exact nofun)];exact ih
theorem TL{l a b:List Ev}{m v w:Rat}(i:m<=v)(o:v<=w)(f:a.Perm (l.filter (fresh m v)))(A:a.Pairwise Ev.le)(g:b.Perm (l.filter (fresh v w)))(B:b.Pairwise Ev.le):(a++b).Perm (l.filter (fresh m w))/\(a++b).Pairwise Ev.le:=by
 refine {(f.append g).trans (BQ (fun e=>?_) (fun e x y=>?_) l).symm,U4.mpr {A,B,fun x q y s=>.inl ?_}}
 ·rw[fU,fU,fU];constructor
  ·intro ⟨x,y⟩;by_cases c:v<e.t
   ·exact .inr {c,y}
   ·exact .inl {x,Q6.mp c}
  ·rintro (⟨x,y⟩|⟨x,y⟩)
   ·exact {x,Q5 y o}
   ·exact {Wj i x,y}
 ·exact Q6.mpr (fU.mp x).2 (fU.mp y).1
 ·have:=(fU.mp (Q0.mp (f.mem_iff.mp q)).2).2;exact Wj this (fU.mp (Q0.mp (g.mem_iff.mp s)).2).1
inductive Hd (cC h dx de db cv:g6) (n:List bX) (ps ts:List (aL×Rat)) (D M:Nat) (U:List Str) (dm:g6) (mo:aL->Option Rat) (ys:List Str) (m:Rat) (u:Int) (H:Hp) (e:Int) (lo:g6) (G:Hp):Prop
|mk (vm:V) (zs:List V) (es:List Ev) (k:jL [h,tT] H G) (T:LT G) (o:G h=some (.ins cC dx (bV de db cv vm dm))) (f:cA G vm (m+ut u e)) (I:cU G de db cv n ps ts D M U) (Mo:dA G dm n ps ts D M mo ys) (fl:H lo=none) (g:G lo=some (.lst zs)) (pr:Paired (iU G) zs es) (pm:es.Perm ((vN n mo ts ys).filter (fresh m (m+ut u e)))) (so:es.Pairwise Ev.le)
theorem Hd.len{cC h dx de db cv:g6}{n:List bX}{ps b:List (aL×Rat)}{D M:Nat}{U:List Str}{dm:g6}{mo:aL->Option Rat}{ys:List Str}{m w:Rat}{f:List V}{es:List Ev}{G:Hp}(i:Paired (iU G) f es)(g:es.Perm ((vN n mo b ys).filter (fresh m w))):f.length<=ys.length+n.length:=by have o:=g.length_eq;have c:=jh (fresh m w) (vN n mo b ys);have A:=W1 (vC mo) ys;have q:=W1 (jI n mo b) (y9 n.length);have s:=Paired.length i;rw[re]at q;unfold vN at o c;rw[m8]at c;lia
inductive AJ (K:y8) (cC:g6) (vs:List V) (H:Hp) (Q:VK) (EE:XK):Prop
|mk (h dd:g6) (xx num:Int) (dx de db cv:g6) (vm:V) (dm:g6) (m:Rat) (n:List bX) (ps ts:List (aL×Rat)) (D M:Nat) (U:List Str) (mo:aL->Option Rat) (ys:List Str) (u:Int) (rs:List (Int×Int×Int)) (ps' ts':List (Int×Int)) (ln lr lp lt:g6) (now:Int) (h0':vs=[.ref h,.ref dd,.int xx,.int num]) (h1':H h=some (.ins cC dx (bV de db cv vm dm))) (h2':cU H de db cv n ps ts D M U) (h3':dA H dm n ps ts D M mo ys) (h4':cA H vm m) (h5':LT H) (h6':iE H dd U u rs ps' ts' ln lr lp lt now) (h7':0<u) (h8':u<=10^12) (h9':ys.length<64) (h10':ys.length+n.length<200) (h11':0<=xx) (h12':xx<=10^109) (h13':(∀e:Int,0<=e->e<=xx->Bd D M (m+ut u e))) (h14':∀v H',Hd cC h dx de db cv n ps ts D M U dm mo ys m u H xx v H'->Q (.ref v) H'):AJ K cC vs H Q EE
noncomputable def LW(K:y8)(cC:g6):Sp:=fun vs H Q EE=>AJ K cC vs H Q EE
noncomputable def fallen(m:Rat)(mo:aL->Option Rat):List Str->List (aL×Rat)
|[]=>[]
|y::r=>(match mo (i0 y) with|none=>[]|some q=>if m<q then [] else [((i0 y:aL),q)])++fallen m mo r
theorem iQ(m:Rat)(mo:aL->Option Rat):∀a b:List Str,fallen m mo (a++b)=fallen m mo a++fallen m mo b
|[],b=>rfl
|y::r,b=>by show _++fallen m mo (r++b)=_;rw[iQ m mo r b,←D6];rfl
theorem rJ{m:Rat}{mo:aL->Option Rat}{y:Str}:fallen m mo [y]=match mo (i0 y) with|none=>[]|some q=>if m<q then [] else [((i0 y:aL),q)]:=K4 _
theorem kM{m:Rat}{mo:aL->Option Rat}{x:aL×Rat}:∀{ys:List Str},x∈fallen m mo ys↔∃y∈ys,x=(i0 y,x.2)/\mo (i0 y)=some x.2/\¬m<x.2
|[]=>by simp[fallen]
|y::r=>by
  show x∈_++fallen m mo r↔_;rw[u9,kM (ys:=r)];constructor
  ·rintro (h|⟨z,b,h⟩)
   ·refine {y,.head _,?_};cases e:mo (i0 y) with
   |none=>rw[e]at h;cases h
   |some q=>
     rw[e]at h;dsimp only at h;split at h
     ·cases h
     ·rw[i9.mp h];exact {rfl,rfl,by assumption}
   ·exact {z,.tail _ b,h}
  ·rintro ⟨z,b,c,f,g⟩;cases b with
  |head=>
    refine .inl ?_;rw[f];dsimp only;rw[if_neg g];exact i9.mpr c
  |tail _ b=>exact .inr {z,b,c,f,g}
theorem lM{m:Rat}{mo:aL->Option Rat}:∀{ys:List Str},ys.Nodup->((fallen m mo ys).map (·.1)).Nodup
|[],_=>.nil
|y::r,b=>by
  show ((_++fallen m mo r).map _).Nodup;rw[T4]at b;have ih:=lM (m:=m) (mo:=mo) b.2;cases e:mo (i0 y) with
 |none=>exact ih
 |some q=>
   dsimp only;split
   ·exact ih
   ·show (i0 y::(fallen m mo r).map (·.1)).Nodup;refine T4.mpr {fun h=>?_,ih};obtain ⟨x,g,c⟩:=w8.mp h;obtain ⟨z,i,f,_⟩:=kM.mp g;rw[f]at c;cases c;exact b.1 i
inductive wZ (cC:g6) (vs:List V) (H:Hp) (Q:VK) (EE:XK):Prop
|mk (h dx ln lp lt:g6) (vm:V) (dm:g6) (m:Rat) (n:List bX) (ps ts:List (aL×Rat)) (D M:Nat) (U:List Str) (mo:aL->Option Rat) (ys:List Str) (h0':vs=[.ref h]) (h1':H h=some (.ins cC dx (bV ln lp lt vm dm))) (h2':cU H ln lp lt n ps ts D M U) (h3':dA H dm n ps ts D M mo ys) (h4':cA H vm m) (h5':Bd D M m) (h6':∀d H',H d=none->aK H H'->DQ cA H' d (fallen m mo ys)->Q (.ref d) H'):wZ cC vs H Q EE
noncomputable def FU(cC:g6):Sp:=fun vs H Q EE=>wZ cC vs H Q EE
inductive LZ (cC:g6) (vs:List V) (H:Hp) (Q:VK) (EE:XK):Prop
|mk (h dx ln lp lt:g6) (vm:V) (dm:g6) (h0':vs=[.ref h]) (h1':H h=some (.ins cC dx (bV ln lp lt vm dm))) (h2':Q vm H):LZ cC vs H Q EE
noncomputable def Fc(cC:g6):Sp:=fun vs H Q EE=>LZ cC vs H Q EE
noncomputable def Rj(n:List bX)(mo:aL->Option Rat)(ts:List (aL×Rat))(m:Rat)(k:Nat):Option (Rat×Rat):=(n[k]?).bind fun r=>FA (mo (i0 r.1)) (mo (i0 r.2.1)) (cQ ts k) r.2.2 m
inductive wO (cC:g6) (vs:List V) (H:Hp) (Q:VK) (EE:XK):Prop
|mk (h dd dx de db cv:g6) (vm:V) (dm:g6) (num:Int) (m:Rat) (n:List bX) (ps ts:List (aL×Rat)) (D M:Nat) (U:List Str) (mo:aL->Option Rat) (ys:List Str) (U':List Str) (u:Int) (rs:List (Int×Int×Int)) (ps' ts':List (Int×Int)) (ln lr lp lt:g6) (now:Int) (h0':vs=[.ref h,.ref dd,.int num]) (h1':H h=some (.ins cC dx (bV de db cv vm dm))) (h2':cU H de db cv n ps ts D M U) (h3':dA H dm n ps ts D M mo ys) (h4':cA H vm m) (h5':Bd D M m) (h6':iE H dd U' u rs ps' ts' ln lr lp lt now) (h7':n.length=rs.length) (h8':1<=rs.length) (h9':∀l d w H',H l=none->aK H H'->H' l=some (.lst [vm,.ref d,w])->DQ cA H' d (fallen m mo ys)->tP H' w (Rj n mo ts m (num%rs.length).toNat)->Q (.ref l) H'):wO cC vs H Q EE
noncomputable def FE(cC:g6):Sp:=fun vs H Q EE=>wO cC vs H Q EE
inductive rZ (cC:g6) (vs:List V) (H:Hp) (Q:VK) (EE:XK):Prop
|mk (h dx l:g6) (n:List bX) (D M:Nat) (U:List Str) (h0':vs=[.ref h,.ref l]) (h1':H h=some (.ins cC dx [])) (h2':mP H l (kn n) D M) (h3':pK D M) (h4':U.length<=63) (h5':(∀x∈names n,x∈U)) (h6':∀H' ln lp lt vm dm mo ys,jL [h] H H'->H ln=none->H lp=none->H lt=none->H dm=none->H' h=some (.ins cC dx (bV ln lp lt vm dm))->cA H' vm 0->cU H' ln lp lt n [] [] D M U->dA H' dm n [] [] D M mo ys->Q .non H'):rZ cC vs H Q EE
noncomputable def qU(cC:g6):Sp:=fun vs H Q EE=>rZ cC vs H Q EE
theorem uI(U:List Str)(u:Int)(b:List (Int×Int×Int)):(eU U u b).length=b.length:=j6 ..
theorem Lc{U:List Str}{u:Int}{c:List (Int×Int×Int)}{ps i:List (Int×Int)}(b:gN U u c ps i):∀r∈eU U u c,0<r.2.2:=fun r f=>by obtain ⟨x,g,rfl⟩:=w8.mp f;have:=b.rok x g;exact Ct (by lia) b.u0
theorem HM{U:List Str}{u:Int}{c:List (Int×Int×Int)}{ps C:List (Int×Int)}(w:gN U u c ps C):∀x∈names (eU U u c),x∈U:=fun x b=>by
 have go:∀i:Int,0<=i->i<U.length->jG U i∈U:=fun i q s=>by obtain ⟨h,e⟩:=yD q s;rw[e];exact O8 h
 unfold names eU at b;rcases u9.mp b with h|h
 all_goals
  obtain ⟨r,A,rfl⟩:=w8.mp h;obtain ⟨y,B,rfl⟩:=w8.mp A;obtain ⟨f,g,m,o,_⟩:=w.rok y B
  first|exact go _ f g|exact go _ m o
theorem ZZ{U:List Str}{u z:Int}{c:List (Int×Int×Int)}(h:z∈lB c):jG U z∈names (eU U u c):=by
 unfold names eU;rw[R5,R5];rcases u9.mp h with h|h
 ·obtain ⟨r,b,rfl⟩:=w8.mp h;exact D3 _ (w8.mpr {r,b,rfl})
 ·obtain ⟨r,b,rfl⟩:=w8.mp h;exact x9 _ (w8.mpr {r,b,rfl})
theorem cS.kt{K:y8}{H G:Hp}{a:g6}{xs:List V}(h:cS K H a xs)(t:LT H)(k:Kp tT H G):cS K G a xs:=by
 rcases h with (h|⟨o,h⟩)|h
 ·exact .inl (.inl (kT k t h (fun _ z=>nomatch z)))
 ·exact .inl (.inr {o,kT k t h (fun _ z=>nomatch z)})
 ·exact .inr h
theorem iE.kl{L:List g6}{H H':Hp}{c:g6}{U:List Str}{u:Int}{m:List (Int×Int×Int)}{ps s:List (Int×Int)}{ln g f i:g6}{b:Int}(h:iE H c U u m ps s ln g f i b)(k:jL L H H')(t:TK H H')(x0:c∉L)(x1:ln∉L)(x2:g∉L)(x3:f∉L)(w:i∉L):iE H' c U u m ps s ln g f i b:=
 {k _ _ x0 h.d,{{_,k _ _ x0 h.d},k _ _ x1 h.q.nm,LQ.mv h.q.rq kY.tk (fun o e=>k _ _ x2 e) t,LQ.mv h.q.pq gD.tk (fun o e=>k _ _ x3 e) t,LQ.mv h.q.tq gD.tk (fun o e=>k _ _ w e) t}}
theorem cU.kl{L:List g6}{H H':Hp}{ln b c:g6}{n:List bX}{ps f:List (aL×Rat)}{D M:Nat}{U:List Str}(h:cU H ln b c n ps f D M U)(k:jL L H H')(t:TK H H')(x1:ln∉L)(x2:b∉L)(x3:c∉L):cU H' ln b c n ps f D M U:=
 {{LQ.mv h.nq.lq jK.tk (fun o e=>k _ _ x1 e) t,h.nq.len,h.nq.bd,h.nq.pos},{LQ.mv h.pq.lq wI.tk (fun o e=>k _ _ x2 e) t,h.pq.len,h.pq.bd},LQ.mv h.tq wI.tk (fun o e=>k _ _ x3 e) t,h.tl,h.tz,h.R,h.u2,h.nm,h.n1,h.n2,h.n3}
theorem cU.up{H:Hp}{ln f g:g6}{n:List bX}{ps i:List (aL×Rat)}{D M b:Nat}{U:List Str}(h:cU H ln f g n ps i D M U)(l:M<=b)(R:pK D b):cU H ln f g n ps i D b U:=
 {{h.nq.lq,h.nq.len,fun r c=>(h.nq.bd r c).mono l,h.nq.pos},{h.pq.lq,h.pq.len,fun r c=>(h.pq.bd r c).mono l},h.tq,h.tl,h.tz,R,h.u2,h.nm,h.n1,h.n2,h.n3}
theorem dA.up{H:Hp}{dm:g6}{n:List bX}{ps c:List (aL×Rat)}{D M b:Nat}{mo:aL->Option Rat}{ys:List Str}(h:dA H dm n ps c D M mo ys)(l:M<=b):dA H dm n ps c D b mo ys:={h.dq,h.fal,fun k q e=>(h.bd k q e).mono (kr _ l),h.nd,h.mem}
noncomputable def Mk(i:Nat):Nat:=10^31*1001^i
theorem tO(i:Nat):Mk (i+1)=Mk i*1001:=by unfold Mk;rw[show 1001^(i+1)=1001^i*1001 from rfl,←Nat.mul_assoc]
theorem Sy(i:Nat):10^31<=Mk i:=R1 _ (pow_pos (by decide))
theorem He{i:Nat}(h:i<=20):Mk i<=10^92:=B9 (X1 _ (W2 (by decide) h)) (by decide)
theorem vV{u:Int}{i:Nat}(b:0<u)(c:u<=10^12)(h:i<=20):pK u.toNat (Mk i):=
 {by lia,E6 (show u.toNat<=10^12 by lia) (by decide),E6 (Nat.mul_le_mul (kr 1000 (He h)) (show u.toNat<=10^12 by lia)) (by decide)}
theorem IL{u z:Int}{B:Nat}(q:0<u)(m:0<=z)(o:z<=B):Bd u.toNat B (ut u z):=by
 have b:u≠0:=by lia
 have e:=lI (t:=z) b;have i:=iZ (t:=z) b;have g:(m5 z u).num.natAbs<=B:=by rw[e.1];have:=pX (t:=z) b;lia
 refine (Bd.of g).dvd ?_;have c:((m5 z u).den:Int)∣u:=by rw[e.2];exact {_,i.symm}
 have f:(u.toNat:Int)=u:=lw (by lia);exact R3.mp (f.symm▸c:((m5 z u).den:Int)∣(u.toNat:Int))
theorem Hl{u z:Int}{D M:Nat}(b:0<u)(h:Bd D M (ut u z)):z<=(M:Int)*u:=by
 have e:((M:Nat):Rat)=ut u ((M:Int)*u):=by rw[nV,Rat.intCast_mul];have:=up b;have c:((u:Int):Rat)≠0:=oy this;rw[Rat.mul_div_cancel c];rfl
 have:=h.2.2;rw[e]at this;exact (rV b).mp this
theorem Bt{b:List (Int×Int×Int)}{ps:List (Int×Int)}(h:∀x∈ps,x.1∈lB b):iI b ps=ps:=by unfold iI;exact List.filter_eq_self.mpr fun x c=>decide_eq_true (h x c)
theorem WE(U:List Str)(u:Int)(ps:List (Int×Int))(x:Int×Int):rA U u (ps++[x])=rA U u ps++[(i0 (jG U x.1),ut u x.2)]:=by unfold rA;rw[B6];rfl
theorem TH(u:Int)(b:List (Int×Int))(x:Int×Int):jM u (b++[x])=jM u b++[(j5 x.1,ut u x.2)]:=by unfold jM;rw[B6];rfl
structure Ni(ln lr lp lt de db cv:g6):Prop where
 n1:ln≠lp
 n2:ln≠lt
 n3:lr≠lp
 n4:lr≠lt
 n5:lp≠lt
 a1:ln≠db
 a2:lr≠db
 a3:lp≠db
 a4:lt≠db
 b1:ln≠cv
 b2:lr≠cv
 b3:lp≠cv
 b4:lt≠cv
 c1:de≠lp
 c2:de≠lt
structure lP(cC:g6)(G:Hp)(dd h dx ln lr lp lt de db cv:g6)(U:List Str)(u:Int)(rs:List (Int×Int×Int))(ps ts:List (Int×Int))(now:Int)(ps' ts':List (Int×Int))(df:Int)(vm:V)(dm:g6)(mo:aL->Option Rat)(ys:List Str)(M:Nat):Prop where
 N:iE G dd U u rs ps ts ln lr lp lt now
 o:G h=some (.ins cC dx (bV de db cv vm dm))
 I:cU G de db cv (eU U u rs) (rA U u ps') (jM u ts') u.toNat M U
 Mo:dA G dm (eU U u rs) (rA U u ps') (jM u ts') u.toNat M mo ys
 m:cA G vm (ut u df)
 z:Bd u.toNat M (ut u df)
 T:LT G
 xd:dm≠dd
section
variable {cC:g6}{G G':Hp}{dd h dx ln lr lp lt de db cv:g6}{U:List Str}{u:Int}{rs:List (Int×Int×Int)}{ps ts:List (Int×Int)}{now:Int}{ps' ts':List (Int×Int)}{df:Int}{vm:V}{dm:g6}{mo:aL->Option Rat}{ys:List Str}{M M':Nat}
theorem lP.sm(a:lP cC G dd h dx ln lr lp lt de db cv U u rs ps ts now ps' ts' df vm dm mo ys M)(s:aK G G'):lP cC G' dd h dx ln lr lp lt de db cv U u rs ps ts now ps' ts' df vm dm mo ys M:=
 {a.N.sm s,s _ _ a.o,a.I.sm s,a.Mo.mv (fun o e=>s _ _ e) s.tk,a.m.tk s.tk,a.z,nR.same a.T s,a.xd}
theorem lP.up(a:lP cC G dd h dx ln lr lp lt de db cv U u rs ps ts now ps' ts' df vm dm mo ys M)(l:M<=M')(R:pK u.toNat M'):lP cC G dd h dx ln lr lp lt de db cv U u rs ps ts now ps' ts' df vm dm mo ys M':=
 {a.N,a.o,a.I.up l R,a.Mo.up l,a.m,a.z.mono l,a.T,a.xd}
theorem lP.nh(a:lP cC G dd h dx ln lr lp lt de db cv U u rs ps ts now ps' ts' df vm dm mo ys M):(dd≠h/\ln≠h/\lr≠h/\lp≠h/\lt≠h)/\(dd≠db/\dd≠cv/\dd≠tT/\ln≠tT/\lr≠tT/\lp≠tT/\lt≠tT)/\(h≠db/\h≠cv/\h≠tT)/\(dm≠h/\dm≠lp/\dm≠lt)/\(de≠dd/\db≠dd/\cv≠dd)/\db≠tT/\cv≠tT:=by
 obtain ⟨_,i⟩:=a.T.ex;have m:=a.N.d;have C:=a.N.q.nm;obtain ⟨_,D,_⟩:=a.N.q.rq;obtain ⟨_,w,_⟩:=a.N.q.pq;obtain ⟨_,A,_⟩:=a.N.q.tq;obtain ⟨_,hn,_⟩:=a.I.nq.lq;obtain ⟨_,hp,_⟩:=a.I.pq.lq;obtain ⟨_,s,_⟩:=a.I.tq;obtain ⟨_,B,_⟩:=a.Mo.dq;have g:=a.o;have f:∀{x y:g6}{E H:HO},G x=some E->G y=some H->E≠H->x≠y:=fun a b c z=>by rw[z,b]at a;exact c (l7 a).symm
 exact {{f m g (by intro z;cases z),f C g (by intro z;cases z),f D g (by intro z;cases z),f w g (by intro z;cases z),f A g (by intro z;cases z)},{f m hp (by intro z;cases z),f m s (by intro z;cases z),f m i (by intro z;cases z),f C i (by intro z;cases z),f D i (by intro z;cases z),f w i (by intro z;cases z),f A i (by intro z;cases z)},{f g hp (by intro z;cases z),f g s (by intro z;cases z),f g i (by intro z;cases z)},{f B g (by intro z;cases z),f B w (by intro z;cases z),f B A (by intro z;cases z)},{f hn m (by intro z;cases z),f hp m (by intro z;cases z),f s m (by intro z;cases z)},f hp i (by intro z;cases z),f s i (by intro z;cases z)}
theorem pA{a b x:g6}(c:x≠a)(f:x≠b):x∉[a,b]:=fun z=>by
 rcases x6.mp z with e|z
 ·exact c e
 ·exact f (i9.mp z)
theorem QM{a b c x:g6}(f:x≠a)(g:x≠b)(i:x≠c):x∉[a,b,c]:=fun z=>by
 rcases x6.mp z with e|z
 ·exact f e
 ·exact pA g i z
theorem LT.kl{L:List g6}{H H':Hp}(t:LT H)(k:jL L H H')(h:∀p∈L,(∃xs,H p=some (.lst xs))∨(∃C dx f,H p=some (.ins C dx f))∨∃kv,H p=some (.dK kv)):LT H':=by
 have g:∀{b:g6}{o:HO},H b=some o->(∀xs,o≠.lst xs)->(∀C dx f,o≠.ins C dx f)->(∀kv,o≠.dK kv)->b∉L:=fun e i n2 n3 m=>by
  rcases h _ m with ⟨_,z⟩|⟨_,_,_,z⟩|⟨_,z⟩
  ·exact i _ (l7 (e.symm.trans z))
  ·exact n2 _ _ _ (l7 (e.symm.trans z))
  ·exact n3 _ (l7 (e.symm.trans z))
 rcases t with t|⟨c,t,u⟩
 ·exact .inl (k _ _ (g t (fun _ z=>nomatch z) (fun _ _ _ z=>nomatch z) (fun _ z=>nomatch z)) t)
 ·exact .inr {c,k _ _ (g t (fun _ z=>nomatch z) (fun _ _ _ z=>nomatch z) (fun _ z=>nomatch z)) t,k _ _ (g u (fun _ z=>by cases z) (fun _ _ _ z=>by cases z) (fun _ z=>by cases z)) u}
theorem MH{L:List g6}{H H':Hp}(k:jL L H H')(h:∀p∈L,∃o,H p=some o/\∀xs,o≠.tup xs):TK H H':=k.tk fun p hp xs e=>by obtain ⟨o,b,n⟩:=h p hp;rw[b]at e;exact n xs (l7 e)
theorem XU{L:List g6}{H G F:Hp}(k:Kp tT H G)(g:jL L G F)(f:∀x∈L,x=tT∨H x=none):Kp tT H F:=fun b o c e=>g _ _ (fun z=>by
 rcases f b z with r|r
 ·exact c r
 ·rw[r]at e;cases e) (k _ _ c e)
theorem lP.pushed(E:Ni ln lr lp lt de db cv)(a:lP cC G dd h dx ln lr lp lt de db cv U u rs ps ts now ps' ts' df vm dm mo ys M){d:g6}{f:List (Int×Int)}{b:aL->Option Rat}{c:List Str}(g:G d=none)(k:jL [h,db] G G')(o:G' h=some (.ins cC dx (bV de db cv vm d)))(I:cU G' de db cv (eU U u rs) (rA U u f) (jM u ts') u.toNat M U)(i:dA G' d (eU U u rs) (rA U u f) (jM u ts') u.toNat M b c):lP cC G' dd h dx ln lr lp lt de db cv U u rs ps ts now f ts' df vm d b c M:=by
 obtain ⟨⟨q,s,w,A,B⟩,⟨C,D,H,J,K,O,P⟩,_⟩:=a.nh;obtain ⟨_,hp,_⟩:=a.I.pq.lq;have t:TK G G':=MH k fun p z=>by
  rcases x6.mp z with e|z
  ·rw[e];exact {_,a.o,fun _ z=>nomatch z}
  ·rw[i9.mp z];exact {_,hp,fun _ z=>nomatch z}
 exact {a.N.kl k t (pA q C) (pA s E.a1) (pA w E.a2) (pA A E.a3) (pA B E.a4),o,I,i,a.m.tk t,a.z,a.T.kl k (fun p z=>by
  rcases x6.mp z with e|z
  ·rw[e];exact .inr (.inl {_,_,_,a.o})
  ·rw[i9.mp z];exact .inl {_,hp}),u7 (aB a.N.d g)}
theorem lP.took(E:Ni ln lr lp lt de db cv)(a:lP cC G dd h dx ln lr lp lt de db cv U u rs ps ts now ps' ts' df vm dm mo ys M){d:g6}{f:List (Int×Int)}{b:aL->Option Rat}{c:List Str}(g:G d=none)(k:jL [h,cv] G G')(o:G' h=some (.ins cC dx (bV de db cv vm d)))(I:cU G' de db cv (eU U u rs) (rA U u ps') (jM u f) u.toNat M U)(i:dA G' d (eU U u rs) (rA U u ps') (jM u f) u.toNat M b c):lP cC G' dd h dx ln lr lp lt de db cv U u rs ps ts now ps' f df vm d b c M:=by
 obtain ⟨⟨q,s,w,A,B⟩,⟨D,C,H,J,K,O,P⟩,_⟩:=a.nh;obtain ⟨_,hp,_⟩:=a.I.tq;have t:TK G G':=MH k fun p z=>by
  rcases x6.mp z with e|z
  ·rw[e];exact {_,a.o,fun _ z=>nomatch z}
  ·rw[i9.mp z];exact {_,hp,fun _ z=>nomatch z}
 exact {a.N.kl k t (pA q C) (pA s E.b1) (pA w E.b2) (pA A E.b3) (pA B E.b4),o,I,i,a.m.tk t,a.z,a.T.kl k (fun p z=>by
  rcases x6.mp z with e|z
  ·rw[e];exact .inr (.inl {_,_,_,a.o})
  ·rw[i9.mp z];exact .inl {_,hp}),u7 (aB a.N.d g)}
theorem lP.went(a:lP cC G dd h dx ln lr lp lt de db cv U u rs ps ts now ps' ts' df vm dm mo ys M){b:V}{t':Int}(k:jL [h,tT] G G')(T:LT G')(o:G' h=some (.ins cC dx (bV de db cv b dm)))(f:cA G' b (ut u t'))(z:Bd u.toNat M (ut u t'))(I:cU G' de db cv (eU U u rs) (rA U u ps') (jM u ts') u.toNat M U)(c:dA G' dm (eU U u rs) (rA U u ps') (jM u ts') u.toNat M mo ys):lP cC G' dd h dx ln lr lp lt de db cv U u rs ps ts now ps' ts' t' b dm mo ys M:=by
 obtain ⟨⟨g,i,m,q,s⟩,⟨E,H,w,A,B,C,D⟩,_⟩:=a.nh;obtain ⟨_,hp⟩:=a.T.ex;have t:TK G G':=MH k fun p z=>by
  rcases x6.mp z with e|z
  ·rw[e];exact {_,a.o,fun _ z=>nomatch z}
  ·rw[i9.mp z];exact {_,hp,fun _ z=>nomatch z}
 exact {a.N.kl k t (pA g w) (pA i A) (pA m B) (pA q C) (pA s D),o,I,c,f,z,T,a.xd}
theorem lP.did(E:Ni ln lr lp lt de db cv)(a:lP cC G dd h dx ln lr lp lt de db cv U u rs ps ts now ps' ts' df vm dm mo ys M){f g:List (Int×Int)}{n2:Int}(k:jL [dd,lp,lt] G G')(N:iE G' dd U u rs f g ln lr lp lt n2):lP cC G' dd h dx ln lr lp lt de db cv U u rs f g n2 ps' ts' df vm dm mo ys M:=by
 obtain ⟨⟨C,K,O,D,H⟩,⟨P,Q,R,S,W,X,Y⟩,_,⟨J,A,B⟩,⟨i,s,w⟩,_⟩:=a.nh;obtain ⟨_,b,_⟩:=a.N.q.pq;obtain ⟨_,c,_⟩:=a.N.q.tq;have t:TK G G':=MH k fun p z=>by
  rcases x6.mp z with e|z
  ·rw[e];exact {_,a.N.d,fun _ z=>nomatch z}
  ·rcases x6.mp z with e|z
   ·rw[e];exact {_,b,fun _ z=>nomatch z}
   ·rw[i9.mp z];exact {_,c,fun _ z=>nomatch z}
 exact {N,k _ _ (QM (u7 C) (u7 D) (u7 H)) a.o,a.I.kl k t (QM i E.c1 E.c2) (QM s (u7 E.a3) (u7 E.a4)) (QM w (u7 E.b3) (u7 E.b4)),a.Mo.mv (fun o e=>k _ _ (QM a.xd A B) e) t,a.m.tk t,a.z,a.T.kl k (fun p z=>by
  rcases x6.mp z with e|z
  ·rw[e];exact .inr (.inr {_,a.N.d})
  ·rcases x6.mp z with e|z
   ·rw[e];exact .inl {_,b}
   ·rw[i9.mp z];exact .inl {_,c}),a.xd}
end
noncomputable def So(w:Str)(x:Int)(ps ts:List (Int×Int))(now:Int)(ps' ts':List (Int×Int))(df:Int):Prop:=(w="push"/\ps'=ps++[(x,now)]/\ts'=ts/\df=now)∨(w="take"/\ps'=ps/\ts'=ts++[(x,now)]/\df=now)∨(w="go"/\ps'=ps/\ts'=ts/\df=now+x)
theorem Ri{H:Hp}{Q:VK}{q s:g6}{E G:List (aL×Rat)}(T:DQ cA H q E)(U:DQ cA H s G)(I:(E.map (·.1)).Nodup)(g:(G.map (·.1)).Nodup)(C:∀x,x∈E↔x∈G)(k:Q (.bl false) H):Uv (.ref q) (.ref s) H Q:=by
 obtain ⟨Z,P,M⟩:=T;obtain ⟨k2,R,N⟩:=U;have m:∀{l K:List (aL×Rat)},(∀x,x∈l->x∈K)->∀c∈l.map (·.1),c∈K.map (·.1):=fun h c W=>by obtain ⟨x,Y,rfl⟩:=w8.mp W;exact w8.mpr {x,h x Y,rfl}
 have f:=iJ I (m fun x=>(C x).mp);have o:=iJ g (m fun x=>(C x).mpr);rw[j6,j6]at f o;refine {q,s,Z,k2,rfl,rfl,P,R,by rw[M.len,N.len];exact fb f o,fun kv B=>?_,k};obtain ⟨i,X⟩:=N9 B;obtain ⟨S,A,f,o⟩:=Paired.at M X;have D:=(C _).mp (u8 A);have J:=eO g D;rcases N.val (k:=kv.1) with ⟨_,z⟩|⟨w,b,z1,O,z3⟩
 ·rw[f,J]at z;cases z
 ·rw[f,J]at O;cases O;exact {EN S.2,w,z1,gC o,gC z3,by simp[EN,uO,jB]}
theorem XO(o:Option (Rat×Rat)):∃d,uO d<=5/\∀{H:Hp}{v:V},tP H v o->oM H d v:=by
 cases o with
|none=>exact {.non,by decide,fun h=>h}
|some x=>exact {.tup [EN x.1,EN x.2],by simp[EN,uO,jB],fun ⟨p,u,w,e,h,f,g⟩=>e▸XN h f g}
def evD:Ev->Dt
|.falls t y=>.tup [.str "falls",EN t,.str y]
|.met t k s=>.tup [.str "met",EN t,.int (k:Int),EN s]
|.swept t k=>.tup [.str "swept",EN t,.int (k:Int)]
theorem iU.den{H:Hp}{v:V}{e:Ev}(h:iU H v e):oM H (evD e) v:=by
 cases e with
|falls q y=>obtain ⟨p,u,e,h,f⟩:=h;exact {p,_,e,h,_,_,rfl,rfl,_,_,rfl,gC f,_,_,rfl,rfl,rfl}
|met q k s=>obtain ⟨p,u,w,e,h,f,g⟩:=h;exact {p,_,e,h,_,_,rfl,rfl,_,_,rfl,gC f,_,_,rfl,rfl,_,_,rfl,gC g,rfl}
|swept q k=>obtain ⟨p,u,e,h,f⟩:=h;exact {p,_,e,h,_,_,rfl,rfl,_,_,rfl,gC f,_,_,rfl,rfl,rfl}
theorem LH{n:List bX}{ys c:List Str}(a:ys.Nodup)(b:c.Nodup)(f:∀x,x∈ys↔x∈names n)(g:∀x,x∈c↔x∈names n):ys.Perm c:=(List.perm_ext_iff_of_nodup a b).mpr fun x=>(f x).trans (g x).symm
structure Ap(h n p t h' n' p' t':g6):Prop where
 hh:h≠h'
 pn:p≠n'
 pp:p≠p'
 pt:p≠t'
 tn:t≠n'
 tp:t≠p'
 tt:t≠t'
 np:n≠p'
 nt:n≠t'
theorem Ap.sym{h n p t h' b c t':g6}(a:Ap h n p t h' b c t'):Ap h' b c t' h n p t:={a.hh.symm,a.np.symm,a.pp.symm,a.tp.symm,a.nt.symm,a.pt.symm,a.tt.symm,a.pn.symm,a.tn.symm}
theorem lP.by{cC:g6}{G C:Hp}{O h dx ln J H K de db cv h' B f g i:g6}{U:List Str}{u:Int}{R:List (Int×Int×Int)}{ps S:List (Int×Int)}{w:Int}{pa ta pb tb:List (Int×Int)}{na nb:Int}{va vb:V}{da Y:g6}{ma mb:aL->Option Rat}{ya yb:List Str}{M W:Nat}{L:List g6}(b:lP cC G O h' B ln J H K f g i U u R ps S w pb tb nb vb Y mb yb W)(a:lP cC G O h dx ln J H K de db cv U u R ps S w pa ta na va da ma ya M)(E:Ni ln J H K de db cv)(A:Ap h de db cv h' f g i)(Z:∀x∈L,x=h∨x=db∨x=cv∨x=tT)(k:jL L G C)(T:LT C):lP cC C O h' B ln J H K f g i U u R ps S w pb tb nb vb Y mb yb W:=by
 obtain ⟨⟨x1,x2,x3,x4,x5⟩,⟨y1,y2,y3,y4,y5,y6,y7⟩,_⟩:=a.nh;obtain ⟨_,_,⟨z1,z2,z3⟩,_,_,z4,z5⟩:=b.nh;obtain ⟨_,hp,_⟩:=a.I.pq.lq;obtain ⟨_,Q,_⟩:=a.I.tq;obtain ⟨_,P⟩:=a.T.ex;obtain ⟨_,X,_⟩:=b.I.nq.lq;obtain ⟨_,bp,_⟩:=b.I.pq.lq;obtain ⟨_,bt,_⟩:=b.I.tq;obtain ⟨_,D,_⟩:=b.Mo.dq;have q:∀{x y:g6}{o1 o2:HO},G x=some o1->G y=some o2->o1≠o2->x≠y:=fun a b c z=>by rw[z,b]at a;exact c (l7 a).symm
 have s:∀ {x},x≠h->x≠db->x≠cv->x≠tT->x∉L:=fun a b c d z=>by
  rcases Z _ z with e|e|e|e
  ·exact a e
  ·exact b e
  ·exact c e
  ·exact d e
 have t:TK G C:=MH k fun p z=>by
  rcases Z p z with e|e|e|e
  ·rw[e];exact {_,a.o,fun _ z=>nomatch z}
  ·rw[e];exact {_,hp,fun _ z=>nomatch z}
  ·rw[e];exact {_,Q,fun _ z=>nomatch z}
  ·rw[e];exact {_,P,fun _ z=>nomatch z}
 exact {b.N.kl k t (s x1 y1 y2 y3) (s x2 E.a1 E.b1 y4) (s x3 E.a2 E.b2 y5) (s x4 E.a3 E.b3 y6) (s x5 E.a4 E.b4 y7),
  k _ _ (s A.hh.symm (q b.o hp nofun) (q b.o Q nofun) z3) b.o,
  b.I.kl k t (s (q X a.o nofun) A.pn.symm A.tn.symm (q X P nofun)) (s (q bp a.o nofun) A.pp.symm A.tp.symm z4) (s (q bt a.o nofun) A.pt.symm A.tt.symm z5),
  b.Mo.mv (fun o e=>k _ _ (s (q D a.o nofun) (q D hp nofun) (q D Q nofun) (q D P nofun)) e) t,b.m.tk t,b.z,T,b.xd}
theorem lP.tkk{cC:g6}{G b:Hp}{m h dx ln A s B de db cv:g6}{U:List Str}{u:Int}{J:List (Int×Int×Int)}{ps N:List (Int×Int)}{c:Int}{H K:List (Int×Int)}{E:Int}{O:V}{i:g6}{C:aL->Option Rat}{P:List Str}{M:Nat}{L:List g6}(a:lP cC G m h dx ln A s B de db cv U u J ps N c H K E O i C P M)(g:∀x∈L,x=h∨x=db∨x=cv∨x=tT)(k:jL L G b):TK G b/\∀ {w xs},G w=some (.lst xs)->w≠db->w≠cv->b w=some (.lst xs):=by
 obtain ⟨_,hp,_⟩:=a.I.pq.lq;obtain ⟨_,q,_⟩:=a.I.tq;obtain ⟨_,f⟩:=a.T.ex;refine {MH k fun p z=>?_,fun {w xs} e D n2=>k _ _ (fun z=>?_) e}
 ·rcases g p z with e|e|e|e
  ·rw[e];exact {_,a.o,fun _ z=>nomatch z}
  ·rw[e];exact {_,hp,fun _ z=>nomatch z}
  ·rw[e];exact {_,q,fun _ z=>nomatch z}
  ·rw[e];exact {_,f,fun _ z=>nomatch z}
 ·rcases g w z with y|y|y|y
  ·rw[y,a.o]at e;cases e
  ·exact D y
  ·exact n2 y
  ·rw[y,f]at e;cases e
theorem So.one{w:Str}{x:Int}{ps s:List (Int×Int)}{c:Int}{i o m q:List (Int×Int)}{f n2:Int}(h:So w x ps s c i o f)(g:So w x ps s c m q n2):i=m/\o=q/\f=n2:=by rcases h with ⟨a,rfl,rfl,rfl⟩|⟨a,rfl,rfl,rfl⟩|⟨a,rfl,rfl,rfl⟩ <;> rcases g with ⟨b,rfl,rfl,rfl⟩|⟨b,rfl,rfl,rfl⟩|⟨b,rfl,rfl,rfl⟩ <;> first|exact {rfl,rfl,rfl}|(rw[a]at b;exact absurd b (by k_is))
theorem DF{cC:g6}{G:Hp}{W l ln D m s:g6}{U:List Str}{u:Int}{A:List (Int×Int×Int)}(i:gN U u A [] [])(a':U.length<=40/\A.length<=60)(g:iE G W U u A [] [] ln D m s 0)(hT:LT G)(nq:LQ jK G l (kn (eU U u A)))(n1:ln≠m)(n2:ln≠s)(n3:D≠m)(n4:D≠s)(n5:m≠s){R:g6->Hp->Prop}(hR:∀(h dx de db cv:g6)(T:V)(dm:g6)(mo:aL->Option Rat)(ys:List Str)(G':Hp),aK G G'->G h=none->G de=none->G db=none->G cv=none->Ni ln D m s de db cv->lP cC G' W h dx ln D m s de db cv U u A [] [] 0 [] [] 0 T dm mo ys (Mk 0)->R h G')(h dx:g6)(Q:G h=none)(P:G dx=none)(S:dx≠h):qU cC [.ref h,.ref l] (L2.upd (L2.upd G dx (.own h)) h (.ins cC dx [])) (fun v H'=>v=.non/\R h H') E0:=by
 have u0:=i.u0;have u1:=i.u1;have b':=i.rl;have sA:aK G (L2.upd (L2.upd G dx (.own h)) h (.ins cC dx [])):=(aK.new P).trans (aK.new (by rw[aX (u7 S)];exact Q));have K:=aC (H:=L2.upd G dx (.own h)) (a:=h) (o:=.ins cC dx []);generalize L2.upd (L2.upd G dx (.own h)) h (.ins cC dx [])=HA at sA K ⊢;refine {h,dx,l,eU U u A,u.toNat,Mk 0,U,rfl,K,WZ (nq.sm jK.tk sA) (by rw[uI];lia) (fun r hr=>?_) (Lc i),vV u0 u1 (by decide),by lia,HM i,fun M de db cv T dm mo ys J O B C f4 o3 m3 X Y=>{rfl,?_}}
 ·obtain ⟨x,hx,rfl⟩:=w8.mp hr;have:=i.rok x hx;exact IL u0 (by lia) (show x.2.2<=((10^31:Nat):Int) by lia)
 have NA:=g.sm sA;have tA:TK HA M:=J.tk fun p hp xs e=>by rw[i9.mp hp,K]at e;cases e
 have w:∀{b:g6}{o:HO},G b=some o->b∉[h]:=fun e z=>by rw[i9.mp z,Q]at e;cases e
 obtain ⟨_,N,_⟩:=id g.q.rq;obtain ⟨_,E,_⟩:=id g.q.pq;obtain ⟨_,I,_⟩:=id g.q.tq;have Z:=NA.kl J tA (w g.d) (w g.q.nm) (w N) (w E) (w I);have f:∀{b c:g6}{o:HO},G b=some o->HA c=none->b≠c:=fun e z=>aB (sA _ _ e) z;have T3:LT M:=LT.kl (nR.same hT sA) J fun p z=>by rw[i9.mp z];exact .inr (.inl {_,_,_,K})
 exact hR h dx de db cv T dm mo ys M (fun b o e=>J _ _ (w e) (sA _ _ e)) Q (sA.free O) (sA.free B) (sA.free C) {n1,n2,n3,n4,n5,f g.q.nm B,f N B,f E B,f I B,f g.q.nm C,f N C,f E C,f I C,u7 (f E O),u7 (f I O)} {Z,o3,X,Y,by rw[mS];exact m3,IL u0 (L0 _) (no _),T3,u7 (f g.d f4)}
noncomputable def DdQ(U:List Str)(u:Int)(rs:List (Int×Int×Int))(ts:List (Int×Int))(now:Int)(D:AL aL Int)(w:Str)(x:Int):Prop:=(w="push"/\∃i:Nat,x=(i:Int)/\i<U.length/\(∃r∈rs,r.1=(i:Int)∨r.2.1=(i:Int))/\∀z,aV D (j5 (i:Int))=some z->now<z)∨(w="take"/\∃(k:Nat)(r:Int×Int×Int),x=(k:Int)/\rs[k]?=some r/\FA (mT U u D (i0 (jG U r.1))) (mT U u D (i0 (jG U r.2.1))) (cQ (jM u ts) k) (ut u r.2.2) (ut u now)≠none)∨(w="go"/\0<=x/\((∃y∈D,now+x=y.2)∨x<=10^30))
theorem Ha{cC:g6}{G:Hp}{H h dx ln O N P de db cv:g6}{U:List Str}{u:Int}{m:List (Int×Int×Int)}{ps o:List (Int×Int)}{c:Int}{Q:V}{dm:g6}{ys:List Str}{D:AL aL Int}{i:Nat}{x2:Int}(J:gN U u m ps o)(S:lP cC G H h dx ln O N P de db cv U u m ps o c ps o c Q dm (mT U u D) ys (Mk i))(f:CC U u m (rA U u (iI m ps)) (cQ (jM u o)) D)(n0:0<=c)(x0:0<=x2)(A:(∃y∈D,c+x2=y.2)∨x2<=10^30):Bd u.toNat (Mk (i+1)) (ut u (c+x2))/\x2<=10^109:=by
 have u0:=J.u0;have w:D.length<=98:=by have:=f.len;have:=J.n98;lia
 rcases A with ⟨y,q,s⟩|A
 ·obtain ⟨j,K,T⟩:=f.ky y q;obtain ⟨R,C⟩:=y;cases (show R=j5 (j:Int) from K);have I:aV D (j5 (j:Int))=some C:=eO f.nd q;have M:mT U u D (i0 (jG U (j:Int)))=some (ut u C):=by
   rw[sZ J.nd (by lia) (by lia),I];rfl
  have b:=S.Mo.bd _ _ M;have E:=(f.bd _ q).2;dsimp only at s E;rw[s];exact {b.mono (by rw[tO];lia),by lia}
 ·have b:=S.z.add (by have:=u0;lia) (IL (u:=u) (z:=x2) (B:=10^30) u0 x0 (by lia));rw[mU]at b;have g:=Sy i;exact {b.mono (by rw[tO];lia),by lia}
theorem SS{cC:g6}{G:Hp}{o h dx ln A w B de db cv:g6}{U:List Str}{u:Int}{c:List (Int×Int×Int)}{ps m:List (Int×Int)}{f:Int}{g i:List (Int×Int)}{b:Int}{C:V}{dm:g6}{mo:aL->Option Rat}{ys:List Str}{M:Nat}(J:gN U u c ps m)(q:U.length<=40/\c.length<=60)(S:lP cC G o h dx ln A w B de db cv U u c ps m f g i b C dm mo ys M):ys.length<64/\ys.length+(eU U u c).length<200:=by have:=iJ S.Mo.nd fun x s=>HM J x ((S.Mo.mem x).mp s);rw[uI];lia
theorem OP{K:y8}{cC:g6}{G:Hp}{Q h dx ln Y X Z de db cv:g6}{U:List Str}{u:Int}{g:List (Int×Int×Int)}{ps f:List (Int×Int)}{b:Int}{vm:V}{dm:g6}{ys:List Str}{D:AL aL Int}{i:Nat}{p2:g6}{P:Str}{x2:Int}(e':DdQ U u g f b D P x2)(J:gN U u g ps f)(c':U.length<=40/\g.length<=60)(us:∀x∈ps,x.1∈lB g)(S:lP cC G Q h dx ln Y X Z de db cv U u g ps f b ps f b vm dm (mT U u D) ys (Mk i))(E:Ni ln Y X Z de db cv)(du:CC U u g (rA U u (iI g ps)) (cQ (jM u f)) D)(hi:i<20)(n0:0<=b)(nb:b<=10^105)(pl:ps.length<=i)(tl:f.length<=i)(b':G p2=some (.tup [.str P,.int x2])){R:VK}(hR:∀(fv v':V)(d':g6)(q:aL->Option Rat)(s:List Str)(ps' ts':List (Int×Int)) (df:Int) (L:List g6) (G':Hp),So P x2 ps f b ps' ts' df->gN U u g ps' ts'->(∀x∈ps',x.1∈lB g)->0<=df->lP cC G' Q h dx ln Y X Z de db cv U u g ps f b ps' ts' df v' d' q s (Mk (i+1))->jL L G G'->(∀x∈L,x=h∨x=db∨x=cv∨x=tT)->(P="go"->∃v zs es,fv=.ref v/\G' v=some (.lst zs)/\G v=none/\Paired (iU G') zs es/\es.Perm ((vN (eU U u g) (mT U u D) (jM u f) ys).filter (fresh (ut u b) (ut u df)))/\es.Pairwise Ev.le)->R fv G'):Ie K cC [.ref h,.ref Q,.ref p2] G R E0:=by
 have u0:=J.u0;have u1:=J.u1;have w:=S.up (show Mk i<=Mk (i+1) by rw[tO];lia) (vV u0 u1 (by lia));have l':(rA U u ps).length<=20:=by unfold rA;rw[j6];lia
 have n':(jM u f).length<=20:=by unfold jM;rw[j6];lia
 refine {h,Q,p2,P,x2,dx,de,db,cv,vm,dm,ut u b,eU U u g,rA U u ps,jM u f,u.toNat,Mk (i+1),U,mT U u D,ys,u,g,ps,f,ln,Y,X,Z,b,rfl,b',w.o,w.I,w.Mo,w.m,w.z,w.T,w.N,u0,u1,?_};rcases e' with ⟨rfl,j,rfl,hj,⟨r,W,h'⟩,hz⟩|⟨rfl,k,r,rfl,W,hs⟩|⟨rfl,x0,c⟩
 ·have H:(j:Int)∈lB g:=by
   rcases h' with e|e
   ·exact D3 _ (w8.mpr {r,W,e})
   ·exact x9 _ (w8.mpr {r,W,e})
  obtain ⟨k',a'⟩:=yD (U:=U) (i:=(j:Int)) (by lia) (by lia);have hc:ID (ut u b) (mT U u D (i0 (jG U (j:Int))))=false:=by
   rw[sZ J.nd (by lia) (by lia)];cases e:aV D (j5 (j:Int)) with
  |none=>rfl
  |some z=>show (!decide (ut u b<ut u z))=false;rw[decide_eq_true ((lA u0).mpr (hz z e))];rfl
  refine .inl {rfl,by lia,j,jG U (j:Int),rfl,by rw[a'];exact i7 _,ZZ H,hc,fun d' C q s fd k O A B=>?_};have ep:=(WE U u ps ((j:Int),b)).symm;rw[ep]at A B;refine hR _ vm d' q s (ps++[((j:Int),b)]) f b [h,db] C (.inl {rfl,rfl,rfl,rfl}) {J.u0,J.u1,J.nd,J.n2,J.n98,J.rok,fun x c=>?_,J.tok,J.r1,J.rl,by rw[m8];show _+1<=_;lia,J.tl,J.ns} (fun x c=>?_) n0 (w.pushed E fd k O A B) k (fun x z=>?_) (fun z=>absurd z (by k_is))
  ·rcases u9.mp c with c|c
   ·exact J.pok x c
   ·rw[i9.mp c];exact {by lia,by lia,n0,nb}
  ·rcases u9.mp c with c|c
   ·exact us x c
   ·rw[i9.mp c];exact H
  ·rcases x6.mp z with z|z
   ·exact .inl z
   ·exact .inr (.inl (i9.mp z))
 ·have g':(eU U u g)[k]?=some (jG U r.1,jG U r.2.1,ut u r.2.2):=by unfold eU;rw[t5,W];rfl
  refine .inr (.inl {rfl,by lia,k,(jG U r.1,jG U r.2.1,ut u r.2.2),rfl,g',hs,fun d' C q s fd M O A B=>?_});have ep:=(TH u f ((k:Int),b)).symm;rw[ep]at A B;refine hR _ vm d' q s ps (f++[((k:Int),b)]) b [h,cv] C (.inr (.inl {rfl,rfl,rfl,rfl})) {J.u0,J.u1,J.nd,J.n2,J.n98,J.rok,J.pok,fun x c=>?_,J.r1,J.rl,J.pl,by rw[m8];show _+1<=_;lia,J.ns} us n0 (w.took E fd M O A B) M (fun x z=>?_) (fun z=>absurd z (by k_is))
  ·rcases u9.mp c with c|c
   ·exact J.tok x c
   ·rw[i9.mp c];exact {by lia,n0,nb}
  ·rcases x6.mp z with z|z
   ·exact .inl z
   ·exact .inr (.inr (.inl (i9.mp z)))
 ·have zb:=Ha J S du n0 x0 c;have yf:=SS J c' S;refine .inr (.inr {rfl,yf.1,yf.2,x0,zb.2,by rw[mU];exact zb.1,fun v' i' C j' fs hv gv lv ev pe so _ M T' O f' A B=>?_});rw[mU]at f' pe;refine hR _ i' dm _ ys ps f (b+x2) [h,tT] C (.inr (.inr {rfl,rfl,rfl,rfl})) J us (by lia) (w.went M T' O f' zb.1 A B) M (fun x z=>?_) fun _=>{v',j',fs,rfl,gv,hv,ev,pe,so}
  rcases x6.mp z with z|z
  ·exact .inl z
  ·exact .inr (.inr (.inr (i9.mp z)))
theorem Ms{u t T:Int}{M:Nat}(u0:0<u)(c:0<=t)(h:t<=T)(b:Bd u.toNat M (ut u T)):Bd u.toNat M (ut u t):=by have z:=(rV u0).mpr c;have y:=(IL (B:=M) u0 (L0 0) (no _)).2.1;rw[mS]at z y;exact {(IL (B:=t.toNat) u0 c (by lia)).1,Q5 y z,Q5 ((rV u0).mpr h) b.2.2}
theorem Ru{a b:List Ev}(p:a.Perm b)(c:a.Pairwise Ev.le)(f:b.Pairwise Ev.le):a=b:=ku.eq_of_pairwise (fun x y _ _ h g=>Ev.le_one h g) c f p
theorem ZA{n:List bX}{mo:aL->Option Rat}{b:List (aL×Rat)}{ys c:List Str}(p:ys.Perm c):(vN n mo b ys).Perm (vN n mo b c):=(p.filterMap _).append_right _
theorem De{H:Hp}{as c:List V}{es:List Ev}(h:Paired (iU H) as es)(g:Paired (iU H) c es){j:Nat}{a b:V}(m:as[j]?=some a)(o:c[j]?=some b):PB H a b:=by obtain ⟨e,q,x⟩:=Paired.at h m;obtain ⟨f,i,y⟩:=Paired.at g o;rw[q]at i;cases i;exact .inl {_,x.den,y.den,by cases e <;> exact F4 rfl}
theorem Cp{n:List bX}{mo:aL->Option Rat}(h:iA (kn n) (aV (lst [])) (cQ []) mo)(p:aL):mo p=none:=by
 have b:∀ {p t},¬SJ (kn n) (aV (lst [])) (cQ []) p t:=fun {p t} a=>by
  induction a with
 |push e=>cases e
 |run _ _ _ _ ih=>exact ih
 cases e:mo p with
|none=>rfl
|some t=>exact absurd (h.arr _ _ e) b
structure HA where
 (h d n p t:g6)
noncomputable def HA.ap(x y:HA):Prop:=Ap x.h x.n x.p x.t y.h y.n y.p y.t
inductive K8I (cC a dd l lh ln lr lp lt:g6) (x y z:HA) (U:List Str) (u:Int) (rs:List (Int×Int×Int)) (H:Hp) (i:Nat) (σ:St) (G:Hp):Prop
|mk (o4 o5 o6 o7:Option V) (ps ts:List (Int×Int)) (now:Int) (v0:V) (d0:g6) (m0:aL->Option Rat) (y0:List Str) (v1:V) (d1:g6) (m1:aL->Option Rat) (y1:List Str) (v2:V) (d2:g6) (m2:aL->Option Rat) (y2:List Str) (e:σ=[some (.ref a),some (.ref dd),some (.ref l),some (.ref lh),o4,o5,o6,o7]) (S0:lP cC G dd x.h x.d ln lr lp lt x.n x.p x.t U u rs ps ts now ps ts now v0 d0 m0 y0 (Mk i)) (S1:lP cC G dd y.h y.d ln lr lp lt y.n y.p y.t U u rs ps ts now ps ts now v1 d1 m1 y1 (Mk i)) (S2:lP cC G dd z.h z.d ln lr lp lt z.n z.p z.t U u rs ps ts now [] [] 0 v2 d2 m2 y2 (Mk i)) (g:G lh=some (.lst [.ref x.h,.ref y.h,.ref z.h])) (k:Kp tT H G) (J:gN U u rs ps ts) (us:∀x∈ps,x.1∈lB rs) (pl:ps.length<=i) (tl:ts.length<=i) (n0:0<=now)
inductive K8C (cC a dd l lh ln lr lp lt:g6) (x y z:HA) (U:List Str) (u:Int) (rs:List (Int×Int×Int)) (H:Hp) (i:Nat) (p2:g6) (kk num x2:Int) (wd:Str) (ps ts:List (Int×Int)) (now:Int) (D:AL aL Int) (v1:V) (d1:g6) (y0 y1:List Str) (v2:V) (d2:g6) (m2:aL->Option Rat) (y2:List Str) (σ:St) (F:Hp):Prop
|mk (fv v0:V) (d0:g6) (m0:aL->Option Rat) (y0':List Str) (ps' ts':List (Int×Int)) (df:Int) (e:σ=[some (.ref a),some (.ref dd),some (.ref l),some (.ref lh),some (.int kk),some (.int num),some (.ref p2),some fv]) (gp:F p2=some (.tup [.str wd,.int x2])) (S0:lP cC F dd x.h x.d ln lr lp lt x.n x.p x.t U u rs ps ts now ps' ts' df v0 d0 m0 y0' (Mk (i+1))) (S1:lP cC F dd y.h y.d ln lr lp lt y.n y.p y.t U u rs ps ts now ps ts now v1 d1 (mT U u D) y1 (Mk i)) (S2:lP cC F dd z.h z.d ln lr lp lt z.n z.p z.t U u rs ps ts now [] [] 0 v2 d2 m2 y2 (Mk i)) (g:F lh=some (.lst [.ref x.h,.ref y.h,.ref z.h])) (k:Kp tT H F) (st:So wd x2 ps ts now ps' ts' df) (J:gN U u rs ps' ts') (us:∀x∈ps',x.1∈lB rs) (n0:0<=df) (tw:wd="go"->∃v zs es,fv=.ref v/\F v=some (.lst zs)/\(v≠y.h/\v≠tT)/\Paired (iU F) zs es/\es.Perm ((vN (eU U u rs) (mT U u D) (jM u ts) y0).filter (fresh (ut u now) (ut u df)))/\es.Pairwise Ev.le)
inductive K8D (cC a dd l lh ln lr lp lt:g6) (x y z:HA) (U:List Str) (u:Int) (rs:List (Int×Int×Int)) (H:Hp) (i:Nat) (p2:g6) (kk num x2:Int) (wd:Str) (ps ts:List (Int×Int)) (now:Int) (ps' ts':List (Int×Int)) (df:Int) (fv v2:V) (d2:g6) (m2:aL->Option Rat) (y2:List Str) (σ:St) (F:Hp):Prop
|mk (v0:V) (d0:g6) (m0:aL->Option Rat) (y0:List Str) (v1:V) (d1:g6) (m1:aL->Option Rat) (y1:List Str) (e:σ=[some (.ref a),some (.ref dd),some (.ref l),some (.ref lh),some (.int kk),some (.int num),some (.ref p2),some fv]) (gp:F p2=some (.tup [.str wd,.int x2])) (S0:lP cC F dd x.h x.d ln lr lp lt x.n x.p x.t U u rs ps ts now ps' ts' df v0 d0 m0 y0 (Mk (i+1))) (S1:lP cC F dd y.h y.d ln lr lp lt y.n y.p y.t U u rs ps ts now ps' ts' df v1 d1 m1 y1 (Mk (i+1))) (S2:lP cC F dd z.h z.d ln lr lp lt z.n z.p z.t U u rs ps ts now [] [] 0 v2 d2 m2 y2 (Mk i)) (g:F lh=some (.lst [.ref x.h,.ref y.h,.ref z.h])) (k:Kp tT H F)
theorem YZ{cC:g6}{G:Hp}{A h dx ln D C E de db cv h' s w t':g6}{U:List Str}{u:Int}{H:List (Int×Int×Int)}{ps J:List (Int×Int)}{g:Int}{i m:List (Int×Int)}{b:Int}{K:V}{dm:g6}{mo:aL->Option Rat}{ys:List Str}{M:Nat}(a:lP cC G A h dx ln D C E de db cv U u H ps J g i m b K dm mo ys M)(B:G h'=none)(q:G s=none)(c:G w=none)(ft:G t'=none):Ap h de db cv h' s w t':=by obtain ⟨_,hn,_⟩:=a.I.nq.lq;obtain ⟨_,hp,_⟩:=a.I.pq.lq;obtain ⟨_,f,_⟩:=a.I.tq;exact {aB a.o B,aB hp q,aB hp c,aB hp ft,aB f q,aB f c,aB f ft,aB hn c,aB hn ft}
inductive MF (K:y8) (vs:List V) (H:Hp) (Q:VK) (EE:XK):Prop
|mk (a:g6) (ns:List Int) (h0':vs=[.ref a]) (h1':cS K H a (ns.map V.int)) (h2':ns.length<=63) (h3':LT H) (h4':∀H',Q (.bl true) H'):MF K vs H Q EE
noncomputable def MG(K:y8):Sp:=fun vs H Q EE=>MF K vs H Q EE
set_option hygiene false in
local macro_rules | `(tactic| walk_at "ln") => `(tactic| (intros; rename_i h; walk_at "lo"))
set_option hygiene false in
local macro_rules | `(tactic| walk_at "lo") => `(tactic| first | (obtain ⟨rfl,_⟩:=h; rfl) | (cases h; subst_vars; rfl) | (obtain ⟨_,h⟩:=h; walk_at "lo"))
theorem eA{X:Cx}{x:Str}{e:D9}{c:TE}{b pos:Pos}(i:Nat)(f:X.N.Nodup)(g:PE X e c)(o:X.N[i]?=some x:=by rfl)(q:Mz X.env.scope x:=by first|exact J8 rfl|exact J5 rfl)(hs:ny e (some (.Name x b)) pos.line X.env=L3 false:=by rfl)(m:X.fn x=true∨X.env.scope.names.lookup x=some .local:=by first|exact .inl rfl|exact .inr rfl|assumption):PS X (.Assign [.Name x b] e pos) (TZ c (iD i)):=WC f o q g hs m
theorem sT{X:Cx}{x:Str}{pos:Pos}(i:Nat)(b:X.N.Nodup)(f:X.N[i]?=some x:=by rfl)(g:Mz X.env.scope x:=by first|exact J8 rfl|exact J5 rfl)(c:X.fn x=true∨X.env.scope.names.lookup x=some .local:=by first|exact .inl rfl|exact .inr rfl|assumption):PG X (.Name x pos) (iD i):=bN b f g c
theorem Zn{X:Cx}{x:Str}{pos:Pos}(l:List Str)(i:Nat)(h:X.N=l:=by rfl)(c:l.Nodup:=by k_is)(g:X.N[i]?=some x:=by rfl)(m:Mz X.env.scope x:=by exact J8 rfl)(f:X.fn x=true∨X.env.scope.names.lookup x=some .local:=by exact J5 rfl):PG X (.Name x pos) (iD i):=bN (h▸c) g m f
structure EV(K:y8)(mg:Str->Option f9)(cC:g6):Prop where
 d0:Df K mg "is_whole" xG ["thing"]
 d1:Df K mg "common_divisor" mE ["one","other"]
 d2:Df K mg "is_fraction" qM ["thing"]
 d4:Df K mg "added" NB ["one","other"]
 d5:Df K mg "lessened" xF ["one","other"]
 d6:Df K mg "timed" MV ["one","other"]
 d7:Df K mg "divided" AX ["one","other"]
 d8:Df K mg "is_less" AW ["one","other"]
 d9:Df K mg "is_moment" uU ["thing"]
 d10:Df K mg "whole_tops" nB ["fractions"]
 d12:Df K mg "posts_of" nC ["net"]
 d13:Df K mg "runs_beside" qL ["net"]
 d14:Df K mg "least_moments" nX ["deeds"]
 d15:Df K mg "is_out" GL ["taken","number","moment"]
 d16:Df K mg "earliest_of" qN ["waiting"]
 d19:Df K mg "share_passed" oR ["fell","time","moment"]
 d20:Df K mg "standing_by" qK ["run","moments","taken","moment"]
 d21:Df K mg "is_swept" xH ["fell","time","beyond"]
 d22:Df K mg "ending_by_falls" lE ["run","moments"]
 d23:Df K mg "moment_of" uT ["ending"]
 d24:Df K mg "ending_by" uV ["run","moments","taken"]
 d25:Df K mg "_law_cell_at" AY ["_law_script","_law_k"]
 d26:Df K mg "_law_mixed" MY ["_law_cell","_law_k"]
 d27:Df K mg "_law_number" GK ["_law_script","_law_k"]
 d28:Df K mg "_law_low" Fo ["_law_top","_law_bottom"]
 d29:Df K mg "_law_posts" MX ["_law_number_here"]
 d30:Df K mg "_law_time" VE ["_law_number_here"]
 d31:Df K mg "_law_grown" MZ ["_law_here_here","_law_number_here","_law_extra"]
 d32:Df K mg "_law_here" VH ["_law_script","_law_most","_law_extra"]
 d33:Df K mg "_law_net" VF ["_law_here_here"]
 d34:Df K mg "_law_pushes" oS ["_law_here_here"]
 d35:Df K mg "_law_taken" MW ["_law_here_here"]
 d36:Df K mg "_law_due" Fp ["_law_here_here"]
 d37:Df K mg "_law_left" VG ["_law_here_here","_law_due_here","_law_k","_law_moment"]
 d38:Df K mg "_law_hall" VI ["_law_script"]
 d39:Df K mg "_law_deed" oU ["_law_here_here","_law_due_here","_law_number_here"]
 d40:Df K mg "_law_did" Fs ["_law_here_here","_law_deed_here"]
 d41:tQ K cC nY "has_come" "Hall.has_come" ["self","moment"]
 d42:tQ K cC gU "falls_told" "Hall.falls_told" ["self"]
 d43:tQ K cC jN "endings_told" "Hall.endings_told" ["self"]
 d44:tQ K cC pP "go" "Hall.go" ["self","time"]
 d45:tQ K cC qO "reckon" "Hall.reckon" ["self"]
 d46:tQ K cC sN "tiles" "Hall.tiles" ["self","number"]
 d47:tQ K cC uW "take" "Hall.take" ["self","number"]
 d48:tQ K cC iC "refuse_no_post" "Hall.refuse_no_post" ["self","post"]
 d49:tQ K cC uX "push" "Hall.push" ["self","post"]
 d50:Df K mg "_law_do" Os ["_law_hall_here","_law_here_here","_law_deed_here"]
 d51:Df K mg "_law_in_parts" xI ["_law_hall_here","_law_here_here","_law_time_here","_law_number_here"]
 d52:tQ K cC lQ "fallen" "Hall.fallen" ["self"]
 d53:tQ K cC xJ "now" "Hall.now" ["self"]
 d54:Df K mg "_law_told" VD ["_law_hall_here","_law_here_here","_law_number_here"]
 d55:tQ K cC nZ "__init__" "Hall.__init__" ["self","net"]
section
variable (P:m9)(w:w6){K:y8}{mg:Str->Option f9}(base:C3)(k:Nat){cC:g6}(T:Bl mg)(HC:Tj K mg cC)(vE:EV K mg cC)(d_fraction:Hh K mg "fraction" iG ["top","bottom"] [.int 1])(d_sorted_by:Ub K mg "sorted_by" fM ["fractions","things"] 167 165)(d_falls_of:Hh K mg "falls_of" gJ ["net","pushes","takings"] [.non])(d_fall_moments:Hh K mg "fall_moments" eC ["net","pushes","takings"] [.non])(o1b:cB P w K mg base k "is_whole" ["thing"] (LO K))(o0e:cB P w K mg base k "common_divisor" ["one","other"] Ff)(o0m:cB P w K mg base k "is_fraction" ["thing"] (FR K))(o1e:oK P w K mg base k "fraction" ["top","bottom"] [.int 1] (wY K))(o1n:cB P w K mg base k "added" ["one","other"] US)(o1a:cB P w K mg base k "lessened" ["one","other"] UI)(o1s:cB P w K mg base k "timed" ["one","other"] UD)(o1i:cB P w K mg base k "divided" ["one","other"] UN)(o1h:cB P w K mg base k "is_less" ["one","other"] MD)(o0x:cB P w K mg base k "is_moment" ["thing"] (UH K))(o0r:cB P w K mg base k "whole_tops" ["fractions"] FD)(o0s:cB P w K mg base k "sorted_by" ["fractions","things"] (rX K))(o1d:cB P w K mg base k "posts_of" ["net"] (LV w))(o0p:cB P w K mg base k "runs_beside" ["net"] Fm)(o0h:cB P w K mg base k "least_moments" ["deeds"] Fe)(o1k:cB P w K mg base k "is_out" ["taken","number","moment"] Fb)(o0n:cB P w K mg base k "earliest_of" ["waiting"] Fj)(o1c:oK P w K mg base k "falls_of" ["net","pushes","takings"] [.non] Fh)(o0i:oK P w K mg base k "fall_moments" ["net","pushes","takings"] [.non] (Om w))(o0j:cB P w K mg base k "share_passed" ["fell","time","moment"] Fa)(o0o:cB P w K mg base k "standing_by" ["run","moments","taken","moment"] UF)(o0z:cB P w K mg base k "is_swept" ["fell","time","beyond"] Ez)(o0c:cB P w K mg base k "ending_by_falls" ["run","moments"] Fi)(o0t:cB P w K mg base k "moment_of" ["ending"] Fd)(o0u:cB P w K mg base k "ending_by" ["run","moments","taken"] UL)(o1j:cB P w K mg base k "_law_cell_at" ["_law_script","_law_k"] (UR K))(o1p:cB P w K mg base k "_law_mixed" ["_law_cell","_law_k"] AN)(o1l:cB P w K mg base k "_law_number" ["_law_script","_law_k"] (LY K))(o2c:cB P w K mg base k "_law_low" ["_law_top","_law_bottom"] FO)(o1r:cB P w K mg base k "_law_posts" ["_law_number_here"] AI)(o1v:cB P w K mg base k "_law_time" ["_law_number_here"] FF)(o1o:cB P w K mg base k "_law_grown" ["_law_here_here","_law_number_here","_law_extra"] MJ)(o1x:cB P w K mg base k "_law_here" ["_law_script","_law_most","_law_extra"] (FS K))(o2b:cB P w K mg base k "_law_net" ["_law_here_here"] MA)(o1m:cB P w K mg base k "_law_pushes" ["_law_here_here"] wR)(o1q:cB P w K mg base k "_law_taken" ["_law_here_here"] LR)(o1z:cB P w K mg base k "_law_due" ["_law_here_here"] Fk)(o1u:cB P w K mg base k "_law_left" ["_law_here_here","_law_due_here","_law_k","_law_moment"] FQ)(o1t:cB P w K mg base k "_law_hall" ["_law_script"] (FT K))(o1w:cB P w K mg base k "_law_deed" ["_law_here_here","_law_due_here","_law_number_here"] UO)(o2a:cB P w K mg base k "_law_did" ["_law_here_here","_law_deed_here"] Fl)(o0g:kX mB P w K mg base k cC "has_come" ["self","moment"] (UP cC))(o0d:kX mB P w K mg base k cC "falls_told" ["self"] (uS cC))(o0b:kX mB P w K mg base k cC "endings_told" ["self"] (xA cC))(o1g:kX mB P w K mg base k cC "go" ["self","time"] (Ic K cC))(o0k:kX mB P w K mg base k cC "reckon" ["self"] (FJ cC))(o0q:kX mB P w K mg base k cC "tiles" ["self","number"] (LP K cC))(o0w:kX mB P w K mg base k cC "take" ["self","number"] (UE K cC))(o0a:kX mB P w K mg base k cC "refuse_no_post" ["self","post"] (FM cC))(o0v:kX mB P w K mg base k cC "push" ["self","post"] (UG cC))(o2d:cB P w K mg base k "_law_do" ["_law_hall_here","_law_here_here","_law_deed_here"] (Ie K cC))(o0y:cB P w K mg base k "_law_in_parts" ["_law_hall_here","_law_here_here","_law_time_here","_law_number_here"] (LW K cC))(o0l:kX mB P w K mg base k cC "fallen" ["self"] (FU cC))(o1f:kX mB P w K mg base k cC "now" ["self"] (Fc cC))(o1y:cB P w K mg base k "_law_told" ["_law_hall_here","_law_here_here","_law_number_here"] (FE cC))(o0f:RZ mB P w K mg base k cC ["self","net"] (qU cC))
include T HC vE
theorem GY:cB P w K mg base (k+1) "is_whole" ["thing"] (LO K):=by
 refine cB.of vE.d0 GH (by walk_at"ln") fun f i A g s H C Q E B h=>?_;obtain ⟨x,t,b,c,rfl,ty,m,o,q⟩:=h;refine {_,(aH (aU (uD (bB (pZ (T:="int")) rfl T.z_isinstance iR (aA (pv 0) (aA (vX (v:=.ty "int") rfl T.z_int YV rfl) aD))) (oX (JQ (bB (pZ (T:="bool")) rfl T.z_isinstance iR (aA (pv 0) (aA (vX (v:=.ty "bool") rfl T.z_bool Ds rfl) aD)))))))),?_}
 try dsimp only[aR,bC]
 w_on;refine tZ ty m ?_;cases b
 ·w_on;exact q
 ·w_on;apply tZ ty o ?_;exact q
theorem sX:cB P w K mg base (k+1) "common_divisor" ["one","other"] Ff:=by
 refine cB.of vE.d1 fJ (by walk_at"ln") fun f R A I s H Z Q E X h=>?_;obtain ⟨a,b,rfl,q⟩:=h;refine {_,(aE (sS B4 (aZ (xV X.units) (pv 1) aF) (aE (eA 2 fJ.nd (aJ Cc (pv 0) (pv 1)))
   (aE (eA 0 fJ.nd (pv 1))
   (aH (eA 1 fJ.nd (pv 2))))))
   (aH (aU (bB OU rfl T.z_abs EC (aA (pv 0) aD))))),?_}
 try dsimp only[aR,bC]
 w_on;refine wK (fun m M=>∃(i g:Int)(o:Option V),m=[some (.int i),some (.int g),o]/\M=H/\m7 i g=m7 a b)
  (fun m _=>match m with|[_,some (.int z),_]=>z.natAbs|_=>0) {_,_,_,rfl,rfl,rfl} ?_ ?_
 ·rintro m M ⟨i,g,o,rfl,rfl,G⟩;w_on;refine rH (fun c=>?_) (fun c=>?_)
  ·subst c;w_on;rw[Int.gcd_zero_right]at G;have e:(if i<0 then -i else i)=(m7 a b:Int):=by rw[←G];split <;> omega
   rw[e];exact q
  ·w_on;refine {{_,_,_,rfl,rfl,by rw[RD c];exact G},?_};show (i.fmod g).natAbs<g.natAbs;exact Dc c
 ·intro m H Q Y O h;obtain ⟨v,N,h⟩:=h;rcases h with ⟨C,B,D,J⟩|⟨d,e,C,D,S,U,B,W,J⟩
  ·exact {v,N,.inl {C,B,D,O _ _ J}}
  ·exact {v,N,.inr {d,e,C,D,S,U,B,W,O _ _ J}}
include o1b o0e in
theorem xZ:cB P w K mg base (k+1) "is_fraction" ["thing"] (FR K):=by
 refine cB.of vE.d2 xC (by walk_at"ln") fun f S A o s H vs Q E g h=>?_;obtain ⟨x,r,rfl,h,q⟩:=h;refine {_,(aE (cE (PW.pt (oF (lR (eG (bB (pZ (T:="tuple")) rfl T.z_isinstance iR (aA (pv 0) (aA (vX (v:=.ty "tuple") rfl T.z_tuple YU rfl) aD))))) (jF (aZ (xV g.units) (bB hX rfl T.z_len fA (aA (pv 0) aD)) aF)))) (aH (aU xT)) bL)
   (aE (cE (PW.pt (oF (lR (eG (aI o1b g rfl (aA (aN aQ (pv 0) aF) aD)))) (jF (lR (eG (aI o1b g rfl (aA (aN aQ (pv 0) aF) aD))))))) (aH (aU xT)) bL)
   (aH (aU (uD (jR GV (aN aQ (pv 0) aF) aF) (oX (jR (gA g.units) (aI o0e g rfl (aA (aN aQ (pv 0) aF) (aA (aN aQ (pv 0) aF) aD))) aF))))))),?_}
 try dsimp only[aR,bC]
 rcases h with ⟨⟨t,ty,i⟩,rfl⟩|⟨p,xs,rfl,m,h2,rfl⟩|⟨p,v,J,rfl,m,D,G,W,rfl⟩
 ·w_on;apply tZ ty i ?_;exact q
 ·w_on;apply tZ (.tup m) oG ?_;exact q
 ·w_on;apply tZ (.tup m) oG ?_;apply rH (fun _=>?_) (fun c=>absurd rfl c);obtain ⟨t1,M,O,B,X,Y,i⟩:=OM (K:=K) (H:=H) D;refine {v,t1,M,O,rfl,B,X,Y,?_};rw[i];w_on;cases v with
 |int a=>
   apply uN rfl ?_;obtain ⟨t2,N,R,C,Z,k4,U⟩:=OM (K:=K) (H:=H) G;refine {J,t2,N,R,rfl,C,Z,k4,?_};rw[U];w_on;cases J with
  |int b=>
    apply uN rfl ?_;refine rH (fun c=>?_) (fun c=>?_)
    ·w_on;apply {a,b,rfl,?_};have e:decide ((m7 a b:Int)=1)=Rs (.int a) (.int b):=by
      show _=(decide (1<=b)&&decide (m7 a b=1))
      rw[decide_eq_true c,Bool.true_and];by_cases I:m7 a b=1
      ·rw[decide_eq_true I,decide_eq_true (by omega)]
      ·rw[decide_eq_false I,decide_eq_false (by omega)]
     rw[e];exact q
    ·w_on;have e:Rs (.int a) (.int b)=false:=by
      show (decide (1<=b)&&decide (m7 a b=1))=false;rw[decide_eq_false c,sv]
     rw[e]at q;exact q
  |non=>refine jH rfl ?_;walk_at"go";exact q
  |bl _=>refine jH rfl ?_;walk_at"go";exact q
  |str _=>refine jH rfl ?_;walk_at"go";exact q
  |_=>exact absurd (show false=true from G) j7
 |non=>refine jH rfl ?_;walk_at"go";exact q
 |bl _=>refine jH rfl ?_;walk_at"go";exact q
 |str _=>refine jH rfl ?_;walk_at"go";exact q
 |_=>exact absurd (show false=true from D) j7
include d_fraction o1b o0e in
theorem HD:oK P w K mg base (k+1) "fraction" ["top","bottom"] [.int 1] (wY K):=by
 refine oK.of d_fraction oP (by walk_at"ln") fun f D A C s H I Q E i h=>?_;obtain ⟨t,b,rfl,G,B,q⟩:=h;refine {_,(aE (cE (PW.pt (oF (lR (eG (aI o1b i rfl (aA (pv 0) aD)))) (jF (lR (eG (aI o1b i rfl (aA (pv 1) aD))))))) (aH kD) bL)
   (aE (cE (aZ (gA i.units) (pv 1) aF) (aH kD) bL)
   (aE (eA 2 oP.nd (aI o0e i rfl (aA (pv 0) (aA (pv 1) aD))))
   (aE (cE (aZ sW (pv 1) aF) (aH (eA 2 oP.nd (WI IZ (pv 2)))) bL)
   (aH (aU (bM (aA (aJ bE (pv 0) (pv 2)) (aA (aJ bE (pv 1) (pv 2)) aD))))))))),?_}
 try dsimp only[aR,bC]
 w_on;apply {_,_,_,_,rfl,.int t,lK,jS,?_};apply uN rfl ?_;apply {_,_,_,_,rfl,.int b,lK,jS,?_};apply uN rfl ?_;apply {t,b,rfl,?_};have o:(sg t b).natAbs<=b.natAbs:=by rw[tW];exact tu (by lia) (vi t b)
 have g:∀z,pN z (sg t b):=fun _=>{AS G,Sm.le o B}
 refine rH (fun c=>?_) (fun c=>?_)
 ·w_on;have m:-(m7 t b:Int)=sg t b:=by unfold sg;rw[if_pos c];lia
  rw[m];apply iH (g _) ?_;apply iH (g _) ?_;apply bD fun p hp=>?_;exact q p hp
 ·w_on;have m:(m7 t b:Int)=sg t b:=by unfold sg;rw[if_neg c]
  rw[m];apply iH (g _) ?_;apply iH (g _) ?_;apply bD fun p hp=>?_;exact q p hp
include o0e in
theorem WW:cB P w K mg base (k+1) "added" ["one","other"] US:=by
 refine cB.of vE.d4 oQ (by walk_at"ln") fun f a' A Y s H vs Q E hr h=>?_;obtain ⟨x,y,g,B,rfl,⟨p1,rfl,h1⟩,⟨p2,rfl,h2⟩,z1,z2,q⟩:=h;refine {_,(aE (eA 2 oQ.nd (aI o0e hr rfl (aA (aN aQ (pv 0) aF) (aA (aN aQ (pv 1) aF) aD))))
   (aE (eA 3 oQ.nd (aJ bE (aN aQ (pv 1) aF) (pv 2)))
   (aE (eA 4 oQ.nd (aJ bG (aJ cK (aN aQ (pv 0) aF) (pv 3)) (aJ cK (aN aQ (pv 1) aF) (aJ bE (aN aQ (pv 0) aF) (pv 2)))))
   (aE (eA 5 oQ.nd (aI o0e hr rfl (aA (pv 4) (aA (pv 2) aD))))
   (aH (aU (bM (aA (aJ bE (pv 4) (pv 5)) (aA (aJ cK (aJ bE (aN aQ (pv 0) aF) (pv 5)) (pv 3)) aD))))))))),?_}
 try dsimp only[aR,bC]
 have b':=g.den_pos;have c':=B.den_pos;obtain ⟨s0,O,sb,R,⟨D,o,J⟩,zu,U,S,N⟩:=RV (a:=g.num) (b:=g.den) (c:=B.num) (d:=B.den) (by lia) (by lia) g.reduced B.reduced rfl rfl rfl rfl rfl;have M:∀{m n:Nat}{i j:Int},Sm m i->Sm n j->m<=60000000->n<=60000000->fF i j:=fun h1 h2 h3 h4=>fF.s h1 h2 h3 h4;have C:Sm 8000 (g.den:Int):=z1.2;have Z:Sm 8000 (B.den:Int):=z2.2;w_on;refine {_,_,rfl,?_};generalize (m7 (g.den:Int) (B.den:Int):Int)=s at s0 O sb R D o J zu U S N ⊢;have hs:Sm 8000 s:=Sm.le (by lia) C;have I:∀z,pN z s:=fun _=>{by lia,hs}
 w_on;refine iH (I _) ?_;generalize (B.den:Int).fdiv s=u at O R D o J zu U S N ⊢;have hu:Sm 8000 u:=Sm.le zu Z;w_on;apply oB (M (m:=8000) z1.1 hu (by decide) (by decide)) ?_;refine iH (I _) ?_;generalize (g.den:Int).fdiv s=v at O R D o J U S N ⊢;have hv:Sm 8000 v:=Sm.le U C;w_on;apply oB (M (m:=8000) z2.1 hv (by decide) (by decide)) ?_;refine {_,s,rfl,?_};generalize (m7 (g.num*u+B.num*v) s:Int)=X at O R D o J S N ⊢;have hk:Sm 8000 X:=Sm.le (by lia) hs;have G:∀z,pN z X:=fun _=>{by lia,hk}
 w_on;apply iH (G _) ?_;apply iH (G _) ?_;have W:Sm 8000 ((g.den:Int).fdiv X):=Sm.le N C;apply oB (M W hu (by decide) (by decide)) ?_;apply bD fun p hp=>?_;have e:=VO (t:=g.num*B.den+B.num*g.den) (b:=g.den*B.den) (dv (by lia) (by lia)) D o J;rw[←zC]at e;refine q _ _ {p,rfl,?_} (aK.new hp);rw[e.1,e.2];exact aC
include o1n in
theorem GX:cB P w K mg base (k+1) "lessened" ["one","other"] UI:=by
 refine cB.of vE.d5 GG (by walk_at"ln") fun f g A b s H N Q E o h=>?_;obtain ⟨x,y,B,C,rfl,m,⟨M,rfl,J⟩,G,I,q⟩:=h;refine {_,(aH (aU (aI o1n o rfl (aA (pv 0) (aA (bM (aA (WI IZ (aN aQ (pv 1) aF)) (aA (aN aQ (pv 1) aF) aD))) aD))))),?_}
 try dsimp only[aR,bC]
 w_on;apply bD fun p hp=>?_;refine {x,.ref p,B,-C,rfl,m.tk (TK.new hp),{p,rfl,by rw[qr,ye];exact aC},G,I.neg,fun v c i D=>?_};w_on;exact q v c (by rw[Rat.sub_eq_add_neg];exact i) ((aK.new hp).trans D)
include o1e in
theorem WR:cB P w K mg base (k+1) "timed" ["one","other"] UD:=by
 refine cB.of vE.d6 VB (by walk_at"ln") fun f I A c s H U Q E J h=>?_;obtain ⟨x,y,g,o,rfl,⟨R,rfl,D⟩,⟨S,rfl,G⟩,B,C,q⟩:=h;refine {_,(aH (aU (aI o1e.f J rfl (aA (aJ cK (aN aQ (pv 0) aF) (aN aQ (pv 1) aF)) (aA (aJ cK (aN aQ (pv 0) aF) (aN aQ (pv 1) aF)) aD))))),?_}
 try dsimp only[aR,bC]
 have M:∀{i j:Int},i.natAbs<2^3000->j.natAbs<2^3000->fF i j:=fun D G=>fF.s (m:=3000) (n:=3000) D G (by decide) (by decide);have N:=g.den_pos;have O:=o.den_pos;have b:(g.den:Int)*o.den≠0:=dv (by lia) (by lia);w_on;apply oB (M B.1 C.1) ?_;apply oB (M B.2 C.2) ?_;apply {_,_,rfl,b,(Sm.mul (show Sm 3000 (g.den:Int) from B.2) (show Sm 3000 (o.den:Int) from C.2)).mono (by decide),fun p hp=>?_};exact q _ _ (by rw[←Co];exact cA.low b aC) (aK.new hp)
include o1e in
theorem JU:cB P w K mg base (k+1) "divided" ["one","other"] UN:=by
 refine cB.of vE.d7 JJ (by walk_at"ln") fun f I A c s H W Q E N h=>?_;obtain ⟨x,y,g,o,rfl,⟨S,rfl,D⟩,⟨U,rfl,G⟩,B,C,J,q⟩:=h;refine {_,(aH (aU (aI o1e.f N rfl (aA (aJ cK (aN aQ (pv 0) aF) (aN aQ (pv 1) aF)) (aA (aJ cK (aN aQ (pv 0) aF) (aN aQ (pv 1) aF)) aD))))),?_}
 try dsimp only[aR,bC]
 have M:∀{i j:Int},i.natAbs<2^3000->j.natAbs<2^3000->fF i j:=fun D G=>fF.s (m:=3000) (n:=3000) D G (by decide) (by decide);have O:=g.den_pos;have R:=o.den_pos;have b:(g.den:Int)*o.num≠0:=dv (by omega) (fun z=>J (Rat.num_eq_zero.mp z));w_on;apply oB (M B.1 C.2) ?_;apply oB (M B.2 C.1) ?_;apply {_,_,rfl,b,(Sm.mul (show Sm 3000 (g.den:Int) from B.2) (show Sm 3000 o.num from C.1)).mono (by decide),fun p hp=>?_};exact q _ _ (by rw[←Dn];exact cA.low b aC) (aK.new hp)
theorem JT:cB P w K mg base (k+1) "is_less" ["one","other"] MD:=by
 refine cB.of vE.d8 JI (by walk_at"ln") fun f C A b s H O Q E D h=>?_;obtain ⟨x,y,J,N,rfl,⟨G,rfl,c⟩,⟨I,rfl,g⟩,o,B,q⟩:=h;refine {_,(aH (aU (jR sW (aJ cK (aN aQ (pv 0) aF) (aN aQ (pv 1) aF)) (aJ cK (aN aQ (pv 1) aF) (aN aQ (pv 0) aF))))),?_}
 try dsimp only[aR,bC]
 have M:∀{i j:Int},i.natAbs<2^8000->j.natAbs<2^8000->fF i j:=fun c g=>fF.s (m:=8000) (n:=8000) c g (by decide) (by decide);w_on;apply oB (M o.1 B.2) ?_;apply oB (M B.1 o.2) ?_;rw[XL];exact q
include o0m in
theorem DA:cB P w K mg base (k+1) "is_moment" ["thing"] (UH K):=by
 refine cB.of vE.d9 CN (by walk_at"ln") fun f c A b s H D Q E m h=>?_;obtain ⟨x,t,rfl,f,o,z,q⟩:=h;refine {_,(aH (aU (uD (aI o0m m rfl (aA (pv 0) aD)) (oX (jR GV (aN aQ (pv 0) aF) aF))))),?_}
 try dsimp only[aR,bC]
 obtain ⟨p,rfl,h⟩:=f;w_on;refine {_,true,rfl,.inr (.inr {p,_,_,rfl,h,rfl,rfl,?_,(Rr t).symm}),?_}
 ·intro B C g i;cases g;cases i;exact {z.1,show ((t.den:Int)).natAbs<2^8000 by have:=z.2;omega}
 w_on;rw[decide_eq_true o];exact q
include o0e in
theorem zL:cB P w K mg base (k+1) "whole_tops" ["fractions"] FD:=by
 refine cB.of vE.d10 iM (by walk_at"ln") fun f e' A b' s H vs Q E O h=>?_;obtain ⟨l,xs,qs,B,rfl,Z,pq,hn,hB,f',hf,q⟩:=h;refine {_,(aE (eA 1 iM.nd aF)
   (aE (fZ B4 rfl (cX (pv 0)) (sT 2 iM.nd) (aH (eA 1 iM.nd (aJ cK (aJ bE (pv 1) (aI o0e O rfl (aA (pv 1) (aA (aN aQ (pv 2) aF) aD)))) (aN aQ (pv 2) aF)))))
   (aH (aU (eZ (dO (aG nB) ["fractions","bottom","each"] ["each"] ["bottom"] [1]) rfl (cX (pv 0)) (fun _ _ _ _=>(Zn ["each","bottom"] 0)) (fun _ _ _ _=>(aJ cK (aN kK (pv 0) aF) (aJ bE (pv 1) (aN kK (pv 0) aF)))) (fun _ _ _ _=>fB)))))),?_}
 try dsimp only[aR,bC]
 have I:∀D:Int,0<D->D∣(B:Int)->Sm 400 D:=fun D h1 h2=>Sm.le (b:=(B:Int)) (tu (by lia) (jw.mpr h2)) (show (B:Int).natAbs<2^400 by lia);have a':=Paired.length pq;w_on;refine cV (cS.of Z) ?_;refine JN (xs:=xs) (fun i σ G=>∃(D:Int)(o:Option V),σ=[some (.ref l),some (.int D),o]/\G=H/\0<D/\D∣(B:Int)/\∀q∈qs.take i,(q.den:Int)∣D) {1,_,rfl,rfl,by decide,{B,by simp},fun f hf=>by simp at hf} ?_ ?_ ?_
 ·rintro i σ G hi ⟨D,o,rfl,rfl,_⟩;exact cS.of Z
 ·rintro i x σ G hx ⟨D,o,rfl,rfl,W,m,C⟩;obtain ⟨r,O,tq,rfl,ht⟩:=Paired.at pq hx;obtain ⟨f2,z⟩:=hf r (u8 O);have f1:(0:Int)<r.den:=by have:=r.den_pos;lia
  have J:(r.den:Int)∣(B:Int):=R3.mpr f2;obtain ⟨s1,s2,s3,s4⟩:=XQ W f1 m J;have gp:0<(m7 D r.den:Int):=by have:=tG (t:=D) (b:=r.den) (by lia);lia
  have c':Sm 8000 (m7 D r.den:Int):=Sm.mono (Sm.le (b:=D) (by have:=tu (by lia) (Int.gcd_dvd_natAbs_left D r.den);lia) (I D W m)) (by decide);have R:Sm 60000000 (D.fdiv (m7 D r.den:Int)):=Sm.mono (Sm.le (b:=D) (fS (by lia) (wC (by lia) (V6 ..))) (I D W m)) (by decide);have S:Sm 60000000 (r.den:Int):=Sm.mono (I r.den f1 J) (by decide);w_on;apply {D,r.den,rfl,?_};apply iH {by lia,c'} ?_;apply oB (.inr {R,S}) ?_;refine {_,_,rfl,rfl,s1,s2,fun g hg=>?_};rw[Y9,O]at hg;rcases u9.mp hg with h|h
  ·exact vj (C g h) s3
  ·rw[i9.mp h];exact s4
 ·rintro σ G ⟨D,o,rfl,rfl,W,m,C⟩;rw[a',F7]at C;have sD:=I D W m;w_on;refine cV (cS.of Z) ?_;refine pU (xs:=xs) (by lia) (fun c i ys U=>Kp c G U/\ys=((qs.take i).map (JD D)).map V.int) (fun c M=>{Kp.new M,rfl}) ?_ ?_ ?_
  ·rintro c i ys U M _ ⟨kp,_⟩;exact cS.of (kp _ _ (aB Z M) Z)
  ·rintro c i ys U x M hx X ha ⟨kp,rfl⟩;obtain ⟨r,O,tq,rfl,ht⟩:=Paired.at pq hx;have Y:=u8 O;obtain ⟨f2,z⟩:=hf r Y;have f1:(0:Int)<r.den:=by have:=r.den_pos;lia
   have J:(r.den:Int)∣(B:Int):=R3.mpr f2;have g':U tq=some (.tup [.int r.num,.int r.den]):=kp _ _ (aB ht M) ht;have S:Sm 8000 (r.den:Int):=Sm.mono (I r.den f1 J) (by decide);have R:Sm 60000000 (D.fdiv r.den):=Sm.mono (Sm.le (b:=D) (fS (by lia) (wC (by lia) (C _ Y))) sD) (by decide);have d':Sm 60000000 r.num:=Sm.mono (show Sm 2000 r.num from z.1) (by decide);w_on;apply iH {by lia,S} ?_;apply oB (.inr {d',R}) ?_;refine jJ (i5.mp hx).1 X ha {kp.trans Kp.upd,?_};rw[Y9,O];simp[JD]
  ·rintro c ys U M ha X ⟨kp,rfl⟩;rw[a',F7]at ha;w_on;exact q c U D M (fun b o e=>kp _ _ (aB e M) e) W C ha
include d_sorted_by o0r in
theorem CY(BB:zZ mg base):cB P w K mg base (k+1) "sorted_by" ["fractions","things"] (rX K):=by
 refine cB.ofC d_sorted_by sL (by walk_at"ln") fun f A d' s H vs Q E hr h=>?_;obtain ⟨l,l2,xs,ys,qs,B,rfl,hv,b',pq,hl,hn,hB,X,hf,hT,q⟩:=h;refine {_,(@aE _ _ _ _ _ (@WC _ _ (i:=2) _ _ _ _ sL.nd rfl (by w_left) (@QE _ _ _ _ _ _ _ _ _ _ _ _ _ _ _ _ _ _ hr rfl rfl T.z_sorted rfl T.z_zip rfl d_sorted_by.hd BB rfl rfl (aA (aI o0r hr rfl (aA (pv 0) aD)) (aA (pv 1) aD)) (by rfl) (by rfl) (by rfl)) (by rfl) (by w_means)) (aH (aU (eZ (dO (aG fM) ["fractions","things","pairs"] ["pair"] [] []) rfl (cX (pv 2)) (fun _ _ _ _=>(Zn ["pair"] 0)) (fun _ _ _ _=>(aN kK (pv 0) aF (fun _ _=>rfl))) (fun _ _ _ _=>fB))))),?_}
 try dsimp only[aR,bC]
 w_on;have h':=Paired.length pq;apply {l,xs,qs,B,rfl,hv,pq,by lia,hB,X,hf,fun p1 H1 D f' s1 hD Y h1=>?_};refine {p1,l2,qs.map (JD D),ys,rfl,cS.of h1,cS.of (s1 _ _ b'),by rw[j6];lia,by rw[j6];lia,nR.same hT s1,fun pl G tr g' kp J Z a' O=>?_};have S:Kp tT H G:=s1.kp.trans kp;have i':tr.length<=500:=by have:=O.1.length_eq;rw[j6,wm,j6]at this;lia
 w_on;refine cV (cS.of Z) ?_;refine pU (xs:=tr.map fun p=>V.ref p.1) (by rw[j6];lia) (fun c i W m=>Kp c G m/\W=(tr.take i).map fun p=>p.2.2) (fun c C=>{Kp.new C,rfl}) ?_ ?_ ?_
 ·rintro c i W m C _ ⟨g,_⟩;exact cS.of (g _ _ (aB Z C) Z)
 ·rintro c i W m x C hx M U ⟨g,rfl⟩;rw[t5]at hx;obtain ⟨tp,I,rfl⟩:=A9.mp hx;have R:=a' tp (u8 I);have e':m tp.1=_:=g _ _ (aB R C) R;w_on;refine jJ (by rw[j6];exact (i5.mp I).1) M U {g.trans Kp.upd,?_};rw[Y9,I];simp
 ·rintro c W m C U M ⟨g,rfl⟩;rw[j6,F7]at U;have sG:aK G m:=fun b o e=>g _ _ (aB e C) e;have c':Kp tT H m:=S.trans sG.kp;w_on;refine q c m D _ (kTf S J C) c' (nR.same J sG) hD Y O ?_;rw[R5];exact U
theorem GW:cB P w K mg base (k+1) "posts_of" ["net"] (LV w):=by
 refine cB.of vE.d12 GF (by walk_at"ln") fun f i' A g' s H vs Q E hr h=>?_;obtain ⟨l,n,U,rfl,⟨S,Z,R⟩,h',hU,e',q⟩:=h;refine {_,(aH (aU (bB (yX rfl) rfl T.z_sorted qB (aA (jX (RM rfl) rfl T.z_set Mq (aA (aJ bG (eZ (dO (aG nC) ["net"] ["run"] [] []) rfl (cX (pv 0)) (fun _ _ _ _=>(Zn ["run"] 0)) (fun _ _ _ _=>(aN kK (pv 0) aF)) (fun _ _ _ _=>fB)) (eZ (dO (aG nC) ["net"] ["run"] [] []) rfl (cX (pv 0)) (fun _ _ _ _=>(Zn ["run"] 0)) (fun _ _ _ _=>(aN kK (pv 0) aF)) (fun _ _ _ _=>fB))) aD)) aD)))),?_}
 try dsimp only[aR,bC]
 have b':S.length=n.length:=(Paired.length R).trans (by simp[kn]);w_on;refine cV (cS.of Z) ?_;refine pU (xs:=S) (by lia) (fun c i C G=>Kp c H G/\C=(n.take i).map fun r=>V.str r.1) (fun c g=>{Kp.new g,rfl}) ?_ ?_ ?_
 ·intro c i C G g _ ⟨kp,_⟩;exact cS.of (kp _ _ (aB Z g) Z)
 ·intro c i C G x g J M hG ⟨kp,e⟩;obtain ⟨r,hr,p,u,rfl,hp,fu⟩:=Paired.at R J;obtain ⟨sr,hs,rfl⟩:=BK hr;have B:=hp;have f':=kp _ _ (aB B g) B;w_on;refine jJ (i5.mp J).1 M hG {Kp.trans kp Kp.upd,?_};have Y:i<n.length:=(i5.mp hs).1;rw[D7 Y,B6,←e];have:n[i]=sr:=by
   rw[i7 Y]at hs;exact l7 hs
  rw[this];rfl
 ·intro a1 l' G1 h1 W j' ⟨D,e1⟩;have I:=D _ _ (aB Z h1) Z;rw[b',F7]at e1;subst e1;w_on;refine cV (cS.of I) ?_;refine pU (xs:=S) (by lia) (fun c i C G=>Kp c G1 G/\C=(n.take i).map fun r=>V.str r.2.1) (fun c g=>{Kp.new g,rfl}) ?_ ?_ ?_
  ·intro c i C G g _ ⟨kp,_⟩;exact cS.of (kp _ _ (aB I g) I)
  ·intro c i C G x g J M hG ⟨kp,e⟩;obtain ⟨r,hr,p,u,rfl,hp,fu⟩:=Paired.at R J;obtain ⟨sr,hs,rfl⟩:=BK hr;have B:=D _ _ (aB hp h1) hp;have f':=kp _ _ (aB B g) B;w_on;refine jJ (i5.mp J).1 M hG {Kp.trans kp Kp.upd,?_};have Y:i<n.length:=(i5.mp hs).1;rw[D7 Y,B6,←e];have:n[i]=sr:=by
    rw[i7 Y]at hs;exact l7 hs
   rw[this];rfl
  ·intro a2 m' G2 h2 d' k' ⟨O,e2⟩;rw[b',F7]at e2;subst e2;have c':=O _ _ (aB W h2) W;w_on;refine .inr (.inl {a1,a2,_,_,rfl,rfl,c',d',vZ (by simp;lia),fun a3 h3=>?_});w_on;have X:((n.map fun r=>V.str r.1)++n.map fun r=>V.str r.2.1)=(names n).map V.str:=by
    rw[names,B6,R5,R5];rfl
   rw[X];refine {a3,names n,rfl,aC,by simp[names];lia,fun a4 zs h4 nd hz=>?_};w_on;apply {a4,zs,rfl,.inl aC,E6 (iJ nd fun x J=>e' x ((hz x).mp J)) (by lia),fun a5 C h5 a' _=>?_};have sH:aK H (upd (upd (upd G2 a3 (.lst ((names n).map V.str))) a4 (Dz w a4 zs)) a5 (.lst (C.map V.str))):=fun b o hb=>by have m:=D _ _ (aB hb h1) hb;exact aO h5 (aO h4 (aO h3 (O _ _ (aB m h2) m)))
   refine q a5 _ C ?_ sH aC (a'.nodup_iff.mpr nd) fun x=>(a'.mem_iff).trans (hz x);cases z:H a5 with
  |none=>rfl
  |some o=>
    have m:=D _ _ (aB z h1) z;rw[aO h4 (aO h3 (O _ _ (aB m h2) m))]at h5;cases h5
theorem xY:cB P w K mg base (k+1) "runs_beside" ["net"] Fm:=by
 refine cB.of vE.d13 gO (by walk_at"ln") fun f v' A o' s H vs Q E hr h=>?_;obtain ⟨l,a',rfl,⟨i',hl,h'⟩,s',q⟩:=h;refine {_,(aE (eA 1 gO.nd mF)
   (aE (fZ B4 rfl (NU rfl T.z_enumerate (aA (pv 0) aD)) (lS (n:=2) rfl (bA (sT 2 gO.nd) (bA (sT 3 gO.nd) eQ))) (aE (dL (jO E3 A7 A0 cZ (jO X0 pi ph BG (pv 1) (aA (aN aQ (pv 3) aF) (aA (cJ aD) aD))) (aA (bM (aA (pv 2) (aA (aN aQ (pv 3) aF) aD))) aD)))
   (aH (dL (jO E3 A7 A0 cZ (jO X0 pi ph BG (pv 1) (aA (aN aQ (pv 3) aF) (aA (cJ aD) aD))) (aA (bM (aA (pv 2) (aA (aN aQ (pv 3) aF) aD))) aD))))))
   (aH (aU (pv 1))))),?_}
 try dsimp only[aR,bC]
 w_on;apply uA fun Y hd=>?_;refine e_K (aO hd hl) ?_;have n':i'.length=a'.length:=Paired.length h';refine VR (xs:=i') (fun i σ W=>∃o1 o2 f,σ=[some (.ref l),some (.ref Y),o1,o2]/\BI H W Y f (2*i)/\EL a' i f/\∀q,(f q).length<=2*i) {_,_,_,rfl,BI.start hd,EL.zero,fun _=>k7 _} ?_ ?_ ?_
 ·rintro i σ W _ ⟨o1,o2,f,rfl,B,_⟩;exact cS.of (B.same _ _ hl)
 ·rintro i x T0 σ W hx hT ⟨o1,o2,f,rfl,B,X,g⟩;have hi:i<a'.length:=by
   have:=(i5.mp hx).1;lia
  obtain ⟨r,hr,p,u,rfl,hp,fu⟩:=Paired.at h' hx;have x':p≠Y:=aB hp hd;have B1:=B.alloc (o:=.tup [.int i,.ref p]) hT;have l':=B1.same _ _ hp;have j':upd W T0 (.tup [.int i,.ref p]) T0=some (.tup [.int i,.ref p]):=aC;generalize upd W T0 (.tup [.int i,.ref p])=H2 at B1 l' j' ⊢;obtain ⟨u',a1,b1,c1,e1,g1⟩:=B1.ex;w_on;apply dH fun l1 N=>?_;refine xL (aO N a1) (by lia) (fun u1 S=>?_) (fun S=>?_)
  ·obtain ⟨m1,rfl,w',y',e',p'⟩:=e1 _ _ S;w_on;apply bD fun t1 O=>?_;have t':=Paired.length p';have r':=g r.1;refine gX (aO O (aO N e')) (by lia) ?_;have D:=B1.more (p:=r.1) (x:=(i,r.2.1)) a1 S e' N O;generalize upd (upd (upd H2 l1 _) t1 _) m1 _=G at D⊢;have m':=D.same _ _ hp;obtain ⟨g',J,b2,c2,e2,g2⟩:=D.ex;w_on;apply dH fun U b=>?_;refine xL (aO b J) (by lia) (fun u2 m=>?_) (fun m=>?_)
   ·obtain ⟨m2,rfl,k',q',R,b'⟩:=e2 _ _ m;w_on;apply bD fun t2 c=>?_;have f':=Paired.length b';have d':=(iS (p:=r.1) (x:=(i,r.2.1)) g) r.2.1;refine gX (aO c (aO b R)) (by lia) ?_;have C:=D.more (p:=r.2.1) (x:=(i,r.1)) J m R b c;generalize upd (upd (upd G U _) t2 _) m2 _=I at C⊢;have Z:=C.same _ _ hp;w_on;exact {_,_,_,rfl,C,X.next hr,fun q=>iS (iS g) q}
   ·have M:U≠Y:=fun z=>by subst z;rw[b]at J;cases J
    w_on;apply bD fun t2 c=>?_;refine gX (aO c (aW M aC)) (by decide) ?_;have C:=D.new (p:=r.2.1) (x:=(i,r.1)) J m b c;generalize upd (upd (upd (upd G U _) _ _) t2 _) U _=I at C⊢;have Z:=C.same _ _ hp;w_on;exact {_,_,_,rfl,C,X.next hr,fun q=>iS (iS g) q}
  ·have c':l1≠Y:=fun z=>by subst z;rw[N]at a1;cases a1
   w_on;apply bD fun t1 O=>?_;refine gX (aO O (aW c' aC)) (by decide) ?_;have D:=B1.new (p:=r.1) (x:=(i,r.2.1)) a1 S N O;generalize upd (upd (upd (upd H2 l1 _) _ _) t1 _) l1 _=G at D⊢;have m':=D.same _ _ hp;obtain ⟨g',J,b2,c2,e2,g2⟩:=D.ex;w_on;apply dH fun U b=>?_;refine xL (aO b J) (by lia) (fun u2 m=>?_) (fun m=>?_)
   ·obtain ⟨m2,rfl,k',q',R,b'⟩:=e2 _ _ m;w_on;apply bD fun t2 c=>?_;have f':=Paired.length b';have d':=(iS (p:=r.1) (x:=(i,r.2.1)) g) r.2.1;refine gX (aO c (aO b R)) (by lia) ?_;have C:=D.more (p:=r.2.1) (x:=(i,r.1)) J m R b c;generalize upd (upd (upd G U _) t2 _) m2 _=I at C⊢;have Z:=C.same _ _ hp;w_on;exact {_,_,_,rfl,C,X.next hr,fun q=>iS (iS g) q}
   ·have M:U≠Y:=fun z=>by subst z;rw[b]at J;cases J
    w_on;apply bD fun t2 c=>?_;refine gX (aO c (aW M aC)) (by decide) ?_;have C:=D.new (p:=r.2.1) (x:=(i,r.1)) J m b c;generalize upd (upd (upd (upd G U _) _ _) t2 _) U _=I at C⊢;have Z:=C.same _ _ hp;w_on;exact {_,_,_,rfl,C,X.next hr,fun q=>iS (iS g) q}
 ·rintro σ W ⟨o1,o2,f,rfl,B,X,g⟩;rw[n']at X g;w_on;exact q Y W hd B.same (B.bes X g)
include o1h in
theorem uF:cB P w K mg base (k+1) "least_moments" ["deeds"] Fe:=by
 refine cB.of vE.d14 fQ (by walk_at"ln") fun f d' A b' s H vs Q E hr h=>?_;obtain ⟨l,g,rfl,⟨X,hl,W⟩,c',S,q⟩:=h;refine {_,(aE (eA 1 fQ.nd mF)
   (aE (fZ B4 rfl (cX (pv 0)) (lS (n:=2) rfl (bA (sT 2 fQ.nd) (bA (sT 3 fQ.nd) eQ))) (aH (cE (PW.pt (oF (uB (uE hr.u1 (pv 2) (pv 1))) (jF (eG (aI o1h hr rfl (aA (pv 3) (aA (aS hr.u1 (pv 1) (pv 2)) aD))))))) (aH (iN hr.u1 (pv 1) (pv 2) (pv 3) rfl)) bL)))
   (aH (aU (pv 1))))),?_}
 try dsimp only[aR,bC]
 w_on;apply uA fun d Z=>?_;refine cV (cS.of (aO Z hl)) ?_;have a':X.length=g.length:=Paired.length W;refine JN (xs:=X) (fun i σ C=>∃I J,σ=[some (.ref l),some (.ref d),I,J]/\aK H C/\DQ cA C d (lst (g.take i))) {_,_,rfl,aK.new Z,[],aC,.nil} ?_ ?_ ?_
 ·rintro i σ C _ ⟨I,J,rfl,G,_⟩;exact cS.of (G _ _ hl)
 ·rintro i x σ C hx ⟨I,J,rfl,G,B,hk,kq⟩;have hi:i<g.length:=by
   have:=(i5.mp hx).1;lia
  obtain ⟨y,hy,p,u,rfl,hp,fu⟩:=Paired.at W hx;obtain ⟨m,D⟩:=y;have U:g[i]=(m,D):=by rw[i7 hi]at hy;exact l7 hy
  have e':=G _ _ hp;have O:cA C u D:=fu.tk G.tk;have zq:Sz 8000 D:=S (m,D) (U▸O8 hi);have R:B.length<=1000:=by
   have h1:=kq.len;have h2:(lst (g.take i)).length<=g.length:=by have:=OE (g.take i);rw[V8]at this;lia
   lia
  have et:g.take (i+1)=g.take i++[(m,D)]:=by rw[D7 hi,U]
  have N:gG (lst (g.take i)) (m,D)=eX (lst (g.take i)) m D->∃I J,[some (V.ref l),some (V.ref d),some (kV m),some u]=[some (V.ref l),some (V.ref d),I,J]/\aK H (upd C d (.dK (eI B m u)))/\DQ cA (upd C d (.dK (eI B m u))) d (lst (g.take (i+1))):=fun e=>by
   refine {_,_,rfl,fun c o hc=>?_,_,aC,?_}
   ·rw[aX (aB hc Z)];exact G _ _ hc
   ·rw[et,pC,e];exact ((kq.put (k:=m) O).imp fun v b f=>f.tk (TK.dic hk))
  w_on;refine VS (.inl hk) ?_;rcases kq.val (k:=m) with ⟨Y,M⟩|⟨v1,r1,Y,M,f1⟩
  ·rw[Y];w_on;apply oC hk R ?_;refine N ?_;unfold gG;rw[M]
  ·rw[Y];w_on;apply sQ (.inl hk) Y ?_;have zr:Sz 8000 r1:=S (m,r1) (jz (lH (cM M)));apply {u,v1,D,r1,rfl,O,f1,zq,zr,?_};refine rH (fun c=>?_) (fun c=>?_)
   ·w_on;apply oC hk R ?_;refine N ?_;unfold gG;rw[M];exact if_pos c
   ·w_on;refine {_,_,rfl,G,B,hk,?_};rw[et,pC];unfold gG;rw[M];show KQ cA C B (if D<r1 then _ else _);rw[if_neg c];exact kq
 ·rintro σ C ⟨I,J,rfl,G,dq⟩;w_on;rw[a',F7]at dq;exact q d C Z G dq
include o1h in
theorem QJ:cB P w K mg base (k+1) "is_out" ["taken","number","moment"] Fb:=by
 refine cB.of vE.d15 PY (by walk_at"ln") fun f B A i s H R Q E g h=>?_;obtain ⟨N,O,m,v,t,rfl,⟨G,hk,D⟩,ft,J,M,q⟩:=h;refine {_,(aH (aU (uD (Kn (CW g.u1 (pv 1) (pv 0))) (oX (aI o1h g rfl (aA (aS g.u1 (pv 0) (pv 1)) (aA (pv 2) aD))))))),?_}
 try dsimp only[aR,bC]
 w_on;refine Ge (.inl hk) ?_;unfold WN at q;rcases D.val (k:=j5 m) with ⟨b,c⟩|⟨I,o,b,c,C⟩
 ·rw[c]at q;rw[b];w_on;exact q
 ·rw[c]at q;rw[b];w_on;apply NH (.inl hk) b ?_;apply {I,v,o,t,rfl,C,ft,J (j5 m,o) (cM c),M,?_};exact q
include o1h in
theorem yA:cB P w K mg base (k+1) "earliest_of" ["waiting"] Fj:=by
 refine cB.of vE.d16 gP (by walk_at"ln") fun f b' A a' s H vs Q E Z h=>?_;obtain ⟨a,W,rfl,⟨g,hk,M⟩,nd,zW,Y,q⟩:=h;refine {_,(aE (eA 1 gP.nd eK)
   (aE (Bu B4 rfl (pv 0) (sT 2 gP.nd) (aH (cE (PW.pt (oF (aZ nG (pv 1) eK) (jF (eG (aI o1h Z rfl (aA (aN aQ (aS Z.u1 (pv 0) (pv 2)) aF) (aA (aN aQ (aS Z.u1 (pv 0) (pv 1)) aF) aD))))))) (aH (eA 1 gP.nd (pv 2))) bL)))
   (aH (aU (pv 1))))),?_}
 try dsimp only[aR,bC]
 w_on;apply Jp a (mO.dK hk) ?_;refine {rfl,g,hk,fun o=>?_};have ek:∀{p:aL}{e:nU aL},(p,e)∈W->∃v,bI g p=some v/\kZ (upd H a (.frz o (.dK g))) v e:=fun {p e} hp=>by
  rcases M.val (k:=p) with ⟨_,m⟩|⟨v1,r1,S,m,U⟩
  ·rw[eO nd hp]at m;cases m
  ·rw[eO nd hp]at m;cases m;exact {v1,S,U.tk (TK.dic hk)}
 refine Az (fun i O G=>G=upd H a (.frz o (.dK g))/\∃e o2,O=[some (.ref a),some e,o2]/\((i=0/\e=.non)∨∃p B,(p,B)∈W/\e=kV p/\∀j w,j<i->W[j]?=some w->B.1<=w.2.1)) {rfl,_,_,rfl,.inl {rfl,rfl}} ?_ ?_ ?_
 ·rintro i O G _ ⟨rfl,_⟩;exact aC
 ·rintro i c v O G hx ⟨rfl,e,o2,rfl,X⟩;have hi:i<W.length:=by
   have h1:=(i5.mp hx).1;have h2:=M.len;lia
  obtain ⟨y,C,e0,_⟩:=Paired.at M hx;obtain ⟨c',B⟩:=y;cases (show c=c' from e0);have J:(c,B)∈W:=u8 C;obtain ⟨v1,S,p1,u1,rfl,h1,U⟩:=ek J;rcases X with ⟨rfl,rfl⟩|⟨p,I,hp,rfl,N⟩
  ·w_on;refine {rfl,_,_,rfl,.inr {c,B,J,rfl,fun j w D b=>?_}};have:j=0:=by lia
   subst this;rw[b]at C;cases C;exact dg
  ·obtain ⟨v2,m,p2,u2,rfl,h2,f2⟩:=ek hp;w_on;apply sQ (.inr {_,aC}) S ?_;apply sQ (.inr {_,aC}) m ?_;apply {u1,u2,B.1,I.1,rfl,U,f2,zW _ J,zW _ hp,?_};refine rH (fun R=>?_) (fun R=>?_)
   ·w_on;refine {rfl,_,_,rfl,.inr {c,B,J,rfl,fun j w D b=>?_}};by_cases z:j=i
    ·subst z;rw[b]at C;cases C;exact dg
    ·exact Q5 (ww R) (N j w (by lia) b)
   ·w_on;refine {rfl,_,_,rfl,.inr {p,I,hp,rfl,fun j w D b=>?_}};by_cases z:j=i
    ·subst z;rw[b]at C;cases C;exact Q6.mp R
    ·exact N j w (by lia) b
 ·rintro O G ⟨rfl,e,o2,rfl,X⟩;have hl:=M.len;have hW:W.length≠0:=fun z=>Y (Q1.mp z);rcases X with ⟨z,_⟩|⟨p,I,hp,rfl,N⟩
  ·lia
  ·refine Gd ?_;rw[HR aC,Aa,TF hk];w_on;refine q p I hp fun w b=>?_;obtain ⟨j,D⟩:=N9 b;exact N j w (by have:=(i5.mp D).1;lia) D
include d_falls_of o1n o1h o0p o0h o1k o0n in
theorem HE:oK P w K mg base (k+1) "falls_of" ["net","pushes","takings"] [.non] Fh:=by
 refine oK.of d_falls_of dY (by walk_at"ln") fun f cr A b8 s H vs Q E Z h=>?_;obtain ⟨l,h',lp,ps,vt,ts,DD,MM,rfl,R,z',D',hR,q⟩:=h;refine {_,(aE (eA 3 dY.nd (aI o0p Z rfl (aA (pv 0) aD)))
   (aE (eA 4 dY.nd (aI o0h Z rfl (aA (Km (pv 2) (oX (cJ aD))) aD)))
   (aE (eA 5 dY.nd (aI o0h Z rfl (aA (pv 1) aD)))
   (aE (eA 6 dY.nd (jX (rO rfl) rfl T.z_dict EB (aA (GU (dO (aG gJ) ["net","pushes","takings","beside","taken","pushed","waiting","fallen","post","number","other","moment"] ["post"] ["pushed"] [5]) rfl (pv 5) (fun _ _ _ _=>(Zn ["post","pushed"] 0)) (fun _ _ _ _=>(bM (aA (pv 0) (aA (bM (aA (aS Z.u1 (pv 1) (pv 0)) (aA eK (aA eK aD)))) aD)))) (fun _ _ _ _=>fB)) aD)))
   (aE (eA 7 dY.nd mF)
   (aE (sS B4 (Kg (pv 6)) (aE (eA 8 dY.nd (aI o0n Z rfl (aA (pv 6) aD)))
   (aE (iN Z.u1 (pv 7) (pv 8) (WK (pv 6) (pv 8) {rfl,rfl,rfl,rfl}) rfl)
   (aH (fZ B4 rfl (cX (gZ Z.u1 (pv 3) (pv 8) (cJ aD) {rfl,rfl,rfl,rfl})) (lS (n:=2) rfl (bA (sT 9 dY.nd) (bA (sT 10 dY.nd) eQ))) (aE (eA 11 dY.nd (aI o1n Z rfl (aA (aN aQ (aS Z.u1 (pv 7) (pv 8)) aF) (aA (aN aQ (aN aQ (pv 0) (pv 9)) aF) aD))))
   (aE (cE (PW.pt (oF (uB (CW Z.u1 (pv 10) (pv 7))) (jF (eG (aI o1k Z rfl (aA (pv 4) (aA (pv 9) (aA (pv 11) aD)))))))) (aH GP) bL)
   (aH (cE (PW.pt (oF (uB (uE Z.u1 (pv 10) (pv 6))) (jF (eG (aI o1h Z rfl (aA (pv 11) (aA (aN aQ (aS Z.u1 (pv 6) (pv 10)) aF) aD))))))) (aH (iN Z.u1 (pv 6) (pv 10) (bM (aA (pv 11) (aA (pv 9) (aA (pv 8) aD)))) rfl)) bL)))))))))
   (aH (aU (pv 7))))))))),?_}
 try dsimp only[aR,bC]
 w_on;apply {l,h',rfl,R.lq,R.len,fun dB Y hB s1 ar=>?_};apply Pf (D'.sm s1) fun lt H2 s2 bx=>?_;apply {lt,ts,rfl,bx,B9 D'.len (by decide),D'.sz,fun dT H3 hT s3 tq=>?_};have ak:=(s1.trans s2).trans s3;have cz:=z'.len;apply {lp,ps,rfl,(z'.sm ak).lq,by lia,fun x J=>hR.sz (z'.bd x J) (by lia),fun dP H4 hP s4 pq=>?_};obtain ⟨kP,x',qP⟩:=pq;apply NI dP (mO.dK x') ?_;refine {rfl,kP,x',fun ob=>?_};have cy:kP.length<=100:=by have h1:=qP.len;have h2:=OE ps;lia
 refine VW (by lia) (fun a' i ys G=>Kp a' (upd H4 dP (.frz ob (.dK kP))) G/\Paired (fun v (x:aL×nU aL)=>∃a u,v=.ref a/\G a=some (.tup [kV x.1,u])/\kZ G u x.2) ys (((lst ps).map fun x=>(x.1,(x.2,none))).take i)) ?_ ?_ ?_ ?_
 ·intro a' h0;exact {Kp.new h0,.nil}
 ·intro a' i ys G h0 _ ⟨k,_⟩;exact k _ _ (fun z=>by subst z;rw[aC]at h0;cases h0) aC
 ·intro a' i ys G kk v h0 J Λ hG ⟨kp,pr⟩;have Y':G dP=some (.frz ob (.dK kP)):=kp _ _ (fun z=>by subst z;rw[aC]at h0;cases h0) aC;have hi:i<(lst ps).length:=by
   have h1:=(i5.mp J).1;have h2:=qP.len;lia
  obtain ⟨y,hy,e0,fv⟩:=Paired.at qP J;obtain ⟨bw,qq⟩:=y;cases (show kk=bw from e0);have ν:aV (lst ps) kk=some qq:=eO (KC ps) (u8 hy);obtain ⟨D,e1,f1⟩:∃D,bI kP kk=some D/\cA G D qq:=by
   rcases qP.val (k:=kk) with ⟨_,e2⟩|⟨D,r1,e1,e2,f1⟩
   ·rw[ν]at e2;cases e2
   ·rw[ν]at e2;cases e2;refine {D,e1,f1.tk (TK.trans (TK.dic x') fun p xs h=>kp _ _ (aB h h0) h)}
  w_on;apply sQ (.inr {_,Y'}) e1 ?_;apply bD fun t1 B'=>?_;refine bD fun t2 C'=>?_;have η:=aO (o:=.tup [kV kk,.ref t1]) C' (aO (o:=.tup [D,.non,.non]) B' hG);refine jJ (i5.mp J).1 Λ η {?_,?_}
  ·exact Kp.trans (Kp.trans (Kp.trans kp (Kp.new B')) (Kp.new C')) Kp.upd
  ·have tk:TK (upd (upd G t1 (.tup [D,.non,.non])) t2 (.tup [kV kk,.ref t1])) (upd (upd (upd G t1 (.tup [D,.non,.non])) t2 (.tup [kV kk,.ref t1])) a' (.lst (ys++[.ref t2]))):=TK.lst η;have ε:=((TK.new (o:=.tup [D,.non,.non]) B').trans (TK.new (o:=.tup [kV kk,.ref t1]) C')).trans tk;have bf:i<((lst ps).map fun x=>(x.1,((x.2,none):nU aL))).length:=by rw[j6];exact hi
   rw[D7 bf];have:((lst ps).map fun x=>(x.1,((x.2,none):nU aL)))[i]=(kk,(qq,none)):=by rw[List.getElem_map];rw[i7 hi]at hy;rw[l7 hy]
   rw[this];refine Pd.snoc (Pd.imp pr fun v x ⟨a,u,e,h,f⟩=>{a,u,e,ε _ _ h,f.tk ε}) {t2,.ref t1,rfl,tk _ _ aC,t1,D,rfl,tk _ _ (aO C' aC),f1.tk ε}
 ·intro a' ys G h0 hG Λ ⟨kp,pr⟩;have Y':G dP=some (.frz ob (.dK kP)):=kp _ _ (fun z=>by subst z;rw[aC]at h0;cases h0) aC;have bc:a'≠dP:=fun z=>by subst z;rw[aC]at h0;cases h0
  have s5:aK H4 (melt dP G):=fun b o h=>by
   rw[HR Y'];by_cases hb:b=dP
   ·subst hb;rw[x']at h;rw[aC];exact h
   ·rw[aX hb];refine kp _ _ (fun z=>?_) (by rw[aX hb];exact h);subst z;rw[aX hb,h]at h0;cases h0
  have am:TK G (melt dP G):=TK.melt;have μ:melt dP G a'=some (.lst ys):=by rw[sY bc];exact hG
  have ah:=Pd.imp (G:=fun v (x:aL×nU aL)=>∃a u,v=.ref a/\melt dP G a=some (.tup [kV x.1,u])/\kZ (melt dP G) u x.2) pr fun v x ⟨a,u,e,h,f⟩=>{a,u,e,am _ _ h,f.tk am}
  have bh:kP.length=((lst ps).map fun x=>(x.1,((x.2,none):nU aL))).length:=by rw[j6];exact qP.len
  rw[bh,F7]at ah;obtain ⟨k0,pa,Ω⟩:=sV ah;show CF _ _ _;generalize melt dP G=H5 at *;w_on;refine {a',ys,k0,rfl,μ,pa,by lia,fun B hW=>?_};have ad:(((lst ps).map fun x=>(x.1,((x.2,none):nU aL))).map (·.1)).Nodup:=by rw[R5];exact KC ps
  rw[mH (by rw[O1,Ω.keys];exact ad),O1];w_on;apply uA fun g hF=>?_;have w':B≠g:=fun z=>by subst z;rw[aC]at hF;cases hF
  have m':upd (upd H5 B (.dK k0)) g (.dK []) B=some (.dK k0):=aO hF aC;have l':upd (upd H5 B (.dK k0)) g (.dK []) g=some (.dK []):=aC;have r':aK H5 (upd (upd H5 B (.dK k0)) g (.dK [])):=(aK.new hW).trans (aK.new hF);have J':=ar.sm ((s2.trans s3).trans (s4.trans s5));have aq:=tq.sm cA.tk (s4.trans s5);have E':=ak.trans (s4.trans s5);have v':H5 g=none:=by
   cases z:H5 g with
  |none=>rfl
  |some o=>rw[aX (u7 w'),z]at hF;cases hF
  have t':dB≠B/\dB≠g:=by obtain ⟨γ,f,z1,_⟩:=J';exact {aB z1 hW,aB z1 v'}
  have ι:dT≠B/\dT≠g:=by obtain ⟨γ,z1,_⟩:=aq;exact {aB z1 hW,aB z1 v'}
  have a9:H B=none:=by
   cases z:H B with
  |none=>rfl
  |some o=>rw[E' _ _ z]at hW;cases hW
  have L':H g=none:=by
   cases z:H g with
  |none=>rfl
  |some o=>rw[E' _ _ z]at v';cases v'
  have G':=J'.sm r';have cj:=aq.sm cA.tk r';have ae:=R.sm (E'.trans r');have ci:=E'.trans r';have ac:=Ω.imp (H':=upd (upd H5 B (.dK k0)) g (.dK [])) fun v b f=>f.tk r'.tk;generalize upd (upd H5 B (.dK k0)) g (.dK [])=H0 at *;refine wK (fun σ Y=>∃W F kW kF o8 o9 M O,σ=[some (.ref l),some (.ref lp),some vt,some (.ref dB),some (.ref dT),some (.ref dP),some (.ref B),some (.ref g),o8,o9,M,O]/\qG B g H0 Y/\Y B=some (.dK kW)/\KQ kZ Y kW W/\Y g=some (.dK kF)/\KQ kZ Y kF F/\mQ h' (aV (lst ps)) (cQ ts) (fun _ _ _=>True) W F/\(∀x∈W,Bd DD (MM*(F.length+1)) x.2.1)/\∀x∈F,Bd DD (MM*F.length) x.2.1) (fun σ Y=>1000-(match Y g with|some (.dK γ)=>γ.length|_=>0)) ?_ ?_ ?_
  ·refine {_,_,k0,[],_,_,_,_,rfl,qG.refl _,m',ac,l',.nil,mQ.start ad (fun p e he=>?_) (fun p t he=>?_),fun x J=>?_,fun x J=>by simp at J}
   ·obtain ⟨y,hy,e2⟩:=w8.mp he;cases e2;exact {rfl,eO (KC ps) hy}
   ·exact w8.mpr {(p,t),cM he,rfl}
   ·obtain ⟨y,hy,rfl⟩:=w8.mp J;exact (z'.bd y (lH hy)).mono (by simp)
  ·rintro σ Y ⟨W,F,kW,kF,o8,o9,M,O,rfl,Ξ,n',qW,T',qF,I,bW,bF⟩;have hl:=R.len;have Z':=I.lens;w_on;refine Ab n' (fun bi=>?_) (fun ψ=>?_)
   ·w_on;have κ:W≠[]:=fun z=>bi (Q1.mp (by rw[qW.len,z];rfl));have F':∀{m:Nat}{t:Rat},m<=1000->Bd DD (MM*m) t->Sz 8000 t:=fun hm hb=>hR.sz hb (X1 _ hm);apply {B,W,rfl,{kW,n',qW},I.ndW,fun x J=>F' (by lia) (bW x J),κ,fun p e hp υ=>?_};have N':aV W p=some e:=eO I.ndW hp;obtain ⟨D,e1,f1⟩:∃D,bI kW p=some D/\kZ Y D e:=by
     rcases qW.val (k:=p) with ⟨_,e2⟩|⟨D,r1,e1,e2,f1⟩
     ·rw[N']at e2;cases e2
     ·rw[N']at e2;cases e2;exact {D,e1,f1}
    apply {B,rfl,.inl {kW,.inl n'},?_};apply {kW,p,D,n',rfl,e1,?_};have K':upd Y B (.dK (eV kW p)) g=some (.dK kF):=aW (u7 w') T';have bg:kF.length<=1000:=by have:=qF.len;lia
    refine oC K' bg ?_;have bj:p∉F.map (·.1):=I.dis p (w8.mpr {_,hp,rfl});have ao:TK Y (upd (upd Y B (.dK (eV kW p))) g (.dK (eI kF p D))):=(TK.dic n').trans (TK.dic K');have cf:KQ kZ (upd (upd Y B (.dK (eV kW p))) g (.dK (eI kF p D))) (eV kW p) (kQ W p):=(qW.drop).imp fun v b f=>f.tk ao;have aj:KQ kZ (upd (upd Y B (.dK (eV kW p))) g (.dK (eI kF p D))) (eI kF p D) (F++[(p,e)]):=by rw[←RQ bj];exact (qF.put f1).imp fun v b f=>f.tk ao
    have Φ:qG B g H0 (upd (upd Y B (.dK (eV kW p))) g (.dK (eI kF p D))):=(Ξ.trans qG.l).trans qG.r;have a8:upd (upd Y B (.dK (eV kW p))) g (.dK (eI kF p D)) B=some (.dK (eV kW p)):=aW w' aC;have ay:upd (upd Y B (.dK (eV kW p))) g (.dK (eI kF p D)) g=some (.dK (eI kF p D)):=aC;have az:(eI kF p D).length=F.length+1:=by rw[aj.len];simp
    generalize eI kF p D=U at *;generalize eV kW p=β at *;generalize upd (upd Y B (.dK β)) g (.dK U)=e' at *;w_on;apply {dB,rfl,.inl {_,.inl (G'.k2 Φ m' l' t'.1 t'.2).choose_spec.choose_spec.1},?_};apply dH fun z0 q'=>?_;have Ψ:qG B g H0 (upd e' z0 (.lst [])):=Φ.trans (aK.new q').kp2;have V':upd e' z0 (.lst []) B=some (.dK β):=aO q' a8;have U':upd e' z0 (.lst []) g=some (.dK U):=aO q' ay;have cg:KQ kZ (upd e' z0 (.lst [])) β (kQ W p):=cf.imp fun v b f=>f.tk (TK.new q');have ce:KQ kZ (upd e' z0 (.lst [])) U (F++[(p,e)]):=aj.imp fun v b f=>f.tk (TK.new q');refine Jz (G'.k2 Ψ m' l' t'.1 t'.2) aC fun lb L bz cx hL=>?_;generalize upd e' z0 (.lst [])=S' at *;obtain ⟨xs,Θ,ai⟩:=bz;refine cV (cS.of Θ) ?_;have bu:=Paired.length ai;have ρ:∀w∈F++[(p,e)],w.2.1<=e.1:=fun w hw=>by
     rcases u9.mp hw with hw|hw
     ·exact I.mono w hw _ hp
     ·rw[i9]at hw;subst hw;exact dg
    have α:(p,e)∈F++[(p,e)]:=x9 _ (by simp);have be:Bd DD (MM*(F.length+1)) e.1:=bW _ hp;refine sP (xs:=xs) (fun i σ G=>∃W' C o9 M O,σ=[some (.ref l),some (.ref lp),some vt,some (.ref dB),some (.ref dT),some (.ref dP),some (.ref B),some (.ref g),some (kV p),o9,M,O]/\qG B g H0 G/\qG B g S' G/\G B=some (.dK C)/\KQ kZ G C W'/\G g=some (.dK U)/\KQ kZ G U (F++[(p,e)])/\mQ h' (aV (lst ps)) (cQ ts) (fun q j y=>q≠p∨(j,y)∈L.take i) W' (F++[(p,e)])/\∀x∈W',Bd DD (MM*(F.length+2)) x.2.1) ?_ ?_ ?_ ?_
    ·refine {_,_,_,_,_,rfl,Ψ,qG.refl _,V',cg,U',ce,I.pop hp υ fun q k x hc=>hc.elim id fun z=>by simp at z,fun x J=>(bW x (mI.mp J).1).mono (X1 _ (by lia))}
    ·rintro i σ G _ ⟨W',C,af,O',R',rfl,c',g',_⟩;exact cS.of (g'.lst V' U' Θ)
    ·intro P' c9 cq θ;rintro i x σ G J ⟨W',C,af,O',R',rfl,c',g',gW,j',gF,i',I',k'⟩;have hi:i<L.length:=by
      have:=(i5.mp J).1;lia
     obtain ⟨y,hy,t0,rfl,bo⟩:=Paired.at ai J;obtain ⟨j,xk⟩:=y;have bv:L[i]=(j,xk):=by rw[i7 hi]at hy;exact l7 hy
     have B':=g'.tk V' U' _ _ bo;obtain ⟨r,Z,hj⟩:=(hL j xk).mp (u8 hy);have A':r∈h':=u8 Z;have p':∀q jj yy,(q≠p∨(jj,yy)∈L.take (i+1))->(q≠p∨(jj,yy)∈L.take i)∨(q=p/\jj=j/\yy=xk):=fun q jj yy h=>by
      by_cases hq:q=p
      ·rcases h with h|h
       ·exact .inl (.inl h)
       ·rw[D7 hi,bv]at h;rcases u9.mp h with h|h
        ·exact .inl (.inr h)
        ·rw[i9]at h;cases h;exact .inr {hq,rfl,rfl}
      ·exact .inl (.inl hq)
     have ξ:Bd DD (MM*(F.length+2)) (e.1+r.2.2):=(be.add hR.ne (R.bd r A')).mono (by rw[Nat.mul_add,Nat.mul_add];lia);have b':∀X S,aK G S->(∃o9 M O,X=[some (.ref l),some (.ref lp),some vt,some (.ref dB),some (.ref dT),some (.ref dP),some (.ref B),some (.ref g),some (kV p),o9,M,O])->(xk∈(F++[(p,e)]).map (·.1)∨¬cO (cQ ts) j (e.1+r.2.2)∨∃u,(xk,u)∈W'/\u.1<=e.1+r.2.2)->∃W' C o9 M O,X=[some (.ref l),some (.ref lp),some vt,some (.ref dB),some (.ref dT),some (.ref dP),some (.ref B),some (.ref g),some (kV p),o9,M,O]/\qG B g H0 S/\qG B g S' S/\S B=some (.dK C)/\KQ kZ S C W'/\S g=some (.dK U)/\KQ kZ S U (F++[(p,e)])/\mQ h' (aV (lst ps)) (cQ ts) (fun q j y=>q≠p∨(j,y)∈L.take (i+1)) W' (F++[(p,e)])/\∀x∈W',Bd DD (MM*(F.length+2)) x.2.1:=by rintro X S sg ⟨o9,M,O,rfl⟩ hc;exact {W',C,_,_,_,rfl,c'.trans sg.kp2,g'.trans sg.kp2,sg _ _ gW,j'.imp fun v b f=>f.tk sg.tk,sg _ _ gF,i'.imp fun v b f=>f.tk sg.tk,I'.turn α Z hj ρ (R.pos r A') p' (.inl {rfl,hc}),k'}
     have d':∀X G1 t3 vm,aK G G1->G1 t3=none->cA G1 vm (e.1+r.2.2)->(∃o9 M O,X=[some (.ref l),some (.ref lp),some vt,some (.ref dB),some (.ref dT),some (.ref dP),some (.ref B),some (.ref g),some (kV p),o9,M,O])->(xk∉(F++[(p,e)]).map (·.1)/\cO (cQ ts) j (e.1+r.2.2)/\∀u,(xk,u)∈W'->e.1+r.2.2<=u.1)->(fun S=>∃W' C o9 M O,X=[some (.ref l),some (.ref lp),some vt,some (.ref dB),some (.ref dT),some (.ref dP),some (.ref B),some (.ref g),some (kV p),o9,M,O]/\qG B g H0 S/\qG B g S' S/\S B=some (.dK C)/\KQ kZ S C W'/\S g=some (.dK U)/\KQ kZ S U (F++[(p,e)])/\mQ h' (aV (lst ps)) (cQ ts) (fun q j y=>q≠p∨(j,y)∈L.take (i+1)) W' (F++[(p,e)])/\∀x∈W',Bd DD (MM*(F.length+2)) x.2.1) (upd (upd G1 t3 (.tup [vm,.int j,kV p])) B (.dK (eI C xk (.ref t3)))):=by
      rintro X G1 t3 vm sg φ fm ⟨o9,M,O,rfl⟩ ⟨c1,c2,c3⟩;have s':=sg.trans (aK.new (o:=.tup [vm,.int j,kV p]) φ);have f':=s' _ _ gW;have ζ:TK (upd G1 t3 (.tup [vm,.int j,kV p])) (upd (upd G1 t3 (.tup [vm,.int j,kV p])) B (.dK (eI C xk (.ref t3)))):=TK.dic f';have ZM:=s'.tk.trans ζ;refine {eX W' xk (e.1+r.2.2,some (j,p)),eI C xk (.ref t3),_,_,_,rfl,(c'.trans s'.kp2).trans qG.l,(g'.trans s'.kp2).trans qG.l,aC,?_,aW (u7 w') (s' _ _ gF),i'.imp fun v b f=>f.tk ZM,I'.turn α Z hj ρ (R.pos r A') p' (.inr {c1,c2,c3,rfl}),fun x J=>?_}
      ·exact (j'.imp fun v b f=>f.tk ZM).put {t3,vm,rfl,ζ _ _ aC,(fm.tk (TK.new φ)).tk ζ}
      ·obtain ⟨x1,x2⟩:=x;rcases fD J with ⟨_,rfl⟩|⟨_,h⟩
       ·exact ξ
       ·exact k' _ h
     replace b':=fun X S a b c=>θ _ _ _ (b' X S a b c);replace d':=fun X G1 t3 vm a b c d e=>θ _ _ _ (d' X G1 t3 vm a b c d e);have M':aV (F++[(p,e)]) p=some e:=eO I'.ndF α;obtain ⟨ve,e3,pe,ue,rfl,cn,fe⟩:∃D,bI U p=some D/\kZ G D e:=by
      rcases i'.val (k:=p) with ⟨_,e2⟩|⟨D,r1,e1,e2,f1⟩
      ·rw[M']at e2;cases e2
      ·rw[M']at e2;cases e2;exact {D,e1,f1}
     obtain ⟨vn,bq,b9⟩:=ae.lq;have Δ:=c'.lst m' l' bq;obtain ⟨vr,br,c8,ur,rfl,Γ,au⟩:=Pd.get b9 Z;have δ:=c'.tk m' l';have cp:=δ _ _ Γ;have av:=au.tk δ;w_on;apply sQ (.inl gF) e3 ?_;apply iW Δ (iT br) ?_;apply {ue,ur,e.1,r.2.2,rfl,fe,av,F' (by lia) be,hR.sz (R.bd r A') (by lia),fun vm S fm sg=>?_};have aw:=sg _ _ gF;have f':=sg _ _ gW;refine Qc (.inl aw) ?_;have al:Sz 8000 (e.1+r.2.2):=F' (by lia) ξ;rcases i'.val (k:=xk) with ⟨e4,e5⟩|⟨v4,r4,e4,e5,f4⟩
     ·rw[e4];w_on;have χ:xk∉(F++[(p,e)]).map (·.1):=KY e5;obtain ⟨kT,gT,qT⟩:=cj;have ax:S dT=some (.dK kT):=sg _ _ (c' _ _ ι.1 ι.2 gT);refine {dT,lst ts,j,vm,e.1+r.2.2,rfl,{kT,ax,qT.imp fun v b f=>(f.tk δ).tk sg.tk},fm,fun x J=>D'.sz x (lH J),al,?_};have ω:WN (lst ts) j (e.1+r.2.2)=true/\¬cO (cQ ts) j (e.1+r.2.2)∨WN (lst ts) j (e.1+r.2.2)=false/\cO (cQ ts) j (e.1+r.2.2):=by
       unfold WN cO cQ;cases aV (lst ts) (j5 (j:Int)) with
      |none=>exact .inr {rfl,fun u e=>nomatch e}
      |some u=>
        by_cases c:u<e.1+r.2.2
        ·exact .inl {decide_eq_true c,fun h=>Rat.not_le.mpr c (h u rfl)}
        ·exact .inr {decide_eq_false c,fun u' e=>by cases e;exact Q6.mp c}
      rcases ω with ⟨ho,y'⟩|⟨ho,y'⟩
      ·rw[ho];w_on;exact b' _ S sg {_,_,_,rfl} (.inr (.inl y'))
      ·rw[ho];w_on;refine VS (.inl f') ?_;have ο:C.length<=1000:=by
        have h1:=j'.len;have h2:=I'.lens;lia
       rcases j'.val (k:=xk) with ⟨e6,e7⟩|⟨v6,r6,e6,e7,p6,u6,rfl,h6,f6⟩
       ·rw[e6];w_on;apply bD fun t3 o'=>?_;apply oC (aO o' f') ο ?_;exact d' _ S t3 vm sg o' fm {_,_,_,rfl} {χ,y',fun u hu=>absurd hu (mN e7 u)}
       ·rw[e6];have cw:=sg.tk _ _ h6;w_on;apply sQ (.inl f') e6 ?_;have τ:=cM e7;apply {vm,u6,e.1+r.2.2,r6.1,rfl,fm,f6.tk sg.tk,al,F' (by lia) (k' _ τ),?_};refine rH (fun c=>?_) (fun c=>?_)
        ·w_on;apply bD fun t3 o'=>?_;apply oC (aO o' f') ο ?_;refine d' _ S t3 vm sg o' fm {_,_,_,rfl} {χ,y',fun u hu=>?_};have:=l7 ((eO I'.ndW hu).symm.trans e7);subst this;exact ww c
        ·w_on;exact b' _ S sg {_,_,_,rfl} (.inr (.inr {r6,τ,Q6.mp c}))
     ·rw[e4];w_on;exact b' _ S sg {_,_,_,rfl} (.inl (w8.mpr {_,cM e5,rfl}))
    ·rintro σ G ⟨W',C,af,O',R',rfl,c',g',gW,j',gF,i',I',k'⟩;rw[bu,F7]at I';refine {{W',F++[(p,e)],C,U,_,_,_,_,rfl,c',gW,j',gF,i',I'.imp fun q k x r h1 h2 _=>?_,fun x J=>?_,fun x J=>?_},?_}
     ·by_cases hq:q=p
      ·subst hq;exact .inr ((hL k x).mpr {r,h1,h2})
      ·exact .inl hq
     ·rw[m8];exact k' x J
     ·rw[m8];rcases u9.mp J with J|J
      ·exact (bF x J).mono (X1 _ (by simp))
      ·rw[i9]at J;subst J;exact be
     ·have c7:=qF.len;simp only[gF,T'];lia
   ·have X':W=[]:=Q1.mp (by rw[←qW.len,ψ];rfl);subst X';w_on;refine q g Y F L' (Ξ.same ci a9 L') {kF,T',qF} I.done Z'.2 fun x J=>(bF x J).mono (X1 _ (by lia))
  ·rintro σ H Q Q' h ⟨v,e,k,t,b⟩;exact {v,e,k,t,h _ _ b}
include d_fall_moments o1d o1c in
theorem vI:oK P w K mg base (k+1) "fall_moments" ["net","pushes","takings"] [.non] (Om w):=by
 refine oK.of d_fall_moments nW (by walk_at"ln") fun f m' A l' s H vs Q E hr h=>?_;obtain ⟨l,n,lp,ps,vt,ts,DD,MM,U,rfl,B,i',j',hR,hU,a',q⟩:=h;refine {_,(aE (eA 3 nW.nd (aI o1c.f hr rfl (aA (pv 0) (aA (pv 1) (aA (pv 2) aD)))))
   (aH (aU (jX (rO rfl) rfl T.z_dict EB (aA (eZ (dO (aG eC) ["net","pushes","takings","fallen"] ["post"] ["fallen"] [3]) rfl (cX (aI o1d hr rfl (aA (pv 0) aD))) (fun _ _ _ _=>(Zn ["post","fallen"] 0)) (fun _ _ _ _=>(bM (aA (pv 0) (aA (xS (uB (CW hr.u1 (pv 0) (pv 1))) (aN kK (aS hr.u1 (pv 1) (pv 0)) aF) eK) aD)))) (fun _ _ _ _=>fB)) aD))))),?_}
 try dsimp only[aR,bC]
 w_on;apply {l,kn n,lp,ps,vt,ts,DD,MM,rfl,B,i',j',hR,fun dF H1 F hF s1 fq fo o' bF=>?_};refine {l,n,U,rfl,(B.sm s1).lq,by have:=B.len;simpa[kn] using this,hU,a',fun lq H2 g p' s2 W nd c'=>?_};w_on;refine cV (cS.of W) ?_;obtain ⟨kF,g',qF⟩:=fq;have q':g.length<=63:=B9 (iJ nd fun x S=>a' x ((c' x).mp S)) hU;refine pU (xs:=g.map V.str) (by rw[j6];lia) (fun c i D G=>Kp c H2 G/\Paired (fun v (x:aL×Option Rat)=>∃a u,v=.ref a/\G a=some (.tup [kV x.1,u])/\fI G u x.2) D ((g.map fun y=>(i0 y,fO F (i0 y))).take i)) (fun c I=>{Kp.new I,.nil}) ?_ ?_ ?_
 ·intro c i D G I _ ⟨kp,_⟩;exact cS.of (kp _ _ (aB W I) W)
 ·intro c i D G x I S X hG ⟨kp,pr⟩;rw[t5]at S;cases hy:g[i]? with
 |none=>rw[hy]at S;cases S
 |some y=>
   rw[hy]at S;cases (l7 S:V.str y=x);have hi:i<g.length:=(i5.mp hy).1;have J:=s2 _ _ g';have M:G dF=some (.dK kF):=kp _ _ (aB J I) J;have e':TK H1 G:=s2.tk.trans fun p xs h=>kp _ _ (aB h I) h;have Y:∀O u m,aK G O->O m=none->fI O u (fO F (i0 y))->IK (g.map V.str).length c (fun i D G=>Kp c H2 G/\Paired (fun v (x:aL×Option Rat)=>∃a u,v=.ref a/\G a=some (.tup [kV x.1,u])/\fI G u x.2) D ((g.map fun y=>(i0 y,fO F (i0 y))).take i)) D i (.ref m) (upd O m (.tup [.str y,u])):=fun O u m sg ht ou=>by
    have Z:=aO (o:=.tup [.str y,u]) ht (sg _ _ hG);refine jJ (by rw[j6];exact hi) X Z {Kp.trans (Kp.trans kp (fun b o _ h=>aO ht (sg _ _ h))) Kp.upd,?_};have tk:TK (upd O m (.tup [.str y,u])) (upd (upd O m (.tup [.str y,u])) c (.lst (D++[.ref m]))):=TK.lst Z;have d':=(sg.tk.trans (TK.new (o:=.tup [.str y,u]) ht)).trans tk;have f':i<(g.map fun y=>((i0 y:aL),fO F (i0 y))).length:=by rw[j6];exact hi
    rw[D7 f'];have:(g.map fun y=>((i0 y:aL),fO F (i0 y)))[i]=(i0 y,fO F (i0 y)):=by rw[List.getElem_map];rw[i7 hi]at hy;rw[l7 hy]
    rw[this];exact Pd.snoc (Pd.imp pr fun v x ⟨a,u,e,h,f⟩=>{a,u,e,d' _ _ h,f.tk d'}) {m,u,rfl,tk _ _ aC,(ou.tk (TK.new ht)).tk tk}
   w_on;refine Qb (.inl M) ?_;rcases qF.val (k:=i0 y) with ⟨e1,e2⟩|⟨v1,r1,e1,e2,p1,u1,rfl,h1,f1⟩
   ·rw[e1];w_on;refine bD fun m R=>?_;refine Y G .non m (aK.refl _) R ?_;unfold fO;rw[e2];rfl
   ·rw[e1];w_on;refine bZ (.inl M) e1 ?_;have n':=e' _ _ h1;w_on;refine bD fun m R=>?_;refine Y G u1 m (aK.refl _) R ?_;unfold fO;rw[e2];exact f1.tk e'
 ·intro c D G I hG X ⟨kp,pr⟩;have h':(g.map V.str).length=(g.map fun y=>((i0 y:aL),fO F (i0 y))).length:=by simp
  rw[h',F7]at pr;obtain ⟨k0,pa,b'⟩:=sV pr;w_on;rw[j6]at X;refine {c,D,k0,rfl,hG,pa,by lia,fun dR C=>?_};have k':((g.map fun y=>((i0 y:aL),fO F (i0 y))).map (·.1)).Nodup:=by rw[R5];exact P5.mpr (nd.imp fun h e=>h (oq e))
  rw[mH (by rw[O1,b'.keys];exact k'),O1];w_on;have sG:aK H G:=fun b o hb=>by have h2:=s2 _ _ (s1 _ _ hb);exact kp _ _ (aB h2 I) h2
  refine q dR _ F g ?_ (sG.trans (aK.new C)) {k0,aC,b'.imp fun v b f=>f.tk (TK.new C)} fo bF nd c';cases z:H dR with
 |none=>rfl
 |some o=>rw[sG _ _ z]at C;cases C
include o1a o1i o1h in
theorem vH:cB P w K mg base (k+1) "share_passed" ["fell","time","moment"] Fa:=by
 refine cB.of vE.d19 vG (by walk_at"ln") fun f N A g s H vs Q E b h=>?_;obtain ⟨I,X,J,o,T,m,rfl,of,O,C,U,Y,B,Z,q⟩:=h;refine {_,(aE (cE (PW.pt (oF (aZ nG (pv 0) eK) (jF (eG (aI o1h b rfl (aA (pv 2) (aA (pv 0) aD))))))) (aH (aU (bM (aA aF (aA aF aD))))) bL)
   (aH (aU (aI o1i b rfl (aA (aI o1a b rfl (aA (pv 2) (aA (pv 0) aD))) (aA (pv 1) aD)))))),?_}
 try dsimp only[aR,bC]
 cases o with
|none=>
  cases (show I=.non from of);w_on;apply bD fun p hp=>?_;exact q _ _ {p,rfl,aC} (aK.new hp)
|some f=>
  have i:=Z f rfl;obtain ⟨D,rfl,hf⟩:=id (show cA H I f from of);w_on;apply {J,.ref D,m,f,rfl,C,of,B.mono (by decide),i.mono (by decide),?_};refine rH (fun c=>?_) (fun c=>?_)
  ·w_on;apply bD fun p hp=>?_;refine q _ _ ?_ (aK.new hp);rw[show GE (some f) T m=0 from if_pos c];exact {p,rfl,aC}
  ·w_on;apply {J,.ref D,m,f,rfl,C,of,B.mono (by decide),i.mono (by decide),fun v H1 R G=>?_};apply {v,X,m-f,T,rfl,R,O.tk G.tk,(Sz.sub B i).mono (by decide),Y.mono (by decide),U,fun w M S W=>?_};refine q w M ?_ (G.trans W);rw[show GE (some f) T m=(m-f)/T from if_neg c];exact S
include o1a o1h o0j in
theorem xX:cB P w K mg base (k+1) "standing_by" ["run","moments","taken","moment"] UF:=by
 refine cB.of vE.d20 kC (by walk_at"ln") fun f e' A b' s H vs Q E B h=>?_;obtain ⟨pr,dd,vt,U,a,b,u,T,m,kd,D,I,tk,va,vb,rfl,O,fT,hd,ea,qa,eb,qb,ot,Z,S,W,R,za,zb,zt,q⟩:=h;refine {_,(aE (cE (PW.pt (nD (aZ mG (pv 2) eK) (jQ (lR (eG (aI o1h B rfl (aA (pv 3) (aA (pv 2) aD)))))))) (aH (aU eK)) bL)
   (aE (eA 4 kC.nd (aI o0j B rfl (aA (aS B.u1 (pv 1) (aN aQ (pv 0) aF)) (aA (aN aQ (pv 0) aF) (aA (pv 3) aD)))))
   (aE (eA 5 kC.nd (aI o1a B rfl (aA (bM (aA aF (aA aF aD))) (aA (aI o0j B rfl (aA (aS B.u1 (pv 1) (aN aQ (pv 0) aF)) (aA (aN aQ (pv 0) aF) (aA (pv 3) aD)))) aD))))
   (aH (aU (xS (eG (aI o1h B rfl (aA (pv 4) (aA (pv 5) aD)))) (bM (aA (pv 4) (aA (pv 5) aD))) eK)))))),?_}
 try dsimp only[aR,bC]
 have sa:=UX S W R za;have sb:=UX S W R zb;have s1:Sz 10 1:={by decide,by decide}
 refine lF ?_;refine uY (fun σ G=>σ=[some (.ref pr),some (.ref dd),some vt,some U,none,none]/\G=H/\OK tk m=false) ?_ ?_
 ·rintro σ G ⟨rfl,rfl,hc⟩;have Y:FA D I tk T m=if GE D T m<1-GE I T m then some (GE D T m,1-GE I T m) else none:=by
   unfold FA;rw[hc,if_neg j7]
  rw[Y]at q;w_on;apply bZ (.inl hd) ea ?_;refine {va,u,U,D,T,m,rfl,qa,fT,Z,S,W,R,za,fun v1 X f1 t1=>?_};have f':=t1 _ _ hd;have c':=t1 _ _ O;w_on;refine bD fun J N=>?_;have g:=t1.trans (aK.new (o:=.tup [.int 1,.int 1]) N);have f2:cA (L2.upd X J (.tup [.int 1,.int 1])) v1 (GE D T m):=f1.tk (TK.new N);have g1:cA (L2.upd X J (.tup [.int 1,.int 1])) (.ref J) 1:={J,rfl,aC}
  generalize L2.upd X J (.tup [.int 1,.int 1])=H2 at g f2 g1⊢;have a':=g _ _ hd;have d':=g _ _ O;w_on;apply bZ (.inl a') eb ?_;apply {vb,u,U,I,T,m,rfl,qb.tk g.tk,fT.tk g.tk,Z.tk g.tk,S,W,R,zb,fun v3 H3 f3 t3=>?_};refine {.ref J,v3,1,GE I T m,rfl,g1.tk t3.tk,f3,s1.mono (by decide),sb.mono (by decide),fun v4 H4 f4 t4=>?_};have C:=t3.trans t4;have f5:=f2.tk C.tk;w_on;apply {v1,v4,GE D T m,1-GE I T m,rfl,f5,f4,sa.mono (by decide),(Sz.sub s1 sb).mono (by decide),?_};refine rH (fun c=>?_) (fun c=>?_)
  ·rw[if_pos c]at q;w_on;apply bD fun p5 i=>?_;exact q _ _ {p5,v1,v4,rfl,aC,f5.tk (TK.new i),f4.tk (TK.new i)} ((g.trans C).trans (aK.new i))
  ·rw[if_neg c]at q;w_on;exact q _ _ rfl (g.trans C)
 ·intro NX M;cases tk with
 |none=>
   cases (show vt=.non from ot);w_on;exact M _ _ {rfl,rfl,rfl}
 |some w=>
   obtain ⟨pw,rfl,hw⟩:=id (show cA H vt w from ot);w_on;apply {U,.ref pw,m,w,rfl,Z,ot,R.mono (by decide),(zt w rfl).mono (by decide),?_};refine rH (fun c=>?_) (fun c=>?_)
   ·w_on;exact M _ _ {rfl,rfl,by show (!decide (m<w))=false;rw[decide_eq_true c];rfl}
   ·w_on;refine q _ _ ?_ (aK.refl _);unfold FA;rw[show OK (some w) m=true by show (!decide (m<w))=true;rw[decide_eq_false c];rfl,if_pos rfl];exact rfl
include o1n o1h in
theorem GZ:cB P w K mg base (k+1) "is_swept" ["fell","time","beyond"] Ez:=by
 refine cB.of vE.d21 GI (by walk_at"ln") fun f J A c s H Y Q E i h=>?_;obtain ⟨D,R,C,o,T,p,rfl,of,M,b,G,I,S,q⟩:=h;refine {_,(aH (aU (uD (jR mG (pv 0) eK) (oX (Qv (jR nG (pv 2) eK) (oX (JQ (aI o1h i rfl (aA (pv 2) (aA (aI o1n i rfl (aA (pv 0) (aA (pv 1) aD))) aD)))))))))),?_}
 try dsimp only[aR,bC]
 cases o with
|none=>
  cases (show D=.non from of);w_on;exact q _ (aK.refl _)
|some f=>
  obtain ⟨O,rfl,W⟩:=id (show cA H D f from of);cases p with
 |none=>
   cases (show C=.non from b);w_on;exact q _ (aK.refl _)
 |some g=>obtain ⟨m,rfl,X⟩:=id (show cA H C g from b);w_on;apply {.ref O,R,f,T,rfl,of,M,(I f rfl).mono (by decide),G.mono (by decide),fun v U N B=>?_};apply {.ref m,v,g,f+T,rfl,(show cA H (.ref m) g from b).tk B.tk,N,(S g rfl).mono (by decide),(Sz.add (I f rfl) G).mono (by decide),?_};exact q _ B
include o1n o1a o1s o1i o0z in
theorem rD:cB P w K mg base (k+1) "ending_by_falls" ["run","moments"] Fi:=by
 refine cB.of vE.d22 eY (by walk_at"ln") fun f l' A h' s H vs Q E m h=>?_;obtain ⟨pr,dd,a,b,u,T,kd,C,B,U,W,rfl,d',Z,hd,ea,R,eb,S,hT,X,za,zb,q⟩:=h;refine {_,(aE (eA 2 eY.nd (aS m.u1 (pv 1) (aN aQ (pv 0) aF)))
   (aE (eA 3 eY.nd (aS m.u1 (pv 1) (aN aQ (pv 0) aF)))
   (aE (cE (PW.pt (nD (aZ nG (pv 2) eK) (jQ (aZ nG (pv 3) eK)))) (aH (aU (bM (aA aP aD)))) bL)
   (aE (cE (eG (aI o0z m rfl (aA (pv 2) (aA (aN aQ (pv 0) aF) (aA (pv 3) aD))))) (aH (aU (bM (aA aP (aA (aN aQ (pv 0) aF) (aA (aI o1n m rfl (aA (pv 2) (aA (aN aQ (pv 0) aF) aD))) aD)))))) bL)
   (aE (cE (eG (aI o0z m rfl (aA (pv 3) (aA (aN aQ (pv 0) aF) (aA (pv 2) aD))))) (aH (aU (bM (aA aP (aA (aN aQ (pv 0) aF) (aA (aI o1n m rfl (aA (pv 3) (aA (aN aQ (pv 0) aF) aD))) aD)))))) bL)
   (aE (eA 4 eY.nd (aI o1s m rfl (aA (aI o1n m rfl (aA (aI o1n m rfl (aA (pv 2) (aA (pv 3) aD))) (aA (aN aQ (pv 0) aF) aD))) (aA (bM (aA aF (aA aF aD))) aD))))
   (aH (aU (bM (aA aP (aA (pv 4) (aA (aI o1i m rfl (aA (aI o1a m rfl (aA (pv 4) (aA (pv 2) aD))) (aA (aN aQ (pv 0) aF) aD))) aD)))))))))))),?_}
 try dsimp only[aR,bC]
 have f':T≠0:=oy hT;refine lF ?_
 walk_at"gos"
 refine bZ (.inl hd) ea ?_
 walk_at"gos"
 refine xM ?_;refine lF ?_
 walk_at"gos"
 refine bZ (.inl hd) eb ?_
 walk_at"gos"
 refine xM ?_;refine lF ?_;refine uY (fun σ G=>σ=[some (.ref pr),some (.ref dd),some U,some W,none]/\G=H/\¬(C=none/\B=none)) ?_ ?_
 ·rintro σ G ⟨rfl,rfl,hc⟩;unfold vK at q;rw[if_neg hc]at q;w_on;refine {U,u,W,C,T,B,rfl,R,Z,S,X,za,zb,fun H1 D=>?_};have i':=D _ _ d';by_cases M:Oj C T B=true
  ·rw[if_pos M]at q;obtain ⟨f,rfl⟩:∃f,C=some f:=by
    cases C with
   |none=>cases M
   |some f=>exact {f,rfl}
   obtain ⟨O,rfl,hf⟩:=id (show cA H1 U f from R.tk D.tk);rw[M];w_on;apply {.ref O,u,f,T,rfl,R.tk D.tk,Z.tk D.tk,(za f rfl).mono (by decide),X.mono (by decide),fun v Y fv i=>?_};apply bD fun p3 c=>?_;exact q _ _ {p3,v,rfl,aC,fv.tk (TK.new c)} ((D.trans i).trans (aK.new c))
  ·rw[if_neg M]at q;rw[Bool.not_eq_true]at M;rw[M];w_on;refine {W,u,U,B,T,C,rfl,S.tk D.tk,Z.tk D.tk,R.tk D.tk,X,zb,za,fun Y i=>?_};replace i:=D.trans i;have J:=i _ _ d';by_cases N:Oj B T C=true
   ·rw[if_pos N]at q;obtain ⟨g,rfl⟩:∃f,B=some f:=by
     cases B with
    |none=>cases N
    |some f=>exact {f,rfl}
    obtain ⟨pg,rfl,hg⟩:=id (show cA Y W g from S.tk i.tk);rw[N];w_on;apply {.ref pg,u,g,T,rfl,S.tk i.tk,Z.tk i.tk,(zb g rfl).mono (by decide),X.mono (by decide),fun v H3 fv s3=>?_};apply bD fun p3 c=>?_;exact q _ _ {p3,v,rfl,aC,fv.tk (TK.new c)} ((i.trans s3).trans (aK.new c))
   ·rw[if_neg N]at q;rw[Bool.not_eq_true]at N;obtain ⟨f,g,rfl,rfl⟩:∃f g,C=some f/\B=some g:=by
     cases C with
    |none=>
      cases B with
     |none=>exact absurd {rfl,rfl} hc
     |some g=>cases N
    |some f=>
      cases B with
     |none=>cases M
     |some g=>exact {f,g,rfl,rfl}
    have zf:=za f rfl;have zg:=zb g rfl;obtain ⟨O,rfl,hf⟩:=id (show cA Y U f from R.tk i.tk);obtain ⟨pg,rfl,hg⟩:=id (show cA Y W g from S.tk i.tk);have ff:cA Y (.ref O) f:={O,rfl,hf}
    have fg:cA Y (.ref pg) g:={pg,rfl,hg}
    rw[N];w_on;refine {.ref O,.ref pg,f,g,rfl,ff,fg,zf.mono (by decide),zg.mono (by decide),fun v H3 fv s3=>?_};have z1:=Sz.add zf zg;have j':=s3 _ _ J;w_on;refine {v,u,f+g,T,rfl,fv,(Z.tk i.tk).tk s3.tk,z1.mono (by decide),X.mono (by decide),fun v4 H4 f4 s4=>?_};have z2:=Sz.add z1 X;w_on;refine bD fun p5 g'=>?_;have s5:=aK.new (o:=.tup [.int 1,.int 2]) g';have f5:cA (L2.upd H4 p5 (.tup [.int 1,.int 2])) (.ref p5) (1/2):={p5,rfl,by rw[show ((1/2:Rat)).num=1 by k_is,show ((1/2:Rat)).den=2 by k_is];exact aC}
    have a':=f4.tk s5.tk;generalize L2.upd H4 p5 (.tup [.int 1,.int 2])=H5 at s5 f5 a' ⊢;have zh:Sz 10 (1/2:Rat):={by k_is,by k_is}
    w_on;refine {v4,.ref p5,_,_,rfl,a',f5,z2.mono (by decide),zh.mono (by decide),fun v6 H6 f6 s6=>?_};have z6:=Sz.mul z2 zh;have I:=(s3.trans (s4.trans s5)).trans s6;have e':=I _ _ J;w_on;refine {v6,.ref O,_,f,rfl,f6,ff.tk I.tk,z6.mono (by decide),zf.mono (by decide),fun v7 H7 f7 s7=>?_};have k':=s7 _ _ e';have z7:=Sz.sub z6 zf;w_on;apply {v7,u,_,T,rfl,f7,((Z.tk i.tk).tk I.tk).tk s7.tk,z7.mono (by decide),X.mono (by decide),f',fun v8 H8 f8 s8=>?_};apply bD fun p9 c'=>?_;have t9:=TK.new (o:=.tup [.str "met",v6,v8]) c';exact q _ _ {p9,v6,v8,rfl,aC,((f6.tk s7.tk).tk s8.tk).tk t9,f8.tk t9} (((i.trans I).trans (s7.trans s8)).trans (aK.new c'))
 ·intro NX b';cases C with
 |none=>
   cases (show U=.non from R);cases B with
  |none=>
    cases (show W=.non from S);w_on;apply bD fun p3 c=>?_;exact q _ _ {p3,rfl,aC} (aK.new c)
  |some g=>
    obtain ⟨pg,rfl,hg⟩:=id (show cA H W g from S);w_on;exact b' _ _ {rfl,rfl,fun z=>nomatch z.2}
 |some f=>obtain ⟨O,rfl,hf⟩:=id (show cA H U f from R);w_on;exact b' _ _ {rfl,rfl,fun z=>nomatch z.1}
theorem CZ:cB P w K mg base (k+1) "moment_of" ["ending"] Fd:=by
 refine cB.of vE.d23 CL (by walk_at"ln") fun f m A g s H B Q E i h=>?_;obtain ⟨v,e,rfl,c,q⟩:=h;refine {_,(aE (cE (aZ (gA i.units) (aN aQ (pv 0) aF) aP) (aH (aU eK)) bL)
   (aH (aU (xS (aZ (gA i.units) (aN aQ (pv 0) aF) aP) (aN aQ (pv 0) aF) (aN aQ (pv 0) aF))))),?_}
 try dsimp only[aR,bC]
 cases e with
|stands=>
  obtain ⟨p,rfl,hp⟩:=c;w_on;apply uN (beq_self_eq_true _) ?_;exact q _ rfl
|swept s t=>
  obtain ⟨p,u,rfl,hp,b⟩:=c;w_on;apply jH (by k_is) ?_;apply uN (beq_self_eq_true _) ?_;exact q _ b
|met t s=>
  obtain ⟨p,u,w,rfl,hp,b,o⟩:=c;w_on;apply jH (by k_is) ?_;apply jH (by k_is) ?_;exact q _ b
|taken t=>obtain ⟨p,u,rfl,hp,b⟩:=c;w_on;apply jH (by k_is) ?_;apply jH (by k_is) ?_;exact q _ b
include o1h o0c o0t in
theorem DB:cB P w K mg base (k+1) "ending_by" ["run","moments","taken"] UL:=by
 refine cB.of vE.d24 mX (by walk_at"ln") fun f a' A J s H vs Q E I h=>?_;obtain ⟨pr,dd,W,a,b,u,T,kd,O,R,tk,va,vb,rfl,G,fT,hd,ea,qa,eb,qb,S,hT,X,Y,Z,zt,q⟩:=h;refine {_,(aE (eA 3 mX.nd (aI o0c I rfl (aA (pv 0) (aA (pv 1) aD))))
   (aE (eA 4 mX.nd (aI o0t I rfl (aA (pv 3) aD)))
   (aE (cE (PW.pt (nD (aZ mG (pv 2) eK) (jQ (PW.pt (oF (aZ nG (pv 4) eK) (jF (eG (aI o1h I rfl (aA (pv 2) (aA (pv 4) aD)))))))))) (aH (aU (bM (aA aP (aA (pv 2) aD))))) bL)
   (aH (aU (pv 3)))))),?_}
 try dsimp only[aR,bC]
 have ze:=YM (a:=a) (b:=b) X Y Z;w_on;refine {pr,dd,a,b,u,T,kd,O,R,va,vb,rfl,G,fT,hd,ea,qa,eb,qb,hT,X,Y,Z,fun ve B C o=>?_};generalize vK a b O R T=e at ze C q;w_on;apply {ve,e,rfl,C,fun U m=>?_};cases tk with
|none=>
  cases (show W=.non from S);w_on;exact q _ _ C o
|some w=>
  have i:=S.tk o.tk;obtain ⟨N,rfl,hw⟩:=id (show cA B W w from i);cases ee:yR e with
 |none=>
   rw[ee]at m;cases (show U=.non from m);w_on;apply bD fun M g=>?_;refine q _ _ ?_ (o.trans (aK.new g));show zX _ _ (if BO w (yR e)=true then _ else _);rw[ee,show BO w none=true from rfl,if_pos rfl];exact {M,_,rfl,aC,(show cA B (.ref N) w from i).tk (TK.new g)}
 |some t=>
   rw[ee]at m;obtain ⟨pm,rfl,hm⟩:=id (show cA B U t from m);w_on;apply {.ref N,.ref pm,w,t,rfl,i,m,(zt w rfl).mono (by decide),(ze t ee).mono (by decide),?_};replace q:∀v D,zX D v (if BO w (yR e)=true then .taken w else e)->aK H D->Q v D:=q;rw[ee]at q;refine rH (fun c=>?_) (fun c=>?_)
   ·w_on;apply bD fun M g=>?_;refine q _ _ ?_ (o.trans (aK.new g));rw[show BO w (some t)=true from decide_eq_true c,if_pos rfl];exact {M,_,rfl,aC,(show cA B (.ref N) w from i).tk (TK.new g)}
   ·w_on;refine q _ _ ?_ o;rw[show BO w (some t)=false from decide_eq_false c,if_neg j7];exact C
theorem JV:cB P w K mg base (k+1) "_law_cell_at" ["_law_script","_law_k"] (UR K):=by
 refine cB.of vE.d25 JK (by walk_at"ln") fun f m A b s H G Q E C h=>?_;obtain ⟨a,i,D,rfl,g,o,q⟩:=h;refine {_,(aE (cE (aZ sW (pv 1) (bB hX rfl T.z_len fA (aA (pv 0) aD))) (aH (aU (aN aQ (pv 0) (pv 1)))) bL)
   (aH (aU aF))),?_}
 try dsimp only[aR,bC]
 w_on;apply xP g ?_;refine rH (fun c=>?_) (fun c=>?_)
 ·rw[j6]at c;obtain ⟨z,_,B⟩:=Uz (ns:=i) o c;w_on;apply Pq g B ?_;exact q z
 ·w_on;exact q 0
theorem WU:cB P w K mg base (k+1) "_law_mixed" ["_law_cell","_law_k"] AN:=by
 refine cB.of vE.d26 xB (by walk_at"ln") fun f D A m s H U Q E R h=>?_;obtain ⟨c,g,rfl,N,O,q⟩:=h;refine {_,(aE (eA 2 xB.nd (aJ bQ (aJ cK (aJ bG (aJ bG (aJ bG (aJ bQ (pv 0) aF) (aJ cK (aJ cK aF (pv 1)) (pv 1))) (pv 1)) aF) aF) aF))
   (aE (eA 2 xB.nd (aJ bQ (aJ bG (aJ cK (pv 2) (pv 2)) (aJ cK aF (pv 1))) aF))
   (aH (aU (aJ bQ (aJ cK (aJ cK (pv 2) (pv 2)) aF) (aJ bG (aJ rC aF aF) aF)))))),?_}
 try dsimp only[aR,bC]
 w_on;generalize (c%1000000007+7919*g*g+g+1)*48271=o;have I:=r9 o (show (2147483629:Int)≠0 by decide);have J:=n6 o (show (0:Int)<2147483629 by decide);generalize o%2147483629=C at *;w_on;generalize C*C+69621*g=B;have i:=r9 B (show (2147483587:Int)≠0 by decide);have M:=n6 B (show (0:Int)<2147483587 by decide);generalize B%2147483587=b at *;w_on;have S:b*b<2^64:=by have:=Int.mul_le_mul (show b<=2147483587 by omega) (show b<=2147483587 by omega) i (by decide);omega
 have G:0<=b*b:=Int.mul_nonneg i i;generalize b*b=W at *;w_on;apply Ao ?_;exact q _
include o1j o1p in
theorem QI:cB P w K mg base (k+1) "_law_number" ["_law_script","_law_k"] (LY K):=by
 refine cB.of vE.d27 AV (by walk_at"ln") fun f I A m s H M Q E b h=>?_;obtain ⟨a,C,i,rfl,B,g,o,q⟩:=h;refine {_,(aE (eA 2 AV.nd (aI o1j b rfl (aA (pv 0) (aA (pv 1) aD))))
   (aE (cE (PW.pt (nD (aZ (gA b.units) (aJ bQ (aI o1j b rfl (aA (pv 0) (aA aF aD))) aF) aF) (jQ (aZ GV (bB OU rfl T.z_abs EC (aA (pv 2) aD)) (aJ rC aF aF))))) (aH (aU (pv 2))) bL)
   (aH (aU (aI o1p b rfl (aA (pv 2) (aA (pv 1) aD))))))),?_}
 try dsimp only[aR,bC]
 w_on;apply {a,C,i,rfl,B,g,fun D=>?_};apply {a,C,0,rfl,B,L0 0,fun J=>?_};refine rH (fun c=>?_) (fun c=>?_)
 ·w_on;refine rH (fun G=>?_) (fun G=>?_)
  ·w_on;exact q _
  ·w_on;apply {D,i,rfl,g,o,fun r=>?_};exact q _
 ·w_on;apply {D,i,rfl,g,o,fun r=>?_};exact q _
theorem Ky:cB P w K mg base (k+1) "_law_low" ["_law_top","_law_bottom"] FO:=by
 refine cB.of vE.d28 CM (by walk_at"ln") fun f O A G s H vs Q E hr h=>?_;obtain ⟨t,b,rfl,hb,a',D,q⟩:=h;refine {_,(aE (eA 2 CM.nd (bB OU rfl T.z_abs EC (aA (pv 0) aD)))
   (aE (eA 3 CM.nd (pv 1))
   (aE (sS B4 (aZ WP (pv 3) aF) (aH (Ki rfl CM.nd (i:=2) (j:=3) rfl rfl (by decide) rfl rfl (aA (pv 3) (aA (aJ bQ (pv 2) (pv 3)) aD)) rfl)))
   (aH (aU (bM (aA (aJ bE (pv 0) (pv 2)) (aA (aJ bE (pv 1) (pv 2)) aD)))))))),?_}
 try dsimp only[aR,bC]
 w_on;refine wK (fun o I=>∃m g:Int,o=[some (.int t),some (.int b),some (.int m),some (.int g)]/\I=H/\0<=m/\0<=g/\m7 m g=m7 t b)
  (fun o _=>match o with|[_,_,_,some (.int z)]=>z.toNat|_=>0) {_,_,rfl,rfl,by split <;> lia,by lia,?_} ?_ ?_
 ·have e:(if t<0 then -t else t)=(t.natAbs:Int):=by split <;> lia
  rw[e];simp[m7]
 ·rintro o I ⟨m,g,rfl,rfl,h1,X,M⟩;w_on;refine rH (fun c=>?_) (fun c=>?_)
  ·w_on;refine {{_,_,rfl,rfl,X,r9 _ (by lia),by rw[YH c];exact M},?_};have:=n6 m c;show (m%g).toNat<g.toNat;lia
  ·have e:g=0:=by lia
   subst e;have C:b≠0:=by lia
   have B:m=(m7 t b:Int):=by rw[←M,Int.gcd_zero_right];lia
   have Z:(m7 t b:Int).natAbs<=b.natAbs:=by have:=tu (by lia) (vi t b);lia
   have W:(m7 t b:Int)=sg t b:=by unfold sg;rw[if_neg (by lia)]
   subst B;w_on;rw[W];have J:∀z,pN z (sg t b):=fun _=>{AS C,Sm.le (by rw[tW];lia) D}
   apply iH (J _) ?_;apply iH (J _) ?_;apply bD fun p hp=>?_;exact q p hp
 ·intro o H Q Q' Y h;obtain ⟨v,B,i,j,R,S,N,U,q'⟩:=h;exact {v,B,i,j,R,S,N,U,Y _ _ q'}
theorem WT:cB P w K mg base (k+1) "_law_posts" ["_law_number_here"] AI:=by
 refine cB.of vE.d29 eB (by walk_at"ln") fun f f' A d' s H vs Q E hr h=>?_;obtain ⟨c,rfl,q⟩:=h;refine {_,(aE (eA 1 eB.nd aP)
   (aE (eA 2 eB.nd (aJ bG aF (aJ bQ (pv 0) aF)))
   (aE (eA 3 eB.nd (aJ bQ (aJ bE (pv 0) aF) aF))
   (aE (eA 0 eB.nd (aJ bE (pv 0) aF))
   (aE (eA 4 eB.nd aP)
   (aE (fZ B4 rfl (jW rfl T.z_range (aA (pv 3) aD)) (sT 5 eB.nd) (aE (eA 4 eB.nd (aJ bG (pv 4) (aN aQ (pv 1) (aJ bQ (pv 0) aF))))
   (aH (eA 0 eB.nd (aJ bE (pv 0) aF)))))
   (aE (eA 6 eB.nd (aJ bQ (pv 0) (aJ bG (pv 3) aF)))
   (aE (eA 0 eB.nd (aJ bE (pv 0) aF))
   (aE (eA 7 eB.nd (cJ aD))
   (aE (fZ B4 rfl (jW rfl T.z_range (aA (pv 2) aD)) (sT 5 eB.nd) (aE (eA 8 eB.nd (aN aQ (cJ (aA aP (aA aP (aA aP (aA aP (aA aP (aA aP aD))))))) (aJ bQ (aJ bG (aJ bE (pv 0) aF) (pv 5)) aF)))
   (aE (eA 9 eB.nd (aN aQ (pv 1) (aJ bQ (aJ bG (pv 0) (aJ cK aF (pv 5))) aF)))
   (aH (dL (jO E3 A7 A0 cZ (pv 7) (aA (aJ bG (aJ bG (aJ bG (GQ UT (pv 4) NQ (NP (pv 6))) (pv 9)) (GQ UT (pv 4) (NP (pv 6)) NQ)) (pv 8)) aD)))))))
   (aH (aU (pv 7))))))))))))),?_}
 try dsimp only[aR,bC]
 have X:Mu.length<=100000:=by rw[OW];decide
 w_on;have a0:=r9 c (show (7:Int)≠0 by decide);have a1:=n6 c (show (0:Int)<7 by decide);have b0:=r9 (c.fdiv 7) (show (8:Int)≠0 by decide);have b1:=n6 (c.fdiv 7) (show (0:Int)<8 by decide);generalize c%7=I at *;generalize c.fdiv 7%8=B at *;generalize c.fdiv 56=a';refine pR (by lia) (by lia) ?_;refine pS (n:=B.toNat) (fun i R G=>∃(C:Int)(z:Str)(O:Option V),R=[some (.int C),some (.str Mu),some (.int (2+I)),some (.int B),some (.str z),O,none,none,none,none]/\G=H/\z.length=i/\Vx (cl z)) {a',_,_,rfl,rfl,by k_is,fun c h=>by have h':c∈([]:List Nat):=h;cases h'} ?_ ?_
 ·intro P' e' b' J;rintro i R G hi ⟨C,z,O,rfl,rfl,hz,hL⟩;obtain ⟨j,hj,ej⟩:∃j:Nat,j<26/\C%26=(j:Int):={(C%26).toNat,by lia,by lia}
  w_on;rw[ej];refine NF X (EH j hj) ?_;have h1:(⟨#[97+j]⟩:Str).length=1:=rfl;refine qY (by rw[h1];lia) ?_;w_on;refine J _ _ _ {_,_,_,rfl,rfl,by rw[vY,h1];lia,fun c S=>?_};rw[DX]at S;rcases u9.mp S with h|h
  ·exact hL c h
  ·have h':c∈[97+j]:=h;rw[i9.mp h'];lia
 rintro R G ⟨C,z,O,rfl,rfl,hz,hL⟩;w_on;apply dH fun ln N=>?_;have p0:=r9 C (show B+1≠0 by lia);have p1:=n6 C (show 0<B+1 by lia);generalize C%(B+1)=g at *;generalize C.fdiv 8=m;have e1:=Oo (z:=z) (i:=g) p0 (by lia);have e2:=Af (z:=z) (i:=g) p0 (by lia);have k':=wv z none (some g);have l':=wv z (some g) none;refine pR (by lia) (by lia) ?_;refine pS (n:=(2+I).toNat) (fun i R W=>∃(U:List Str)(O o8 o9:Option V),R=[some (.int m),some (.str Mu),some (.int (2+I)),some (.int B),some (.str z),O,some (.int g),some (.ref ln),o8,o9]/\Kp ln G W/\W ln=some (.lst (U.map V.str))/\U.length=i/\Np ((cl z).take g.toNat) m U/\∀x∈U,Nq x/\Sw x) {[],_,_,_,rfl,Kp.new N,aC,rfl,fun k x h=>(by simp at h),fun x h=>nomatch h} ?_ ?_
 ·intro P' e' b' J;rintro i R W hi ⟨U,O,o8,o9,rfl,kp,D,M,hD,hN⟩;w_on;apply xN fun l6 G2 i' s1 Y=>?_;obtain ⟨t,et,ht,c',j'⟩:=at6 ((m.fdiv 26+(0+(i:Int)))%6) (r9 _ (by decide)) (n6 _ (by decide));refine iW Y et ?_;obtain ⟨j,hj,ej⟩:∃j:Nat,j<26/\(m+3*(0+(i:Int)))%26=(j:Int):={((m+3*(0+(i:Int)))%26).toNat,by lia,by lia}
  w_on;rw[ej];refine NF X (EH j hj) ?_;have h1:(⟨#[97+j]⟩:Str).length=1:=rfl;have g':=s1 _ _ D;w_on;apply VP (by lia) ?_;apply qY (by lia) ?_;apply VP (by lia) ?_;refine qY (by rw[vY];lia) ?_;w_on;refine qY (by rw[vY,vY];lia) ?_;have en:cl (fz z none (some g)++(⟨#[97+j]⟩:Str)++fz z (some g) none++t)=(cl z).take g.toNat++(97+j)::((cl z).drop g.toNat++cl t):=by rw[DX,DX,DX,e1,e2,D6,D6];rfl
  generalize fz z none (some g)++(⟨#[97+j]⟩:Str)++fz z (some g) none++t=nm at en⊢;w_on;refine gX (s1 _ _ D) (by rw[j6];lia) ?_;w_on;refine J _ _ _ {U++[nm],_,_,_,rfl,(kp.trans s1.kp).trans Kp.upd,by rw[B6];exact aC,by rw[m8,M];rfl,hD.snoc (by rw[en,M,show ((m+3*(i:Int))%26).toNat=j by lia]),fun x Z=>?_};rcases u9.mp Z with h|h
  ·exact hN x h
  ·rw[i9.mp h];have m':(cl z).length<=7:=by rw[YR];lia
   exact {Rc en (fun c S=>hL c (jz S)) (by lia) (fun c S=>hL c (xo S)) c',trivial}
 rintro R W ⟨U,O,o8,o9,rfl,kp,D,M,hD,hN⟩;w_on;exact q ln W U N (fun b o h=>kp _ _ (aB h N) h) D (by lia) (by lia) (hD.nodup (by lia)) (fun x Z=>(hN x Z).1) (fun x Z=>(hN x Z).2)
theorem Ch:cB P w K mg base (k+1) "_law_time" ["_law_number_here"] FF:=by
 refine cB.of vE.d30 Ak (by walk_at"ln") fun f m A g s H N Q E G h=>?_;obtain ⟨c,rfl,q⟩:=h;refine {_,(aH (aU (aJ bG aF (aJ bQ (aJ bE (pv 0) aF) (aN aQ (cJ (aA aF (aA aF (aA aF (aA (aJ rC aF aF) aD))))) (aJ bQ (pv 0) aF)))))),?_}
 try dsimp only[aR,bC]
 w_on;apply sO ?_;apply xN fun I D B C b=>?_;obtain ⟨t,o,i⟩:=Tu (x0:=9) (x1:=9) (x2:=1000) (x3:=1000000000000000000000000000000) (fun z=>0<z/\z<=10^31) (by decide) (by decide) (by decide) (by decide) (c%4) (r9 _ (by decide)) (n6 _ (by decide));refine iW b o ?_;refine oV i.1 ?_;have J:=r9 (c.fdiv 4) (show t≠0 by lia);have M:=n6 (c.fdiv 4) i.1;generalize c.fdiv 4%t=z at *;w_on;exact q _ _ C (by lia) (by lia)
theorem WV:cB P w K mg base (k+1) "_law_grown" ["_law_here_here","_law_number_here","_law_extra"] MJ:=by
 refine cB.of vE.d31 mD (by walk_at"ln") fun f g' A d' s H vs Q E J h=>?_;obtain ⟨dd,U,u,rs,ps,ts,ln,lr,lp,lt,c,rfl,hQ,n2,n8,rl,e1,e2,e3,e4,e5,q⟩:=h;refine {_,(aE (eA 3 mD.nd aP)
   (aE (eA 4 mD.nd (aJ bG (aJ bG aF (aJ bE (pv 2) aF)) (aJ bQ (pv 1) (aJ lU (pv 2) (aJ bE (pv 2) aF)))))
   (aE (eA 1 mD.nd (aJ bE (pv 1) aF))
   (aH (fZ B4 rfl (jW rfl T.z_range (aA (pv 4) aD)) (sT 5 mD.nd) (aE (dL (jO E3 A7 A0 cZ (aS J.u1 (pv 0) aP) (aA (aJ bG (aJ bG (aJ bG aP (aN aQ (pv 3) (aJ bE (pv 5) aF))) aP) (aN aQ (pv 3) (aJ bQ (pv 5) aF))) aD)))
   (aE (eA 6 mD.nd (aJ lU (bB hX rfl T.z_len fA (aA (aS J.u1 (pv 0) aP) aD)) aF))
   (aH (dL (jO E3 A7 A0 cZ (aS J.u1 (pv 0) aP) (aA (bM (aA (bB (IJ rfl) rfl T.z_max yY (aA aF (aA (aJ lU (aJ lU (pv 6) aF) (aJ cK (aJ bQ (pv 1) aF) (aJ bQ (pv 5) aF))) aD))) (aA (pv 6) (aA (aJ bG aF (aJ bQ (aJ bG (aJ bE (pv 1) aF) (aJ cK (pv 5) (pv 5))) aF)) aD)))) aD))))))))))),?_}
 try dsimp only[aR,bC]
 have S:Mu.length<=100000:=by rw[OW];decide
 w_on;have a':Int.fdiv 24 3=8:=by decide
 rw[a'];obtain ⟨g,hm⟩:∃g,1+8+c%(24-8)=g:={_,rfl}
 rw[hm];have a0:9<=g:=by lia
 have a1:g<=24:=by lia
 generalize c.fdiv 128=B;refine pR (by lia) (by lia) ?_;refine pS (n:=(g).toNat) (fun i σ G=>∃(m:List (Int×Int×Int)) (o5 o6:Option V),σ=[some (.ref dd),some (.int B),some (.int 24),some (.str Mu),some (.int (g)),o5,o6]/\Kq ln lr H G/\fX G dd (grown U i) u (rs++m) ps ts ln lr lp lt/\m.length=i/\∀r∈m,0<=r.1/\r.1<U.length+i/\0<=r.2.1/\r.2.1<U.length+i/\1<=r.2.2/\r.2.2<=10^31) {[],_,_,rfl,fun _ _ _ _ h=>h,by rw[K4];unfold grown;rw[List.range_zero,vw,K4];exact hQ,rfl,fun _ h=>nomatch h} ?_ ?_
 ·intro P' i' f' b';rintro i σ G hi ⟨m,o5,o6,rfl,kq,N,hl,I⟩;have h':i<24:=by lia
  w_on;refine bZ (.inl N.d) kL ?_;have W:=N.nm;w_on;have j1:(0+(i:Int)).fdiv 26=((i/26:Nat):Int):=by rw[uq _ (by decide)];lia
  have j2:(0+(i:Int))%26=((i%26:Nat):Int):=by lia
  rw[j1];apply NF S (EH (i/26) (by lia)) ?_;refine qY (by show 4+1<=_;decide) ?_;w_on;refine qY (by show (5:Nat)+1<=_;decide) ?_;w_on;rw[j2];apply NF S (EH (i%26) (by lia)) ?_;refine qY (by show (6:Nat)+1<=_;decide) ?_;w_on;have en:K5 "q.q."++(⟨#[97+i/26]⟩:Str)++K5 "."++(⟨#[97+i%26]⟩:Str)=SK i:=rfl;rw[en];refine gX W (by rw[j6,iK];lia) ?_;have D:=N.nam e1 e2 e3 (SK i);rw[←KH]at D;have k1:Kq ln lr H (L2.upd G ln (.lst ((grown U i).map V.str++[.str (SK i)]))):=fun p o M R h=>aW M (kq p o M R h);generalize L2.upd G ln (.lst ((grown U i).map V.str++[.str (SK i)]))=G1 at D k1⊢;clear N W kq;have e':=D.nm;w_on;apply bZ (.inl D.d) kL ?_;rw[j6,iK];refine bZ (.inl D.d) cP ?_;obtain ⟨vr,Y,Z⟩:=id D.rq;have c':=Paired.length Z;rw[m8]at c';w_on;have m0:=Int.mul_nonneg (r9 B (show (2:Int)≠0 by decide)) (r9 (0+(i:Int)) (show (3:Int)≠0 by decide));generalize B%2*((0+(i:Int))%3)=pp at m0⊢;have t0:=r9 (B.fdiv 2+(0+(i:Int))*(0+(i:Int))) (show (9:Int)≠0 by decide);have t1:=n6 (B.fdiv 2+(0+(i:Int))*(0+(i:Int))) (show (0:Int)<9 by decide);generalize (B.fdiv 2+(0+(i:Int))*(0+(i:Int)))%9=O at t0 t1⊢;obtain ⟨x,hx⟩:∃x,(if ((U.length+(i+1):Nat):Int)-1-1-pp>0 then ((U.length+(i+1):Nat):Int)-1-1-pp else 0)=x:={_,rfl}
  rw[hx];have x0:0<=x:=by rw[←hx];split <;> lia
  have M:x<U.length+((i+1:Nat):Int):=by rw[←hx];split <;> lia
  clear hx;generalize hy:((U.length+(i+1):Nat):Int)-1=y;refine bD fun p hp=>?_;have C:=aK.new (o:=.tup [.int x,.int y,.int (1+O)]) hp;have X:=aC (H:=G1) (a:=p) (o:=.tup [.int x,.int y,.int (1+O)]);have k2:Kq ln lr H (L2.upd G1 p (.tup [.int x,.int y,.int (1+O)])):=fun a o M R h=>aO hp (k1 a o M R h);generalize L2.upd G1 p (.tup [.int x,.int y,.int (1+O)])=G2 at C X k2 ⊢;w_on;apply gX (C _ _ Y) (by lia) ?_;have g2:=(D.sm C).rnn (x:=(x,y,1+O)) (C _ _ Y) (Pd.imp Z fun v b f=>f.tk C.tk) {p,rfl,X} e1 e4 e5;rw[D6]at g2;refine b' _ _ _ {m++[(x,y,1+O)],_,_,rfl,fun a o M R h=>aW R (k2 a o M R h),g2,by rw[m8,hl];rfl,fun r J=>?_};rcases u9.mp J with h|h
  ·have:=I r h;lia
  ·rw[i9.mp h];dsimp only;lia
 rintro σ G ⟨m,o5,o6,rfl,kq,N,hl,I⟩;w_on;exact q G _ m kq (by lia) N (by lia) (by intro r J;have:=I r J;lia)
include o1l o1r o1v o1o in
theorem Cj:cB P w K mg base (k+1) "_law_here" ["_law_script","_law_most","_law_extra"] (FS K):=by
  refine cB.of vE.d32 fR (by walk_at"ln") fun f R' A L' s H vs Q E O h=>?_;obtain ⟨a,ns,rfl,hS,S',q⟩:=h;refine {_,(aE (eA 3 fR.nd (aI o1r O rfl (aA (aI o1l O rfl (aA (pv 0) (aA aF aD))) aD)))
      (aE (eA 4 fR.nd (aI o1l O rfl (aA (pv 0) (aA aF aD))))
      (aE (eA 4 fR.nd (aJ bG aF (aJ bQ (aJ bE (pv 4) aF) (aN aQ (cJ (aA aF (aA aF (aA aF (aA (aJ rC aF aF) aD))))) (aJ bQ (pv 4) aF)))))
      (aE (eA 5 fR.nd (Ca (oW aP (pv 3) (oW aP (pv 4) (oW aP (cJ aD) (oW aP (cJ aD) (oW aP (cJ aD) Bv))))) rfl rfl (List.cons_ne_nil _ _) (F4 rfl)))
      (aE (fZ B4 rfl (BD rfl T.z_range (aA aF (aA (bB (IJ rfl) rfl T.z_max yY (aA aF (aA (bB (OT rfl) rfl T.z_min DZ (aA (bB hX rfl T.z_len fA (aA (pv 0) aD)) (aA (pv 1) aD))) aD))) aD))) (sT 6 fR.nd) (aE (eA 7 fR.nd (aI o1l O rfl (aA (pv 0) (aA (pv 6) aD))))
      (aE (eA 8 fR.nd (aJ bQ (pv 7) aF))
      (aE (eA 9 fR.nd (aJ bQ (aJ bE (pv 7) aF) (bB hX rfl T.z_len fA (aA (pv 3) aD))))
      (aE (eA 10 fR.nd (aJ bQ (aJ bG (aJ bG (pv 9) aF) (aJ bQ (aJ bE (pv 7) aF) (aJ lU (bB hX rfl T.z_len fA (aA (pv 3) aD)) aF))) (bB hX rfl T.z_len fA (aA (pv 3) aD))))
      (aH (cE (PW.pt (oF (aZ sW (pv 8) aF) (jF (aZ (gA O.units) (aS O.u1 (pv 5) aP) (cJ aD))))) (aH (dL (jO E3 A7 A0 cZ (aS O.u1 (pv 5) aP) (aA (bM (aA (pv 9) (aA (pv 10) (aA (aI o1v O rfl (aA (aJ bE (pv 7) aF) aD)) aD)))) aD)))) (aH (cE (aZ sW (pv 8) aF) (aE (eA 11 fR.nd (aJ bQ (aJ bE (pv 7) aF) (aN aQ (cJ (aA aF (aA aF (aA aF (aA (aJ rC aF aF) aD))))) (aJ bQ (aJ bE (pv 7) aF) aF))))
      (aH (dL (jO E3 A7 A0 cZ (aS O.u1 (pv 5) aP) (aA (bM (aA (pv 9) (aA (pv 11) aD))) aD))))) (aE (eA 11 fR.nd (aJ bQ (aJ bE (pv 7) aF) (aN aQ (cJ (aA aF (aA aF (aA aF (aA (aJ rC aF aF) aD))))) (aJ bQ (pv 10) aF))))
      (aH (dL (jO E3 A7 A0 cZ (aS O.u1 (pv 5) aP) (aA (bM (aA (aJ bQ (aJ bE (pv 7) aF) (bB hX rfl T.z_len fA (aA (aS O.u1 (pv 5) aP) aD))) (aA (pv 11) aD))) aD))))))))))))))
      (aE (eA 7 fR.nd (aJ bE (aI o1l O rfl (aA (pv 0) (aA aF aD))) aF))
      (aE (cE (aZ (gA O.units) (aJ bQ (pv 7) aF) aF) (aH (dL (aI o1o O rfl (aA (pv 5) (aA (aJ bE (pv 7) aF) (aA (pv 2) aD)))))) bL)
      (aH (aU (pv 5)))))))))),?_}
  try dsimp only[aR,bC]
  w_on;apply {a,ns,1,rfl,hS,by decide,by decide,fun r1=>?_};apply {r1,rfl,fun ln H1 U E' s1 hU r' s' t' C' u'=>?_};apply {a,ns,2,rfl,s1.seq hS,by decide,by decide,fun r2=>?_};apply Ar ?_;refine dH fun l4 b'=>?_;have s2:=s1.trans (aK.new (o:=.lst [V.int 1,V.int 12,V.int 60,V.int 1000000000000]) b');have a':=aO (o:=.lst [V.int 1,V.int 12,V.int 60,V.int 1000000000000]) b' hU;have R:=aC (H:=H1) (a:=l4) (o:=.lst [V.int 1,V.int 12,V.int 60,V.int 1000000000000]);generalize L2.upd H1 l4 (.lst [V.int 1,V.int 12,V.int 60,V.int 1000000000000])=H2 at s2 R a' ⊢;w_on;obtain ⟨t,et,ht⟩:=Tu (x0:=1) (x1:=12) (x2:=60) (x3:=1000000000000) (fun z=>0<z/\z<=10^12) (by decide) (by decide) (by decide) (by decide) (r2%4) (r9 _ (by decide)) (n6 _ (by decide));refine iW R et ?_;refine oV ht.1 ?_;have m0:=r9 (r2.fdiv 4) (show t≠0 by lia);have m1:=n6 (r2.fdiv 4) ht.1;generalize r2.fdiv 4%t=z at *;w_on;generalize hu:1+z=u;have u0:0<u:=by lia
  have u1:u<=10^12:=by lia
  clear R et hU m0 m1 ht hu;refine Bb fun Y d'=>?_;have sd:=aK.new (o:=.dK []) d';w_on;apply dH fun W S=>?_;apply dH fun Z J=>?_;refine dH fun lt M=>?_;have i':H2 W=none:=sd.free S;have sr:=sd.trans (aK.new (o:=.lst []) S);have h':H2 Z=none:=sr.free J;have sp:=sr.trans (aK.new (o:=.lst []) J);have j':H2 lt=none:=sp.free M;have st:=sp.trans (aK.new (o:=.lst []) M);have y':Y≠W:=aB aC S;have x':Y≠Z:=aB (aO S aC) J;have z':Y≠lt:=aB (aO J (aO S aC)) M;have J':W≠Z:=aB aC J;have K':W≠lt:=aB (aO J aC) M;have I':Z≠lt:=aB aC M;refine RG (aO M (aO J (aO S aC))) ?_;have G0:lO H2 (L2.upd (L2.upd (L2.upd (L2.upd (L2.upd H2 Y (.dK [])) W (.lst [])) Z (.lst [])) lt (.lst [])) Y (.dK (cL ln u W Z lt))) Y U u [] [] [] ln W Z lt 0:=
    {{u0,u1,r',s',(fun _ h=>nomatch h),(fun _ h=>nomatch h),(fun _ h=>nomatch h),k7 _},
     {{[],aC},aW (aB a' d') (st _ _ a'),{[],aW (u7 y') (aO M (aO J aC)),.nil},{[],aW (u7 x') (aO M aC),.nil},{[],aW (u7 z') aC,.nil}},
     Kp.upd.sm st d',i',h',j',J',K',I',(fun z=>nomatch z),aC}
  generalize L2.upd (L2.upd (L2.upd (L2.upd (L2.upd H2 Y (.dK [])) W (.lst [])) Z (.lst [])) lt (.lst [])) Y (.dK (cL ln u W Z lt))=H3 at G0⊢;have p':ln≠W:=aB a' i';have A':ln≠Z:=aB a' h';have B':ln≠lt:=aB a' j';have v':H Y=none:=s2.free d';clear sd sr sp st S J M y' x' z' b';w_on;apply xP (s2.trans G0.s |>.seq hS) ?_;rw[j6];generalize w':(if (if (23:Int)<(ns.length:Int) then 23 else (ns.length:Int))>4 then (if (23:Int)<(ns.length:Int) then 23 else (ns.length:Int)) else 4)=mx;have x0:4<=mx:=by rw[←w'];split <;> split at*<;> lia
  have x1:mx<=23:=by rw[←w'];split <;> split at*<;> lia
  refine ND (by decide) (by decide) (by lia) (by lia) ?_;refine pS (n:=(mx-3).toNat) (fun i σ G=>∃(rs:List (Int×Int×Int)) (ps ts:List (Int×Int)) (o5 o6 o7 o8 o9 q':Option V),σ=[some (.ref a),some (.int 23),some (.int 24),some (.ref ln),some (.int u),some (.ref Y),o5,o6,o7,o8,o9,q']/\lO H2 G Y U u rs ps ts ln W Z lt i) {[],[],[],_,_,_,_,_,_,rfl,G0} ?_ ?_
  . intro P' X' Q' c'
    rintro i σ G hi ⟨rs,ps,ts,o5,o6,o7,o8,o9,q',rfl,g⟩;have sG:=s2.trans g.s;w_on;apply {a,ns,_,rfl,sG.seq hS,by lia,by lia,fun D=>?_};apply xO g.q.nm ?_;rw[j6];refine oV (by lia) ?_;have a0:=r9 (D.fdiv 8) (show (U.length:Int)≠0 by lia);have a1:=n6 (D.fdiv 8) (show (0:Int)<U.length by lia);generalize D.fdiv 8%(U.length:Int)=aa at *;w_on;apply xO g.q.nm ?_;rw[j6];refine oV (by lia) ?_;generalize D.fdiv 64%((U.length:Int)-1)=m';w_on;apply xO g.q.nm ?_;rw[j6];refine oV (by lia) ?_;have b0:=r9 (aa+1+m') (show (U.length:Int)≠0 by lia);have b1:=n6 (aa+1+m') (show (0:Int)<U.length by lia);generalize (aa+1+m')%(U.length:Int)=bb at *;w_on;refine rH (fun c1=>?_) (fun c1=>?_)
    . w_on
      refine bZ (.inl g.q.d) cP ?_;obtain ⟨vr,C,I⟩:=id g.q.rq;have n':=Paired.length I;have e':=g.i.len;w_on;apply {_,rfl,fun tm G1 X t0 t1=>?_};refine bD fun p hp=>?_;have B:=X.trans (aK.new (o:=.tup [.int aa,.int bb,.int tm]) hp);have N:=aC (H:=G1) (a:=p) (o:=.tup [.int aa,.int bb,.int tm]);generalize L2.upd G1 p (.tup [.int aa,.int bb,.int tm])=G2 at B N ⊢;w_on;apply gX (B _ _ C) (by lia) ?_;exact c' _ _ _ {_,_,_,_,_,_,_,_,_,rfl,(g.sm B).run (x:=(aa,bb,tm)) (B _ _ C) (Pd.imp I fun v b f=>f.tk B.tk) {p,rfl,N} {a0,a1,b0,b1,t0,t1} p'}
    . w_on
      refine bZ (.inl g.q.d) cP ?_;obtain ⟨O',k',l'⟩:=id g.q.rq;w_on;refine xN fun le G0 U' se g'=>?_;have g0:=g.sm se;refine Mf (se _ _ k') (Pd.imp l' fun v b f=>f.tk se.tk) g' ?_;clear g' k' l' O';w_on;refine rH (fun f'=>?_) (fun f'=>?_)
      . w_on
        refine bZ (.inl g0.q.d) cP ?_;obtain ⟨vr,C,I⟩:=id g0.q.rq;have n':=Paired.length I;have e':=g0.i.len;w_on;apply {_,rfl,fun tm G1 X t0 t1=>?_};refine bD fun p hp=>?_;have B:=X.trans (aK.new (o:=.tup [.int aa,.int bb,.int tm]) hp);have N:=aC (H:=G1) (a:=p) (o:=.tup [.int aa,.int bb,.int tm]);generalize L2.upd G1 p (.tup [.int aa,.int bb,.int tm])=G2 at B N ⊢;w_on;apply gX (B _ _ C) (by lia) ?_;exact c' _ _ _ {_,_,_,_,_,_,_,_,_,rfl,(g0.sm B).run (x:=(aa,bb,tm)) (B _ _ C) (Pd.imp I fun v b f=>f.tk B.tk) {p,rfl,N} {a0,a1,b0,b1,t0,t1} p'}
      . w_on
        refine rH (fun c2=>?_) (fun c2=>?_)
        . w_on
          apply sO ?_;apply xN fun l4 G1 b' X R=>?_;obtain ⟨t,et,ht⟩:=Tu (x0:=12) (x1:=12) (x2:=1000) (x3:=1000000000000000000000000000000) (fun z=>0<z/\z<=10^105) (by decide) (by decide) (by decide) (by decide) (D.fdiv 8%4) (r9 _ (by decide)) (n6 _ (by decide));refine iW R et ?_;refine oV ht.1 ?_;have m0:=r9 (D.fdiv 64) (show t≠0 by lia);have m1:=n6 (D.fdiv 64) ht.1;generalize D.fdiv 64%t=o' at *;have g1:=g0.sm X;w_on;refine bZ (.inl g1.q.d) pF ?_;obtain ⟨vr,C,I⟩:=id g1.q.pq;have n':=Paired.length I;have e':=g1.i.len;w_on;apply JM fun p G2 hp B N=>?_;apply gX (B _ _ C) (by lia) ?_;exact c' _ _ _ {_,_,_,_,_,_,_,_,_,rfl,(g1.sm B).pus (x:=(aa,o')) (B _ _ C) (Pd.imp I fun v b f=>f.tk B.tk) {p,rfl,N} {a0,a1,m0,by lia} A' f'}
        . w_on
          apply sO ?_;apply xN fun l4 G1 b' X R=>?_;obtain ⟨t,et,ht⟩:=Tu (x0:=12) (x1:=30) (x2:=1000) (x3:=1000000000000000000000000000000) (fun z=>0<z/\z<=10^105) (by decide) (by decide) (by decide) (by decide) (bb%4) (r9 _ (by decide)) (n6 _ (by decide));refine iW R et ?_;refine oV ht.1 ?_;have m0:=r9 (D.fdiv 512) (show t≠0 by lia);have m1:=n6 (D.fdiv 512) ht.1;generalize D.fdiv 512%t=o' at *;have g1:=g0.sm X;w_on;refine bZ (.inl g1.q.d) nJ ?_;obtain ⟨vr,C,I⟩:=id g1.q.tq;obtain ⟨vz,V',M'⟩:=id g1.q.rq;have n':=Paired.length I;have W':=Paired.length M';have e':=g1.i.len;have G':0<rs.length:=Z4.mpr f';w_on;apply bZ (.inl g1.q.d) cP ?_;have w0:=r9 (D.fdiv 8) (show (vz.length:Int)≠0 by lia);generalize D.fdiv 8%(vz.length:Int)=wh at *;w_on;apply JM fun p G2 hp B N=>?_;apply gX (B _ _ C) (by lia) ?_;exact c' _ _ _ {_,_,_,_,_,_,_,_,_,rfl,(g1.sm B).tak (x:=(wh,o')) (B _ _ C) (Pd.imp I fun v b f=>f.tk B.tk) {p,rfl,N} {w0,m0,by lia} B' f'}
  rintro σ G ⟨rs,ps,ts,o5,o6,o7,o8,o9,q',rfl,g⟩;w_on;have hi:=g.i;have e':=hi.len;have G':0<rs.length:=Z4.mpr (g.m (by lia));apply {a,ns,2,rfl,(s2.trans g.s).seq hS,by decide,by decide,fun r3=>?_};refine rH (fun c=>?_) (fun c=>?_)
  . w_on
    apply {Y,U,u,rs,ps,ts,ln,W,Z,lt,_,rfl,g.q,r',s',by lia,p',A',B',g.n1,g.n2,fun H' i N' kq T' hQ hl F'=>?_};have D':H W=none:=s2.free g.f1;refine q Y H' (grown U i) u (rs++N') ps ts ln W Z lt v' (fun b o h=>kq b o (aB h E') (aB h D') ((s2.trans g.s) b o h)) (by rw[iK,m8];lia) {hi.u0,hi.u1,YE t' C' i,by rw[iK];lia,by rw[iK];lia,fun r O=>?_,fun r O=>?_,hi.tok,by rw[m8];lia,by rw[m8];lia,by lia,by lia,QL u' i} hQ (let ⟨vr,C,_⟩:=g.q.rq;kq _ _ (uZ g.d0 g.q.nm) (uZ g.d0 C) g.d0)
    . rw[iK]
      rcases u9.mp O with h|h
      . have:=hi.rok r h
        lia
      . have:=F' r h
        lia
    . rw[iK]
      have:=hi.pok r O;lia
  . w_on
    exact q Y G U u rs ps ts ln W Z lt v' (s2.trans g.s) (by lia) {hi.u0,hi.u1,t',hi.n2,by lia,hi.rok,hi.pok,hi.tok,by lia,by lia,by lia,by lia,u'} g.q g.d0
include o2c in
theorem Kx:cB P w K mg base (k+1) "_law_net" ["_law_here_here"] MA:=by
 refine cB.of vE.d33 VC (by walk_at"ln") fun f g' A e' s H vs Q E I h=>?_;obtain ⟨dd,U,u,rs,ps,ts,ln,lr,lp,lt,rfl,hI,C,q⟩:=h;refine {_,(aE (eA 1 VC.nd (aS I.u1 (pv 0) aP))
   (aH (aU (eZ (dO (aG VF) ["_law_here_here","_law_names"] ["_law_a","_law_b","_law_time_here"] ["_law_names","_law_here_here"] [1,0]) rfl (cX (aS I.u1 (pv 0) aP)) (fun _ _ _ _=>(nF (n:=3) rfl (bA (Zn ["_law_a","_law_b","_law_time_here","_law_names","_law_here_here"] 0) (bA (Zn ["_law_a","_law_b","_law_time_here","_law_names","_law_here_here"] 1) (bA (Zn ["_law_a","_law_b","_law_time_here","_law_names","_law_here_here"] 2) eQ))))) (fun _ _ _ _=>(bM (aA (aN kK (pv 3) (pv 0)) (aA (aN kK (pv 3) (pv 1)) (aA (aI o2c I rfl (aA (pv 2) (aA (aS I.u1 (pv 4) aP) aD))) aD))))) (fun _ _ _ _=>fB))))),?_}
 try dsimp only[aR,bC]
 w_on;apply bZ (.inl C.d) kL ?_;refine bZ (.inl C.d) cP ?_;obtain ⟨vr,J,X⟩:=id C.rq;have d':vr.length=rs.length:=Paired.length X;have f':=hI.rl;w_on;refine cV (cS.of J) ?_;refine sR (xs:=vr) (by lia) (fun c i M G=>Kp c H G/\Paired (jK G) M (kn (eU U u (rs.take i)))) (fun c g=>{Kp.new g,.nil}) ?_ ?_ ?_
 ·rintro c i M G g _ ⟨kp,_⟩;exact cS.of (kp _ _ (aB J g) J)
 ·rintro c i M G x g hx W Z ⟨kp,pn⟩;obtain ⟨r,I,p,rfl,hp⟩:=Paired.at X hx;obtain ⟨r0,r1,r2,r3,r4,r5⟩:=hI.rok r (u8 I);have b':G p=some (.tup [.int r.1,.int r.2.1,.int r.2.2]):=kp _ _ (aB hp g) hp;have m:=kp _ _ (aB C.nm g) C.nm;have a':=kp _ _ (aB C.d g) C.d;have O:=Gp (U:=U) r0 r1;have R:=Gp (U:=U) r2 r3;have D:=Cn (U:=U) (u:=u) I;generalize jG U r.1=s1 at O D;generalize jG U r.2.1=s2 at R D;have u0:=hI.u0;have u1:=hI.u1;apply {p,_,_,_,rfl,b',?_};apply iW m O ?_;apply iW m R ?_;apply bZ (.inl a') pY ?_;refine {r.2.2,u,rfl,u0,On (by lia) (by lia),On (by lia) (by lia),fun B c'=>?_};have f1:cA (L2.upd G B (.tup [.int (dS r.2.2 u),.int (eJ r.2.2 u)])) (.ref B) (m5 r.2.2 u):=cA.low (by lia) aC;have t1:=aK.new (o:=.tup [.int (dS r.2.2 u),.int (eJ r.2.2 u)]) c';generalize L2.upd G B (.tup [.int (dS r.2.2 u),.int (eJ r.2.2 u)])=G1 at f1 t1⊢;w_on;refine bD fun q2 S=>?_;have Y:=t1.trans (aK.new (o:=.tup [.str s1,.str s2,.ref B]) S);have h2:=aC (H:=G1) (a:=q2) (o:=.tup [.str s1,.str s2,.ref B]);have f2:=f1.tk (aK.new (o:=.tup [.str s1,.str s2,.ref B]) S).tk;generalize L2.upd G1 q2 (.tup [.str s1,.str s2,.ref B])=G2 at Y h2 f2⊢;have tk:=TK.lst (o:=.lst (M++[.ref q2])) (Y _ _ Z);refine jJ (i5.mp hx).1 W (Y _ _ Z) {(kp.trans Y.kp).trans Kp.upd,?_};rw[D];exact Pd.snoc (Pd.imp pn fun v b f=>(jK.tk f Y.tk).tk tk) {q2,.ref B,rfl,tk _ _ h2,f2.tk tk}
 rintro c M G g Z W ⟨kp,pn⟩;w_on;rw[d',F7]at pn;exact q c G g (fun b o h=>kp _ _ (aB h g) h) {M,Z,pn}
theorem QH:cB P w K mg base (k+1) "_law_pushes" ["_law_here_here"] wR:=by
 refine cB.of vE.d34 AU (by walk_at"ln") fun f p' A m' s H vs Q E J h=>?_;obtain ⟨dd,U,u,M,ps,ts,ln,lr,lp,lt,rfl,hI,hQ,q⟩:=h;refine {_,(aE (eA 1 AU.nd (aJ bG (eZ (dO (aG oS) ["_law_here_here","_law_used"] ["_law_a","_law_b","_law_time_here"] [] []) rfl (cX (aS J.u1 (pv 0) aP)) (fun _ _ _ _=>(nF (n:=3) rfl (bA (Zn ["_law_a","_law_b","_law_time_here"] 0) (bA (Zn ["_law_a","_law_b","_law_time_here"] 1) (bA (Zn ["_law_a","_law_b","_law_time_here"] 2) eQ))))) (fun _ _ _ _=>(pv 0)) (fun _ _ _ _=>fB)) (eZ (dO (aG oS) ["_law_here_here","_law_used"] ["_law_a","_law_b","_law_time_here"] [] []) rfl (cX (aS J.u1 (pv 0) aP)) (fun _ _ _ _=>(nF (n:=3) rfl (bA (Zn ["_law_a","_law_b","_law_time_here"] 0) (bA (Zn ["_law_a","_law_b","_law_time_here"] 1) (bA (Zn ["_law_a","_law_b","_law_time_here"] 2) eQ))))) (fun _ _ _ _=>(pv 1)) (fun _ _ _ _=>fB))))
   (aH (aU (eZ (dO (aG oS) ["_law_here_here","_law_used"] ["_law_a","_law_moment"] ["_law_used"] [1]) rfl (cX (aS J.u1 (pv 0) aP)) (fun _ _ _ _=>(nF (n:=2) rfl (bA (Zn ["_law_a","_law_moment","_law_used"] 0) (bA (Zn ["_law_a","_law_moment","_law_used"] 1) eQ)))) (fun _ _ _ _=>(bM (aA (pv 0) (aA (pv 1) aD)))) (fun _ _ _ _=>(lG (aZ xW (pv 0) (pv 2) (by with_unfolding_all rfl)))))))),?_}
 try dsimp only[aR,bC]
 obtain ⟨vr,R,Y⟩:=id hQ.rq;have i':vr.length=M.length:=Paired.length Y;have n':=hI.rl;have o':=hI.pl;w_on;apply bZ (.inl hQ.d) cP ?_;refine cV (cS.of R) ?_;refine sR (xs:=vr) (by lia) (fun g i C G=>Kp g H G/\C=((M.take i).map (·.1)).map V.int) (fun g m=>{Kp.new m,rfl}) ?_ ?_ ?_
 ·rintro g i C G m _ ⟨kp,_⟩;exact cS.of (kp _ _ (aB R m) R)
 ·rintro g i C G x m S B O ⟨kp,rfl⟩;obtain ⟨r,J,p,rfl,hp⟩:=Paired.at Y S;have D:G p=some (.tup [.int r.1,.int r.2.1,.int r.2.2]):=kp _ _ (aB hp m) hp;apply {p,_,_,_,rfl,D,?_};exact jJ (i5.mp S).1 B O {kp.trans Kp.upd,by rw[lC J,B6,B6];rfl}
 rintro a1 r' G1 h1 Z c' ⟨k',rfl⟩;have s1:aK H G1:=fun b o h=>k' _ _ (aB h h1) h;have g':=hQ.sm s1;have I:=s1 _ _ R;have f':=Pd.imp Y fun v b f=>f.tk s1.tk;w_on;apply bZ (.inl g'.d) cP ?_;refine cV (cS.of I) ?_;refine sR (xs:=vr) (by lia) (fun g i C G=>Kp g G1 G/\C=((M.take i).map (·.2.1)).map V.int) (fun g m=>{Kp.new m,rfl}) ?_ ?_ ?_
 ·rintro g i C G m _ ⟨kp,_⟩;exact cS.of (kp _ _ (aB I m) I)
 ·rintro g i C G x m S B O ⟨kp,rfl⟩;obtain ⟨r,J,p,rfl,hp⟩:=Paired.at f' S;have D:G p=some (.tup [.int r.1,.int r.2.1,.int r.2.2]):=kp _ _ (aB hp m) hp;apply {p,_,_,_,rfl,D,?_};exact jJ (i5.mp S).1 B O {kp.trans Kp.upd,by rw[lC J,B6,B6];rfl}
 rintro a2 s' G2 h2 a' d' ⟨l',rfl⟩;have s2:aK G1 G2:=fun b o h=>l' _ _ (aB h h2) h;rw[i',F7]at Z a' c' d';rw[j6,j6]at c' d';w_on;refine CB (s2 _ _ Z) a' (by simp;lia) fun a3 h3=>?_;rw[←B6,show (ka (fun x=>x.1) M++ka (fun x=>x.2.1) M:List Int)=lB M from rfl];have s3:=(s1.trans s2).trans (aK.new (o:=.lst ((lB M).map V.int)) h3);have W:=aC (H:=G2) (a:=a3) (o:=.lst ((lB M).map V.int));generalize L2.upd G2 a3 (.lst ((lB M).map V.int))=G3 at s3 W ⊢;have b':=hQ.sm s3;obtain ⟨vp,X,e'⟩:=id b'.pq;have h':vp.length=ps.length:=Paired.length e';w_on;apply bZ (.inl b'.d) pF ?_;refine cV (cS.of X) ?_;refine VT (xs:=vp) (by lia) (fun g i C G=>Kp g G3 G/\Paired (gD G) C (iI M (ps.take i))) (fun g m=>{Kp.new m,.nil}) ?_ ?_ ?_
 ·rintro g i C G m _ ⟨kp,_⟩;exact cS.of (kp _ _ (aB X m) X)
 ·rintro g i C G x m S B O ⟨kp,pn⟩;obtain ⟨r,J,p,rfl,hp⟩:=Paired.at e' S;have hi:=(i5.mp S).1;have D:G p=some (.tup [.int r.1,.int r.2]):=kp _ _ (aB hp m) hp;have j':=kp _ _ (aB W m) W;apply {p,_,_,rfl,D,?_};apply Ga j' ?_;refine rH (fun c=>?_) (fun c=>?_)
  ·w_on;refine JM fun q2 G4 q' t2 h2=>?_;have tk:=TK.lst (o:=.lst (C++[.ref q2])) (t2 _ _ O);refine pH hi B (t2 _ _ O) {(kp.trans t2.kp).trans Kp.upd,?_};rw[Br J c];exact Pd.snoc (Pd.imp pn fun v b f=>(f.tk t2.tk).tk tk) {q2,rfl,tk _ _ h2}
  ·w_on;refine nK hi B O {kp,?_};rw[Kh J c];exact pn
 rintro g C G m O B ⟨kp,pn⟩;w_on;rw[h',F7]at pn;exact q g G (s3.free m) (s3.trans fun b o h=>kp _ _ (aB h m) h) {C,O,pn}
theorem WS:cB P w K mg base (k+1) "_law_taken" ["_law_here_here"] LR:=by
 refine cB.of vE.d35 sK (by walk_at"ln") fun f d' A b' s H vs Q E G h=>?_;obtain ⟨dd,U,u,rs,ps,ts,ln,lr,lp,lt,rfl,X,hQ,q⟩:=h;refine {_,(aE (eA 1 sK.nd mF)
   (aE (fZ B4 rfl (cX (aS G.u1 (pv 0) aP)) (lS (n:=2) rfl (bA (sT 2 sK.nd) (bA (sT 3 sK.nd) eQ))) (aH (iN G.u1 (pv 1) (pv 2) (bB (OT rfl) rfl T.z_min DZ (aA (pv 3) (aA (gZ G.u1 (pv 1) (pv 2) (pv 3) {rfl,rfl,rfl,rfl}) aD))) rfl)))
   (aH (aU (pv 1))))),?_}
 try dsimp only[aR,bC]
 have g':=X.tl;w_on;refine uA fun d Z=>?_;obtain ⟨H0,zE,s0,J⟩:=Tr Z (.dK []);rw[zE];have I:=hQ.sm s0;obtain ⟨vt,B,N⟩:=id I.tq;have a':vt.length=ts.length:=Paired.length N;w_on;apply bZ (.inl I.d) nJ ?_;refine cV (cS.of B) ?_;have M:∀{p:g6}{o:HO},H0 p=some o->(∀kv,o≠.dK kv)->p≠d:=fun {p o} h n e=>by rw[e,J]at h;cases h;exact n _ rfl
 refine sP (xs:=vt) (fun i S C=>∃(O R:Option V)(D:AL aL Int),S=[some (.ref dd),some (.ref d),O,R]/\Kp d H0 C/\DQ IQ C d D/\Mv u D (jM u (ts.take i))/\D.length<=i/\∀x∈D,0<=x.2/\x.2<=10^105) {_,_,[],rfl,Kp.refl _ _,{[],J,.nil},fun k=>rfl,k7 _,fun _ h=>nomatch h} ?_ ?_ ?_
 ·rintro i S C _ ⟨O,R,D,rfl,kp,_⟩;exact cS.of (kp _ _ (M B (by intro kv z;cases z)) B)
 ·intro P' h' c' Y;rintro i x S C hx ⟨O,R,D,rfl,kp,⟨kv,m,kq⟩,TT,W,g⟩;obtain ⟨r,G,p,rfl,hp⟩:=Paired.at N hx;have hi:=(i5.mp hx).1;obtain ⟨r1,r2,r3⟩:=X.tok r (u8 G);have f':=kp _ _ (M hp (by intro kv z;cases z)) hp;w_on;apply {d,rfl,.inl {kv,.inl m},?_};refine {_,.inl {kv,j5 r.1,.inl m,rfl,rfl},?_};rw[pG kq];w_on;rw[Gs];have e':=kq.len;apply oC (c:=j5 r.1) m (by lia) ?_;refine Y _ _ _ {_,_,XG D r,rfl,kp.trans Kp.upd,{_,aC,(kq.put rfl).imp fun v b f=>f},?_,B9 (zB _ _ _) (by lia),OF (P:=fun z=>0<=z/\z<=10^105) g {r2,r3}};rw[Ho G];exact TT.step X.u0
 rintro S C ⟨O,R,D,rfl,kp,dq,TT,W,g⟩;w_on;rw[a',F7]at TT;exact q d C D Z (fun b o h=>kp _ _ (aB h Z) (s0 _ _ h)) dq TT g
include o1m o1q in
theorem La:cB P w K mg base (k+1) "_law_due" ["_law_here_here"] Fk:=by
 refine cB.of vE.d36 fY (by walk_at"ln") fun f ai A Φ s H vs Q E C h=>?_;obtain ⟨dd,U,u,g,ps,R,ln,lr,lp,lt,rfl,O,hQ,q⟩:=h;refine {_,(aE (eA 1 fY.nd (aI o1q C rfl (aA (pv 0) aD)))
   (aE (eA 2 fY.nd mF)
   (aE (fZ B4 rfl (cX (aI o1m C rfl (aA (pv 0) aD))) (lS (n:=2) rfl (bA (sT 3 fY.nd) (bA (sT 4 fY.nd) eQ))) (aH (iN C.u1 (pv 2) (pv 3) (bB (OT rfl) rfl T.z_min DZ (aA (pv 4) (aA (gZ C.u1 (pv 2) (pv 3) (pv 4) {rfl,rfl,rfl,rfl}) aD))) rfl)))
   (aE (eA 5 fY.nd xT)
   (aE (sS B4 (eG (pv 5)) (aE (eA 5 fY.nd xT)
   (aE (eA 6 fY.nd (Bz rfl rfl T.z_list rfl T.z_range (aA (bB hX rfl T.z_len fA (aA (aS C.u1 (pv 0) aP) aD)) aD)))
   (aH (fZ B4 rfl (cX (aJ bG (pv 6) (Kl (pv 6)))) (sT 7 fY.nd) (aE (WD (aN aQ (aS C.u1 (pv 0) aP) (pv 7)) (lS (n:=3) rfl (bA (sT 8 fY.nd) (bA (sT 9 fY.nd) (bA (sT 10 fY.nd) eQ)))))
   (aH (fZ B4 rfl (cX (cJ (aA (bM (aA (pv 8) (aA (pv 9) aD))) (aA (bM (aA (pv 9) (aA (pv 8) aD))) aD)))) (lS (n:=2) rfl (bA (sT 11 fY.nd) (bA (sT 12 fY.nd) eQ))) (aH (cE (uB (CW C.u1 (pv 11) (pv 2))) (aE (eA 13 fY.nd (aJ bG (aS C.u1 (pv 2) (pv 11)) (pv 10)))
   (aH (cE (PW.pt (nD (aZ Gr (pv 13) (gZ C.u1 (pv 1) (pv 7) (pv 13) {rfl,rfl,rfl,rfl})) (jQ (aZ sW (pv 13) (gZ C.u1 (pv 2) (pv 12) (aJ bG (pv 13) aF) {rfl,rfl,rfl,rfl}))))) (aE (iN C.u1 (pv 2) (pv 12) (pv 13) rfl)
   (aH (eA 5 fY.nd xT))) bL))) bL))))))))))
   (aH (aU (pv 2)))))))),?_}
 try dsimp only[aR,bC]
 have af:=O.pl;have ar:=O.rl;have au:=Bs g ps;w_on;apply {dd,U,u,g,ps,R,ln,lr,lp,lt,rfl,O,hQ,fun dT H1 TB al s1 tq TT ak=>?_};refine uA fun d hd=>?_;have M':H d=none:=s1.free hd;have A':=aK.new (o:=.dK []) hd;have I':=aC (H:=H1) (a:=d) (o:=.dK []);have ζ:=tq.sm IQ.tk A';generalize L2.upd H1 d (.dK [])=H2 at A' I' ζ ⊢;have s2:=s1.trans A';have H':=hQ.sm s2;w_on;refine {dd,U,u,g,ps,R,ln,lr,lp,lt,rfl,O,H',fun lq H3 aq s3 Λ=>?_};have J':=s3 _ _ I';have ad:=ζ.sm IQ.tk s3;have i':=H'.sm s3;have ac:=s2.trans s3;obtain ⟨vt,z',ε⟩:=id Λ;have ψ:vt.length=(iI g ps).length:=Paired.length ε;have b':∀{p:g6}{o:HO},H3 p=some o->(∀kv,o≠.dK kv)->p≠d:=fun {p o} h n e=>by rw[e,J']at h;cases h;exact n _ rfl
 have o':dT≠d:=by obtain ⟨kt,φ,_⟩:=tq;exact aB φ hd
 w_on;refine cV (cS.of z') ?_;refine sP (xs:=vt) (DuK dd dT d U u (iI g ps) H3) {_,_,[],rfl,Kp.refl _ _,{[],J',.nil},by funext p;exact Cq,k7 _,(fun _ h=>nomatch h),nodup_nil,fun _ h=>nomatch h} ?_ ?_ ?_
 ·rintro i σ H4 _ ⟨o2,o3,D,rfl,kp,_⟩;exact cS.of (kp _ _ (b' z' (by intro kv z;cases z)) z')
 ·intro P' Ω θ v';rintro i x σ H1 M ⟨o2,o3,D,rfl,kp,⟨kv,B,kq⟩,TT,D',e',g',f'⟩;obtain ⟨r,C,p,rfl,hp⟩:=Paired.at ε M;have hi:=(i5.mp M).1;obtain ⟨r1,r2,r3,r4⟩:=O.pok r (NO (u8 C));have y':=kp _ _ (b' hp (by intro kv z;cases z)) hp;w_on;apply {d,rfl,.inl {kv,.inl B},?_};refine {_,.inl {kv,j5 r.1,.inl B,rfl,rfl},?_};rw[pG kq];w_on;rw[Gs];have τ:=kq.len;apply oC (c:=j5 r.1) B (by lia) ?_;refine v' _ _ _ {_,_,XG D r,rfl,kp.trans Kp.upd,{_,aC,(kq.put rfl).imp fun v b f=>f},?_,B9 (zB _ _ _) (by lia),OF (P:=fun z=>0<=z/\z<=10^105) e' {r3,r4},Lg g',Cs (P:=fun k=>∃i:Nat,k=j5 (i:Int)/\i<U.length) f' {r.1.toNat,by congr 1;lia,by lia}};rw[Kj C];exact Ld O.nd O.u0 r1 r2 TT
 rintro σ H4 ⟨o2,o3,D0,rfl,Δ,μ,s',D',e',g',f'⟩;rw[ψ,F7]at s';have ν:CC U u g (rA U u (iI g ps)) (cQ (jM u R)) D0:=CC.start g' f' e' s';clear s' D' e' g' f';have α:=Δ;have γ:dd≠d:=aB (s1 _ _ hQ.d) hd;obtain ⟨kT,ρ,Θ⟩:=id ad;have ο:∀{G:Hp},Kp d H3 G->aK H G:=fun {G} k b o h=>k _ _ (aB h M') (ac _ _ h);have e2:∀{G G':Hp},Kp d H3 G->aK G G'->Kp d H3 G':=fun {G G'} k s b o n h=>s _ _ (k b o n h);w_on;refine Ou (fun m=>Wa dd dT d H3 fun c D=>CC U u g (rA U u (iI g ps)) (cQ (jM u R)) D/\(c=false->∀k,Nr (cQ (jM u R)) u g k D)/\m=2*mu U.length D+(if c=true then 1 else 0)) {true,D0,_,_,_,_,_,_,_,_,_,_,rfl,α,μ,ν,(fun z=>nomatch z),rfl} ?_;rintro m σ G ⟨c,D1,o3,o4,o6,o7,o8,o9,n',S,W,X,rfl,kG,dG,t',ι,rfl⟩;cases c with
|false=>
  w_on;exact q d G D1 M' (ο kG) dG t' (t'.falls O.nd O.u0 O.rok (ι rfl))
|true=>
  w_on;refine {Wa dd dT d H3 fun c D=>My U u g (rA U u (iI g ps)) (cQ (jM u R)) D1 D c (∀k,Nr (cQ (jM u R)) u g k D1),?_,?_}
  ·rintro aw G' ⟨c,D,o3,o4,o6,o7,o8,o9,n',S,W,X,rfl,k',d',I⟩;refine {_,?_,c,D,_,_,_,_,_,_,_,_,_,_,rfl,k',d',I.d,fun z=>?_,rfl}
   ·cases c with
   |true=>
     have:=I.ch rfl;simp only[if_true];lia
   |false=>have:=I.le;simp only[if_true,J6,if_false];lia
   ·obtain ⟨e,cl⟩:=I.st z;rw[e];exact cl
  have aj:=i';obtain ⟨vr,l',δ⟩:=id i'.rq;have X':vr.length=g.length:=Paired.length δ;have L':=kG _ _ γ i'.d;have W':G lr=some (.lst vr):=kG _ _ (b' l' (by intro kv z;cases z)) l';w_on;apply bZ (.inl L') cP ?_;refine {g.length,by rw[X'],by lia,fun l1 Q'=>?_};obtain ⟨G1,zE,t1,u'⟩:=Tr Q' (.lst (xK g.length));rw[zE];w_on;apply Oz ?_;refine {l1,_,rfl,u',fun l2 R'=>?_};obtain ⟨G2,zE,t2,E'⟩:=Tr R' (.lst (xK g.length).reverse);rw[zE];w_on;refine CB (t2 _ _ u') E' (by simp[xK];lia) fun l3 x'=>?_;obtain ⟨L,hL⟩:∃L:List Nat,y9 g.length++(y9 g.length).reverse=L:={_,rfl}
  have eL:xK g.length++(xK g.length).reverse=L.map fun(k:Nat)=>V.int (k:Int):=by rw[←hL,B6,List.map_reverse];rfl
  have Lk:∀k∈L,k<g.length:=fun k hk=>by
   rw[←hL]at hk;rcases u9.mp hk with h|h
   ·exact oj.mp h
   ·exact oj.mp (S3.mp h)
  have η:∀k,k<g.length->k∈L:=fun k hk=>by rw[←hL];exact D3 _ (oj.mpr hk)
  clear hL;rw[eL];obtain ⟨G3,zE,t3,F'⟩:=Tr x' (.lst (L.map fun(k:Nat)=>V.int (k:Int)));rw[zE];have c':=(t1.trans t2).trans t3;have Z':=e2 kG c';have κ:=dG.sm IQ.tk c';have Ξ:l3≠d:=by obtain ⟨_,z,_⟩:=id dG;exact u7 (aB ((t1.trans t2) _ _ z) x')
  clear t1 t2 t3 c' u' E' Q' R' x' eL L' W';w_on;refine cV (cS.of F') ?_;refine sP (xs:=L.map fun(k:Nat)=>V.int (k:Int)) (fun i=>Wa dd dT d G3 fun c D=>My U u g (rA U u (iI g ps)) (cQ (jM u R)) D1 D c (∀k∈L.take i,Nr (cQ (jM u R)) u g k D1)) {false,D1,_,_,_,_,_,_,_,_,_,_,rfl,Kp.refl _ _,κ,{t',k7 _,(fun z=>nomatch z),fun _=>{rfl,fun k hk=>(by simp at hk)}}} ?_ ?_ ?_
  ·rintro i σ F _ ⟨c,D,o3,o4,o6,o7,o8,o9,n',S,W,X,rfl,N,_⟩;exact cS.of (N _ _ Ξ F')
  ·intro P' Ω θ v';rintro i x σ F M ⟨c,D,o3,o4,o6,o7,o8,o9,n',S,W,X,rfl,N,dF,I⟩;rw[t5]at M;cases hk:L[i]? with
  |none=>rw[hk]at M;cases M
  |some k=>
    rw[hk]at M;cases M;have υ:=Lk k (u8 hk);obtain ⟨r,C⟩:∃r,g[k]?=some r:={_,i7 υ}
    have Ψ:=O.rok r (u8 C);obtain ⟨vx,ω,p,rfl,hp⟩:=CV δ C;have m':Kp d H3 F:=Z'.trans N;have K':=m' _ _ γ i'.d;have q':F lr=some (.lst vr):=m' _ _ (b' l' (by intro kv z;cases z)) l';have χ:=m' _ _ (b' hp (by intro kv z;cases z)) hp;w_on;apply bZ (.inl K') cP ?_;apply iW q' (iT ω) ?_;apply bD fun p1 y'=>?_;apply bD fun p2 T'=>?_;refine dH fun l4 S'=>?_;have y1:=aK.new (o:=.tup [.int r.1,.int r.2.1]) y';have y2:=aK.new (o:=.tup [.int r.2.1,.int r.1]) T';have y3:=aK.new (o:=.lst [.ref p1,.ref p2]) S';have z1:=y3 _ _ (y2 _ _ (aC (H:=F) (a:=p1) (o:=.tup [.int r.1,.int r.2.1])));have z2:=y3 _ _ (aC (H:=L2.upd F p1 (.tup [.int r.1,.int r.2.1])) (a:=p2) (o:=.tup [.int r.2.1,.int r.1]));have z3:=aC (H:=L2.upd (L2.upd F p1 (.tup [.int r.1,.int r.2.1])) p2 (.tup [.int r.2.1,.int r.1])) (a:=l4) (o:=.lst [.ref p1,.ref p2]);have Y:=(y1.trans y2).trans y3;generalize L2.upd (L2.upd (L2.upd F p1 (.tup [.int r.1,.int r.2.1])) p2 (.tup [.int r.2.1,.int r.1])) l4 (.lst [.ref p1,.ref p2])=F3 at z1 z2 z3 Y ⊢;clear y1 y2 y3 y' T' S';have B':=dF.sm IQ.tk Y;have Y':=e2 m' Y;have Γ:Kp d G3 F3:=fun b o n h=>Y _ _ (N b o n h);have nf:∀{p:g6}{o:HO},F3 p=some o->(∀kv,o≠.dK kv)->p≠d:=fun {p o} h n e=>by obtain ⟨kv,z,_⟩:=id B';rw[e,z]at h;cases h;exact n _ rfl
    obtain ⟨J,w'⟩:∃J:Nat->Int×Int,J=fun j=>if j=0 then (r.1,r.2.1) else (r.2.1,r.1):={_,rfl}
    have d0:J 0=(r.1,r.2.1):=by rw[w'];rfl
    have d1:J 1=(r.2.1,r.1):=by rw[w'];rfl
    have N':∀(j:Nat)(x:V),([V.ref p1,.ref p2]:List V)[j]?=some x->∃t,x=.ref t/\F3 t=some (.tup [.int (J j).1,.int (J j).2])/\((r.1=(J j).1/\r.2.1=(J j).2)∨(r.2.1=(J j).1/\r.1=(J j).2)):=by
     intro j x M
     match j,M with
    |0,M=>cases M;exact {p1,rfl,by rw[d0];exact z1,.inl (by rw[d0];exact {rfl,rfl})}
    |1,M=>cases M;exact {p2,rfl,by rw[d1];exact z2,.inr (by rw[d1];exact {rfl,rfl})}
    |j+2,M=>simp at M
    clear w' z1 z2 dF N χ K' q';w_on;refine cV (cS.of z3) ?_;refine sP (xs:=[V.ref p1,.ref p2]) (fun j=>DuM dd dT d k r F3 fun c D=>My U u g (rA U u (iI g ps)) (cQ (jM u R)) D1 D c ((∀k∈L.take i,Nr (cQ (jM u R)) u g k D1)/\∀j'<j,Ei (cQ (jM u R)) u k r.2.2 (J j').1 (J j').2 D1)) {c,D,_,_,_,_,_,_,rfl,Kp.refl _ _,B',I.imp fun _ z=>{z,fun j' h=>absurd h (R9 _)}} ?_ ?_ ?_
    ·rintro j σ F _ ⟨c,D,o3,o4,o6,S,W,X,rfl,N,_⟩;exact cS.of (N _ _ (nf z3 (by intro kv z;cases z)) z3)
    ·intro P2 av ah h';rintro j x σ F M ⟨c,D,o3,o4,o6,S,W,X,rfl,N,⟨kv,B,kq⟩,I⟩;obtain ⟨t,rfl,ht,hj⟩:=N' j x M;have V':=N _ _ (nf ht (by intro kv z;cases z)) ht;have p':F dT=some (.dK kT):=N _ _ o' (Y' _ _ o' ρ);have nx:∀{Z:Prop},Ei (cQ (jM u R)) u k r.2.2 (J j).1 (J j).2 D->(c=false->D=D1)->My U u g (rA U u (iI g ps)) (cQ (jM u R)) D1 D c ((∀k∈L.take i,Nr (cQ (jM u R)) u g k D1)/\∀j'<j+1,Ei (cQ (jM u R)) u k r.2.2 (J j').1 (J j').2 D1):=fun {Z} h _=>I.imp fun e z=>{z.1,fun j' ao=>by
      rcases F8 j' j with h1|h1
      ·exact z.2 j' h1
      ·have:j'=j:=by lia
       subst this;rw[←e];exact h}
     generalize (J j).1=a at hj V' nx;generalize (J j).2=b at hj V' nx;have C':=I.d;w_on;refine Ge (.inl B) ?_;rcases kq.val (k:=j5 a) with ⟨e1,a'⟩|⟨va,v,e1,a',f1⟩
     ·rw[e1];w_on;exact h' _ _ _ {c,D,_,_,_,_,_,_,rfl,N,{kv,B,kq},nx (Z:=True) (Mj a') fun z=>(I.st z).1}
     ·rw[e1];cases (show va=.int v from f1);w_on;apply NH (.inl B) e1 ?_;apply {dT,rfl,.inl {kT,.inl p'},?_};refine {_,.inl {kT,j5 (k:Int),.inl p',rfl,rfl},?_};rw[pG Θ];w_on;have ae:=O.n98;have τ:=kq.len;have am:=C'.len;refine rH (fun c1=>?_) (fun c1=>?_)
      ·w_on;apply {d,rfl,.inl {kv,.inl B},?_};refine {_,.inl {kv,j5 b,.inl B,rfl,rfl},?_};rw[pG kq];w_on;refine rH (fun c2=>?_) (fun c2=>?_)
       ·w_on;apply oC (c:=j5 b) B (by lia) ?_;obtain ⟨ξ,β⟩:=C'.go O.nd O.u0 (by lia) C Ψ hj a' ((OA O.u0 TT k _).mpr c1) fun w hw=>by rw[hw]at c2;exact c2
        exact h' _ _ _ {true,eX D (j5 b) (v+r.2.2),_,_,_,_,_,_,rfl,N.trans Kp.upd,{_,aC,(kq.put rfl).imp fun v b f=>f},ξ,M5 (j3 β I.le),fun _=>j3 β I.le,fun z=>nomatch z}
       ·w_on;exact h' _ _ _ {c,D,_,_,_,_,_,_,rfl,N,{kv,B,kq},nx (Z:=True) (Se a' c2) fun z=>(I.st z).1}
      ·w_on;exact h' _ _ _ {c,D,_,_,_,_,_,_,rfl,N,{kv,B,kq},nx (Z:=True) (Ml a' fun z=>c1 ((OA O.u0 TT k _).mp z)) fun z=>(I.st z).1}
    ·rintro σ F ⟨c,D,o3,o4,o6,S,W,X,rfl,N,dF,I⟩;refine v' _ _ _ {c,D,_,_,_,_,_,_,_,_,_,_,rfl,Γ.trans N,dF,I.imp fun _ z k' O'=>?_};rw[lC hk]at O';rcases u9.mp O' with h|h
     ·exact z.1 k' h
     ·rw[i9.mp h];intro r' U';rw[C]at U';cases U';have c0:=z.2 0 (show 0<2 by decide);have c1:=z.2 1 (show 1<2 by decide);rw[d0]at c0;rw[d1]at c1;exact {c0,c1}
  ·rintro σ F ⟨c,D,o3,o4,o6,o7,o8,o9,n',S,W,X,rfl,N,dF,I⟩;rw[j6,F7]at I;exact {c,D,_,_,_,_,_,_,_,_,_,_,rfl,Z'.trans N,dF,I.imp fun _ z k=>if h:k<g.length then z k (η k h) else fun r C=>absurd (i5.mp C).1 h}
include o2c o1q in
theorem Ci:cB P w K mg base (k+1) "_law_left" ["_law_here_here","_law_due_here","_law_k","_law_moment"] FQ:=by
 refine cB.of vE.d37 mW (by walk_at"ln") fun f l' A i' s H vs Q E J h=>?_;obtain ⟨dd,U,u,rs,ps,ts,ln,lr,lp,lt,d,D,kk,r,m,rfl,G,hQ,b',du,S,m0,m1,q⟩:=h;refine {_,(aE (WD (aN aQ (aS J.u1 (pv 0) aP) (pv 2)) (lS (n:=3) rfl (bA (sT 4 mW.nd) (bA (sT 5 mW.nd) (bA (sT 6 mW.nd) eQ)))))
   (aE (eA 7 mW.nd (aI o1q J rfl (aA (pv 0) aD)))
   (aE (cE (aZ GV (pv 3) (gZ J.u1 (pv 7) (pv 2) (aJ bG (pv 3) aF) {rfl,rfl,rfl,rfl})) (aH (aU eK)) bL)
   (aE (eA 8 mW.nd (bB (IJ rfl) rfl T.z_max yY (aA aF (aA (aJ lU (pv 3) (gZ J.u1 (pv 1) (pv 4) (pv 3) {rfl,rfl,rfl,rfl})) aD))))
   (aE (eA 9 mW.nd (bB (IJ rfl) rfl T.z_max yY (aA aF (aA (aJ lU (pv 3) (gZ J.u1 (pv 1) (pv 5) (pv 3) {rfl,rfl,rfl,rfl})) aD))))
   (aE (cE (aZ GV (aJ bG (pv 8) (pv 9)) (pv 6)) (aH (aU eK)) bL)
   (aH (aU (bM (aA (aI o2c J rfl (aA (pv 8) (aA (pv 6) aD))) (aA (aI o2c J rfl (aA (aJ lU (pv 6) (pv 9)) (aA (pv 6) aD))) aD))))))))))),?_}
 try dsimp only[aR,bC]
 obtain ⟨vr,f',j'⟩:=id hQ.rq;obtain ⟨vx,g',p,rfl,hp⟩:=CV j' S;obtain ⟨r0,r1,r2,r3,r4,r5⟩:=G.rok r (u8 S);obtain ⟨kv,c',kq⟩:=id b';have u0:=G.u0;have u1:=G.u1;have o':=du.len;have k':=G.n98;have a':∀i v,aV D (j5 i)=some v->0<=v/\v<=10^108:=fun i v e=>by obtain ⟨a1,a2,_⟩:=du.val e;lia
 w_on;apply bZ (.inl hQ.d) cP ?_;apply iW f' (iT g') ?_;refine {dd,U,u,rs,ps,ts,ln,lr,lp,lt,rfl,G,hQ,fun dT Y TB n' s1 tq TT m'=>?_};obtain ⟨kT,R,h'⟩:=id tq;have g:=s1 _ _ c';rw[sZ G.nd r0 r1,sZ G.nd r2 r3,Hr TT,Ol u0 (by lia)]at q;w_on;apply {dT,rfl,.inl {kT,.inl R},?_};refine {_,.inl {kT,j5 (kk:Int),.inl R,rfl,rfl},?_};rw[pG h'];w_on;refine rH (fun c=>?_) (fun c=>?_)
 ·rw[if_pos c]at q;w_on;exact q _ _ s1 rfl
 ·rw[if_neg c]at q;have W:KQ IQ Y kv D:=kq.imp fun v b f=>f;have g0:∀i,0<=(aV D (j5 i)).getD m:=fun i=>by
   cases e:aV D (j5 i) with
  |none=>exact m0
  |some v=>exact (a' i v e).1
  have b1:=XC (m-(aV D (j5 r.1)).getD m);have b2:=XD (z:=m-(aV D (j5 r.1)).getD m) (b:=10^109) (by have:=g0 r.1;lia) (by decide);have b3:=XC (m-(aV D (j5 r.2.1)).getD m);have b4:=XD (z:=m-(aV D (j5 r.2.1)).getD m) (b:=10^109) (by have:=g0 r.2.1;lia) (by decide);w_on;apply {d,rfl,.inl {kv,.inl g},?_};refine {_,.inl {kv,j5 r.1,.inl g,rfl,rfl},?_};rw[pG W];w_on;apply {d,rfl,.inl {kv,.inl g},?_};refine {_,.inl {kv,j5 r.2.1,.inl g,rfl,rfl},?_};rw[pG W];w_on;rw[show (if m-(aV D (j5 r.1)).getD m>0 then m-(aV D (j5 r.1)).getD m else 0)=EM (m-(aV D (j5 r.1)).getD m) from rfl,show (if m-(aV D (j5 r.2.1)).getD m>0 then m-(aV D (j5 r.2.1)).getD m else 0)=EM (m-(aV D (j5 r.2.1)).getD m) from rfl];generalize EM (m-(aV D (j5 r.1)).getD m)=B at *;generalize EM (m-(aV D (j5 r.2.1)).getD m)=C at *;w_on;refine rH (fun c2=>?_) (fun c2=>?_)
  ·rw[if_pos c2]at q;w_on;exact q _ _ s1 rfl
  ·rw[if_neg c2]at q;w_on;refine {B,r.2.2,rfl,by lia,zK (by lia),zK (by lia),fun Z d'=>?_};have N:cA (L2.upd Y Z (.tup [.int (dS (B) (r.2.2)),.int (eJ (B) (r.2.2))])) (.ref Z) (ut (r.2.2) (B)):=cA.low (by lia) aC;have X:=aK.new (H:=Y) (o:=.tup [.int (dS (B) (r.2.2)),.int (eJ (B) (r.2.2))]) d';generalize L2.upd Y Z (.tup [.int (dS (B) (r.2.2)),.int (eJ (B) (r.2.2))])=H2 at N X ⊢;w_on;refine {(r.2.2-C),r.2.2,rfl,by lia,zK (by lia),zK (by lia),fun q2 e'=>?_};have O:cA (L2.upd H2 q2 (.tup [.int (dS ((r.2.2-C)) (r.2.2)),.int (eJ ((r.2.2-C)) (r.2.2))])) (.ref q2) (ut (r.2.2) ((r.2.2-C))):=cA.low (by lia) aC;have M:=aK.new (H:=H2) (o:=.tup [.int (dS ((r.2.2-C)) (r.2.2)),.int (eJ ((r.2.2-C)) (r.2.2))]) e';generalize L2.upd H2 q2 (.tup [.int (dS ((r.2.2-C)) (r.2.2)),.int (eJ ((r.2.2-C)) (r.2.2))])=H3 at O M ⊢;w_on;apply bD fun p5 I=>?_;exact q _ _ (((s1.trans X).trans M).trans (aK.new I)) {p5,.ref Z,.ref q2,rfl,aC,(N.tk M.tk).tk (TK.new I),O.tk (TK.new I)}
include o1x in
theorem Ck:cB P w K mg base (k+1) "_law_hall" ["_law_script"] (FT K):=by
 refine cB.of vE.d38 MT (by walk_at"ln") fun f i' A f' s H vs Q E hr h=>?_;obtain ⟨a,ns,rfl,hS,c',q⟩:=h;refine {_,(aE (eA 1 MT.nd (aI o1x hr rfl (aA (pv 0) (aA aF (aA aF aD)))))
   (aE (iN hr.u1 (pv 1) aP (cJ aD) rfl)
   (aE (iN hr.u1 (pv 1) aP (cJ aD) rfl)
   (aE (iN hr.u1 (pv 1) aP aF rfl)
   (aH (aU (pv 1))))))),?_}
 try dsimp only[aR,bC]
 w_on;apply {a,ns,rfl,hS,c',fun m J U u rs ps ts ln B d' D Y s1 b' M hQ G=>?_};apply dH fun g I=>?_;have s2:=aK.new (o:=.lst []) I;refine oC (c:=i0 "pushes") (s2 _ _ G) (F4 rfl) ?_;rw[show eI (cL ln u B d' D) (i0 "pushes") (.ref g)=cL ln u B g D by with_unfolding_all rfl];have X:L2.upd (L2.upd J g (.lst [])) m (.dK (cL ln u B g D)) m=_:=aC;have xp:g≠m:=fun z=>by rw[z,G]at I;cases I
 have n2:L2.upd (L2.upd J g (.lst [])) m (.dK (cL ln u B g D)) g=some (.lst []):=aW xp aC;have k2:Kp m J (L2.upd (L2.upd J g (.lst [])) m (.dK (cL ln u B g D))):=s2.kp.trans Kp.upd;generalize L2.upd (L2.upd J g (.lst [])) m (.dK (cL ln u B g D))=W at *;w_on;apply dH fun i C=>?_;have s3:=aK.new (o:=.lst []) C;refine oC (c:=i0 "takings") (s3 _ _ X) (F4 rfl) ?_;rw[show eI (cL ln u B g D) (i0 "takings") (.ref i)=cL ln u B g i by with_unfolding_all rfl];have e3:L2.upd (L2.upd W i (.lst [])) m (.dK (cL ln u B g i)) m=_:=aC;have xt:i≠m:=fun z=>by rw[z,X]at C;cases C
 have n3:L2.upd (L2.upd W i (.lst [])) m (.dK (cL ln u B g i)) i=some (.lst []):=aW xt aC;have k3:Kp m W (L2.upd (L2.upd W i (.lst [])) m (.dK (cL ln u B g i))):=s3.kp.trans Kp.upd;generalize L2.upd (L2.upd W i (.lst [])) m (.dK (cL ln u B g i))=R at *;w_on;refine oC (c:=i0 "now") e3 (F4 rfl) ?_;rw[show eI (cL ln u B g i) (i0 "now") (.int 0)=cL ln u B g i [(i0 "now",.int 0)] by with_unfolding_all rfl];have k4:Kp m J (L2.upd R m (.dK (cL ln u B g i [(i0 "now",.int 0)]))):=(k2.trans k3).trans Kp.upd;have p4:L2.upd R m (.dK (cL ln u B g i [(i0 "now",.int 0)])) g=some (.lst []):=aW xp (k3 _ _ xp n2);have t4:L2.upd R m (.dK (cL ln u B g i [(i0 "now",.int 0)])) i=some (.lst []):=aW xt n3;have e4:L2.upd R m (.dK (cL ln u B g i [(i0 "now",.int 0)])) m=_:=aC;have h':TK J (L2.upd R m (.dK (cL ln u B g i [(i0 "now",.int 0)]))):=fun p S e=>k4 _ _ (fN e G (by intro z;cases z)) e;generalize L2.upd R m (.dK (cL ln u B g i [(i0 "now",.int 0)]))=H4 at *;w_on;have N:∀{l:g6}{S:List V},J l=some (.lst S)->H4 l=some (.lst S):=fun e=>k4 _ _ (fN e G (by intro z;cases z)) e;have e':g≠i:=fun z=>by rw[←z,n2]at C;cases C
 have s4:aK H H4:=fun b o e=>k4 _ _ (aB e Y) (s1 _ _ e);have Z:H g=none:=s1.free I;have a':H i=none:=by
  cases z:H i with
 |none=>rfl
 |some o=>rw[k2 _ _ xt (s1 _ _ z)]at C;cases C
 obtain ⟨vr,O,g'⟩:=hQ.rq;have nx:∀{l:g6}{S:List V},J l=some (.lst S)->l≠g/\l≠i:=fun {l S} e=>by
  refine {aB e I,fun z=>?_};have X:=k2 l _ (fN e G (by intro z;cases z)) e;rw[z,C]at X;cases X
 exact q m H4 U u rs ln B g i Y Z a' e' (nx hQ.nm).1 (nx hQ.nm).2 (nx O).1 (nx O).2 s4 b' {M.u0,M.u1,M.nd,M.n2,M.n98,M.rok,(fun _ z=>nomatch z),(fun _ z=>nomatch z),M.r1,M.rl,w4 _,w4 _,M.ns} {e4,{{_,e4},N hQ.nm,{vr,N O,Pd.imp g' fun v b f=>kY.tk f h'},{[],p4,.nil},{[],t4,.nil}}}
include o1u in
theorem Cl:cB P w K mg base (k+1) "_law_deed" ["_law_here_here","_law_due_here","_law_number_here"] UO:=by
 refine cB.of vE.d39 lD (by walk_at"ln") fun f δ A Z' s H vs Q E J h=>?_;obtain ⟨dd,d,S',U,u,rs,ps,ts,ln,lr,lp,lt,c',D,rfl,hN,hI,J',β,du,n0,n1,ε,q⟩:=h;refine {_,(aE (vW (i:=3) lD.nd rfl (by w_left) (dO (aG oU) ["_law_here_here","_law_due_here","_law_number_here","_law_standing_posts","_law_used","_law_whole_runs","_law_kind","_law_later"] ["_law_a"] ["_law_here_here","_law_due_here"] [0,1]) rfl (jW rfl T.z_range (aA (bB hX rfl T.z_len fA (aA (aS J.u1 (pv 0) aP) aD)) aD)) (fun _ _ _ _=>(Zn ["_law_a","_law_here_here","_law_due_here"] 0)) (fun _ _ _ _=>(pv 0)) (fun _ _ _ _=>(lG (aZ WP (gZ J.u1 (pv 2) (pv 0) (aJ WQ (aS J.u1 (pv 1) aP) aF) {rfl,rfl,rfl,rfl}) (aS J.u1 (pv 1) aP)))))
   (aE (eA 4 lD.nd (aJ bG (eZ (dO (aG oU) ["_law_here_here","_law_due_here","_law_number_here","_law_standing_posts","_law_used","_law_whole_runs","_law_kind","_law_later"] ["_law_a","_law_b","_law_time_here"] [] []) rfl (cX (aS J.u1 (pv 0) aP)) (fun _ _ _ _=>(nF (n:=3) rfl (bA (Zn ["_law_a","_law_b","_law_time_here"] 0) (bA (Zn ["_law_a","_law_b","_law_time_here"] 1) (bA (Zn ["_law_a","_law_b","_law_time_here"] 2) eQ))))) (fun _ _ _ _=>(pv 0)) (fun _ _ _ _=>fB)) (eZ (dO (aG oU) ["_law_here_here","_law_due_here","_law_number_here","_law_standing_posts","_law_used","_law_whole_runs","_law_kind","_law_later"] ["_law_a","_law_b","_law_time_here"] [] []) rfl (cX (aS J.u1 (pv 0) aP)) (fun _ _ _ _=>(nF (n:=3) rfl (bA (Zn ["_law_a","_law_b","_law_time_here"] 0) (bA (Zn ["_law_a","_law_b","_law_time_here"] 1) (bA (Zn ["_law_a","_law_b","_law_time_here"] 2) eQ))))) (fun _ _ _ _=>(pv 1)) (fun _ _ _ _=>fB))))
   (aE (vW (i:=3) lD.nd rfl (by w_left) (dO (aG oU) ["_law_here_here","_law_due_here","_law_number_here","_law_standing_posts","_law_used","_law_whole_runs","_law_kind","_law_later"] ["_law_a"] ["_law_used"] [4]) rfl (cX (pv 3)) (fun _ _ _ _=>(Zn ["_law_a","_law_used"] 0)) (fun _ _ _ _=>(pv 0)) (fun _ _ _ _=>(lG (aZ xW (pv 0) (pv 1) (by with_unfolding_all rfl)))))
   (aE (vW (i:=5) lD.nd rfl (by w_left) (dO (aG oU) ["_law_here_here","_law_due_here","_law_number_here","_law_standing_posts","_law_used","_law_whole_runs","_law_kind","_law_later"] ["_law_k"] ["_law_here_here","_law_due_here"] [0,1]) rfl (jW rfl T.z_range (aA (bB hX rfl T.z_len fA (aA (aS J.u1 (pv 0) aP) aD)) aD)) (fun _ _ _ _=>(Zn ["_law_k","_law_here_here","_law_due_here"] 0)) (fun _ _ _ _=>(pv 0)) (fun _ _ _ _=>(lG (aZ mG (aI o1u J rfl (aA (pv 1) (aA (pv 2) (aA (pv 0) (aA (aS J.u1 (pv 1) aP) aD))))) eK))))
   (aE (eA 6 lD.nd (aJ bQ (pv 2) aF))
   (aE (eA 2 lD.nd (aJ bE (pv 2) aF))
   (aE (cE (PW.pt (nD (aZ sW (pv 6) aF) (jQ (aZ (xV J.units) (pv 3) (cJ aD))))) (aH (aU (bM (aA aP (aA (aN aQ (pv 3) (aJ bQ (pv 2) (bB hX rfl T.z_len fA (aA (pv 3) aD)))) aD))))) bL)
   (aE (cE (PW.pt (nD (aZ (gA J.units) (pv 6) aF) (jQ (aZ (xV J.units) (pv 5) (cJ aD))))) (aH (aU (bM (aA aP (aA (aN aQ (pv 5) (aJ bQ (pv 2) (bB hX rfl T.z_len fA (aA (pv 5) aD)))) aD))))) bL)
   (aE (eA 7 lD.nd (bB KS rfl T.z_sorted qB (aA (GU (dO (aG oU) ["_law_here_here","_law_due_here","_law_number_here","_law_standing_posts","_law_used","_law_whole_runs","_law_kind","_law_later"] ["_law_post"] ["_law_here_here","_law_due_here"] [0,1]) rfl (pv 1) (fun _ _ _ _=>(Zn ["_law_post","_law_here_here","_law_due_here"] 0)) (fun _ _ _ _=>(aS J.u1 (pv 2) (pv 0))) (fun _ _ _ _=>(lG (aZ WP (aS J.u1 (pv 2) (pv 0)) (aS J.u1 (pv 1) aP))))) aD)))
   (aE (cE (PW.pt (nD (aZ (gA J.units) (pv 6) aF) (jQ (aZ (xV J.units) (pv 7) (cJ aD))))) (aH (aU (bM (aA aP (aA (aJ lU (aN aQ (pv 7) (aJ bQ (pv 2) (bB hX rfl T.z_len fA (aA (pv 7) aD)))) (aS J.u1 (pv 0) aP)) aD))))) bL)
   (aH (aU (bM (aA aP (aA (aJ bQ (aJ bE (pv 2) aF) (aN aQ (cJ (aA aF (aA aF (aA aF (aA (aJ rC aF aF) aD))))) (aJ bQ (pv 2) aF))) aD))))))))))))))),?_}
 try dsimp only[aR,bC]
 obtain ⟨kd,z',qd⟩:=id J';have θ:kd.length=D.length:=qd.len;w_on;refine bZ (.inl hN.d) kL ?_;have ι:=hN.q.nm;have γ:=hI.n98;have Y':(kd.map (·.1)).Nodup:=by rw[qd.keys];exact du.nd
 w_on;rw[j6];refine pR (by lia) (by lia) ?_;refine GN (n:=U.length) (by lia) (fun g i I G=>Kp g H G/\∃Z:List Nat,I=Z.map (fun j:Nat=>V.int (j:Int))/\∀j∈Z,j<U.length/\∀z,aV D (j5 (j:Int))=some z->c'<z) (fun g m=>{Kp.new m,[],rfl,fun _ C=>nomatch C}) ?_ ?_
 ·rintro g i I G m hi Y M ⟨kp,Z,rfl,e'⟩;have dG:=kp _ _ (aB z' m) z';have p':=kp _ _ (aB hN.d m) hN.d;w_on;apply {d,rfl,.inl {kd,.inl dG},?_};apply bZ (.inl p') jA ?_;rw[xi];refine {_,.inl {kd,j5 (i:Int),.inl dG,rfl,rfl},?_};rw[pG qd];w_on;apply bZ (.inl p') jA ?_;refine rH (fun c=>?_) (fun c=>?_)
  ·w_on;refine pH hi Y M {kp.trans Kp.upd,Z++[i],by rw[B6];rfl,fun j hj=>?_};rcases u9.mp hj with hj|hj
   ·exact e' j hj
   ·rw[i9.mp hj];refine {hi,fun z e=>?_};rw[e]at c;exact c
  ·w_on;exact nK hi Y M {kp,Z,rfl,e'}
 rintro a0 ψ G0 m M Y ⟨kp,Z,rfl,e'⟩;have s0:aK H G0:=fun b o e=>kp _ _ (aB e m) e;have N0:=hN.sm s0;obtain ⟨vr,l',t'⟩:=id N0.q.rq;have μ:vr.length=rs.length:=Paired.length t';have κ:=hI.rl;w_on;apply bZ (.inl N0.d) cP ?_;refine cV (cS.of l') ?_;refine sR (xs:=vr) (by lia) (fun g i R G=>Kp g G0 G/\∃I:List Int,R=I.map V.int/\I.length=i/\∀z∈I,∃r∈rs,r.1=z∨r.2.1=z) (fun g m=>{Kp.new m,[],rfl,rfl,fun _ C=>nomatch C}) ?_ ?_ ?_
 ·rintro g i R G m _ ⟨kp,_⟩;exact cS.of (kp _ _ (aB l' m) l')
 ·rintro g i R G x m hx B M ⟨kp,I,rfl,Y,f'⟩;obtain ⟨r,J,p,rfl,hp⟩:=Paired.at t' hx;have A':G p=some (.tup [.int r.1,.int r.2.1,.int r.2.2]):=kp _ _ (aB hp m) hp;apply {p,_,_,_,rfl,A',?_};refine jJ (i5.mp hx).1 B M {kp.trans Kp.upd,I++[r.1],by simp,by rw[m8,Y];rfl,fun z C=>?_};rcases u9.mp C with C|C
  ·exact f' z C
  ·exact {r,u8 J,.inl (i9.mp C).symm}
 rintro a1 τ G1 h1 E' ν ⟨O',z1,rfl,l1,m1⟩;have s1:aK G0 G1:=fun b o h=>O' _ _ (aB h h1) h;have N1:=N0.sm s1;have d':=s1 _ _ l';have v':=Pd.imp t' fun v b f=>kY.tk f s1.tk;w_on;apply bZ (.inl N1.d) cP ?_;refine cV (cS.of d') ?_;refine sR (xs:=vr) (by lia) (fun g i R G=>Kp g G1 G/\∃I:List Int,R=I.map V.int/\I.length=i/\∀z∈I,∃r∈rs,r.1=z∨r.2.1=z) (fun g m=>{Kp.new m,[],rfl,rfl,fun _ C=>nomatch C}) ?_ ?_ ?_
 ·rintro g i R G m _ ⟨kp,_⟩;exact cS.of (kp _ _ (aB d' m) d')
 ·rintro g i R G x m hx B M ⟨kp,I,rfl,Y,f'⟩;obtain ⟨r,J,p,rfl,hp⟩:=Paired.at v' hx;have A':G p=some (.tup [.int r.1,.int r.2.1,.int r.2.2]):=kp _ _ (aB hp m) hp;apply {p,_,_,_,rfl,A',?_};refine jJ (i5.mp hx).1 B M {kp.trans Kp.upd,I++[r.2.1],by simp,by rw[m8,Y];rfl,fun z C=>?_};rcases u9.mp C with C|C
  ·exact f' z C
  ·exact {r,u8 J,.inr (i9.mp C).symm}
 rintro a2 υ G2 h2 F' ξ ⟨P',z2,rfl,l2,m2⟩;have s2:aK G1 G2:=fun b o h=>P' _ _ (aB h h2) h;w_on;refine CB (s2 _ _ E') F' (by rw[j6,j6];lia) fun a3 h3=>?_;rw[←B6];have s3:=((s0.trans s1).trans s2).trans (aK.new (o:=.lst ((z1++z2).map V.int)) h3);have q':=(aK.new (o:=.lst ((z1++z2).map V.int)) h3) _ _ (s2 _ _ (s1 _ _ M));have y':=aC (H:=G2) (a:=a3) (o:=.lst ((z1++z2).map V.int));have f':∀z∈z1++z2,∃r∈rs,r.1=z∨r.2.1=z:=fun z C=>(u9.mp C).elim (m1 z) (m2 z);generalize L2.upd G2 a3 (.lst ((z1++z2).map V.int))=G3 at *;have ρ:(z1++z2).length<=250:=by rw[m8];lia
 generalize z1++z2=I at *;w_on;refine cV (cS.of q') ?_;have η:Z.length<=98:=by rw[j6]at Y;lia
 refine xQ (xs:=Z.map (fun j:Nat=>V.int (j:Int))) (by rw[j6];lia) (fun g i R G=>Kp g G3 G/\∃js:List Nat,R=js.map (fun j:Nat=>V.int (j:Int))/\∀j∈js,j∈Z/\(j:Int)∈I) (fun g m=>{Kp.new m,[],rfl,fun _ C=>nomatch C}) ?_ ?_ ?_
 ·rintro g i R G m _ ⟨kp,_⟩;exact cS.of (kp _ _ (aB q' m) q')
 ·rintro g i R G x m hx B M ⟨kp,js,rfl,a'⟩;rw[t5]at hx;obtain ⟨j,hj,rfl⟩:=A9.mp hx;have hi:i<(Z.map (fun j:Nat=>V.int (j:Int))).length:=by rw[j6];exact (i5.mp hj).1
  have X':=kp _ _ (aB y' m) y';w_on;apply Ga X' ?_;refine rH (fun c=>?_) (fun c=>?_)
  ·w_on;refine pH hi B M {kp.trans Kp.upd,js++[j],by rw[B6];rfl,fun j' h'=>?_};rcases u9.mp h' with h'|h'
   ·exact a' j' h'
   ·rw[i9.mp h'];exact {u8 hj,c}
  ·w_on;exact nK hi B M {kp,js,rfl,a'}
 rintro a4 φ G4 h4 H' W' ⟨Q',js,rfl,a'⟩;rw[j6,j6]at W';have s4:aK H G4:=s3.trans fun b o h=>Q' _ _ (aB h h4) h;have N4:=hN.sm s4;obtain ⟨α,M',w'⟩:=id N4.q.rq;have L':α.length=rs.length:=Paired.length w';w_on;apply bZ (.inl N4.d) cP ?_;rw[L'];refine pR (by lia) (by lia) ?_;refine GN (n:=rs.length) (by lia) (fun g i R G=>Kp g G4 G/\∃ks:List Nat,R=ks.map (fun j:Nat=>V.int (j:Int))/\∀k∈ks,∃r,rs[k]?=some r/\FA (mT U u D (i0 (jG U r.1))) (mT U u D (i0 (jG U r.2.1))) (cQ (jM u ts) k) (ut u r.2.2) (ut u c')≠none) (fun g m=>{Kp.new m,[],rfl,fun _ C=>nomatch C}) ?_ ?_
 ·rintro g i R G m hi B M ⟨kp,ks,rfl,r'⟩;have sG:aK G4 G:=fun b o e=>kp _ _ (aB e m) e;have s5:=s4.trans sG;have N5:=hN.sm s5;w_on;apply bZ (.inl N5.d) jA ?_;rw[xi];apply {dd,U,u,rs,ps,ts,ln,lr,lp,lt,d,D,i,rs[i],c',rfl,hI,N5.q,J'.sm IQ.tk s5,du,i7 hi,n0,by lia,fun v G' sg lv=>?_};cases e:FA (mT U u D (i0 (jG U rs[i].1))) (mT U u D (i0 (jG U rs[i].2.1))) (cQ (jM u ts) i) (ut u rs[i].2.2) (ut u c') with
 |none=>
   rw[e]at lv;cases (show v=.non from lv);w_on;exact nK hi B (sg _ _ M) {kp.trans sg.kp,ks,rfl,r'}
 |some x=>
   rw[e]at lv;obtain ⟨p,w1,w2,rfl,_⟩:=lv;w_on;refine pH hi B (sg _ _ M) {(kp.trans sg.kp).trans Kp.upd,ks++[i],by rw[B6];rfl,fun k hk=>?_};rcases u9.mp hk with hk|hk
   ·exact r' k hk
   ·rw[i9.mp hk];exact {rs[i],i7 hi,by rw[e];exact fun z=>nomatch z}
 rintro a5 χ G5 h5 T' ο ⟨R',ks,rfl,r'⟩;have s5:aK G4 G5:=fun b o h=>R' _ _ (aB h h5) h;have B':=s4.trans s5;have K':∀j∈js,j<U.length/\(∃r∈rs,r.1=(j:Int)∨r.2.1=(j:Int))/\∀z,aV D (j5 (j:Int))=some z->c'<z:=fun j hj=>{(e' j (a' j hj).1).1,f' _ (a' j hj).2,(e' j (a' j hj).1).2}
 have g4:=s5 _ _ H';clear M' w' N4 M E' F' y' N0 N1 d' v' t' l' kp O' P' Q' R' s0 s1 s2 s3 s4 s5 a' f' e' m h1 h2 h3 h4 H' q'
 walk_at"gos"
 refine xM ?_;refine lF ?_
 walk_at"gos"
 refine xM ?_;refine lF ?_
 walk_at"gos"
 generalize S'%8=n';generalize S'.fdiv 8=nm;refine xM ?_;refine lF ?_;refine uY (fun σ F=>∃o,σ=[some (.ref dd),some (.ref d),some (.int nm),some (.ref a4),some (.ref a3),some (.ref a5),some (.int n'),o]/\aK G5 F) ?_ ?_
 ·rintro σ F ⟨o,rfl,sF⟩;refine xM ?_;refine lF ?_;refine uY (fun σ F=>∃o,σ=[some (.ref dd),some (.ref d),some (.int nm),some (.ref a4),some (.ref a3),some (.ref a5),some (.int n'),o]/\aK G5 F) ?_ ?_
  ·rintro σ F ⟨o,rfl,sF⟩;have s6:=B'.trans sF;have i':=s6 _ _ z';have N6:=hN.sm s6;w_on;apply NI d (mO.dK i') ?_;refine {rfl,kd,i',fun o'=>?_};have g':L2.upd F d (.frz o' (.dK kd)) d=some (.frz o' (.dK kd)):=aC;have x':L2.upd F d (.frz o' (.dK kd)) dd=_:=aW β N6.d;have u':∀G',aK (L2.upd F d (.frz o' (.dK kd))) G'->aK F (melt d G'):=fun G s=>OC i' s;generalize L2.upd F d (.frz o' (.dK kd))=HF at g' x' u' ⊢;have ζ:=du.len;refine VX (by lia) (fun g i R G=>Kp g HF G/\∃I:List Int,R=I.map V.int/\∀z∈I,c'<z/\∃y∈D,y.2=z) (fun g h=>{Kp.new h,[],rfl,fun _ C=>nomatch C}) ?_ ?_ ?_
   ·intro g i R G O _ ⟨kp,_⟩;exact kp _ _ (aB g' O) g'
   ·rintro g i R G k0 v0 O hx B M ⟨kp,I,rfl,s'⟩;have hi:=(i5.mp hx).1;obtain ⟨⟨k',z⟩,hy,ek,ev⟩:=Paired.at qd hx;cases (show k0=k' from ek);cases (show v0=.int z from ev);obtain ⟨j,ej,hj⟩:=du.ky _ (u8 hy);cases (show k0=j5 (j:Int) from ej);have vz:bI kd (j5 (j:Int))=some (.int z):=LJ Y' hx;have dG:=kp _ _ (aB g' O) g';have p':=kp _ _ (aB x' O) x';w_on;apply NH (.inr {o',dG}) vz ?_;apply bZ (.inl p') jA ?_;refine rH (fun c=>?_) (fun c=>?_)
    ·w_on;apply NH (.inr {o',dG}) vz ?_;refine pH hi B M {kp.trans Kp.upd,I++[z],by rw[B6];rfl,fun y m'=>?_};rcases u9.mp m' with m'|m'
     ·exact s' y m'
     ·rw[i9.mp m'];exact {c,_,u8 hy,rfl}
    ·w_on;exact nK hi B M {kp,I,rfl,s'}
   ·rintro g R G O M B ⟨kp,I,rfl,s'⟩;have sG:aK F (melt d G):=u' G fun b o e=>kp _ _ (aB e O) e;have I':melt d G g=some (.lst (I.map V.int)):=iX (fun _ _ z=>nomatch z) M;generalize melt d G=G6 at sG I' ⊢;rw[j6]at B;w_on;refine {g,I,rfl,I',by lia,fun l ws hl U' _=>?_};have s7:=(s6.trans sG).trans (aK.new (o:=.lst (ws.map V.int)) hl);have V':∀z∈ws,c'<z/\∃y∈D,y.2=z:=fun z C=>s' z (U'.mem_iff.mp C);have gl:L2.upd G6 l (.lst (ws.map V.int)) l=_:=aC;generalize L2.upd G6 l (.lst (ws.map V.int))=G7 at s7 gl⊢;have N7:=hN.sm s7
    walk_at"gos"
    refine xM ?_;refine lF ?_;refine uY (fun σ F=>∃o,σ=[some (.ref dd),some (.ref d),some (.int nm),some (.ref a4),some (.ref a3),some (.ref a5),some (.int n'),o]/\aK G7 F) ?_ ?_
    ·rintro σ F ⟨o,rfl,sF⟩;w_on;apply sO ?_;refine dH fun l9 b'=>?_;have W:=aK.new (o:=.lst (([4,12,1000,1000000000000000000000000000000]:List Int).map V.int)) b';have g9:=aC (H:=F) (a:=l9) (o:=.lst (([4,12,1000,1000000000000000000000000000000]:List Int).map V.int));w_on;obtain ⟨e,he,ee⟩:=WF (S:=[4,12,1000,1000000000000000000000000000000]) (i:=nm%4) (r9 _ (by decide)) (n6 _ (by decide));refine iW g9 ee ?_;have e2:4<=e/\e<=1000000000000000000000000000000:=by
      simp only[x6,ew,or_false]at he;lia
     w_on;apply bD fun p hp=>?_;have b0:=r9 (nm.fdiv 4) (show e≠0 by lia);have b1:=n6 (nm.fdiv 4) (show 0<e by lia);have sE:=(s7.trans sF).trans W;exact q p _ _ _ (sE.free hp) (sE.trans (aK.new hp)) aC (.inr (.inr {rfl,b0,.inr (by lia)}))
    ·intro NX X;w_on;refine rH (fun c=>?_) (fun c=>?_)
     ·w_on;refine dH fun l9 b'=>?_;have W:=aK.new (o:=.lst []) b';apply XB (W _ _ gl) aC ?_;by_cases hw:ws=[]
      ·subst hw;w_on;exact X _ _ {_,rfl,W}
      ·have N':0<ws.length:=Z4.mpr hw;have D':=W _ _ gl;have C':=(hN.sm (s7.trans W)).d;rw[gq.mpr hw];generalize L2.upd G7 l9 (.lst [])=G9 at W D' C' ⊢;w_on;rw[j6];refine oV (by lia) ?_;obtain ⟨z,C,ez⟩:=WF (S:=ws) (i:=nm%(ws.length:Int)) (r9 _ (by lia)) (n6 _ (by lia));refine iW D' ez ?_;obtain ⟨z0,y,hy,ey⟩:=V' z C;w_on;apply bZ (.inl C') jA ?_;apply bD fun p hp=>?_;have sE:=s7.trans W;exact q p _ _ _ (sE.free hp) (sE.trans (aK.new hp)) aC (.inr (.inr {rfl,by lia,.inl {y,hy,by lia}}))
     ·w_on;exact X _ _ {_,rfl,aK.refl _}
  ·intro NX X;w_on;refine rH (fun c=>?_) (fun c=>?_)
   ·w_on;refine dH fun l9 b'=>?_;have W:=aK.new (o:=.lst []) b';have g9:=W _ _ (sF _ _ T');apply XA g9 aC ?_;by_cases hw:ks=[]
    ·subst hw;w_on;exact X _ _ {_,rfl,sF.trans W}
    ·have N':0<ks.length:=Z4.mpr hw;rw[gq.mpr hw];generalize L2.upd F l9 (.lst [])=G9 at W g9⊢;w_on;rw[j6];refine oV (by lia) ?_;obtain ⟨k,hk,ek⟩:=WG (z:=nm) hw;apply iW g9 ek ?_;apply bD fun p hp=>?_;have sE:=(B'.trans sF).trans W;obtain ⟨r,J,hs⟩:=r' k hk;exact q p _ _ _ (sE.free hp) (sE.trans (aK.new hp)) aC (.inr (.inl {rfl,k,r,rfl,J,hs}))
   ·w_on;exact X _ _ {_,rfl,sF}
 ·intro NX X;w_on;refine rH (fun c=>?_) (fun c=>?_)
  ·w_on;refine dH fun l9 b'=>?_;have W:=aK.new (o:=.lst []) b';have g9:=W _ _ g4;apply XA g9 aC ?_;by_cases hw:js=[]
   ·subst hw;w_on;exact X _ _ {_,rfl,W}
   ·have N':0<js.length:=Z4.mpr hw;rw[gq.mpr hw];generalize L2.upd G5 l9 (.lst [])=G9 at W g9⊢;w_on;rw[j6];refine oV (by lia) ?_;obtain ⟨k,hk,ek⟩:=WG (z:=nm) hw;apply iW g9 ek ?_;apply bD fun p hp=>?_;have sE:=B'.trans W;obtain ⟨k1,k2,k3⟩:=K' k hk;exact q p _ _ _ (sE.free hp) (sE.trans (aK.new hp)) aC (.inl {rfl,k,rfl,k1,k2,k3})
  ·w_on;exact X _ _ {_,rfl,aK.refl _}
theorem Lb:cB P w K mg base (k+1) "_law_did" ["_law_here_here","_law_deed_here"] Fl:=by
 refine cB.of vE.d40 Ig (by walk_at"ln") fun f d' A a' s H vs Q E X h=>?_;obtain ⟨dd,U,u,rs,ps,ts,ln,lr,I,J,i,pd,w,x,rfl,hN,hp,n1,n2,n3,n4,n5,h⟩:=h;refine {_,(aH (cE (aZ (gA X.units) (aN aQ (pv 1) aF) aP) (aH (dL (jO E3 A7 A0 cZ (aS X.u1 (pv 0) aP) (aA (bM (aA (aN aQ (pv 1) aF) (aA (aS X.u1 (pv 0) aP) aD))) aD)))) (aH (cE (aZ (gA X.units) (aN aQ (pv 1) aF) aP) (aH (dL (jO E3 A7 A0 cZ (aS X.u1 (pv 0) aP) (aA (bM (aA (aN aQ (pv 1) aF) (aA (aS X.u1 (pv 0) aP) aD))) aD)))) (aH (iN X.u1 (pv 0) aP (aJ bG (aS X.u1 (pv 0) aP) (aN aQ (pv 1) aF)) rfl)))))),?_}
 try dsimp only[aR,bC]
 obtain ⟨B,W⟩:=hN;obtain ⟨Z,C,R⟩:=id W.pq;obtain ⟨vt,D,S⟩:=id W.tq;have b':Z.length=ps.length:=Paired.length R;have c':vt.length=ts.length:=Paired.length S;have dp:dd≠I:=yE B C;have dt:dd≠J:=yE B D;rcases h with ⟨rfl,hl,q⟩|⟨rfl,hl,q⟩|⟨rfl,q⟩
 ·w_on;apply uN (beq_self_eq_true _) ?_;apply bZ (.inl B) pF ?_;apply bZ (.inl B) jA ?_;apply bD fun p m=>?_;have N:=aK.new (o:=.tup [.int x,.int i]) m;apply gX (N _ _ C) (by lia) ?_;have Y:p≠I:=fun z=>by rw[z,C]at m;cases m
  have O:TK H (L2.upd (L2.upd H p (.tup [.int x,.int i])) I (.lst (Z++[.ref p]))):=N.tk.trans (TK.lst (N _ _ C));have g:∀{b:g6}{o:HO},b≠I->H b=some o->L2.upd (L2.upd H p (.tup [.int x,.int i])) I (.lst (Z++[.ref p])) b=some o:=fun nb e=>aW nb (N _ _ e);have new:LQ gD (L2.upd (L2.upd H p (.tup [.int x,.int i])) I (.lst (Z++[.ref p]))) I (ps++[(x,i)]):={_,aC,Pd.snoc (Pd.imp R fun v b f=>gD.tk f O) {p,rfl,aW Y aC}}
  obtain ⟨vr,G,M⟩:=id W.rq;exact q _ ((aK.kpL N).trans (.upd (.tail _ (.head _)))) {g dp B,{{_,g dp B},g n1 W.nm,{vr,g n3 G,Pd.imp M fun v b f=>kY.tk f O},new,{vt,g (u7 n5) D,Pd.imp S fun v b f=>gD.tk f O}}}
 ·w_on;apply jH (by k_is) ?_;apply uN (beq_self_eq_true _) ?_;apply bZ (.inl B) nJ ?_;apply bZ (.inl B) jA ?_;apply bD fun p m=>?_;have N:=aK.new (o:=.tup [.int x,.int i]) m;apply gX (N _ _ D) (by lia) ?_;have Y:p≠J:=fun z=>by rw[z,D]at m;cases m
  have O:TK H (L2.upd (L2.upd H p (.tup [.int x,.int i])) J (.lst (vt++[.ref p]))):=N.tk.trans (TK.lst (N _ _ D));have g:∀{b:g6}{o:HO},b≠J->H b=some o->L2.upd (L2.upd H p (.tup [.int x,.int i])) J (.lst (vt++[.ref p])) b=some o:=fun nb e=>aW nb (N _ _ e);have new:LQ gD (L2.upd (L2.upd H p (.tup [.int x,.int i])) J (.lst (vt++[.ref p]))) J (ts++[(x,i)]):={_,aC,Pd.snoc (Pd.imp S fun v b f=>gD.tk f O) {p,rfl,aW Y aC}}
  obtain ⟨vr,G,M⟩:=id W.rq;exact q _ ((aK.kpL N).trans (.upd (.tail _ (.tail _ (.head _))))) {g dt B,{{_,g dt B},g n2 W.nm,{vr,g n4 G,Pd.imp M fun v b f=>kY.tk f O},{Z,g n5 C,Pd.imp R fun v b f=>gD.tk f O},new}}
 ·w_on;apply jH (by k_is) ?_;apply jH (by k_is) ?_;apply bZ (.inl B) jA ?_;refine oC (c:=i0 "now") B (F4 rfl) ?_;rw[show eI (cL ln u lr I J [(i0 "now",.int i)]) (i0 "now") (.int (i+x))=cL ln u lr I J [(i0 "now",.int (i+x))] by with_unfolding_all rfl];w_on;have O:TK H (L2.upd H dd (.dK (cL ln u lr I J [(i0 "now",.int (i+x))]))):=TK.dic B;have g:∀{b:g6}{xs:List V},H b=some (.lst xs)->L2.upd H dd (.dK (cL ln u lr I J [(i0 "now",.int (i+x))])) b=some (.lst xs):=fun e=>aW (u7 (yE B e)) e;obtain ⟨vr,G,M⟩:=id W.rq;exact q _ (.upd (.head _)) {aC,{{_,aC},g W.nm,{vr,g G,Pd.imp M fun v b f=>kY.tk f O},{Z,g C,Pd.imp R fun v b f=>gD.tk f O},{vt,g D,Pd.imp S fun v b f=>gD.tk f O}}}
include o1h in
theorem uG:kX mB P w K mg base (k+1) cC "has_come" ["self","moment"] (UP cC):=by
 refine kX.of vE.d41 tX (by walk_at"ln") fun f g A c s H R Q E B h=>?_;obtain ⟨h,J,ln,N,O,C,I,v,m,o,rfl,M,i,b,D,G,q⟩:=h;refine {_,(aH (aU (uD (jR mG (pv 1) eK) (oX (JQ (aI o1h B rfl (aA (dU (pv 0) dQ) (aA (pv 1) aD)))))))),?_}
 try dsimp only[aR,bC]
 cases o with
|none=>
  cases (show v=.non from b);w_on;exact q
|some r=>obtain ⟨p,rfl,hp⟩:=id b;w_on;apply {C,.ref p,m,r,rfl,i,b,D,G r rfl,?_};exact q
theorem rE:kX mB P w K mg base (k+1) cC "falls_told" ["self"] (uS cC):=by
 refine kX.of vE.d42 qX (by walk_at"ln") fun f l' A j' s H vs Q E hr h=>?_;obtain ⟨h,dx,ln,lp,lt,vm,dm,n,ps,ts,D,M,U,mo,ys,rfl,ho,hI,hM,e',q⟩:=h;refine {_,(aH (aU (eZ (dO (aG gU) ["self"] ["post"] ["self"] [0]) rfl (cX (bB (yX rfl) rfl T.z_sorted qB (aA (dU (pv 0) dQ) aD))) (fun _ _ _ _=>(Zn ["post","self"] 0)) (fun _ _ _ _=>(bM (aA aP (aA (aS hr.u1 (NW (pv 1) dQ) (pv 0)) (aA (pv 0) aD))))) (fun _ _ _ _=>(lG (aZ mG (aS hr.u1 (NW (pv 1) dQ) (pv 0)) eK)))))),?_}
 try dsimp only[aR,bC]
 have dq:=hM.dq;obtain ⟨kd,b',qd⟩:=id dq;have o':ys.length<=63:=B9 (iJ hM.nd fun x hx=>hI.nm x ((hM.mem x).mp hx)) hI.u2;have f':kd.map (·.1)=ys.map i0:=by rw[qd.keys,R5];rfl
 w_on;refine {dm,ys,rfl,.inr (.inr {kd,b',f'}),e',fun ls W g' X h'=>?_};have p':W.length<=200:=by rw[X.length_eq];lia
 have s1:=aK.new (o:=.lst (W.map V.str)) g';have B:L2.upd H ls (.lst (W.map V.str)) ls=some (.lst (W.map V.str)):=aC;have m:=s1 _ _ b';have c':=s1 _ _ ho;have M1:=hM.mv (fun o e=>s1 _ _ e) s1.tk;generalize L2.upd H ls (.lst (W.map V.str))=H1 at *;refine cV (cS.of B) ?_;refine xQ (xs:=W.map V.str) (by rw[j6];lia) (fun g i Z G=>Kp g H1 G/\Paired (iU G) Z ((W.take i).filterMap (vC mo))) (fun g I=>{Kp.new I,.nil}) ?_ ?_ ?_
 ·intro g i Z G I _ ⟨kp,_⟩;exact cS.of (kp _ _ (aB B I) B)
 ·intro g i Z G x I hx O hG ⟨kp,pr⟩;rw[t5]at hx;obtain ⟨y,J,rfl⟩:=A9.mp hx;have hi:i<(W.map V.str).length:=by rw[j6];exact (i5.mp J).1
  have i':y∈names n:=(hM.mem y).mp (X.mem_iff.mp (u8 J));have S:G dm=some (.dK kd):=kp _ _ (aB m I) m;have m':G h=some (.ins cC dx (bV ln lp lt vm dm)):=kp _ _ (aB c' I) c';have k':TK H1 G:=fun p xs e=>kp _ _ (aB e I) e;rcases M1.get m y with ⟨_,v,ev,qv⟩|⟨z,_⟩
  ·have C:=fI.tk qv k';w_on;refine sQ (c:=i0 y) (.inl S) ev ?_;cases e:mo (i0 y) with
  |none=>
    rw[e]at C;cases (show v=.non from C);w_on;refine nK hi O hG {kp,?_};rw[DP J,vC,e];exact (K4 _).symm▸pr
  |some r=>rw[e]at C;obtain ⟨pv,rfl,n'⟩:=id (show cA G v r from C);w_on;apply sQ (c:=i0 y) (.inl S) ev ?_;refine bD fun t1 Y=>?_;have a':=aO (o:=.tup [.str "falls",.ref pv,.str y]) Y hG;refine pH hi O a' {Kp.trans (Kp.trans kp (fun b o _ e=>aO Y e)) Kp.upd,?_};have tk:TK (L2.upd G t1 (.tup [.str "falls",.ref pv,.str y])) (L2.upd (L2.upd G t1 (.tup [.str "falls",.ref pv,.str y])) g (.lst (Z++[.ref t1]))):=TK.lst a';have d':=(TK.new (o:=.tup [.str "falls",.ref pv,.str y]) Y).trans tk;rw[DP J,show vC mo y=some (.falls r y) by rw[vC,e];rfl];exact Pd.snoc (Pd.imp pr fun z e h=>iU.tk h d') {t1,_,rfl,tk _ _ aC,cA.tk C d'}
  ·exact absurd i' z
 ·intro g Z G I hG O ⟨kp,pr⟩;w_on;have sG:aK H1 G:=fun b o e=>kp _ _ (aB e I) e;rw[j6]at O;rw[j6,F7]at pr;refine q g G Z _ (s1.free I) (s1.trans sG) hG (by lia) (X.filterMap _) {ij.mpr ((PP h').imp fun {a b} h x hx y J=>?_),fun e he=>?_} pr fun e he=>?_
  ·obtain ⟨_,_,rfl⟩:=A9.mp hx;obtain ⟨_,_,rfl⟩:=A9.mp J;exact h
  ·obtain ⟨y,_,J⟩:=dy.mp he;obtain ⟨r,hr,rfl⟩:=A9.mp J;rfl
  obtain ⟨y,_,J⟩:=dy.mp he;obtain ⟨r,hr,rfl⟩:=A9.mp J;have b:=hM.bd _ _ hr;exact {Sb b,(hI.R.sz b).mono (by decide)}
include o0h o0u in
theorem oZ:kX mB P w K mg base (k+1) cC "endings_told" ["self"] (xA cC):=by
 refine kX.of vE.d43 cG (by walk_at"ln") fun f P' A I' s H vs Q E hr h=>?_;obtain ⟨h,dx,ln,lp,lt,vm,dm,n,ps,B,D,M,U,g,ys,rfl,ho,S,hM,q⟩:=h;refine {_,(aE (eA 1 cG.nd (aI o0h hr rfl (aA (dU (pv 0) dQ) aD)))
   (aE (eA 2 cG.nd (cJ aD))
   (aE (fZ B4 rfl (NU rfl T.z_enumerate (aA (dU (pv 0) dQ) aD)) (lS (n:=2) rfl (bA (sT 3 cG.nd) (bA (sT 4 cG.nd) eQ))) (aE (eA 5 cG.nd (aI o0u hr rfl (aA (pv 4) (aA (dU (pv 0) dQ) (aA (GS hr.u1 (pv 1) (pv 3) {rfl,rfl,rfl,rfl}) aD)))))
   (aH (cE (aZ (gA hr.units) (aN aQ (pv 5) aF) aP) (aH (dL (jO E3 A7 A0 cZ (pv 2) (aA (bM (aA aP (aA (aN aQ (pv 5) aF) (aA (pv 3) (aA (aN aQ (pv 5) aF) aD))))) aD)))) (aH (cE (aZ (gA hr.units) (aN aQ (pv 5) aF) aP) (aH (dL (jO E3 A7 A0 cZ (pv 2) (aA (bM (aA aP (aA (aN aQ (pv 5) aF) (aA (pv 3) aD)))) aD)))) bL))))))
   (aH (aU (pv 2)))))),?_}
 try dsimp only[aR,bC]
 obtain ⟨vn,k',w'⟩:=id S.nq.lq;have G':vn.length=n.length:=by rw[Paired.length w'];unfold kn;exact j6 ..
 have S':n.length<=120:=by have:=S.nq.len;unfold kn at this;rw[j6]at this;exact this
 have dq:=hM.dq;obtain ⟨kd,h',qd⟩:=id dq;have zF:∀p f,g p=some f->Sz 400 f:=fun p f e=>S.R.sz (hM.bd p f e);w_on;refine {lt,B,rfl,S.tq,B9 S.tl (by decide),fun x hx=>(S.tz x hx).mono (by decide),fun dT H3 R' s3 tq=>?_};obtain ⟨kt,C',qt⟩:=tq;have U':=s3 _ _ ho;w_on;refine dH fun l hl=>?_;have s4:=aK.new (o:=.lst []) hl;have i':L2.upd H3 l (.lst []) l=some (.lst []):=aC;have I:=s3.trans s4;have E':=I _ _ ho;have f':=I _ _ k';have X:=I _ _ h';have Y:=s4 _ _ C';have M':=qt.imp fun v b f=>cA.tk f s4.tk;have x':=Pd.imp w' fun v b f=>jK.tk f I.tk;have M4:=hM.mv (fun o e=>I _ _ e) I.tk;have N:H l=none:=s3.free hl;generalize L2.upd H3 l (.lst [])=H4 at *;w_on;refine {ln,rfl,{vn,cS.of f'},?_};refine VR (xs:=vn) (fun i σ G=>∃o1 o2 o3 J,σ=[some (.ref h),some (.ref dT),some (.ref l),o1,o2,o3]/\Kp l H4 G/\G l=some (.lst J)/\J.length<=i/\Paired (iU G) J (((y9 n.length).take i).filterMap (jI n g B))/\∀e∈((y9 n.length).take i).filterMap (jI n g B),ZK (2*D) e) {_,_,_,[],rfl,Kp.refl _ _,i',k7 _,.nil,fun z hz=>nomatch hz} ?_ ?_ ?_
 ·rintro i σ G _ ⟨o1,o2,o3,J,rfl,kp,_⟩;exact cS.of (kp _ _ (fun z=>by rw[z]at k';rw[k']at N;cases N) f')
 ·rintro i x T σ G hx hT ⟨o1,o2,o3,J,rfl,kp,hG,m',pr,bs⟩;have hi:i<n.length:=by rw[←G'];exact (i5.mp hx).1
  obtain ⟨r',t',c,u,rfl,q',ft⟩:=Paired.at x' hx;have j':n[i]?=some n[i]:=i7 hi;have o':(kn n)[i]?=some (i0 n[i].1,i0 n[i].2.1,n[i].2.2):=by unfold kn;rw[t5,j'];rfl
  rw[o']at t';cases t';have Z:=O8 hi;generalize n[i]=r at o' q' ft Z j';have bT:=S.nq.bd _ (w8.mpr {r,Z,rfl});have pT:(0:Rat)<r.2.2:=S.nq.pos _ (w8.mpr {r,Z,rfl});have A':r.1∈names n:=D3 _ (w8.mpr {r,Z,rfl});have B':r.2.1∈names n:=x9 _ (w8.mpr {r,Z,rfl});obtain ⟨va,ea,qa⟩:∃v,bI kd (i0 r.1)=some v/\fI H4 v (g (i0 r.1)):=by
   rcases M4.get X r.1 with ⟨_,x⟩|⟨x,_⟩
   ·exact x
   ·exact absurd A' x
  obtain ⟨vb,eb,qb⟩:∃v,bI kd (i0 r.2.1)=some v/\fI H4 v (g (i0 r.2.1)):=by
   rcases M4.get X r.2.1 with ⟨_,x⟩|⟨x,_⟩
   ·exact x
   ·exact absurd B' x
  have l':∀{b:g6}{o:HO},H4 b=some o->b≠l->L2.upd G T (.tup [.int i,.ref c]) b=some o:=fun e ne=>aO hT (kp _ _ ne e);have O':TK H4 G:=fun p xs e=>kp _ _ (fN e i' (by intro z;cases z)) e;have c':TK H4 (L2.upd G T (.tup [.int i,.ref c])):=O'.trans (TK.new hT);have xh:h≠l:=fun z=>by rw[z,N]at ho;cases ho
  have xd:dm≠l:=fun z=>by rw[z,N]at h';cases h'
  have xt:dT≠l:=fun z=>by rw[z,i']at Y;cases Y
  have F':=l' E' xh;have n':=l' X xd;have e':=l' Y xt;have s':=c' _ _ q';have D':=aO (o:=.tup [.int i,.ref c]) hT hG;have H':Kp l H4 (L2.upd G T (.tup [.int i,.ref c])):=kp.trans (fun b o _ e=>aO hT e);have J':Paired (iU (L2.upd G T (.tup [.int i,.ref c]))) J (((y9 n.length).take i).filterMap (jI n g B)):=Pd.imp pr fun z e h=>iU.tk h (TK.new hT);have Q':L2.upd G T (.tup [.int i,.ref c]) T=_:=aC;have y':=cA.tk ft c';have K':=fI.tk qa c';have L':=fI.tk qb c';have N':=M'.imp fun v b f=>cA.tk f c';generalize L2.upd G T (.tup [.int i,.ref c])=G1 at *;have ot:fI G1 ((bI kt (j5 (i:Int))).getD .non) (cQ B i):=by
   unfold cQ;rcases N'.val (k:=j5 (i:Int)) with ⟨e1,O⟩|⟨v1,r1,e1,O,f1⟩
   ·rw[e1,O];rfl
   ·rw[e1,O];exact f1
  have zt:∀f,cQ B i=some f->Sz 400 f:=fun f e=>S.tz _ (lH (cM e));w_on;apply {dT,rfl,.inl {kt,.inl e'},?_};refine {bI kt (j5 (i:Int)),.inl {kt,j5 (i:Int),.inl e',rfl,rfl},?_};generalize (bI kt (j5 (i:Int))).getD .non=vk at ot⊢;w_on;refine {c,dm,vk,r.1,r.2.1,u,r.2.2,kd,_,_,_,va,vb,rfl,s',y',n',ea,K',eb,L',ot,pT,S.R.sz (bT.mono (by lia)),zF _,zF _,zt,fun v G2 W s2=>?_};have dn:=Dj (a:=r.1) (b:=r.2.1) (T:=r.2.2) S.R.ne bT.1 (fun f e=>(hM.bd (i0 r.1) f e).1) (fun f e=>(hM.bd (i0 r.2.1) f e).1);have dz:=YM (a:=r.1) (b:=r.2.1) (T:=r.2.2) (S.R.sz (bT.mono (by lia))) (zF (i0 r.1)) (zF (i0 r.2.1));have d':=s2 _ _ D';have u':Kp l H4 G2:=H'.trans s2.kp;have v':=Pd.imp J' fun z e h=>iU.tk h s2.tk;have eE:jI n g B i=Rv i (KN (vK r.1 r.2.1 (g (i0 r.1)) (g (i0 r.2.1)) r.2.2) (cQ B i)):=by unfold jI;rw[j'];rfl
  have eS:=DP (f:=jI n g B) (Ih hi);have T':=s2 _ _ F';have b':jI n g B i=none->∀oz,∃o1 o2 o3 C,[some (V.ref h),some (V.ref dT),some (V.ref l),some (V.int i),some (V.ref c),oz]=[some (V.ref h),some (V.ref dT),some (V.ref l),o1,o2,o3]/\Kp l H4 G2/\G2 l=some (.lst C)/\C.length<=i+1/\Paired (iU G2) C (((y9 n.length).take (i+1)).filterMap (jI n g B))/\∀e∈((y9 n.length).take (i+1)).filterMap (jI n g B),ZK (2*D) e:=fun z oz=>by rw[eS,z];exact {_,_,_,J,rfl,u',d',Nat.le_succ_of_le m',(K4 _).symm▸v',(K4 _).symm▸bs}
  have g':∀(m:g6)(xs:List V)(e:Ev),G2 m=none->jI n g B i=some e->(∀ {G3},TK G2 G3->G3 m=some (.tup xs)->iU G3 (.ref m) e)->ZK (2*D) e->∀oz,∃o1 o2 o3 C,[some (V.ref h),some (V.ref dT),some (V.ref l),some (V.int i),some (V.ref c),oz]=[some (V.ref h),some (V.ref dT),some (V.ref l),o1,o2,o3]/\Kp l H4 (L2.upd (L2.upd G2 m (.tup xs)) l (.lst (J++[.ref m])))/\L2.upd (L2.upd G2 m (.tup xs)) l (.lst (J++[.ref m])) l=some (.lst C)/\C.length<=i+1/\Paired (iU (L2.upd (L2.upd G2 m (.tup xs)) l (.lst (J++[.ref m])))) C (((y9 n.length).take (i+1)).filterMap (jI n g B))/\∀e∈((y9 n.length).take (i+1)).filterMap (jI n g B),ZK (2*D) e:=fun m xs e ht he fe be oz=>by
   have p':=aO (o:=.tup xs) ht d';have ZM:=(TK.new (o:=.tup xs) ht).trans (TK.lst (o:=.lst (J++[.ref m])) p');rw[eS,he];refine {_,_,_,J++[.ref m],rfl,(u'.trans (fun b o _ e=>aO ht e)).trans Kp.upd,aC,by rw[m8];show _+1<=_;lia,Pd.snoc (Pd.imp v' fun z e h=>iU.tk h ZM) (fe ZM (TK.lst p' _ _ aC)),fun z hz=>?_};rcases u9.mp hz with hz|hz
   ·exact bs z hz
   ·rw[i9.mp hz];exact be
  rcases Dk (e:=vK r.1 r.2.1 (g (i0 r.1)) (g (i0 r.2.1)) r.2.2) (tk:=cQ B i) with ⟨t,e⟩|e
  ·rw[e]at W;obtain ⟨p,w,rfl,hp,fw⟩:=W;w_on;apply jH (by k_is) ?_;apply jH (by k_is) ?_;exact b' (by rw[eE,e];rfl) _
  ·rw[e]at W;cases O:vK r.1 r.2.1 (g (i0 r.1)) (g (i0 r.2.1)) r.2.2 with
  |stands=>
    rw[O]at W;obtain ⟨p,rfl,hp⟩:=W;w_on;apply jH (by k_is) ?_;apply jH (by k_is) ?_;exact b' (by rw[eE,e,O];rfl) _
  |taken t=>
    rw[O]at W;obtain ⟨p,w,rfl,hp,fw⟩:=W;w_on;apply jH (by k_is) ?_;apply jH (by k_is) ?_;exact b' (by rw[eE,e,O];rfl) _
  |swept s t=>
    rw[O]at W dn dz;obtain ⟨p,w,rfl,hp,fw⟩:=W;w_on;apply jH (by k_is) ?_;apply uN (beq_self_eq_true _) ?_;apply bD fun m a'=>?_;apply gX (aO a' d') (by lia) ?_;exact g' m _ (.swept t i) a' (by rw[eE,e,O];rfl) (fun tk h=>{m,w,rfl,h,fw.tk tk}) {dn t rfl,dz t rfl} _
  |met t sh=>rw[O]at W dn dz;obtain ⟨p,w,w2,rfl,hp,fw,z'⟩:=W;w_on;apply uN (beq_self_eq_true _) ?_;apply bD fun m a'=>?_;apply gX (aO a' d') (by lia) ?_;exact g' m _ (.met t i sh) a' (by rw[eE,e,O];rfl) (fun tk h=>{m,w,w2,rfl,h,fw.tk tk,z'.tk tk}) {dn t rfl,dz t rfl} _
 ·rintro σ G ⟨o1,o2,o3,J,rfl,kp,hG,m',pr,bs⟩;w_on;have eT:(y9 n.length).take vn.length=y9 n.length:=D2 (by rw[re];lia);rw[eT]at pr bs;exact q l G J N (fun b o e=>kp _ _ (aB e N) (I _ _ e)) hG (by lia) pr bs
include o1n o1h o0x o0s o0g o0d o0b in
theorem JW:kX mB P w K mg base (k+1) cC "go" ["self","time"] (Ic K cC):=by
 refine kX.of vE.d44 mZ (by walk_at"ln") fun f W' A N' s H vs Q E hr h=>?_;obtain ⟨h,dx,ln,Y,Z,vm,W,v,m,n,ps,ts,D,M,U,mo,ys,rfl,ho,hI,hM,hm,zm,hT,E',α,t,fv,t0,zt,V',q⟩:=h;refine {_,(aE (cE (lR (eG (aI o0x hr rfl (aA (pv 1) aD)))) (aH kD) bL)
   (aE (eA 2 mZ.nd (dU (pv 0) dQ))
   (aE (qZ (pv 0) (aI o1n hr rfl (aA (pv 2) (aA (pv 1) aD))) rfl)
   (aE (eA 3 mZ.nd (aJ bG (uC o0d HC.cl hr fV (pv 0)) (uC o0b HC.cl hr fV (pv 0))))
   (aE (vW (i:=4) mZ.nd rfl (by w_left) (dO (aG pP) ["self","time","before","told","fresh"] ["each"] ["self","before"] [0,2]) rfl (cX (pv 3)) (fun _ _ _ _=>(Zn ["each","self","before"] 0)) (fun _ _ _ _=>(pv 0)) (fun _ _ _ _=>(lG (PW.pt (nD (eG (aI o1h hr rfl (aA (pv 2) (aA (aN kK (pv 0) aF) aD)))) (jQ (eG (oY o0g HC.cl hr fV (pv 1) (aA (aN kK (pv 0) aF) aD)))))))))
   (aH (aU (aI o0s hr rfl (aA (eZ (dO (aG pP) ["self","time","before","told","fresh"] ["each"] [] []) rfl (cX (pv 4)) (fun _ _ _ _=>(Zn ["each"] 0)) (fun _ _ _ _=>(aN kK (pv 0) aF)) (fun _ _ _ _=>fB)) (aA (pv 4) aD)))))))))),?_}
 try dsimp only[aR,bC]
 have z4:Sz 400 m:=hI.R.sz (zm.mono (by lia));w_on;apply {v,t,rfl,fv,t0,zt.mono (by decide),?_};refine {vm,v,m,t,rfl,hm,fv,z4.mono (by decide),zt.mono (by decide),fun g H1 B' s1=>?_};have j':=s1 _ _ ho;have T1:LT H1:=nR.same hT s1;w_on;rw[YD];have xd:W≠h:=fun z=>by
  obtain ⟨kd,b',_⟩:=hM.dq;rw[z,ho]at b';cases b'
 have k1:jL [h] H (L2.upd H1 h (.ins cC dx (bV ln Y Z g W))):=(aK.kpL s1).trans (.upd (.head _));have c':L2.upd H1 h (.ins cC dx (bV ln Y Z g W)) h=_:=aC;have t1:TK H (L2.upd H1 h (.ins cC dx (bV ln Y Z g W))):=s1.tk.trans (wL j');have I2:cU (L2.upd H1 h (.ins cC dx (bV ln Y Z g W))) ln Y Z n ps ts D M U:=hI.mv (fun l xs e=>k1.app1 (fun z=>by rw[z,ho]at e;cases e) e) t1;have M2:dA (L2.upd H1 h (.ins cC dx (bV ln Y Z g W))) W n ps ts D M mo ys:=hM.mv (fun o e=>k1.app1 xd e) t1;have s':cA (L2.upd H1 h (.ins cC dx (bV ln Y Z g W))) g (m+t):=B'.tk (wL j');have z':=hm.tk t1;have T2:LT (L2.upd H1 h (.ins cC dx (bV ln Y Z g W))):=T1.ins j';generalize L2.upd H1 h (.ins cC dx (bV ln Y Z g W))=H2 at *;refine {h,dx,ln,Y,Z,g,W,n,ps,ts,D,M,U,mo,ys,rfl,c',I2,M2,E',fun p3 H3 zs e3 X' s3 g3 l3 w' x' n' b3=>?_};have I':=s3 _ _ c';w_on;refine {h,dx,ln,Y,Z,g,W,n,ps,ts,D,M,U,mo,ys,rfl,I',I2.sm s3,M2.mv (fun o e=>s3 _ _ e) s3.tk,fun p4 H4 S Y' s4 g4 l4 o' b4=>?_};have D':=s4 _ _ g3;w_on;refine CB D' g4 (by lia) fun p5 L'=>?_;have s5:=aK.new (o:=.lst (zs++S)) L';have g5:L2.upd H4 p5 (.lst (zs++S)) p5=_:=aC;have g':=(s3.trans s4).trans s5;have p':Paired (iU (L2.upd H4 p5 (.lst (zs++S)))) (zs++S) (e3++(y9 n.length).filterMap (jI n mo ts)):=Pd.app (Pd.imp n' fun z e h=>iU.tk h (s4.trans s5).tk) (Pd.imp o' fun z e h=>iU.tk h s5.tk);have O':(e3++(y9 n.length).filterMap (jI n mo ts)).Perm (vN n mo ts ys):=w'.append_right _;have T':(e3++(y9 n.length).filterMap (jI n mo ts)).Pairwise Ev.sec:=Ai x'.1 Di x'.2 fun e C=>by obtain ⟨i,_,hi⟩:=dy.mp C;rw[YN hi];exact nofun
 have b5:∀e∈e3++(y9 n.length).filterMap (jI n mo ts),ZK (2*D) e:=fun e C=>by
  rcases u9.mp C with C|C
  ·exact b3 e C
  ·exact b4 e C
 have ll:(zs++S).length<200:=by have x1:=Paired.length n';have x2:=Paired.length o';have x3:=w'.length_eq;have x4:=W1 (vC mo) ys;have x5:=W1 (jI n mo ts) (y9 n.length);rw[re]at x5;rw[m8];lia
 generalize L2.upd H4 p5 (.lst (zs++S))=H5 at *;generalize zs++S=es at *;generalize e3++(y9 n.length).filterMap (jI n mo ts)=E5 at *;have l5:=Paired.length p';have u':=g' _ _ c';w_on;refine cV (cS.of g5) ?_;refine xQ (xs:=es) (by lia) (fun I i fs G=>Kp I H5 G/\Paired (iU H5) fs ((E5.take i).filter (fresh m (m+t)))) (fun I h0=>{Kp.new h0,.nil}) ?_ ?_ ?_
 ·intro I i fs G h0 _ ⟨kp,_⟩;exact cS.of (kp _ _ (aB g5 h0) g5)
 ·intro I i fs G x h0 hx i' hG ⟨kp,pr⟩;have hi:i<es.length:=(i5.mp hx).1;have Z':=u8 hx;obtain ⟨e,C,ex⟩:=Paired.at p' hx;have ⟨dr,zr⟩:=b5 e (u8 C);obtain ⟨p,sg,u,iV,rfl,hp,fr⟩:=iU.two ex;have eS:=Da (f:=fresh m (m+t)) C;have eF:fresh m (m+t) e=(decide (m<e.t)&&ID (m+t) (some e.t)):=rfl;obtain ⟨r,er⟩:∃r,e.t=r:={_,rfl}
  rw[er]at fr dr zr eF;have O:TK H5 G:=fun p xs e=>kp _ _ (aB e h0) e;have v':=O _ _ hp;have J':G h=some (.ins cC dx (bV ln Y Z g W)):=kp _ _ (aB u' h0) u';have t':=fr.tk O;have A':=z'.tk (g'.tk.trans O);have C':=s'.tk (g'.tk.trans O);have h':fresh m (m+t) e=false->yQ es.length I (fun i fs G=>Kp I H5 G/\Paired (iU H5) fs ((E5.take i).filter (fresh m (m+t)))) fs i G:=fun z=>nK hi i' hG {kp,by rw[eS,z];exact (K4 _).symm▸pr};have f':zA (V.str sg::u::iV) 1=some u:=iT (j:=1) rfl;w_on;apply NE v' f' ?_;apply {vm,u,m,r,rfl,A',t',z4.mono (by decide),zr.mono (by decide),?_};refine rH (fun c=>?_) (fun c=>?_)
  ·w_on;apply NE v' f' ?_;refine {h,dx,ln,Y,Z,g,W,u,m+t,some r,rfl,J',C',t',(hI.R.sz (V'.mono (by lia))).mono (by decide),fun r' e'=>by cases e';exact zr.mono (by decide),?_};w_on;cases ec:ID (m+t) (some r) with
  |true=>
    w_on;refine pH hi i' hG {kp.trans Kp.upd,?_};rw[eS,eF,ec,decide_eq_true c];exact Pd.snoc pr ex
  |false=>w_on;exact h' (by rw[eF,ec,kc])
  ·w_on;exact h' (by rw[eF,decide_eq_false c,sv])
 ·intro I fs G h0 hG i' ⟨kp,pr⟩;have s6:aK H5 G:=fun b o e=>kp _ _ (aB e h0) e;rw[l5,F7]at pr;have m':=Pd.imp pr fun z e h=>iU.tk h s6.tk;have b6:∀e∈E5.filter (fresh m (m+t)),ZK (2*D) e:=fun e C=>b5 e (Q0.mp C).1;have P':(E5.filter (fresh m (m+t))).Perm ((vN n mo ts ys).filter (fresh m (m+t))):=O'.filter _;have S':=g'.trans s6;w_on;refine cV (cS.of hG) ?_;refine pU (xs:=fs) (by lia) (fun B i ws G'=>Kp B G G'/\Paired (cA G') ws (((E5.filter (fresh m (m+t))).take i).map Ev.t)) (fun B h0=>{Kp.new h0,.nil}) ?_ ?_ ?_
  ·rintro B i ws G' a' _ ⟨X,_⟩;exact cS.of (X _ _ (aB hG a') hG)
  ·rintro B i ws G' x a' hx k' ha ⟨X,pw⟩;obtain ⟨e,C,ex⟩:=Paired.at m' hx;obtain ⟨p,sg,u,iV,rfl,hp,fu⟩:=iU.two ex;have O:TK G G':=fun p xs e=>X _ _ (aB e a') e;have f':zA (V.str sg::u::iV) 1=some u:=iT (j:=1) rfl;w_on;refine NE (O _ _ hp) f' ?_;refine jJ (i5.mp hx).1 k' ha {X.trans Kp.upd,?_};have tk:=TK.lst (o:=.lst (ws++[u])) ha;rw[Y9,C,B6];exact Pd.snoc (Pd.imp pw fun z e h=>cA.tk h tk) (fu.tk (O.trans tk))
  ·rintro B ws G' a' ha k' ⟨X,pw⟩;have l6:=Paired.length m';rw[l6,F7]at pw;have s7:aK G G':=fun b o e=>X _ _ (aB e a') e;have J:=S'.trans s7;have T7:LT G':=nR.same T2 J;w_on;refine {B,I,ws,fs,(E5.filter (fresh m (m+t))).map Ev.t,2*D,rfl,ha,s7 _ _ hG,pw,k',by lia,by have:=hI.R.ne;lia,by have:=hI.R.d3;exact j3 (show 2*D<2^301 by rw[pow_succ];lia) (W2 (by decide) (by decide)),fun q hq=>?_,T7,fun p8 H8 D8 R' M' k8 T8 F' H' y' g8=>?_}
   ·obtain ⟨e,C,rfl⟩:=w8.mp hq;exact b6 e C
   w_on;have t8:=Ud k8 T7;have d':∀{b:g6}{o:HO},H2 b=some o->(∀ps,o≠.tbl ps)->H8 b=some o:=fun e ne=>kT k8 T7 (J _ _ e) ne;rw[R5]at y';obtain ⟨e8,l',q',U'⟩:=TM (Pd.imp m' fun z e h=>iU.tk h (s7.tk.trans t8)) (T'.filter _) F' (fun e C=>H' _ (lm C)) y';have Q':(R'.map (·.2)).length=fs.length:=by rw[Paired.length q',l'.length_eq,l6]
   have K':H p8=none:=by
    have h2:=J.free M';cases e:H p8 with
   |none=>rfl
   |some o=>
     have nh:p8≠h:=fun z=>by rw[z,c']at h2;cases h2
     rw[k1.app1 nh e]at h2;cases h2
   refine q p8 g H8 _ e8 K' g8 (by rw[Q'];lia) q' (l'.trans P') U' (fun e C=>b6 e (l'.mem_iff.mp C)) (fun b o nb e=>?_) T8 (d' c' (fun _ z=>nomatch z)) (s'.tk (J.tk.trans t8)) (I2.mv (fun l xs e=>d' e (fun _ z=>nomatch z)) (J.tk.trans t8)) (M2.mv (fun o e=>?_) (J.tk.trans t8))
   ·exact k8 _ _ (fun z=>nb (by rw[z];exact .tail _ (.head _))) (J _ _ (k1 _ _ (fun z=>nb (by rw[i9.mp z];exact .head _)) e))
   ·obtain ⟨kd,b',_⟩:=M2.dq;rw[b']at e;cases e;exact d' b' (fun _ z=>nomatch z)
include o0i in
theorem yB:kX mB P w K mg base (k+1) cC "reckon" ["self"] (FJ cC):=by
 refine kX.of vE.d45 xD (by walk_at"ln") fun f O A C s H vs Q E m h=>?_;obtain ⟨h,dx,ln,X,I,vm,dm,n,Z,ts,D,M,U,rfl,G,b,q⟩:=h;refine {_,(aH (qZ (pv 0) (aI o0i.f m rfl (aA (dU (pv 0) dQ) (aA (dU (pv 0) dQ) (aA (dU (pv 0) dQ) aD)))) rfl)),?_}
 try dsimp only[aR,bC]
 w_on;refine {ln,n,X,Z,.ref I,ts,D,M,U,rfl,b.nq,b.pq,{.inr {I,rfl,b.tq},b.tl,fun r m=>(b.tz r m).mono (by decide)},b.R.r8,b.u2,b.nm,fun d H1 F ys c J S W N Y B=>?_};have i:=J _ _ G;w_on;rw[YC];have g:d≠h:=fun z=>by rw[z,G]at c;cases c
 exact q d _ _ ys c (J.kpL.trans (.upd (.head _))) aC ((dA.of S W N Y B).mv (fun o z=>aW g z) (wL i))
include o1b o0h o0o in
theorem zM:kX mB P w K mg base (k+1) cC "tiles" ["self","number"] (LP K cC):=by
 refine kX.of vE.d46 qJ (by walk_at"ln") fun f d' A c' s H vs Q E N h=>?_;obtain ⟨h,dx,ln,lp,lt,vm,dm,g,r,m,n,ps,ts,D,M,U,mo,ys,rfl,ho,b,J,hm,zm,B,q⟩:=h;refine {_,(aE (cE (PW.pt (oF (lR (eG (aI o1b N rfl (aA (pv 1) aD)))) (jF (lR (WB Gr sW aF (pv 1) (bB hX rfl T.z_len fA (aA (dU (pv 0) dQ) aD))))))) (aH kD) bL)
   (aE (eA 2 qJ.nd (GS N.u1 (aI o0h N rfl (aA (dU (pv 0) dQ) aD)) (pv 1) {rfl,rfl,rfl,rfl}))
   (aH (aU (aI o0o N rfl (aA (aN aQ (dU (pv 0) dQ) (pv 1)) (aA (dU (pv 0) dQ) (aA (pv 2) (aA (dU (pv 0) dQ) aD))))))))),?_}
 try dsimp only[aR,bC]
 obtain ⟨vn,a',I⟩:=id b.nq.lq;have h':vn.length=n.length:=by rw[Paired.length I];unfold kn;exact j6 ..
 have f':=b.nq.len;have e':g<n.length:=(i5.mp B).1;have Y:(kn n)[g]?=some (i0 r.1,i0 r.2.1,r.2.2):=by unfold kn;rw[t5,B];rfl
 have c:=u8 B;obtain ⟨vr,b',pr,u,rfl,Z,ft⟩:=CV I Y;have bT:=b.nq.bd _ (w8.mpr {r,c,rfl});have pT:(0:Rat)<r.2.2:=b.nq.pos _ (w8.mpr {r,c,rfl});have W:r.1∈names n:=D3 _ (w8.mpr {r,c,rfl});have X:r.2.1∈names n:=x9 _ (w8.mpr {r,c,rfl});have dq:=J.dq;obtain ⟨kd,o,qd⟩:=id dq;obtain ⟨va,ea,qa⟩:∃v,bI kd (i0 r.1)=some v/\fI H v (mo (i0 r.1)):=by
  rcases J.get o r.1 with ⟨_,x⟩|⟨x,_⟩
  ·exact x
  ·exact absurd W x
 obtain ⟨vb,eb,qb⟩:∃v,bI kd (i0 r.2.1)=some v/\fI H v (mo (i0 r.2.1)):=by
  rcases J.get o r.2.1 with ⟨_,x⟩|⟨x,_⟩
  ·exact x
  ·exact absurd X x
 have zF:∀p f,mo p=some f->Sz 400 f:=fun p f e=>b.R.sz (J.bd p f e);w_on;refine {_,_,_,_,rfl,.int _,lK,jS,?_};rw[show (true&&!false)=true from rfl];w_on;apply VY ?_;refine {_,rfl,?_};apply Lx (by lia) ?_;refine {lt,ts,rfl,b.tq,B9 b.tl (by decide),fun x hx=>(b.tz x hx).mono (by decide),fun dT H3 _ i tq=>?_};obtain ⟨G,C,qt⟩:=tq;apply {dT,rfl,.inl {G,.inl C},?_};refine {bI G (j5 (g:Int)),.inl {G,j5 (g:Int),.inl C,rfl,rfl},?_};have ot:fI H3 ((bI G (j5 (g:Int))).getD .non) (cQ ts g):=by
  unfold cQ;rcases qt.val (k:=j5 (g:Int)) with ⟨O,S⟩|⟨v1,r1,O,S,f1⟩
  ·rw[O,S];rfl
  ·rw[O,S];exact f1
 have zt:∀f,cQ ts g=some f->Sz 400 f:=fun f e=>b.tz _ (lH (cM e));generalize (bI G (j5 (g:Int))).getD .non=vk at ot⊢;have g':=i _ _ ho;w_on;apply iW (i _ _ a') (iT b') ?_;apply {pr,dm,vk,vm,r.1,r.2.1,u,r.2.2,m,kd,_,_,_,va,vb,rfl,i _ _ Z,ft.tk i.tk,i _ _ o,ea,qa.tk i.tk,eb,qb.tk i.tk,ot,hm.tk i.tk,oy pT,b.R.sz (bT.mono (by lia)),b.R.sz (zm.mono (by lia)),zF _,zF _,zt,fun v H4 lv s4=>?_};exact q v H4 (i.trans s4) lv
include o0k o0q in
theorem DC:kX mB P w K mg base (k+1) cC "take" ["self","number"] (UE K cC):=by
 refine kX.of vE.d47 CO (by walk_at"ln") fun f h' A e' s H vs Q E hr h=>?_;obtain ⟨h,dx,ln,lp,g,B,dm,i,r,m,n,ps,ts,D,M,U,mo,ys,rfl,N,c,hM,Z,zm,hl,b',e,q⟩:=h;refine {_,(aE (cE (aZ nG (oY o0q HC.cl hr fV (pv 0) (aA (pv 1) aD)) eK) (aH kD) bL)
   (aE (dL (jO E3 A7 A0 cZ (dU (pv 0) dQ) (aA (bM (aA (pv 1) (aA (dU (pv 0) dQ) aD))) aD)))
   (aH (dL (uC o0k HC.cl hr fV (pv 0)))))),?_}
 try dsimp only[aR,bC]
 have z4:Sz 400 m:=c.R.sz (zm.mono (by lia));w_on;refine {h,dx,ln,lp,g,B,dm,i,r,m,n,ps,ts,D,M,U,mo,ys,rfl,N,c,hM,Z,zm,b',fun w G s0 lv=>?_};have c:=c.sm s0;have N:=s0 _ _ N;have Z:=Z.tk s0.tk;obtain ⟨p0,rfl⟩:∃p,w=.ref p:=by
  cases z:FA (mo (i0 r.1)) (mo (i0 r.2.1)) (cQ ts i) r.2.2 m with
 |none=>exact absurd z e
 |some x=>rw[z]at lv;obtain ⟨p,u,w1,rfl,_⟩:=lv;exact {p,rfl}
 w_on;obtain ⟨I,C,X⟩:=id c.tq;have i':I.length=ts.length:=Paired.length X;apply VZ C ?_;apply bD fun p hp=>?_;have O:=aK.new (o:=.tup [.int (i:Int),B]) hp;refine gX (O _ _ C) (by lia) ?_;have c':h≠g:=fun z=>by rw[z,C]at N;cases N
 have t1:TK G (L2.upd (L2.upd G p (.tup [.int (i:Int),B])) g (.lst (I++[.ref p]))):=O.tk.trans (TK.lst (O _ _ C));have S:L2.upd (L2.upd G p (.tup [.int (i:Int),B])) g (.lst (I++[.ref p])) h=some (.ins cC dx (bV ln lp g B dm)):=aW c' (O _ _ N);have f':p≠g:=fun z=>by rw[z,C]at hp;cases hp
 have W:∀{b:g6}{o:HO},b≠g->G b=some o->L2.upd (L2.upd G p (.tup [.int (i:Int),B])) g (.lst (I++[.ref p])) b=some o:=fun nb e=>aW nb (O _ _ e);have kq:wI (L2.upd (L2.upd G p (.tup [.int (i:Int),B])) g (.lst (I++[.ref p]))) (.ref p) (j5 (i:Int),m):={p,B,rfl,aW f' aC,Z.tk t1}
 have Y:cU (L2.upd (L2.upd G p (.tup [.int (i:Int),B])) g (.lst (I++[.ref p]))) ln lp g n ps (ts++[(j5 (i:Int),m)]) D M U:=
  {{LQ.mv c.nq.lq jK.tk (fun o e=>W c.n2 e) t1,c.nq.len,c.nq.bd,c.nq.pos},{LQ.mv c.pq.lq wI.tk (fun o e=>W c.n3 e) t1,c.pq.len,c.pq.bd},{_,aC,Paired.snoc (Pd.imp X fun v b f=>wI.tk f t1) kq},by rw[m8];show _+1<=_;lia,fun r hr=>by
   rcases u9.mp hr with z|z
   ·exact c.tz r z
   ·rw[i9.mp z];exact z4,c.R,c.u2,c.nm,c.n1,c.n2,c.n3}
 have k1:jL [h,g] H (L2.upd (L2.upd G p (.tup [.int (i:Int),B])) g (.lst (I++[.ref p]))):=(aK.kpL (s0.trans O)).trans (.upd (.tail _ (.head _)));generalize L2.upd (L2.upd G p (.tup [.int (i:Int),B])) g (.lst (I++[.ref p]))=H1 at S Y k1 ⊢;w_on;apply {h,dx,ln,lp,g,B,dm,n,ps,_,D,M,U,rfl,S,Y,fun d H2 d' g' J k2 o2 M2=>?_};have t2:TK H1 H2:=k2.tk fun b hb xs e=>by rw[i9.mp hb,S]at e;cases e
 have a':H d=none:=k1.fr (fun z=>by
  rcases x6.mp z with e|z
  ·rw[e,S]at J;cases J
  ·rw[i9.mp z]at J;obtain ⟨_,e,_⟩:=Y.tq;rw[e]at J;cases J) J
 exact q d H2 d' g' a' (k1.trans (k2.mono fun x hx=>by rw[i9.mp hx];exact .head _)) o2 (Y.mv (fun l xs e=>k2 _ _ (fun z=>by rw[i9.mp z,S]at e;cases e) e) t2) M2
theorem nH:kX mB P w K mg base (k+1) cC "refuse_no_post" ["self","post"] (FM cC):=by
 refine kX.of vE.d48 mY (by walk_at"ln") fun f g A b s H M Q E m h=>?_;obtain ⟨h,B,ln,G,I,J,o,y,u,D,rfl,C,i,e,q⟩:=h;refine {_,(aH (cE (PW.pt (oF (lR (eG (bB (pZ (T:="str")) rfl T.z_isinstance iR (aA (pv 1) (aA (vX (v:=.ty "str") rfl T.z_str Mp rfl) aD))))) (jF (uB (uE m.u1 (pv 1) (dU (pv 0) dQ)))))) (aH kD) bL)),?_}
 try dsimp only[aR,bC]
 w_on;apply tZ (.str y) HS ?_;refine VS (c:=i0 y) (.inl i) ?_;rw[e];w_on;exact q
include o0g o0k o0a in
theorem DE:kX mB P w K mg base (k+1) cC "push" ["self","post"] (UG cC):=by
 refine kX.of vE.d49 CP (by walk_at"ln") fun f g' A d' s H vs Q E N h=>?_;obtain ⟨h,dx,ln,i,W,B,dm,y,m,n,ps,ts,D,M,U,mo,ys,rfl,S,g,hM,hm,zm,hl,hy,hc,q⟩:=h;refine {_,(aE (dL (oY o0a HC.cl N fV (pv 0) (aA (pv 1) aD)))
   (aE (cE (eG (oY o0g HC.cl N fV (pv 0) (aA (aS N.u1 (dU (pv 0) dQ) (pv 1)) aD))) (aH kD) bL)
   (aE (dL (jO E3 A7 A0 cZ (dU (pv 0) dQ) (aA (bM (aA (pv 1) (aA (dU (pv 0) dQ) aD))) aD)))
   (aH (dL (uC o0k HC.cl N fV (pv 0))))))),?_}
 try dsimp only[aR,bC]
 have dq:=hM.dq;obtain ⟨kd,I,qd⟩:=id dq;have z8:Sz 8000 m:=(g.R.sz (zm.mono (by lia))).mono (by decide);obtain ⟨u,eu,qu⟩:∃u,bI kd (i0 y)=some u/\fI H u (mo (i0 y)):=by
  rcases hM.get I y with ⟨_,x⟩|⟨x,_⟩
  ·exact x
  ·exact absurd hy x
 w_on;apply {h,dx,ln,i,W,B,dm,y,u,kd,rfl,S,I,eu,?_};apply sQ (c:=i0 y) (.inl I) eu ?_;refine {h,dx,ln,i,W,B,dm,u,m,_,rfl,S,hm,qu,z8,fun r e=>(g.R.sz (hM.bd _ r e)).mono (by decide),?_};rw[hc];w_on;obtain ⟨G,C,Z⟩:=id g.pq.lq;have h':G.length=ps.length:=Paired.length Z;apply VZ C ?_;apply bD fun p hp=>?_;have O:=aK.new (o:=.tup [.str y,B]) hp;refine gX (O _ _ C) (by lia) ?_;have b':h≠i:=fun z=>by rw[z,C]at S;cases S
 have t1:TK H (L2.upd (L2.upd H p (.tup [.str y,B])) i (.lst (G++[.ref p]))):=O.tk.trans (TK.lst (O _ _ C));have X:L2.upd (L2.upd H p (.tup [.str y,B])) i (.lst (G++[.ref p])) h=some (.ins cC dx (bV ln i W B dm)):=aW b' (O _ _ S);have e':p≠i:=fun z=>by rw[z,C]at hp;cases hp
 have Y:∀{b:g6}{o:HO},b≠i->H b=some o->L2.upd (L2.upd H p (.tup [.str y,B])) i (.lst (G++[.ref p])) b=some o:=fun nb e=>aW nb (O _ _ e);have kq:wI (L2.upd (L2.upd H p (.tup [.str y,B])) i (.lst (G++[.ref p]))) (.ref p) (i0 y,m):={p,B,rfl,aW e' aC,hm.tk t1}
 have I1:cU (L2.upd (L2.upd H p (.tup [.str y,B])) i (.lst (G++[.ref p]))) ln i W n (ps++[(i0 y,m)]) ts D M U:=
  {{LQ.mv g.nq.lq jK.tk (fun o e=>Y g.n1 e) t1,g.nq.len,g.nq.bd,g.nq.pos},{{_,aC,Paired.snoc (Pd.imp Z fun v b f=>wI.tk f t1) kq},by rw[m8];show _+1<=_;lia,fun r N=>by
   rcases u9.mp N with z|z
   ·exact g.pq.bd r z
   ·rw[i9.mp z];exact zm},LQ.mv g.tq wI.tk (fun o e=>Y (u7 g.n3) e) t1,g.tl,g.tz,g.R,g.u2,g.nm,g.n1,g.n2,g.n3}
 have k1:jL [h,i] H (L2.upd (L2.upd H p (.tup [.str y,B])) i (.lst (G++[.ref p]))):=(aK.kpL O).trans (.upd (.tail _ (.head _)));generalize L2.upd (L2.upd H p (.tup [.str y,B])) i (.lst (G++[.ref p]))=H1 at X I1 k1 ⊢;w_on;apply {h,dx,ln,i,W,B,dm,n,_,ts,D,M,U,rfl,X,I1,fun d H2 c' f' J k2 o2 M2=>?_};have t2:TK H1 H2:=k2.tk fun b hb xs e=>by rw[i9.mp hb,X]at e;cases e
 have a':H d=none:=k1.fr (fun z=>by
  rcases x6.mp z with e|z
  ·rw[e,X]at J;cases J
  ·rw[i9.mp z]at J;obtain ⟨_,e,_⟩:=I1.pq.lq;rw[e]at J;cases J) J
 exact q d H2 c' f' a' (k1.trans (k2.mono fun x hx=>by rw[i9.mp hx];exact .head _)) o2 (I1.mv (fun l xs e=>k2 _ _ (fun z=>by rw[i9.mp z,X]at e;cases e) e) t2) M2
include o2c o1g o0w o0v in
theorem Rb:cB P w K mg base (k+1) "_law_do" ["_law_hall_here","_law_here_here","_law_deed_here"] (Ie K cC):=by
 refine cB.of vE.d50 Oq (by walk_at"ln") fun f g' A c' s H vs Q E c h=>?_;obtain ⟨h,dd,pd,w,b,X,B,C,G,vm,W,m,n,ps,ts,D,M,U,mo,ys,u,rs,j',k',ln,lr,lp,lt,h',rfl,hp,ho,hI,hM,hm,zm,hT,hN,u0,u1,hh⟩:=h;refine {_,(aE (cE (aZ (gA c.units) (aN aQ (pv 2) aF) aP) (aH (aU (oY o0v HC.cl c fV (pv 0) (aA (aN aQ (aS c.u1 (pv 1) aP) (aN aQ (pv 2) aF)) aD)))) bL)
   (aE (cE (aZ (gA c.units) (aN aQ (pv 2) aF) aP) (aH (aU (oY o0w HC.cl c fV (pv 0) (aA (aN aQ (pv 2) aF) aD)))) bL)
   (aH (aU (oY o1g HC.cl c fV (pv 0) (aA (aI o2c c rfl (aA (aN aQ (pv 2) aF) (aA (aS c.u1 (pv 1) aP) aD))) aD)))))),?_}
 try dsimp only[aR,bC]
 rcases hh with ⟨rfl,hl,i,y,rfl,ey,hy,hc,q⟩|⟨rfl,hl,kk,r,rfl,c,hs,q⟩|⟨rfl,Z,b',x0,x1,e',q⟩
 ·w_on;apply uN (beq_self_eq_true _) ?_;apply bZ (.inl hN.d) kL ?_;refine iW hN.q.nm (iT (by rw[t5,ey];rfl)) ?_;w_on;apply {h,X,B,C,G,vm,W,y,m,n,ps,ts,D,M,U,mo,ys,rfl,ho,hI,hM,hm,zm,hl,hy,hc,fun d N I J Y k o O R=>?_};exact q d N I J Y k o O R
 ·w_on;apply jH (by k_is) ?_;apply uN (beq_self_eq_true _) ?_;apply {h,X,B,C,G,vm,W,kk,r,m,n,ps,ts,D,M,U,mo,ys,rfl,ho,hI,hM,hm,zm,hl,c,hs,fun d N I J Y k o O R=>?_};exact q d N I J Y k o O R
 ·w_on;apply jH (by k_is) ?_;apply jH (by k_is) ?_;apply bZ (.inl hN.d) pY ?_;refine {b,u,rfl,u0,zK (by lia),zK (by lia),fun q1 a'=>?_};have f1:cA (L2.upd H q1 (.tup [.int (dS b u),.int (eJ b u)])) (.ref q1) (ut u b):=cA.low (by lia) aC;have g:=aK.new (H:=H) (o:=.tup [.int (dS b u),.int (eJ b u)]) a';generalize L2.upd H q1 (.tup [.int (dS b u),.int (eJ b u)])=H1 at f1 g⊢;have z1:Sz 400 (ut u b):=UA u0 (by lia) (by lia);have S:0<=(ut u b).num:=XI x0 u0;w_on;apply {h,X,B,C,G,vm,W,_,m,n,ps,ts,D,M,U,mo,ys,rfl,g _ _ ho,hI.sm g,hM.mv (fun o e=>g _ _ e) g.tk,hm.tk g.tk,zm,nR.same hT g,Z,b',ut u b,f1,S,z1.mono (by decide),e',fun v d' N zs es hv gv lv ev pe so be k T' o' f' O R=>?_};exact q v d' N zs es (g.free hv) gv lv ev pe so be ((aK.kpL g).trans k) T' o' f' O R
include o2c o1g in
theorem HB:cB P w K mg base (k+1) "_law_in_parts" ["_law_hall_here","_law_here_here","_law_time_here","_law_number_here"] (LW K cC):=by
 refine cB.of vE.d51 fL (by walk_at"ln") fun f z' A w' s H vs Q E hr h=>?_;obtain ⟨h,dd,xx,N,dx,g,B,C,vm,dm,m,n,ps,ts,D,M,U,mo,ys,u,rs,B',D',ln,lr,lp,lt,A',rfl,ho,hI,hM,hm,hT,hN,u0,u1,q',s',x0,x1,hz,q⟩:=h;refine {_,(aE (eA 4 fL.nd (cJ aD))
   (aE (eA 5 fL.nd (pv 2))
   (aE (fZ B4 rfl (jW rfl T.z_range (aA (aJ bQ (pv 3) aF) aD)) (sT 6 fL.nd) (aE (eA 7 fL.nd (aJ bQ (aJ bE (pv 3) (aJ bG aF (pv 6))) (aJ bG (pv 5) aF)))
   (aE (eA 4 fL.nd (aJ bG (pv 4) (oY o1g HC.cl hr fV (pv 0) (aA (aI o2c hr rfl (aA (pv 7) (aA (aS hr.u1 (pv 1) aP) aD))) aD))))
   (aH (eA 5 fL.nd (aJ lU (pv 5) (pv 7)))))))
   (aH (aU (aJ bG (pv 4) (oY o1g HC.cl hr fV (pv 0) (aA (aI o2c hr rfl (aA (pv 5) (aA (aS hr.u1 (pv 1) aP) aD))) aD)))))))),?_}
 try dsimp only[aR,bC]
 have S:=hN.d;have u':dd≠h:=fun z=>by rw[z,ho]at S;cases S
 have t':dd≠tT:=fun z=>by
  obtain ⟨_,e⟩:=hT.ex;rw[←z,S]at e;cases e
 w_on;refine dH fun lo j'=>?_;have s0:=aK.new (o:=.lst []) j';have I0:Hd cC h dx g B C n ps ts D M U dm mo ys m u H 0 lo (L2.upd H lo (.lst [])):=by
  have e0:m+ut u 0=m:=by rw[mS,Rat.add_zero]
  refine {vm,[],[],aK.kpL s0,nR.same hT s0,s0 _ _ ho,by rw[e0];exact hm.tk s0.tk,hI.sm s0,hM.mv (fun o e=>s0 _ _ e) s0.tk,j',aC,.nil,?_,.nil};rw[e0,wb.mpr fun e _ c=>Q6.mpr (fU.mp c).2 (fU.mp c).1]
 generalize L2.upd H lo (.lst [])=H0 at I0⊢;have n0:=r9 N (show (4:Int)≠0 by decide);have n4:=n6 N (show (0:Int)<4 by decide);have l':dd∉[h,tT]:=fun z=>by
  rcases x6.mp z with e|z
  ·exact u' e
  ·exact t' (i9.mp z)
 have c':∀(e p:Int)(lo:g6)(G:Hp),0<=e->0<=p->e+p<=xx->Hd cC h dx g B C n ps ts D M U dm mo ys m u H e lo G->∀(X:g6)(R:V->Hp->Prop),G X=none->(∀(v:g6)(Y J:List V)(Z:Hp),Z lo=some (.lst Y)->Z v=some (.lst J)->Y.length+J.length<=1000->(∀l,Z l=none->Hd cC h dx g B C n ps ts D M U dm mo ys m u H (e+p) l (L2.upd Z l (.lst (Y++J))))->R (.ref v) Z)->Ic K cC [.ref h,.ref X] (L2.upd G X (.tup [.int (dS p u),.int (eJ p u)])) R E0:=by
  intro e p lo G e0 p0 ep ⟨vE,Y,es,kE,TE,oE,fE,IE,ME,h',gE,b',a',g'⟩ X R W hR;have O:=aK.new (o:=.tup [.int (dS p u),.int (eJ p u)]) W;have f1:cA (L2.upd G X (.tup [.int (dS p u),.int (eJ p u)])) (.ref X) (ut u p):=cA.low (by lia) aC;generalize L2.upd G X (.tup [.int (dS p u),.int (eJ p u)])=G1 at O f1⊢;have ez:m+ut u e+ut u p=m+ut u (e+p):=by rw[Rat.add_assoc,mU]
  have z1:Sz 400 (ut u p):=UA u0 (by lia) (by lia);refine {h,dx,g,B,C,vE,dm,_,m+ut u e,n,ps,ts,D,M,U,mo,ys,rfl,O _ _ oE,IE.sm O,ME.mv (fun o e=>O _ _ e) O.tk,fE.tk O.tk,hz e e0 (by lia),nR.same TE O,q',s',ut u p,f1,XI p0 u0,z1.mono (by decide),by rw[ez];exact hz _ (by lia) ep,fun v x' Z J p' hv gv lv ev pe so be k' T' o' f' i' m'=>?_};rw[ez]at f' pe;have g1:=O _ _ gE;have T1:LT G1:=nR.same TE O;obtain ⟨_,eT⟩:=T1.ex;have v':lo∉[h,tT]:=fun z=>by
   rcases x6.mp z with e|z
   ·rw[e,O _ _ oE]at g1;cases g1
   ·rw[i9.mp z,eT]at g1;cases g1
  have tk:TK G Z:=O.tk.trans (k'.tk fun x hx xs e=>by
   rcases x6.mp hx with y|y
   ·rw[y,O _ _ oE]at e;cases e
   ·rw[i9.mp y,eT]at e;cases e)
  have kA:=(kE.trans (aK.kpL O)).trans k';have b1:=Hd.len (cC:=cC) (h:=h) (dx:=dx) (de:=g) (db:=B) (cv:=C) (ps:=ps) (D:=D) (M:=M) (U:=U) (dm:=dm) b' a';have b2:=Hd.len (cC:=cC) (h:=h) (dx:=dx) (de:=g) (db:=B) (cv:=C) (ps:=ps) (D:=D) (M:=M) (U:=U) (dm:=dm) ev pe;have m0:m<=m+ut u e:=by
   have:=ym (c:=m) |>.mpr ((rV u0).mpr e0)
   rw[mS,Rat.add_zero]at this;exact this
  have m1:m+ut u e<=m+ut u (e+p):=ym.mpr ((rV u0).mpr (by lia));refine hR v Y J Z (k' _ _ v' g1) gv (by lia) fun l hl=>?_;have s2:=aK.new (o:=.lst (Y++J)) hl;obtain ⟨t1,t2⟩:=TL m0 m1 a' g' pe so;refine {x',Y++J,es++p',kA.trans (aK.kpL s2),nR.same T' s2,s2 _ _ o',f'.tk s2.tk,i'.sm s2,m'.mv (fun o e=>s2 _ _ e) s2.tk,?_,aC,Pd.app (Pd.imp b' fun z e h=>iU.tk h (tk.trans s2.tk)) (Pd.imp ev fun z e h=>iU.tk h s2.tk),t1,t2};cases el:H l with
 |none=>rfl
 |some o=>
   refine absurd (kA l o (fun z=>?_) el) (by rw[hl];exact nofun);rcases x6.mp z with y|y
   ·rw[y,o']at hl;cases hl
   ·obtain ⟨_,n'⟩:=T'.ex;rw[i9.mp y,n']at hl;cases hl
 w_on;refine pR (by lia) (by lia) ?_;refine pS (n:=(N%4).toNat) (fun i σ G=>∃(e l:Int)(lo:g6)(o6 o7:Option V),σ=[some (.ref h),some (.ref dd),some (.int xx),some (.int N),some (.ref lo),some (.int l),o6,o7]/\0<=e/\0<=l/\e+l=xx/\Hd cC h dx g B C n ps ts D M U dm mo ys m u H e lo G) {0,xx,lo,_,_,rfl,L0 _,x0,xi _,I0} ?_ ?_
 ·intro P' C' y' r';rintro i σ G hi ⟨e,l,lo,o6,o7,rfl,e0,l0,el,I⟩;obtain ⟨vE,Y,es,kE,TE,oE,fE,IE,ME,h',gE,b',a',g'⟩:=id I;have d':=kE _ _ l' S;w_on;apply bZ (.inl d') pY ?_;have p0:=r9 (N.fdiv (5+(0+(i:Int)))) (b:=l+1) (by lia);have p1:=n6 (N.fdiv (5+(0+(i:Int)))) (b:=l+1) (by lia);generalize N.fdiv (5+(0+(i:Int)))%(l+1)=p at p0 p1⊢;apply {p,u,rfl,u0,zK (by lia),zK (by lia),fun X W=>?_};apply c' e p lo G e0 p0 (by lia) I X _ W fun v Y J Z g1 g2 hl hI=>?_;apply CB g1 g2 hl fun lf e'=>?_;exact r' _ _ _ {e+p,l-p,lf,_,_,rfl,by lia,by lia,by lia,hI lf e'}
 ·rintro σ G ⟨e,l,lo,o6,o7,rfl,e0,l0,el,I⟩;obtain ⟨vE,Y,es,kE,TE,oE,fE,IE,ME,h',gE,b',a',g'⟩:=id I;have d':=kE _ _ l' S;w_on;apply bZ (.inl d') pY ?_;apply {l,u,rfl,u0,zK (by lia),zK (by lia),fun X W=>?_};apply c' e l lo G e0 l0 (by lia) I X _ W fun v Y J Z g1 g2 hl hI=>?_;apply CB g1 g2 hl fun lf e'=>?_;refine q lf _ ?_;have:=hI lf e';rw[el]at this;exact this
include o0g in
theorem yC:kX mB P w K mg base (k+1) cC "fallen" ["self"] (FU cC):=by
 refine kX.of vE.d52 xE (by walk_at"ln") fun f n' A j' s H vs Q E hr h=>?_;obtain ⟨h,dx,ln,lp,lt,vm,g,m,n,ps,ts,D,M,U,mo,ys,rfl,ho,hI,hM,hm,zm,q⟩:=h;refine {_,(aH (aU (jX (rO rfl) rfl T.z_dict EB (aA (WL (dO (aG lQ) ["self"] ["post","moment"] ["self"] [0]) rfl (dU (pv 0) dQ) (fun _ _ _ _=>(nF (n:=2) rfl (bA (Zn ["post","moment","self"] 0) (bA (Zn ["post","moment","self"] 1) eQ)))) (fun _ _ _ _=>(bM (aA (pv 0) (aA (pv 1) aD)))) (fun _ _ _ _=>(lG (eG (oY o0g HC.cl hr fV (pv 2) (aA (pv 1) aD)))))) aD)))),?_}
 try dsimp only[aR,bC]
 have dq:=hM.dq;obtain ⟨kd,B,qd⟩:=id dq;have z8:Sz 8000 m:=(hI.R.sz (zm.mono (by lia))).mono (by decide);have p':ys.length<=63:=B9 (iJ hM.nd fun x hx=>hI.nm x ((hM.mem x).mp hx)) hI.u2;have g':kd.length=ys.length:=by rw[qd.len,j6]
 w_on;apply Bf g (.dK B) ?_;refine {g,rfl,rfl,kd,B,fun o=>?_};have xh:h≠g:=fun z=>by rw[z,B]at ho;cases ho
 have s0:TK H (L2.upd H g (.frz o (.dK kd))):=TK.dic B;have b':L2.upd H g (.frz o (.dK kd)) h=_:=aW xh ho;refine VU (by lia) (fun c i zs G=>Kp c (L2.upd H g (.frz o (.dK kd))) G/\Paired (wI G) zs (fallen m mo (ys.take i))) (fun c I=>{Kp.new I,.nil}) ?_ ?_ ?_
 ·intro c i zs G I _ ⟨kp,_⟩;exact kp _ _ (aB aC I) aC
 ·intro c i zs G T k v I hx C hG hT ⟨kp,pr⟩;obtain ⟨⟨k',o'⟩,hy,ek,ov⟩:=Paired.at qd hx;rw[t5]at hy;cases hy1:ys[i]? with
 |none=>rw[hy1]at hy;cases hy
 |some y=>
   rw[hy1]at hy;cases hy;cases (show k=i0 y from ek);have hi:i<ys.length:=(i5.mp hy1).1;have m':TK H G:=s0.trans fun p xs e=>kp _ _ (aB e I) e;have e':TK H (L2.upd G T (.tup [kV (i0 y),v])):=m'.trans (TK.new hT);have i':L2.upd G T (.tup [kV (i0 y),v]) h=some (.ins cC dx (bV ln lp lt vm g)):=aO hT (kp _ _ (aB b' I) b');have Z:ys.take (i+1)=ys.take i++[y]:=by rw[D7 hi];rw[i7 hi]at hy1;rw[l7 hy1]
   have J:=aO (o:=.tup [kV (i0 y),v]) hT hG;have W:Kp c (L2.upd H g (.frz o (.dK kd))) (L2.upd G T (.tup [kV (i0 y),v])):=Kp.trans kp fun b o _ e=>aO hT e;have Y:=Pd.imp pr fun w x f=>wI.tk f (TK.new (o:=.tup [kV (i0 y),v]) hT);have X:=fI.tk ov e';have h':=hm.tk e';generalize L2.upd G T (.tup [kV (i0 y),v])=G1 at *;w_on;apply {h,dx,ln,lp,lt,vm,g,v,m,mo (i0 y),rfl,i',h',X,z8,fun r e=>(hI.R.sz (hM.bd _ r e)).mono (by decide),?_};cases e:mo (i0 y) with
  |none=>
    w_on;refine nK (by lia) C J {W,?_};rw[Z,iQ,rJ,e];dsimp only;rw[K4];exact Y
  |some r=>
    show if (!decide (m<r))=true then _ else _
    by_cases hc:m<r
    ·rw[decide_eq_true hc];w_on;refine nK (by lia) C J {W,?_};rw[Z,iQ,rJ,e];dsimp only;rw[if_pos hc,K4];exact Y
    ·rw[decide_eq_false hc];w_on;refine bD fun t1 S=>?_;have a':=aO (o:=.tup [kV (i0 y),v]) S J;refine pH (by lia) C a' {Kp.trans (Kp.trans W (fun b o _ e=>aO S e)) Kp.upd,?_};have tk:TK (L2.upd G1 t1 (.tup [kV (i0 y),v])) (L2.upd (L2.upd G1 t1 (.tup [kV (i0 y),v])) c (.lst (zs++[.ref t1]))):=TK.lst a';have d':=(TK.new (o:=.tup [kV (i0 y),v]) S).trans tk;rw[Z,iQ,rJ,e];dsimp only;rw[if_neg hc];rw[e]at X;exact Pd.snoc (Pd.imp Y fun v x f=>wI.tk f d') {t1,v,rfl,tk _ _ aC,cA.tk X d'}
 ·intro c zs G I hG C ⟨kp,pr⟩;rw[g',F7]at pr;have sG:aK H (melt g G):=OC B (fun b o e=>kp _ _ (aB e I) e);have f':melt g G c=some (.lst zs):=iX (fun _ _ z=>nomatch z) hG;have l':=Pd.imp pr fun v x f=>wI.tk f (TK.melt (a:=g));generalize melt g G=G1 at *;obtain ⟨k0,pa,c'⟩:=sV (R:=cA) (Pd.imp l' fun v x ⟨p,u,e,hp,f⟩=>{p,u,e,hp,f});w_on;refine {c,zs,k0,rfl,f',pa,by lia,fun dR O=>?_};rw[mH (by rw[O1,c'.keys];exact lM hM.nd),O1];w_on;exact q dR _ (sG.free O) (sG.trans (aK.new O)) {k0,aC,c'.imp fun v b f=>f.tk (TK.new O)}
theorem HG:kX mB P w K mg base (k+1) cC "now" ["self"] (Fc cC):=by
 refine kX.of vE.d53 GJ (by walk_at"ln") fun f c A b s H G Q E o h=>?_;obtain ⟨h,i,ln,B,C,D,g,rfl,m,q⟩:=h;refine {_,(aH (aU (dU (pv 0) dQ))),?_}
 try dsimp only[aR,bC]
 w_on;exact q
include o0q o0l o1f in
theorem Cg:cB P w K mg base (k+1) "_law_told" ["_law_hall_here","_law_here_here","_law_number_here"] (FE cC):=by
 refine cB.of vE.d54 Aj (by walk_at"ln") fun f d' A a' s H vs Q E R h=>?_;obtain ⟨h,dd,X,B,C,G,S,W,c,m,n,ps,ts,D,M,U,mo,ys,U',u,J,i',j',ln,lr,lp,lt,h',rfl,O,hI,hM,hm,zm,hN,g',f',q⟩:=h;refine {_,(aH (aU (cJ (aA (uC o1f HC.cl R fV (pv 0)) (aA (uC o0l HC.cl R fV (pv 0)) (aA (oY o0q HC.cl R fV (pv 0) (aA (aJ bQ (pv 2) (bB hX rfl T.z_len fA (aA (aS R.u1 (pv 1) aP) aD))) aD)) aD)))))),?_}
 try dsimp only[aR,bC]
 obtain ⟨vr,Z,b'⟩:=id hN.q.rq;have Y:vr.length=J.length:=Paired.length b';have m1:=r9 c (b:=(J.length:Int)) (by lia);have m2:=n6 c (b:=(J.length:Int)) (by lia);obtain ⟨i,e1⟩:∃i:Nat,c%(J.length:Int)=i:={(c%(J.length:Int)).toNat,by lia}
 have I:i<n.length:=by lia
 rw[e1]at q;w_on;apply {h,X,B,C,G,S,W,rfl,O,?_};refine {h,X,B,C,G,S,W,m,n,ps,ts,D,M,U,mo,ys,rfl,O,hI,hM,hm,zm,fun d H2 hd g dq=>?_};have e':=g _ _ O;have c':=g _ _ Z;w_on;apply bZ (.inl (g _ _ hN.d)) cP ?_;rw[Y,e1];apply {h,X,B,C,G,S,W,i,n[i],m,n,ps,ts,D,M,U,mo,ys,rfl,g _ _ O,hI.sm g,hM.mv (fun o e=>g _ _ e) g.tk,hm.tk g.tk,zm,i7 I,fun w H3 s3 lv=>?_};refine dH fun l hl=>?_;have s4:=aK.new (o:=.lst [S,.ref d,w]) hl;w_on;have N:=g.trans s3;refine q l d w _ (N.free hl) (N.trans s4) aC (dq.sm cA.tk (s3.trans s4)) ?_;unfold Rj;rw[show ((i:Int)).toNat=i from rfl,i7 I];exact lv.tk s4.tk
include o0i in
theorem uH:kX mB P w K mg base (k+1) cC "__init__" ["self","net"] (qU cC):=by
 refine kX.of vE.d55 tY (by walk_at"ln") fun f i' A h' s H vs Q E hr h=>?_;obtain ⟨h,dx,l,n,D,M,U,rfl,ho,c,hR,hU,N,q⟩:=h;refine {_,(aE (qZ (pv 0) (jX Mm rfl T.z_list OV (aA (pv 1) aD)) rfl)
   (aE (qZ (pv 0) (cJ aD) rfl)
   (aE (qZ (pv 0) (cJ aD) rfl)
   (aE (qZ (pv 0) (bM (aA aF (aA aF aD))) rfl)
   (aH (qZ (pv 0) (WM o0i hr rfl (aA (dU (pv 0) dQ) (aA (cJ aD) aD))) rfl)))))),?_}
 try dsimp only[aR,bC]
 obtain ⟨vn,b',R⟩:=id c.lq;w_on;apply Rl b' fun ln O=>?_;obtain ⟨G1,e1,k1,n1,o1,Y⟩:=CG (o:=.lst vn) (fs':=gY "net" (.ref ln) []) O ho;rw[e1];apply dH fun B i=>?_;obtain ⟨G2,e2,k2,n2,o2,Z⟩:=CG (o:=.lst []) (fs':=gY "pushes" (.ref B) (gY "net" (.ref ln) [])) i o1;rw[e2];apply dH fun I g=>?_;obtain ⟨G3,e3,k3,n3,o3,x3⟩:=CG (o:=.lst []) (fs':=gY "takings" (.ref I) (gY "pushes" (.ref B) (gY "net" (.ref ln) []))) g o2;rw[e3];apply bD fun p hp=>?_;obtain ⟨J,e4,W,n4,o4,x4⟩:=CG (o:=.tup [.int 0,.int 1]) (fs':=gY "moment" (.ref p) (gY "takings" (.ref I) (gY "pushes" (.ref B) (gY "net" (.ref ln) [])))) hp o3;rw[e4];have c':B≠ln:=fun z=>by rw[z,n1]at i;cases i
 have m2:=k2.app1 Y n1;have d':I≠ln:=fun z=>by rw[z,m2]at g;cases g
 have e':I≠B:=fun z=>by rw[z,n2]at g;cases g
 have m4:=W.app1 Y (k3.app1 Y m2);have p4:=W.app1 Z (k3.app1 Z n2);have t4:=W.app1 x3 n3;have X:=k1.trans (k2.trans (k3.trans W));clear e1 e2 e3 e4;apply dH fun l2 a'=>?_;have s5:=aK.new (o:=.lst []) a';have j':∀{b:g6}{o:HO},b≠h->H b=some o->J b=some o:=fun n e=>X.app1 n e;have t0:TK H J:=X.tk fun b hb xs e=>by rw[i9.mp hb,ho]at e;cases e
 have g':mP J ln (kn n) D M:={{vn,m4,Pd.imp R fun v b f=>jK.tk f t0},c.len,c.bd,c.pos}
 refine {ln,n,l2,[],.non,[],D,M,U,rfl,g'.sm s5,{{[],aC,.nil},w4 _,(fun _ z=>nomatch z)},{.inl {rfl,rfl},w4 _,(fun _ z=>nomatch z)},hR.r8,hU,N,fun S H1 F ys hd s1 dq fo bF nd f'=>?_};have C:=s5.trans s1;have o5:=C _ _ o4;have m:J S=none:=s5.free hd;have xd:S≠h:=fun z=>by rw[z,o4]at m;cases m
 have t6:TK J (L2.upd H1 h (.ins cC dx (bV ln B I (.ref p) S))):=C.tk.trans (wL o5);w_on;have fr:∀{b:g6}{G:Hp},b≠h->jL [h] H G->G b=none->H b=none:=fun n k e=>k.fr (fun z=>n (i9.mp z)) e;refine q _ ln B I (.ref p) S _ ys (X.trans ((aK.kpL C).trans (.upd (.head _)))) O (fr Z k1 i) (fr x3 (k1.trans k2) g) (fr xd X m) aC {p,rfl,aW x4 (C _ _ n4)} {{{vn,aW Y (C _ _ m4),Pd.imp R fun v b f=>jK.tk f (t0.trans t6)},c.len,c.bd,c.pos},{{[],aW Z (C _ _ p4),.nil},w4 _,(fun _ z=>nomatch z)},{[],aW x3 (C _ _ t4),.nil},w4 _,(fun _ z=>nomatch z),hR,hU,N,u7 c',u7 d',u7 e'} ((dA.of dq fo bF nd f').mv (fun o z=>aW xd z) (wL o5))
include o1l o2b o1z o1t o1w o2a o2d o0y o1y o0f in
theorem Kz{f:g6}{fd:M6}(F:Nn K "law" "law" sM f fd):jV P w K mg base mB (k+1) f fd ["_law_script"] (MG K):=by
 refine F.ok oO (by walk_at"ln") fun ad A Γ s H vs Q E X h=>?_;obtain ⟨a,ns,rfl,hS,κ,hT,q⟩:=h;refine {_,(aE (eA 1 oO.nd (aI o1t X rfl (aA (pv 0) aD)))
   (aE (eA 2 oO.nd (aI o2b X rfl (aA (pv 1) aD)))
   (aE (eA 3 oO.nd (cJ (aA (JR o0f HC.mks HC.kp X fV rfl HC.m (aA (pv 2) aD)) (aA (JR o0f HC.mks HC.kp X fV rfl HC.m (aA (pv 2) aD)) (aA (JR o0f HC.mks HC.kp X fV rfl HC.m (aA (pv 2) aD)) aD)))))
   (aE (fZ B4 rfl (BD rfl T.z_range (aA aF (aA (bB (IJ rfl) rfl T.z_max yY (aA aF (aA (bB (OT rfl) rfl T.z_min DZ (aA (bB hX rfl T.z_len fA (aA (pv 0) aD)) (aA (aJ bG aF (aJ cK aF (jX Sf rfl T.z_int YV (aA (jR sW (bB hX rfl T.z_len fA (aA (aS X.u1 (pv 1) aP) aD)) aF) aD)))) aD))) aD))) aD))) (sT 4 oO.nd) (aE (eA 5 oO.nd (aI o1l X rfl (aA (pv 0) (aA (pv 4) aD))))
   (aE (eA 6 oO.nd (aI o1w X rfl (aA (pv 1) (aA (aI o1z X rfl (aA (pv 1) aD)) (aA (pv 5) aD)))))
   (aE (eA 7 oO.nd (aI o2d X rfl (aA (aN aQ (pv 3) aF) (aA (pv 1) (aA (pv 6) aD)))))
   (aE (cE (aZ (gA X.units) (aN aQ (pv 6) aF) aP) (aH (cE (aZ (WO X.units) (aI o0y X rfl (aA (aN aQ (pv 3) aF) (aA (pv 1) (aA (aN aQ (pv 6) aF) (aA (aJ bE (bB OU rfl T.z_abs EC (aA (pv 5) aD)) aF) aD))))) (pv 7)) (aH (aU xT)) bL)) (aH (dL (aI o2d X rfl (aA (aN aQ (pv 3) aF) (aA (pv 1) (aA (pv 6) aD)))))))
   (aE (dL (aI o2a X rfl (aA (pv 1) (aA (pv 6) aD))))
   (aH (cE (aZ (WO X.units) (aI o1y X rfl (aA (aN aQ (pv 3) aF) (aA (pv 1) (aA (pv 5) aD)))) (aI o1y X rfl (aA (aN aQ (pv 3) aF) (aA (pv 1) (aA (pv 5) aD))))) (aH (aU xT)) bL))))))))
   (aH (aU (jR (Kt X.units) (aI o1y X rfl (aA (aN aQ (pv 3) aF) (aA (pv 1) (aA (aJ cK aF (bB hX rfl T.z_len fA (aA (pv 0) aD))) aD)))) (cJ (aA (bM (aA aF (aA aF aD))) (aA mF (aA (bM (aA (bM (aA aF (aA aF aD))) (aA (bM (aA aF (aA aF aD))) aD))) aD))))))))))),?_}
 try dsimp only[aR,bC]
 w_on;apply {a,ns,rfl,hS,κ,fun dd H1 U u O ln lr lp lt W' X' Y' n5 n1 n2 n3 n4 s1 h' hJ hN=>?_};apply {dd,U,u,O,[],[],ln,lr,lp,lt,rfl,hJ,hN.q,fun l H2 hl s2 nq=>?_};have f':=s1.trans s2;refine DF hJ h' (hN.sm s2) (nR.same hT f') nq n1 n2 n3 n4 n5 fun h0 e0 b0 p0 t0 v0 d0 m0 y0 G0 g0 Q' θ S' T' Ea c=>?_;obtain ⟨x,rfl,rfl,rfl,rfl,rfl⟩:∃x:HA,x.h=h0/\x.d=e0/\x.n=b0/\x.p=p0/\x.t=t0:={{h0,e0,b0,p0,t0},rfl,rfl,rfl,rfl,rfl}
 w_on;have H':=nq.sm jK.tk g0;refine DF hJ h' c.N c.T H' n1 n2 n3 n4 n5 fun h1 e1 b1 p1 t1 v1 d1 m1 y1 G1 g1 r' R' x' z' Eb B=>?_;obtain ⟨y,rfl,rfl,rfl,rfl,rfl⟩:∃x:HA,x.h=h1/\x.d=e1/\x.n=b1/\x.p=p1/\x.t=t1:={{h1,e1,b1,p1,t1},rfl,rfl,rfl,rfl,rfl}
 w_on;refine DF hJ h' B.N B.T (H'.sm jK.tk g1) n1 n2 n3 n4 n5 fun h2 e2 b2 p2 t2 v2 d2 m2 y2 G2 g2 s' u' y' A' Ec M=>?_;obtain ⟨z,rfl,rfl,rfl,rfl,rfl⟩:∃x:HA,x.h=h2/\x.d=e2/\x.n=b2/\x.p=p2/\x.t=t2:={{h2,e2,b2,p2,t2},rfl,rfl,rfl,rfl,rfl}
 have Axy:Ap x.h x.n x.p x.t y.h y.n y.p y.t:=YZ c r' R' x' z';have Axz:Ap x.h x.n x.p x.t z.h z.n z.p z.t:=YZ (c.sm g1) s' u' y' A';have Ayz:Ap y.h y.n y.p y.t z.h z.n z.p z.t:=YZ B s' u' y' A';have yN:∀w∈[x.h,x.p,x.t,y.h,y.p,y.t,dd,lp,lt],H w=none:=fun w hw=>by
  have f0:=(f'.trans g0)
  simp only[x6,ew,or_false]at hw;rcases hw with rfl|rfl|rfl|rfl|rfl|rfl|rfl|rfl|rfl
  ·exact f'.free Q'
  ·exact f'.free S'
  ·exact f'.free T'
  ·exact f0.free r'
  ·exact f0.free x'
  ·exact f0.free z'
  ·exact W'
  ·exact X'
  ·exact Y'
 w_on;refine dH fun lh D'=>?_;have s3:=aK.new (o:=.lst [.ref x.h,.ref y.h,.ref z.h]) D';have Y:L2.upd G2 lh (.lst [.ref x.h,.ref y.h,.ref z.h]) lh=_:=aC;have c':∀{w:g6}{o:HO},G2 w=some o->lh≠w:=fun e=>u7 (aB e D');obtain ⟨_,ep,_⟩:=id M.N.q.pq;obtain ⟨_,et,_⟩:=id M.N.q.tq;obtain ⟨_,e1,_⟩:=id (c.sm (g1.trans g2)).I.pq.lq;obtain ⟨_,e2,_⟩:=id (c.sm (g1.trans g2)).I.tq;obtain ⟨_,e3,_⟩:=id (B.sm g2).I.pq.lq;obtain ⟨_,e4,_⟩:=id (B.sm g2).I.tq;have nl:lh≠lp/\lh≠lt/\lh≠x.p/\lh≠x.t/\lh≠y.p/\lh≠y.t:={c' ep,c' et,c' e1,c' e2,c' e3,c' e4}
 have j':=c.sm (g1.trans (g2.trans s3));have M':=B.sm (g2.trans s3);have O':=M.sm s3;have sH:=f'.trans (g0.trans (g1.trans (g2.trans s3)));clear c' ep et e1 e2 e3 e4 D' s3 c B M g0 g1 g2 nq H' Q' θ S' T' r' R' x' z' s' u' y' A' hN hl s1 s2 f' W' X' Y';generalize L2.upd G2 lh (.lst [.ref x.h,.ref y.h,.ref z.h])=G3 at *;have V':=sH.seq hS;w_on;apply xP V' ?_;apply bZ (.inl j'.N.d) cP ?_;obtain ⟨vr,α,Θ⟩:=id j'.N.q.rq;apply xO α ?_;rw[j6];refine ND (by decide) (by decide) (by (repeat' split) <;> lia) (by (repeat' split) <;> lia) ?_;generalize U':Int.toNat _=NN;have Ω:NN<=20:=by rw[←U'];(repeat' split) <;> lia
 clear U' α Θ;have u0:=hJ.u0;have u1:=hJ.u1;have μ:=j'.N;refine pS (K8I cC a dd l lh ln lr lp lt x y z U u O H) {_,_,_,_,[],[],0,v0,d0,m0,y0,v1,d1,m1,y1,v2,d2,m2,y2,rfl,j',M',O',Y,sH.kp,hJ,(fun _ z=>nomatch z),k7 _,k7 _,L0 _} ?_ ?_
 ·intro P' af ac ν;clear j' M' O' Y sH V' μ v0 d0 m0 y0 v1 d1 m1 y1 v2 d2 m2 y2;rintro i σ G hi ⟨o4,o5,o6,o7,ps,ts,W,v0,d0,m0,y0,v1,d1,m1,y1,v2,d2,m2,y2,rfl,c,B,M,Y,kG,J,us,pl,tl,n0⟩;have l':=cS.kt hS hT kG;have nb:W<=10^105:=by
   have e1:=Hl u0 c.z;have e2:((Mk i:Nat):Int)<=10^92:=by have:=He (i:=i) (by lia);lia
   have e3:((Mk i:Nat):Int)*u<=10^92*10^12:=Int.mul_le_mul e2 u1 (by lia) (by decide);exact O7 e1 (O7 e3 (by decide))
  w_on;apply {a,ns,_,rfl,l',by lia,by lia,fun e'=>?_};refine {dd,U,u,O,ps,ts,ln,lr,lp,lt,rfl,J,c.N.q,fun d G1 D hd t1 dq du k'=>?_};rw[Bt us]at k';obtain rfl:m0=mT U u D:=c.Mo.fal.uniq k';obtain rfl:m1=mT U u D:=B.Mo.fal.uniq k';w_on;refine {dd,d,e',U,u,O,ps,ts,ln,lr,lp,lt,W,D,rfl,(c.sm t1).N,J,dq,aB c.N.d hd,du,n0,by lia,by lia,fun p2 wd x2 G7 ρ t7 B' C'=>?_};have i':=t1.trans t7;replace c:=c.sm i';replace B:=B.sm i';replace M:=M.sm i';replace Y:=i' _ _ Y;replace kG:Kp tT H G7:=kG.trans i'.kp;clear i' t1 t7 ρ dq l' hd k'
  walk_at"gos"
  refine xM ?_;refine lF ?_;refine uY (K8C cC a dd l lh ln lr lp lt x y z U u O H i p2 (23+(i:Int)) e' x2 wd ps ts W D v1 d1 y0 y1 v2 d2 m2 y2) ?_ ?_
  ·have β:=c.Mo.nd;have Z':=c.Mo.mem;clear c B M Y kG B' v0 d0;rintro σ F ⟨fv,v0,d0,m0,K',S,R,C,rfl,gp,c,B,M,Y,kF,st,J',I',ω,tw⟩;refine xM ?_;refine lF ?_;refine uY (K8D cC a dd l lh ln lr lp lt x y z U u O H i p2 (23+(i:Int)) e' x2 wd ps ts W S R C fv v2 d2 m2 y2) ?_ ?_
   ·clear c B Y kF gp v0 d0 m0 K' tw v1 d1 y0 y1 β Z' M;rintro σ F ⟨v0,d0,m0,y0,v1,d1,m1,y1,rfl,gp,c,B,M,Y,kF⟩;refine xM ?_;refine lF ?_;refine uY (fun σ F=>σ=[some (.ref a),some (.ref dd),some (.ref l),some (.ref lh),some (.int (23+(i:Int))),some (.int e'),some (.ref p2),some fv]/\lP cC F dd x.h x.d ln lr lp lt x.n x.p x.t U u O S R C S R C v0 d0 m0 y0 (Mk (i+1))/\lP cC F dd y.h y.d ln lr lp lt y.n y.p y.t U u O S R C S R C v1 d1 m1 y1 (Mk (i+1))/\lP cC F dd z.h z.d ln lr lp lt z.n z.p z.t U u O S R C [] [] 0 v2 d2 m2 y2 (Mk (i+1))/\F lh=some (.lst [.ref x.h,.ref y.h,.ref z.h])/\Kp tT H F/\S.length<=i+1/\R.length<=i+1) ?_ ?_
    ·clear c B M Y kF gp;rintro σ F ⟨rfl,c,B,M,Y,kF,Δ,Φ⟩;obtain rfl:m1=m0:=B.Mo.fal.uniq c.Mo.fal;w_on;refine {x.h,dd,x.d,x.n,x.p,x.t,v0,d0,e',ut u C,eU U u O,_,_,u.toNat,Mk (i+1),U,m1,y0,U,u,O,S,R,ln,lr,lp,lt,C,rfl,c.o,c.I,c.Mo,c.m,c.z,c.N,uI ..,J'.r1,fun l1 e1 w1 F1 ξ s1 g1 q1 m'=>?_};replace c:=c.sm s1;replace B:=B.sm s1;replace M:=M.sm s1;replace Y:=s1 _ _ Y;w_on;apply {y.h,dd,y.d,y.n,y.p,y.t,v1,d1,e',ut u C,eU U u O,_,_,u.toNat,Mk (i+1),U,m1,y1,U,u,O,S,R,ln,lr,lp,lt,C,rfl,B.o,B.I,B.Mo,B.m,B.z,B.N,uI ..,J'.r1,fun l2 e2 w2 F2 ae s2 g2 q2 ψ=>?_};refine {l1,l2,_,_,rfl,rfl,s2 _ _ g1,g2,rfl,fun j a b Z hb=>?_,?_}
     ·match j,Z,hb with
     |0,Z,hb=>
       cases Z;cases hb;exact .inl {_,gC (c.m.tk s2.tk),gC (B.m.tk s2.tk),by simp[EN,uO,jB]}
     |1,Z,hb=>
       cases Z;cases hb;have pp:=LH c.Mo.nd B.Mo.nd c.Mo.mem B.Mo.mem;obtain ⟨p,q,k1,k2,e1,e2,a1,a2,l,h,_⟩:=Ri (Q:=fun _ _=>True) (q1.sm cA.tk s2) q2 (lM c.Mo.nd) (lM B.Mo.nd) (fun x=>by
        rw[kM,kM];exact {fun ⟨y,hy,r⟩=>{y,pp.mem_iff.mp hy,r},fun ⟨y,hy,r⟩=>{y,pp.mem_iff.mpr hy,r}}) trivial
       exact .inr {p,q,k1,k2,e1,e2,a1,a2,l,h}
     |2,Z,hb=>
       cases Z;cases hb;obtain ⟨d,h1,h2⟩:=XO (Rj (eU U u O) m1 (jM u R) (ut u C) (e'%(O.length:Int)).toNat);exact .inl {d,h2 (m'.tk s2.tk),h2 ψ,by lia}
     |j+3,Z,_=>simp at Z
     w_on;exact ν _ _ _ {_,_,_,_,S,R,C,v0,d0,m1,y0,v1,d1,m1,y1,v2,d2,m2,y2,rfl,c.sm s2,B.sm s2,M.sm s2,s2 _ _ Y,kF.trans (s1.trans s2).kp,J',I',Δ,Φ,ω}
    ·intro NX a';have q':=M.up (show Mk i<=Mk (i+1) by rw[tO];lia) (vV u0 u1 (by lia));have g':∀{F':Hp},jL [dd,lp,lt] F F'->Kp tT H F'/\F' lh=some (.lst [.ref x.h,.ref y.h,.ref z.h]):=fun k=>{XU kF k fun x z=>.inr (yN x (by
      simp only[x6,ew,or_false]at z ⊢;rcases z with rfl | rfl | rfl <;> simp)),k _ _ (QM (fun e=>by rw[e,c.N.d]at Y;cases Y) nl.1 nl.2.1) Y}
     w_on;refine {dd,U,u,O,ps,ts,ln,lr,lp,lt,W,p2,wd,x2,rfl,c.N,gp,n1,n2,n3,n4,n5,?_};rcases st with ⟨rfl,rfl,rfl,rfl⟩|⟨rfl,rfl,rfl,rfl⟩|⟨rfl,rfl,rfl,rfl⟩
     ·apply .inl {rfl,by lia,fun F' k N'=>?_};exact a' _ _ {rfl,c.did Ea k N',B.did Eb k N',q'.did Ec k N',(g' k).2,(g' k).1,by rw[m8];show _+1<=_;lia,by lia}
     ·apply .inr (.inl {rfl,by lia,fun F' k N'=>?_});exact a' _ _ {rfl,c.did Ea k N',B.did Eb k N',q'.did Ec k N',(g' k).2,(g' k).1,by lia,by rw[m8];show _+1<=_;lia}
     ·apply .inr (.inr {rfl,fun F' k N'=>?_});exact a' _ _ {rfl,c.did Ea k N',B.did Eb k N',q'.did Ec k N',(g' k).2,(g' k).1,by lia,by lia}
   ·intro NX a';have kH:∀{L:List g6}{F':Hp},jL L F F'->(∀w∈L,w=y.h∨w=y.p∨w=y.t∨w=tT)->Kp tT H F':=fun k hL=>XU kF k fun w hw=>by
     rcases hL w hw with e|e|e|e
     ·exact .inr (yN w (by rw[e];simp))
     ·exact .inr (yN w (by rw[e];simp))
     ·exact .inr (yN w (by rw[e];simp))
     ·exact .inl e
    by_cases hw:wd="go"
    ·obtain ⟨v,zs,es,rfl,gv,nv,pz,pm,so⟩:=tw hw;subst hw;rcases C' with ⟨w,_⟩|⟨w,_⟩|⟨_,x0,hx⟩
     ·exact absurd w (by k_is)
     ·exact absurd w (by k_is)
     obtain ⟨ea,eb,ec⟩:=st.one (.inr (.inr {rfl,rfl,rfl,rfl}));subst ea eb ec;have zb:=Ha J B du n0 x0 hx;have yf:=SS J h' B;have b':=B.up (show Mk i<=Mk (i+1) by rw[tO];lia) (vV u0 u1 (by lia));have hL:∀w∈[y.h,tT],w=y.h∨w=y.p∨w=y.t∨w=tT:=fun w hw=>by
      rcases x6.mp hw with e|e
      ·exact .inl e
      ·exact .inr (.inr (.inr (i9.mp e)))
     w_on;apply uN (beq_self_eq_true _) ?_;refine {y.h,dd,x2,_,y.d,y.n,y.p,y.t,v1,d1,ut u W,eU U u O,_,_,u.toNat,Mk (i+1),U,mT U u D,y1,u,O,_,_,ln,lr,lp,lt,W,rfl,b'.o,b'.I,b'.Mo,b'.m,b'.T,b'.N,u0,u1,yf.1,yf.2,x0,zb.2,fun e e0 e1=>?_,fun v' F' PI=>?_}
     ·rw[mU];exact Ms u0 (by lia) (show W+e<=W+x2 by lia) zb.1
     obtain ⟨vE,Ψ,η,kE,TE,oE,fE,IE,ME,fl,g,pr,γ,Λ⟩:=PI;rw[mU]at fE γ;have SF:=b'.went kE TE oE fE zb.1 IE ME;obtain ⟨tk,kl⟩:=B.tkk hL kE;have δ:=Pd.imp pz fun z e h=>iU.tk h tk;have ι:=kE _ _ (pA nv.1 nv.2) gv;have ee:η=es:=Ru (γ.trans (((ZA (LH B.Mo.nd β B.Mo.mem Z')).filter _).trans pm.symm)) Λ so;subst ee;w_on;apply {v',v,Ψ,zs,rfl,rfl,g,ι,by rw[Paired.length pr,Paired.length δ],fun j a b Z hb=>De pr δ Z hb,?_};exact a' _ _ {v0,d0,m0,K',vE,d1,_,y1,rfl,tk _ _ gp,c.by B Eb Axy.sym hL kE TE,SF,M.by B Eb Ayz hL kE TE,kl Y nl.2.2.2.2.1 nl.2.2.2.2.2,kH kE hL}
    ·w_on;apply jH (beq_eq_false_iff_ne.mpr hw) ?_;refine OP C' J h' us B Eb du (by lia) n0 nb pl tl gp fun fw v' d' E' L' p' t' w' L G' Ξ _ _ _ SF k hL _=>?_;obtain ⟨rfl,rfl,rfl⟩:=Ξ.one st;w_on;obtain ⟨tk,kl⟩:=B.tkk hL k;exact a' _ _ {v0,d0,m0,K',v',d',E',L',rfl,tk _ _ gp,c.by B Eb Axy.sym hL k SF.T,SF,M.by B Eb Ayz hL k SF.T,kl Y nl.2.2.2.2.1 nl.2.2.2.2.2,kH k hL}
  ·intro NX a';w_on;apply OP C' J h' us c Ea du (by lia) n0 nb pl tl B' fun fv v' d' E' L' S R C L G' st J' I' n' SF k hL tw=>?_;obtain ⟨tk,kl⟩:=c.tkk hL k;refine a' _ _ {fv,v',d',E',L',S,R,C,rfl,tk _ _ B',SF,B.by c Ea Axy hL k SF.T,M.by c Ea Axz hL k SF.T,kl Y nl.2.2.1 nl.2.2.2.1,XU kG k fun w hw=>?_,st,J',I',n',fun g=>?_}
   ·rcases hL w hw with e|e|e|e
    ·exact .inr (yN w (by rw[e];simp))
    ·exact .inr (yN w (by rw[e];simp))
    ·exact .inr (yN w (by rw[e];simp))
    ·exact .inl e
   ·obtain ⟨v,zs,es,q1,q2,q3,q4,q5,q6⟩:=tw g;obtain ⟨_,eT⟩:=c.T.ex;exact {v,zs,es,q1,q2,{u7 (aB B.o q3),u7 (aB eT q3)},q4,q5,q6}
 ·rintro σ G ⟨o4,o5,o6,o7,ps,ts,W,v0,d0,m0,y0,v1,d1,m1,y1,v2,d2,m2,y2,rfl,c,B,M,Y,kG,J,us,pl,tl,n0⟩;have l':=cS.kt hS hT kG;w_on;apply xP l' ?_;apply {z.h,dd,z.d,z.n,z.p,z.t,v2,d2,_,ut u 0,eU U u O,_,_,u.toNat,Mk NN,U,m2,y2,U,u,O,ps,ts,ln,lr,lp,lt,W,rfl,M.o,M.I,M.Mo,M.m,M.z,M.N,uI ..,J.r1,fun l1 e1 w1 F1 ξ s1 g1 q1 m'=>?_};have mn:=Cp M.Mo.fal;have fn:fallen (ut u 0) m2 y2=[]:=by
   cases e:fallen (ut u 0) m2 y2 with
  |nil=>rfl
  |cons p r=>
    obtain ⟨y,_,_,h,_⟩:=kM.mp (show p∈fallen (ut u 0) m2 y2 by rw[e];exact .head _);rw[mn]at h;cases h
  rw[fn]at q1;obtain ⟨kv,gk,qk⟩:=q1;obtain rfl:kv=[]:=List.eq_nil_of_length_eq_zero qk.len;have rl:=J.r1;have k1:=r9 (7*(ns.length:Int)) (b:=(O.length:Int)) (by lia);have k2:=n6 (7*(ns.length:Int)) (b:=(O.length:Int)) (by lia);have lf:Rj (eU U u O) m2 (jM u []) (ut u 0) (7*(ns.length:Int)%(O.length:Int)).toNat=some (0,1):=by
   obtain ⟨r,X⟩:∃r,(eU U u O)[(7*(ns.length:Int)%(O.length:Int)).toNat]?=some r:={_,i7 (by rw[uI];lia)}
   unfold Rj;rw[X];show FA (m2 _) (m2 _) _ _ _=_;rw[mn,mn,show cQ (jM u []) (7*(ns.length:Int)%(O.length:Int)).toNat=none from rfl];show (if (false:Bool)=true then none else if (0:Rat)<1-0 then some ((0:Rat),(1:Rat)-0) else none)=_;rw[if_neg (by decide),if_pos (by k_is),show (1:Rat)-0=1 by k_is]
  rw[j6,lf]at m';refine bD fun t1 τ=>?_;have b1:=aK.new (o:=.tup [.int 0,.int 1]) τ;have c1:cA (L2.upd F1 t1 (.tup [.int 0,.int 1])) (.ref t1) 0:={t1,rfl,aC}
  generalize L2.upd F1 t1 (.tup [.int 0,.int 1])=A1 at b1 c1⊢;w_on;refine uA fun d hd=>?_;have b2:=aK.new (o:=.dK []) hd;have c2:L2.upd A1 d (.dK []) d=some (.dK []):=aC;generalize L2.upd A1 d (.dK [])=A2 at b2 c2⊢;w_on;refine bD fun t2 υ=>?_;have b3:=aK.new (o:=.tup [.int 0,.int 1]) υ;have c3:cA (L2.upd A2 t2 (.tup [.int 0,.int 1])) (.ref t2) 0:={t2,rfl,aC}
  generalize L2.upd A2 t2 (.tup [.int 0,.int 1])=A3 at b3 c3⊢;w_on;refine bD fun t3 φ=>?_;have b4:=aK.new (o:=.tup [.int 1,.int 1]) φ;have c4:cA (L2.upd A3 t3 (.tup [.int 1,.int 1])) (.ref t3) 1:={t3,rfl,aC}
  generalize L2.upd A3 t3 (.tup [.int 1,.int 1])=A4 at b4 c4⊢;w_on;refine bD fun t4 χ=>?_;have b5:=aK.new (o:=.tup [.ref t2,.ref t3]) χ;have c5:tP (L2.upd A4 t4 (.tup [.ref t2,.ref t3])) (.ref t4) (some (0,1)):={t4,_,_,rfl,aC,c3.tk (b4.trans b5).tk,c4.tk b5.tk}
  generalize L2.upd A4 t4 (.tup [.ref t2,.ref t3])=A5 at b5 c5⊢;w_on;refine dH fun lf ο=>?_;have b6:=aK.new (o:=.lst [.ref t1,.ref d,.ref t4]) ο;have c6:L2.upd A5 lf (.lst [.ref t1,.ref d,.ref t4]) lf=_:=aC;generalize L2.upd A5 lf (.lst [.ref t1,.ref d,.ref t4])=A6 at b6 c6⊢;have ζ:=b3.trans (b4.trans (b5.trans b6));have ε:=b2.trans ζ;have o':=b1.trans ε;w_on;refine {l1,lf,_,_,rfl,rfl,o' _ _ g1,c6,rfl,fun j a b Z hb=>?_,?_}
  ·match j,Z,hb with
  |0,Z,hb=>
    cases Z;cases hb;have:=M.m;rw[mS]at this;exact .inl {_,gC (this.tk (s1.trans o').tk),gC (c1.tk ε.tk),by simp[EN,uO,jB]}
  |1,Z,hb=>
    cases Z;cases hb;exact .inr {e1,d,[],[],rfl,rfl,o' _ _ gk,ζ _ _ c2,rfl,fun _ h=>nomatch h}
  |2,Z,hb=>
    cases Z;cases hb;obtain ⟨d,h1,h2⟩:=XO (some (0,1));exact .inl {d,h2 (m'.tk o'.tk),h2 (c5.tk b6.tk),by lia}
  |j+3,Z,_=>simp at Z
  w_on;exact q _
end
local macro_rules | `(↑$x) => `(($x).mono (by decide))
theorem all_mk{l:pf}{w:w6}{K:y8}{h:C3}{mg:Str->Option f9}{fa:g6}(X:K.In h)(G:h.Ns C2 mg)(hfa:mg "law"=some (.ref fa)){f3:g6}{oc3:f9}{od3 an3:Option g6}{sl3:Array (Option f9)}{kV3 dc3 pm3 cd3 ct3:f9}{dT3:g6}{dO3:Obj}{dN3:Nat}{dK3:Tok}{f11:g6}{oc11:f9}{od11 an11:Option g6}{sl11:Array (Option f9)}{kV11 dc11 pm11 cd11 ct11:f9}{f17:g6}{oc17:f9}{od17 an17:Option g6}{sl17:Array (Option f9)}{kV17 dc17 pm17 cd17 ct17:f9}{dT17:g6}{dO17:Obj}{dN17:Nat}{f18:g6}{oc18:f9}{od18 an18:Option g6}{sl18:Array (Option f9)}{kV18 dc18 pm18 cd18 ct18:f9}{dT18:g6}{dO18:Obj}{dN18:Nat}{f56:g6}{oc56:f9}{od56 an56:Option g6}{sl56:Array (Option f9)}{kV56 dc56 pm56 cd56 ct56:f9}{cC:g6}(T:Bl mg)(HC:Tj K mg cC)(vE:EV K mg cC)(a3:nsIn K C2 "fraction"=some (some (.ref f3)))(l3:K.lookup f3=some {oc3,od3,.func (ik "fraction" "fraction" (cH iG) (bP iG) (aG iG) (.ref dT3) kV3 dc3 pm3 an3 cd3 ct3),sl3})(c3:F5 K cd3 "fraction"=true)(k3:C0 K (.ref f3)=true)(t3:K.lookup dT3=some dO3)(u3:dO3.data=.seq #[.int 1 dK3] dN3)(a11:nsIn K C2 "sorted_by"=some (some (.ref f11)))(l11:K.lookup f11=some {oc11,od11,.func (ik "sorted_by" "sorted_by" (cH fM) (bP fM) (aG fM) .none kV11 dc11 pm11 an11 cd11 ct11),sl11})(c11:F5 K cd11 "sorted_by"=true)(k11:C0 K (.ref f11)=true)(tb11:jr K 167 165=true)(tc11:cd11=.ref 167)(a17:nsIn K C2 "falls_of"=some (some (.ref f17)))(l17:K.lookup f17=some {oc17,od17,.func (ik "falls_of" "falls_of" (cH gJ) (bP gJ) (aG gJ) (.ref dT17) kV17 dc17 pm17 an17 cd17 ct17),sl17})(c17:F5 K cd17 "falls_of"=true)(k17:C0 K (.ref f17)=true)(t17:K.lookup dT17=some dO17)(u17:dO17.data=.seq #[.none] dN17)(a18:nsIn K C2 "fall_moments"=some (some (.ref f18)))(l18:K.lookup f18=some {oc18,od18,.func (ik "fall_moments" "fall_moments" (cH eC) (bP eC) (aG eC) (.ref dT18) kV18 dc18 pm18 an18 cd18 ct18),sl18})(c18:F5 K cd18 "fall_moments"=true)(k18:C0 K (.ref f18)=true)(t18:K.lookup dT18=some dO18)(u18:dO18.data=.seq #[.none] dN18)(a56:nsIn K C2 "law"=some (some (.ref f56)))(l56:K.lookup f56=some {oc56,od56,.func (ik "law" "law" (cH sM) (bP sM) (aG sM) .none kV56 dc56 pm56 an56 cd56 ct56),sl56})(c56:F5 K cd56 "law"=true)(k56:C0 K (.ref f56)=true):
  ∃fd:M6,(∀(s:i6)(v:f9),X6 s fd {[v],[]} [("_law_script",v)])/\∀base:C3,K.In base->base.Ns C2 mg->zZ mg base->jV l.prog w K mg base mB 9 fa fd ["_law_script"] (MG K):=by
 have e:=hfa.symm.trans (mg_of X G a56);cases e;have d_fraction:Hh K mg "fraction" iG ["top","bottom"] [.int 1]:=KR (ds:=[.int 1 dK3]) X G a3 l3 c3 k3 t3 u3 (fun sh us hg hl=>by refine el_2 (P:=fun us=>X6 sh _ {us,[]} (jy ["top","bottom"] us)) ?_ us hl;exact fun _ _=>.of_defaults rfl hg u3 rfl rfl) (.cons {_,rfl} .nil) (fun sh us hg hl=>by refine el_1 (P:=fun us=>X6 sh _ {us,[]} (jy ["top","bottom"] (us++[.int 1 dK3]))) ?_ us (show us.length=1 by simpa using hl);exact fun _=>.of_defaults rfl hg u3 rfl rfl);subst tc11;have d_sorted_by:Ub K mg "sorted_by" fM ["fractions","things"] 167 165:=Mg X G a11 l11 c11 k11 tb11 (el_2 fun _ _=>rfl);have d_falls_of:Hh K mg "falls_of" gJ ["net","pushes","takings"] [.non]:=KR (ds:=[.none]) X G a17 l17 c17 k17 t17 u17 (fun sh us hg hl=>by refine el_3 (P:=fun us=>X6 sh _ {us,[]} (jy ["net","pushes","takings"] us)) ?_ us hl;exact fun _ _ _=>.of_defaults rfl hg u17 rfl rfl) (.cons rfl .nil) (fun sh us hg hl=>by refine el_2 (P:=fun us=>X6 sh _ {us,[]} (jy ["net","pushes","takings"] (us++[.none]))) ?_ us (show us.length=2 by simpa using hl);exact fun _ _=>.of_defaults rfl hg u17 rfl rfl);have d_fall_moments:Hh K mg "fall_moments" eC ["net","pushes","takings"] [.non]:=KR (ds:=[.none]) X G a18 l18 c18 k18 t18 u18 (fun sh us hg hl=>by refine el_3 (P:=fun us=>X6 sh _ {us,[]} (jy ["net","pushes","takings"] us)) ?_ us hl;exact fun _ _ _=>.of_defaults rfl hg u18 rfl rfl) (.cons rfl .nil) (fun sh us hg hl=>by refine el_2 (P:=fun us=>X6 sh _ {us,[]} (jy ["net","pushes","takings"] (us++[.none]))) ?_ us (show us.length=2 by simpa using hl);exact fun _ _=>.of_defaults rfl hg u18 rfl rfl);have FL:=Lz (st:=sM) l56 c56 k56;refine {ik "law" "law" (cH sM) (bP sM) (aG sM) .none kV56 dc56 pm56 an56 cd56 ct56,fun s v=>.of_eq rfl,fun base _ _ BB=>?_};have o1b:=GY l.prog w base 0 T HC vE ;have o0e:=sX l.prog w base 0 T HC vE ;have o0m:=xZ l.prog w base 1 T HC vE  ↑o1b ↑o0e;have o1e:=HD l.prog w base 1 T HC vE d_fraction ↑o1b ↑o0e;have o1n:=WW l.prog w base 1 T HC vE  ↑o0e;have o1a:=GX l.prog w base 2 T HC vE  ↑o1n;have o1s:=WR l.prog w base 2 T HC vE  ↑o1e;have o1i:=JU l.prog w base 2 T HC vE  ↑o1e;have o1h:=JT l.prog w base 0 T HC vE ;have o0x:=DA l.prog w base 2 T HC vE  ↑o0m;have o0r:=zL l.prog w base 1 T HC vE  ↑o0e;have o0s:=CY l.prog w base 2 T HC vE d_sorted_by ↑o0r BB;have o1d:=GW l.prog w base 0 T HC vE ;have o0p:=xY l.prog w base 0 T HC vE ;have o0h:=uF l.prog w base 1 T HC vE  ↑o1h;have o1k:=QJ l.prog w base 1 T HC vE  ↑o1h;have o0n:=yA l.prog w base 1 T HC vE  ↑o1h;have o1c:=HE l.prog w base 2 T HC vE d_falls_of ↑o1n ↑o1h ↑o0p ↑o0h ↑o1k ↑o0n;have o0i:=vI l.prog w base 3 T HC vE d_fall_moments ↑o1d ↑o1c;have o0j:=vH l.prog w base 3 T HC vE  ↑o1a ↑o1i ↑o1h;have o0o:=xX l.prog w base 4 T HC vE  ↑o1a ↑o1h ↑o0j;have o0z:=GZ l.prog w base 2 T HC vE  ↑o1n ↑o1h;have o0c:=rD l.prog w base 3 T HC vE  ↑o1n ↑o1a ↑o1s ↑o1i ↑o0z;have o0t:=CZ l.prog w base 0 T HC vE ;have o0u:=DB l.prog w base 4 T HC vE  ↑o1h ↑o0c ↑o0t
 have o1j:=JV l.prog w base 0 T HC vE ;have o1p:=WU l.prog w base 0 T HC vE ;have o1l:=QI l.prog w base 1 T HC vE  ↑o1j ↑o1p;have o2c:=Ky l.prog w base 0 T HC vE ;have o1r:=WT l.prog w base 0 T HC vE ;have o1v:=Ch l.prog w base 0 T HC vE ;have o1o:=WV l.prog w base 0 T HC vE ;have o1x:=Cj l.prog w base 2 T HC vE  ↑o1l ↑o1r ↑o1v ↑o1o;have o2b:=Kx l.prog w base 1 T HC vE  ↑o2c;have o1m:=QH l.prog w base 0 T HC vE ;have o1q:=WS l.prog w base 0 T HC vE ;have o1z:=La l.prog w base 1 T HC vE  ↑o1m ↑o1q;have o1u:=Ci l.prog w base 1 T HC vE  ↑o2c ↑o1q;have o1t:=Ck l.prog w base 3 T HC vE  ↑o1x;have o1w:=Cl l.prog w base 2 T HC vE  ↑o1u;have o2a:=Lb l.prog w base 0 T HC vE ;have o0g:=uG l.prog w base 1 T HC vE  ↑o1h;have o0d:=rE l.prog w base 0 T HC vE ;have o0b:=oZ l.prog w base 5 T HC vE  ↑o0h ↑o0u;have o1g:=JW l.prog w base 6 T HC vE  ↑o1n ↑o1h ↑o0x ↑o0s ↑o0g ↑o0d ↑o0b;have o0k:=yB l.prog w base 4 T HC vE  ↑o0i;have o0q:=zM l.prog w base 5 T HC vE  ↑o1b ↑o0h ↑o0o;have o0w:=DC l.prog w base 6 T HC vE  ↑o0k ↑o0q;have o0a:=nH l.prog w base 0 T HC vE ;have o0v:=DE l.prog w base 5 T HC vE  ↑o0g ↑o0k ↑o0a;have o2d:=Rb l.prog w base 7 T HC vE  ↑o2c ↑o1g ↑o0w ↑o0v;have o0y:=HB l.prog w base 7 T HC vE  ↑o2c ↑o1g;have o0l:=yC l.prog w base 2 T HC vE  ↑o0g;have o1f:=HG l.prog w base 0 T HC vE ;have o1y:=Cg l.prog w base 6 T HC vE  ↑o0q ↑o0l ↑o1f;have o0f:=(uH l.prog w base 4 T HC vE  ↑o0i).toMk;exact Kz l.prog w base 8 T HC vE ↑o1l ↑o2b ↑o1z ↑o1t ↑o1w ↑o2a ↑o2d ↑o0y ↑o1y ↑o0f FL
theorem walk{l:pf}{q:m9}{loose:List Str}{XP:(Str->Option f9)->C3->Prop}{YP:w6->C3->Prop}{d:DefRec}{K:Params->y8}(hn:l.most=some 63)(hdf:d.params.defaults=[])(hY:∀(w:w6)(h:C3),YP w h->(K w.params).In h/\h.get? 165=some (wj #[]))(hC:∀P,jr (K P) 167 165=true)(hKT:∀P,(K P).lookup 165=none)
  (F:∀(w:w6)(mg:Str->Option f9)(fa:g6)(h:C3),(K w.params).In h->h.Ns C2 mg->mg d.name=some (.ref fa) ->
   ∃fd:M6,(∀(s:i6)(u:f9),X6 s fd {[u],[]} [("_law_script",u)])/\∀base:C3,(K w.params).In base->base.Ns C2 mg->zZ mg base->jV l.prog w (K w.params) mg base mB 9 fa fd ["_law_script"] (MG (K w.params))) :
  PySem.W.WalkO q loose XP YP l.row.toRowW d [] (fun f vs=>PySem.call f vs):=
 L2.walk_ofT (n:=63) (k:=9) (x:="_law_script") (CX:=fun _=>mB) (sp:=fun w=>MG (K w.params)) hn (by decide) hdf {rfl,by decide,by decide,rfl} hY hC hKT F (fun _ _ a ns hl hT hS=>{a,ns,rfl,hS,hl,.inl hT,fun _=>rfl}) fun _ _ _ _ _ z=>z
end Lw
end
open PySem PySem.W PyProof.Rows
set_option maxRecDepth 100000 in
set_option maxHeartbeats 0 in
theorem PySem.Challenge.cw_tilefall_k84_whole_time_in_parts_holds : PySem.Challenge.rw_tilefall_k84_whole_time_in_parts.Holds := by
  w_on; o_law; km_head; (case hw => w_witness2)
  k_fill
  refine Lw.walk (l := PySem.Challenge.rw_tilefall_k84_whole_time_in_parts) rfl rfl (fun w h Y => ⟨PySem.W.km_in_of Y, PySem.W.km_tabs_of Y 165 (by simp)⟩) (fun _ => by kernel_rfl) (fun _ => by kernel_rfl) ?F
  case F =>
    intro w mg fa h KX G hmg
    refine' Lw.all_mk KX G hmg ?T ?HC ?vE ?a3 ?l3 ?c3 ?k3 ?t3 ?u3 ?a11 ?l11 ?c11 ?k11 ?tb11 ?tc11 ?a17 ?l17 ?c17 ?k17 ?t17 ?u17 ?a18 ?l18 ?c18 ?k18 ?t18 ?u18 ?a56 ?l56 ?c56 ?k56   
    (case T => constructor <;> exact PySem.W.mg_none_of KX G (by k_is))
    (case HC => refine' ⟨PySem.W.mg_of KX G ?_, ⟨?_, ?_, ?_, ?_⟩, ?_, ?_, ?_, ?_, ?_, ?_, ?_⟩ <;> first | k_is | kernel_rfl | (show PySem.W.findIn _ _ _ = _; first | k_is | kernel_rfl))
    (case vE => constructor <;> first | (refine' L2.df_mk KX G ?a ?l ?c ?k ?b; (case a => k_is); (case l|c|k => k_is); (case b => first | exact Lw.el_1 fun _ => rfl | exact Lw.el_2 fun _ _ => rfl | exact Lw.el_3 fun _ _ _ => rfl | exact Lw.el_4 fun _ _ _ _ => rfl)) | (refine' L2.dfc2_mk ?a ?l ?c ?i ?k ?b; (case a => k_is); (case l|c => k_is); (case i => first | k_is | kernel_rfl); (case k => k_is); (case b => first | exact Lw.el_1 fun _ => rfl | exact Lw.el_2 fun _ _ => rfl | exact Lw.el_3 fun _ _ _ => rfl | exact Lw.el_4 fun _ _ _ _ => rfl)))
    (case a3|l3|c3|k3|t3|a11|l11|c11|k11|a17|l17|c17|k17|t17|a18|l18|c18|k18|t18|a56|l56|c56|k56 => k_is)
    (case u3 => exact rfl)
    (case tb11 => first | k_is | kernel_rfl); (case tc11 => exact rfl)
    (case u17 => exact rfl)
    (case u18 => exact rfl)
