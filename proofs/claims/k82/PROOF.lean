import PyProof.Rows.All
import Wide.All
import OpenK.AllK
import Wide.FinOn
import Lean
import PyProof.EqAt
import PyProof.EqKinds
import PyProof.TupleCall
import PyProof.NeKinds
import KE.KTryMore
import KE.RegKTryMore
import KE.RegKIsAll
import PyProof.ExcBaseAll.ValueError
import PyProof.ExcBaseAll.Exception
import PyProof.ExcAttrAll.ValueError
import KE.KRevSl
import PyProof.ZipIter
import KE.KPairComp
import PyProof.DictItemsLoops
import PySem.Challenge.RW_tilefall_k82_hands_refused
set_option Elab.async false
set_option linter.all false
set_option maxRecDepth 100000
noncomputable section
local macro_rules (kind:=«term{_}») | `({$x, $xs,*}) => `(⟨$x, $xs,*⟩)
local macro_rules | `(tactic| k_is) => `(tactic| decide +kernel)
local macro_rules | `(tactic| o_law) => `(tactic| ((try dsimp only at *); omega))
open List (all_cons any_cons any_eq_true append_assoc append_nil cons_append count_append filterMap_cons filter_append filter_cons filter_nil find?_cons forIn_cons isEmpty_eq_false_iff length_append length_cons length_drop length_eq_zero_iff length_map length_nil length_pos_iff length_replicate length_take length_zip lookup_cons map_append map_cons map_map map_nil map_snd_zip mem_append mem_append_left mem_append_right mem_cons mem_cons_of_mem mem_cons_self mem_filter mem_filterMap mem_map mem_of_getElem? mem_of_mem_take mem_range mem_singleton nil_append nodup_append nodup_cons nodup_nil not_mem_nil of_mem_zip pairwise_map perm_append_comm range_succ reverse_cons reverse_perm size_toArray sum_append sum_cons sum_nil take_add take_add_one take_append_drop take_length take_of_length_le take_sublist take_succ_eq_append_getElem)
open Nat (dvd_trans le_add_right le_antisymm le_of_ble_eq_true le_of_dvd le_of_eq le_of_lt le_refl le_succ le_trans lt_irrefl lt_of_le_of_lt lt_of_lt_of_le lt_of_succ_lt lt_or_ge lt_succ_of_lt lt_succ_self lt_trans min_self mod_lt mul_le_mul_left ne_of_gt ne_of_lt not_lt not_lt_zero one_pos pow_le_pow_right pow_pos pow_succ sub_lt zero_le)
open PySem.W (CodeHd Frag InstAt cellsFrom_some codeHdIn codeHd_of_K codeRec_of emptyDict excIn exmOne fnOf handedIn hasDictIn instObj keq_eq keq_ne kia_one kitCls kitx_dict kitx_list kla_fn kla_obj lookIn methodObj mg_of mroIn nsIn plainGet plainGet_of plainOver tabObj takerIn typeIn)
open PySem.F (entry_dict_get plainAttrs_dict plainAttrs_list slot_dict_get slot_dict_pop slot_list_ne slot_tuple_add type_dict_get)
open PySem.Heap (get?_none_of_le get?_push_of_some get?_push_size get?_update_other get?_update_self lt_size size_push size_update)
namespace PySem.W.Fast
def tw1014378369232235410:=0
def tw10224225540510008690:=0
def tw10242037826968444226:=0
def tw10328317012210896613:=0
def tw10366209348085227667:=0
def tw10472206166601325406:=0
def tw10492857117220349500:=0
def tw10514298300013557032:=0
def tw1057819433971261347:=0
def tw10602026154514097010:=0
def tw10604642524848343216:=0
def tw10661786852365408458:=0
def tw10791022442260411108:=0
def tw10810835354798607943:=0
def tw10976584069013926011:=0
def tw1101373076774780173:=0
def tw11087450755616651971:=0
def tw11171630137389171387:=0
def tw1123381696326332395:=0
def tw11289810340124169197:=0
def tw11446658155121236950:=0
def tw1155031667477099185:=0
def tw11611672834525773416:=0
def tw11616222797074844427:=0
def tw11649048676665554419:=0
def tw11750731871252570587:=0
def tw11895356385028201779:=0
def tw11896649778755152391:=0
def tw11915434094480919851:=0
def tw11926113441433298778:=0
def tw1205712627451141715:=0
def tw12155677102903324398:=0
def tw12179343108280049708:=0
def tw12182899887065040224:=0
def tw1222645788203083567:=0
def tw12229263641644211593:=0
def tw12291146382817255470:=0
def tw1230376824280262562:=0
def tw12378506560610552338:=0
def tw12428832849119926516:=0
def tw12471923076203669660:=0
def tw12498086762977057595:=0
def tw12685221184810670565:=0
def tw12804363016811534175:=0
def tw12831513386220549896:=0
def tw12905737127905387769:=0
def tw13087594302672857154:=0
def tw13125470436690765187:=0
def tw13221415262733407029:=0
def tw13241763196109940638:=0
def tw13251787235301183546:=0
def tw13458226517618719894:=0
def tw13554892300134328362:=0
def tw13590726260063260034:=0
def tw13592631697637980957:=0
def tw13750068904729769769:=0
def tw13783924330696682579:=0
def tw13785220165179239761:=0
def tw13899710962106999778:=0
def tw13929405281388231949:=0
def tw13980762317695775244:=0
def tw14125587095630426540:=0
def tw14141594172239773812:=0
def tw14145407879838583779:=0
def tw14301620137569039089:=0
def tw14340305473066114288:=0
def tw14349760227217290979:=0
def tw14362303492822054301:=0
def tw14410526248292306951:=0
def tw14532612441092578212:=0
def tw14560660772911562154:=0
def tw14629002855762069263:=0
def tw14635106359548405352:=0
def tw14751035847656608890:=0
def tw14767130761674911932:=0
def tw14939926103503569804:=0
def tw14952503100692952335:=0
def tw15059072002960259689:=0
def tw15244893151925363365:=0
def tw15251880310746424149:=0
def tw15321580057710539715:=0
def tw1532836559152045602:=0
def tw15463907119525606961:=0
def tw155924405162673068:=0
def tw15605085269319008657:=0
def tw15610050853934057984:=0
def tw15611154063367429056:=0
def tw15622299875008920246:=0
def tw15686742551365337403:=0
def tw15711884002118029449:=0
def tw15758721770244125285:=0
def tw15798639162851909474:=0
def tw15845891535275642681:=0
def tw15910750937214898338:=0
def tw16000591511265742958:=0
def tw16002148234878103372:=0
def tw16020085742223315164:=0
def tw16081723204990962407:=0
def tw16122200672673506293:=0
def tw16137304600215447232:=0
def tw16179144374315257915:=0
def tw16230505248154856458:=0
def tw1628707198043864073:=0
def tw16287658198610898274:=0
def tw16324495830033218528:=0
def tw16334559070015228228:=0
def tw16353456313085297840:=0
def tw16380282689833496680:=0
def tw16681479992659699230:=0
def tw16742533996266328441:=0
def tw16743997572699822954:=0
def tw16746400082297823317:=0
def tw16801227847795001210:=0
def tw16868704074563607109:=0
def tw16877654661027633749:=0
def tw1694423717050956246:=0
def tw17128504258608863858:=0
def tw171290726295351281:=0
def tw17237984082978527861:=0
def tw17305696863246321231:=0
def tw17328875552649615048:=0
def tw17364638369403481666:=0
def tw17376242575878618506:=0
def tw17443546793504070765:=0
def tw17532865448914638007:=0
def tw17568534567678938354:=0
def tw17626816698593822617:=0
def tw17804186966211258160:=0
def tw17829699638035926822:=0
def tw17847795884235646138:=0
def tw17875449574991639004:=0
def tw18066976418580561191:=0
def tw18190025677014976648:=0
def tw18295683180240866478:=0
def tw18319033431238749050:=0
def tw18362876262284632881:=0
def tw209355711016963325:=0
def tw2120724794937991460:=0
def tw2175873164735537871:=0
def tw2388842373133096640:=0
def tw2464604112914179535:=0
def tw2550398838707410551:=0
def tw2594176191520591963:=0
def tw2604033863604417626:=0
def tw2638818323924583872:=0
def tw2735251127519417850:=0
def tw2782485733880561981:=0
def tw3015613034777474099:=0
def tw3151551012315158616:=0
def tw3171279383355831454:=0
def tw3189266795247600315:=0
def tw3206815845986532066:=0
def tw3284983495160043572:=0
def tw3367575164027233693:=0
def tw3388513695297117317:=0
def tw3451209405222740510:=0
def tw3515802918881211262:=0
def tw3543700987434598412:=0
def tw3754908581172466273:=0
def tw3911581070740058080:=0
def tw3944046917939539598:=0
def tw3952835241407447611:=0
def tw3980464832774692207:=0
def tw3984058377771421406:=0
def tw3996613852951790541:=0
def tw4045664910656322572:=0
def tw406943132720102472:=0
def tw4151556229879406817:=0
def tw4182704406737194411:=0
def tw4312284765595604181:=0
def tw4364350213420407223:=0
def tw4438637151689060757:=0
def tw4531531192776879205:=0
def tw4685793487488303149:=0
def tw4812105804696502317:=0
def tw4858340264571845893:=0
def tw4940680536337754160:=0
def tw4971403676106422033:=0
def tw497462201166638199:=0
def tw5018203464880968164:=0
def tw509109737239840602:=0
def tw5116391461339850716:=0
def tw5138082026794698559:=0
def tw522551398670100138:=0
def tw5264645706116451929:=0
def tw5319166094725740058:=0
def tw547603873065307032:=0
def tw5547492424671546994:=0
def tw558378847009306041:=0
def tw560918431399252576:=0
def tw5722271102815785438:=0
def tw5731080718634812968:=0
def tw5914920584023251355:=0
def tw6150864536715707683:=0
def tw6180421513745597409:=0
def tw6183725261923909046:=0
def tw619679296055737108:=0
def tw6226038095629963239:=0
def tw6282288988739592811:=0
def tw6312086095704631290:=0
def tw6459622308686970443:=0
def tw6601252115177465076:=0
def tw6786352390841010608:=0
def tw6879686867449171665:=0
def tw693413393398756586:=0
def tw6957279887494083813:=0
def tw7111731967347906960:=0
def tw7375190041003111186:=0
def tw7451820260014888342:=0
def tw7454028415658745583:=0
def tw7487390303646671573:=0
def tw7495502868667293806:=0
def tw7551974035914084995:=0
def tw7569210245491203000:=0
def tw7571180902929545670:=0
def tw7612248442480129103:=0
def tw774217621266839515:=0
def tw7940339878301664473:=0
def tw8145911568996691028:=0
def tw8198195735879318150:=0
def tw8203666498803294420:=0
def tw8264968175603020419:=0
def tw8272355666331590101:=0
def tw8475682199208365950:=0
def tw859924416205941026:=0
def tw8603022217600974287:=0
def tw8708856704551777896:=0
def tw8749089784808318428:=0
def tw8763073177247260750:=0
def tw8808934568590679338:=0
def tw881395462508129610:=0
def tw8838615024117369771:=0
def tw8904747288312886846:=0
def tw9124263357316758369:=0
def tw9156561059120830691:=0
def tw9168343265985929815:=0
def tw9279021161066635203:=0
def tw9458090924358347912:=0
def tw955091977663944127:=0
def tw9644390364604133427:=0
def tw9737948571388949319:=0
def tw9750706932124232472:=0
def tw9809995252655215294:=0
def tw9850975948207611585:=0
def tw9882542865309939567:=0
def tw9920257983053394885:=0
def tw992236666799416907:=0
end PySem.W.Fast
open PySem renaming wpAny_bind→c6,Value→c7,Addr→c8,Shared→f9,wpAny_pure→i0,wpAny→i6,model→j3,Program→m7,starEach→m9,sizeLine→n7,World→y6,sizeLine_eq→y9,Around→A2,Heap→A7,mainGlobals→B8,bootBuiltins→B9,codeAny_builtin→C1,wpAny_mono→C4,rawInt→C5,Stmt→D4,Expr→D6,wpAny_holding→D7,compareOp→E4,Builtin→E8,eval→I0,SetTable→J0,plainId_quiet→J9,wpAny_truthy_bool→K2,wpAny_newObj_type→K3,FuncData→K6,backTo→K9,wpAny_rule→L7,cLine→L9,wpAny_loadPart'→M5,setField→M8,Spec→O4,wpAny_call_entry→O7,wpAny_setField→P4,wpAny_Call_Name_kw→P5,attributeBase→Q4,binaryOp→R3,wpAny_field→R4,tupleKind_room_in1→S9,pyNext→T4,codeAny→T5,wpAny_updateSeq→T9,wpAny_passesOwn→U0,wpAny_execs_nil→U1,wpAny_attempt→U5,builtinLookup_eq_fast→U7,wpAny_setState_of→U8,foldedSetIterable→V0,mem_of_lookup→V2,keywordEach→V7,codeAny_mono→W5,BindsTo→W6,Scope→X1,Builtin→Y6,wpAny_typeOf→Y8,valueAt→Y9,assignEach→Z8,behindInMarks→di,unsupported→dw,NameKind→el,wpAny_specialOf→fk,typeLookup_type→fy,letOwnedTupleGo→gg,call_meetsIn→gs,wpAny_load→il,recursionLimit→im,backToKw→ip,wpAny_Call_method→ix,holding→ja,wpAny_isInstance→jo,wpAny_execs_cons→jp,wpAny_callSpecial?_slot→jq,updateSeq→jr,tupleKind→jt,swapsWith→ju,raiseNew→jv,getMethod→jx,ZipApart→jz,wpAny_call→ki,typeLookup→kj,standAt→ko,setNextDrawn→kr,setNext→ku,call→lc,Keyword→li,wpAny_runValue→mi,isSubtype_type→mn,codeAny_call_builtin→mr,Within→my,seqItems?→ng,scanBound→ni,pickOrder→nj,noteFrame→nk,wpAny_standAt→pc,wpAny_newList→pf,isInstance→pj,closureFor→pk,builtinsNs→pz,wpAny_pyIter_slot→qj,wpAny_pyIter_list→qk,relayAll→ql,relabel→qm,getItem→qr,fits_of_scanBound→qw,entryFor→qx,collect→qy,callerA→qz,callWith→rc,wpAny_pyHash_str→sk,wpAny_askSetting→so,stored→sq,pyIter→su,newExc→sv,entryFor_of_tree→sx,checkBuiltinCall→sy,assign→tf,subscripted→uq,wpAny_newTuple→wc,wpAny_newFunctionEnv_cells→we,wpAny_Name→wf,bindName→wq,bindArgs→wt,atKey→wu,IsPair→xf,wpAny_comprehension_free→xo,evalPart_none→xu,assignInOrder→xv,setFlight→ya,putSet_of→yb,cellsFrom→yc,bindL→yd,bindC→ye,Arguments→yf,wpAny_pyNext_list_item→yg,wpAny_nextOf_list_item→yh,spliced→yl,setAddHashed→ym,newList→yr,leaving→yu,cellOf→yx,argsOk→zc,wpAny_pyNext_list_end→zi,wpAny_notOrdered_dict→zj,wpAny_isTrue_Compare1→zk,codeAny_call_function→zl,wpAny_newFunctionEnv→zv,wpAny_loadName_local→zw,getAttr?→HL,codeAny_extend_loopS→KI,Code→No,wpAny_setEntries_of→Uv
open Sum renaming inr→c9,inl→i5
open PySem.Heap renaming get?_push_of_some→e9,lt_size→p7,get?_push_size→r9,get?_update_other→A9,get?_update_self→C7,size_push→L3,SameBut→P9,get?_none_of_le→gh,size_update→mj
open List renaming getElem?_eq_some_iff→h8,getElem?_eq_getElem→i3,mem_singleton→i4,length_map→i8,getElem?_map→m5,size_toArray→m6,mem_of_getElem?→o0,length_append→q4,mem_map→u8,mem_append_right→u9,mem_cons→w6,mem_append→w8,map_append→z9,mem_cons_of_mem→B4,take_succ_eq_append_getElem→B5,replicate→B6,mem_append_left→D2,append_assoc→E1,range→E7,mem_cons_self→J1,length_cons→J2,map_cons→J6,take_length→K4,getElem_mem→K7,append_nil→L0,getElem?_append_right→L5,length_eq_zero_iff→N8,not_mem_nil→N9,take_append_drop→O8,length_replicate→O9,getElem?_append_left→P0,find?_cons→P6,lookup→P7,getElem?_of_mem→P8,getElem?_cons_zero→Q1,getElem?_cons_succ→Q2,nil_append→Q3,length_pos_iff→Q9,nodup_cons→V4,mem_filter→V5,isEmpty_eq_false_iff→V8,perm_append_comm→W2,nodup_append→W3,map_map→W4,filter_cons→X9,any_eq_true→Y0,getElem?_eq_none→Y4,filterMap_cons→Z4,length→Z6,length_take→dy,cons_append→ec,any_cons→eh,Perm→fb,mem_of_mem_take→fz,pairwise_iff_getElem→gj,getElem?_zip_eq_some→gk,pairwise_map→gn,take_of_length_le→iy,lookup_cons→iz,getElem?_set_self→jb,drop_of_length_le→jc,length_singleton→jl,length_filter_le→jm,zip→ke,mem_of_mem_drop→kf,getElem?_set_ne→kh,getElem_of_mem→ly,mem_range→nr,filter_append→ph,map→sf,drop_eq_getElem_cons→ui,getElem?_replicate→vd,filter_cons_of_pos→vg,filter_cons_of_neg→vh,map_nil→vq,pairwise_lt_range→vv,length_pos_of_mem→vw,sum_append→wj,range_succ→wk,of_mem_zip→wl,filter_nil→wn,mem_iff_getElem?→wz,mem_filterMap→xr,take_sublist→yi,take_add_one→yj,reverse_perm→yn,reverse_cons→yo,count_append→yw,map_snd_zip→zz,length_drop→At,all_cons→LA
open Nat renaming lt_of_lt_of_le→i7,le_refl→j8,ne_of_lt→u7,le_of_ble_eq_true→A3,le_trans→A5,beq→B0,lt_succ_of_lt→B7,ne_of_gt→C3,zero_le→C9,lt_of_le_of_lt→E3,lt_succ_self→L8,le_mul_of_pos_right→Q5,le_succ→U9,le_of_lt→V6,pow_le_pow_right→W1,lt_of_succ_lt→W9,mul_le_mul_left→X4,not_lt_zero→X8,eq_of_mul_eq_mul_right→gi,le_add_right→gq,le_of_eq→io,lt_trans→jw,mul_le_mul_right→lh,lt_or_ge→mm,sub_add_cancel→mz,lt_irrefl→nv,le_succ_of_le→oo,min_self→qp,le_of_dvd→sw,le_antisymm→uu,one_pos→yp,not_lt→yq
open PySem.W renaming kitOne→i9,Frag→v9,keepIn→B3,codeIn→D8,findIn→M7,emptyDict→Z7,callWith_K→Z9,kia_one→dh,fnOf→gr,codeHdIn→jy,instObj→ny,makesIn→og,OpenLaw→oh,isFn→uh,methodCall_KW→uv,tabObj→wg,cellsFrom_some→wo,plainGet_of→zx,plainGet→zy
open PyProof.Rows renaming wpS_bind→j0,wpS_pure→j6,SortSt→B2,Keyed→D5,callWith_type1→E9,wpS_forRange→G8,IntsAre→O6,wpS_mono→P1,wpS_modify→P3,wpS_get→W0,envOfC→W7,listUpdate_at→X0,oneType'→Z3,wpS_lift→ik,AllBare→jd,subscriptTail_builtinR→km,pairsOf→kx,StrsAre→lf,get?_update_seq→lu,seqEpoch_at→ml,assignInOrder_cons→qc,Subscript_→qe,wpS_reverse→uo,keyLt'_oneType→wm,News→wy,IsTup→xc,subscriptTail→xq,listItems_at→yt,ksk_news→By,keyKind'→Do
open Bool renaming false_ne_true→j4,false_eq_true→K5,and_eq_true→iu,eq_iff_iff→jg,and_false→sj,or_false→uw,and_true→ux,beq_eq_decide_eq→xi
open Option.some renaming inj→j5,injEq→Q7
open Rat renaming divInt→j7,num_divInt_den→C8,divInt_eq_divInt_iff→Q0,divInt_mul_divInt→T6,le_trans→ei,le_refl→gx,div_def→lg,le_iff→mw,ne_of_gt→nz,neg_num→qg,not_lt→ug,intCast_lt_intCast→wx,divInt_add_divInt→xm,neg_den→xw
open PySem.Value renaming ref→j9,none→C6,isStrOf_shape→O0,isStrOf→O1,type→O3,builtin→Y5,str→dj,int→dk,bool→rd,float→wv
open Int renaming emod_lt_of_pos→m8,gcd→n6,emod_nonneg→n9,natAbs_mul→J5,mul_comm→O2,natCast_dvd_natCast→Q6,gcd_dvd_left→V3,mul_nonpos_of_nonpos_of_nonneg→W8,gcd_dvd_right→X6,gcd_comm→X7,mul_ne_zero→df,toNat_of_nonneg→dv,toNat_natCast→ig,mul_pos→ij,mul_fdiv_cancel_left→ir,lt_or_le→jf,natAbs_dvd_natAbs→ka,gcd_eq_zero_iff→ma,mul_assoc→mf,le_of_dvd→mh,zero_add→oq,le_trans→ow,gcd_mul_right→ox,le_refl→qi,mul_le_mul→uj,gcd_sub_mul_right_left→uk,fdiv_eq_ediv_of_nonneg→ul,gcd_dvd_natAbs_right→vi,dvd_trans→vj,dvd_mul_of_dvd_right→vo,pos_of_mul_pos_left→vy,le_of_lt→xg,mul_one→xz
open Ne renaming symm→q7
open PySem.Obj renaming mapSeq→y8,data_mapFields→J3,isFreed_of_fields→Y7,cls_mapFields→gy,mapFields→iq,putSet→je,data_mapDictKeys→xy
open PySem.F renaming type_list_append→A0,slot_list_append→A1,plainAttrs_list→E2,plain_extend_loop→Q8,plain_list_iadd→U6,called_set→V9,plainAttrs_dict→X3,slot_dict_get→dg,slot_zip_next→fc,slot_list_getattribute→iw,plain_proto_collect→lj,entry_proto_collect→lm,entry_dict_get→mq,type_dict_setdefault→oj,slot_dict_setdefault→on,entry_list_iadd→qf,args_tuple_add_2→rf,slot_dict_items→ro,entry_tuple_add→rp,args_dict_get_3→rr,args_dict_get_2→rz,excBase_ValueError→zd,entry_extend_loop→zn
open PySem.Around renaming under_plainId→A4,under→uy,frames_deeper→wb
open PySem.PassesOwn renaming never→A6
open Option renaming map_eq_some_iff→A8,isSome_map→me
open Array renaming length_toList→C0,toList_append→D3,getElem?_eq_getElem→J8,toList_push→L4,perm_iff_toList_perm→U3,getElem?_eq_some_iff→U4,getElem?_toList→Y2,toList_extract→Z5,forIn_toList→fh,toList_reverse→kc,size_extract→md,toList_setIfInBounds→rh,size_map→ri,toArray_toList→xj,getElem_toList→xl,toList_modify→xn
open PySem.SeqAt renaming EqAt→C2,RcAt→re,RcNeAt→vc
open False renaming elim→D9
open Or renaming inr→E5,inl→F0
open PySem.Heap.SameBut renaming update→E6
open PySem.Str renaming ofString→J7
open Pure renaming pure→K0
open PySem.Builtin.List renaming listExtendWith→K1,listSameRef→L6,listLengthHint→M9
open PySem.SetTable renaming below→K8,grown→R5,has→rj
open ForInStep renaming yield→L1
open PySem.Builtin.SmallTypes renaming ownedTupleIsFree→M0,nextOf→X5
open True renaming intro→M6
open PySem.Calls renaming spliced_cons→O5,spliced_nil→S0,evalArgs_plain→U2,callWith_builtin→X2,Name_function_global→rg
open PySem.SetTable.below renaming go→V1
open PySem.SeqAt.EqAt renaming same→Y1,str_int→jh,of_refs→ji,int_str→jk,none_bool→rk,bool_none→rm,bool_bool→rn,str_none→tj,str_bool→tu,none_str→tw,none_int→ua,int_none→ub,int_bool→uc,bool_str→ud,bool_int→uf
open PySem.Shared renaming TypeIs→Y3
open PyProof.Rows.SortSt renaming mk'→dl
open PySem.Txt renaming slice→fi,slice_le→ww
open Sum.inr renaming inj→fj
open Array.Perm renaming refl→gu
open List.cons renaming inj→jn
open PySem.Builtin.Dict renaming updateFrom→oy
open PySem.SeqAt.RcAt renaming lists_lengths→pi
open PySem.NameKind renaming free→qh
open PySem.pickOrder renaming go→qo
open PySem.Builtin.Int renaming intBits→si
open PySem.EntryCells renaming newEntry→um
open Sum.inl renaming inj→uz
open PySem.Code renaming isFrame→wa
namespace L2
open PySem PySem.Spec PyProof.Rows
abbrev aR:=Sum Int Str
noncomputable def BG:aR->c7->Bool
|.inl k,v=>c7.isInt k v
|.inr x,v=>O1 x v
noncomputable def Tf(w:y6):aR->Int
|.inl k=>hashInt k
|.inr x=>hashStr w x
theorem dX:∀{k:aR}{v:c7},BG k v=true->(∃i t,k=i5 i/\v=dk i t)∨(∃x t,k=c9 x/\v=dj x t)
|.inl i,v,h=>by
  obtain ⟨t,e⟩:=c7.isInt_shape (k:=i) (v:=v) h;exact .inl {i,t,rfl,e}
|.inr x,v,h=>by obtain ⟨t,e⟩:=O0 (x:=x) (v:=v) h;exact .inr {x,t,rfl,e}
def RB(i:Int)(t:Tok):BG (.inl i) (.int i t)=true:=by simp[BG,c7.isInt]
def RA(x:Str)(t:Tok):BG (.inr x) (.str x t)=true:=by simp[BG,O1]
def Kt(a b:Int):decide ((i5 a:aR)=i5 b)=(a==b):=by
 by_cases e:a=b
 ·subst e;simp
 ·have h:¬(i5 a:aR)=i5 b:=fun q=>e (uz q);rw[decide_eq_false h];exact (beq_eq_false_iff_ne.mpr e).symm
def Ko(a b:Str):decide ((c9 a:aR)=c9 b)=decide (a=b):=by
 by_cases e:a=b
 ·subst e;simp
 ·have h:¬(c9 a:aR)=c9 b:=fun q=>e (fj q);rw[decide_eq_false h,decide_eq_false e]
def Ks(a:Int)(b:Str):decide ((i5 a:aR)=c9 b)=false:=decide_eq_false (fun q=>nomatch q)
def Kr(a:Str)(b:Int):decide ((c9 a:aR)=i5 b)=false:=decide_eq_false (fun q=>nomatch q)
def bY(prog:m7)(w:y6):PySem.KeyKind prog w aR where
 is:=BG
 hash:=Tf w
 inj:=fun v a b ha hb=>by
  rcases dX ha with ⟨i,t,rfl,rfl⟩|⟨x,t,rfl,rfl⟩
  ·rcases dX hb with ⟨j,u,rfl,e⟩|⟨y,u,rfl,e⟩
   ·injection e with e1 _;rw[e1]
   ·exact nomatch e
  ·rcases dX hb with ⟨j,u,rfl,e⟩|⟨y,u,rfl,e⟩
   ·exact nomatch e
   ·injection e with e1 _;rw[e1]
 byValue:=fun k v h=>by rcases dX h with ⟨i,t,rfl,rfl⟩|⟨x,t,rfl,rfl⟩ <;> rfl
 pyHash:=fun hv h=>by
  rcases dX hv with ⟨i,t,rfl,rfl⟩|⟨x,t,rfl,rfl⟩
  ·exact wpAny_pyHash_int h
  ·exact sk h
 eqBool:=fun hu hv h=>by
  rcases dX hu with ⟨i,t,rfl,rfl⟩|⟨x,t,rfl,rfl⟩
  ·rcases dX hv with ⟨j,u,rfl,rfl⟩|⟨y,u,rfl,rfl⟩
   ·rw[Kt]at h;exact wpAny_eqBool_int h
   ·rw[Ks]at h;exact jk i t y u _ _ _ _ h
  ·rcases dX hv with ⟨j,u,rfl,rfl⟩|⟨y,u,rfl,rfl⟩
   ·rw[Kr]at h;exact jh x t j u _ _ _ _ h
   ·rw[Ko]at h;exact wpAny_eqBool_str h
 «strs»:=fun k x t v h=>by
  rcases dX h with ⟨i,u,rfl,e⟩|⟨y,u,rfl,e⟩
  ·exact nomatch e
  ·injection e with e1 _
   subst e1;cases v <;> rfl
def HY(prog:m7)(w:y6)(i:Int)(t:Tok):(bY prog w).is (.inl i) (.int i t)=true:=RB i t
def HX(prog:m7)(w:y6)(x:Str)(t:Tok):(bY prog w).is (.inr x) (.str x t)=true:=RA x t
inductive V where
|non|bl (b:Bool)|int (i:Int)|str (x:Str)|byt (b:Array UInt8)|flt (b:UInt64)|ref (a:c8)|ty (n:String)
 deriving DecidableEq
def bO:V->c7->Prop
|.non,u=>u=C6
|.bl b,u=>u=rd b
|.int i,u=>∃t,u=dk i t
|.str x,u=>∃t,u=dj x t
|.byt b,u=>∃t,u=c7.bytes b t
|.flt b,u=>∃t,u=wv b t
|.ref a,u=>u=j9 a
|.ty n,u=>u=O3 n
abbrev bU:List V->List c7->Prop:=Paired bO
def bU.length(r:bU xs us):xs.length=us.length:=Paired.length r
theorem bU.get:∀{xs:List V}{us:List c7}{i:Nat}{x:V},bU xs us->xs[i]?=some x->∃u,us[i]?=some u/\bO x u
|_,_,_,_,.nil,e=>by simp at e
|_,_,0,_,.cons r _,e=>by simp at e;subst e;exact {_,rfl,r}
|_,_,i+1,x,.cons _ t,e=>by obtain ⟨u,c,f⟩:=bU.get (i:=i) (x:=x) t (by simpa using e);exact {u,by simpa using c,f}
theorem bU.append:∀{xs ys:List V}{us c:List c7},bU xs us->bU ys c->bU (xs++ys) (us++c)
|_,_,_,_,.nil,s=>s
|_,_,_,_,.cons r t,s=>.cons r (bU.append t s)
def nF:Option V->Option c7->Prop
|some v,some u=>bO v u
|none,none=>True
|_,_=>False
def KV{κ:Type}:List (κ×V)->List (κ×c7)->Prop:=Paired fun(p:κ×V)(q:κ×c7)=>p.1=q.1/\bO p.2 q.2
noncomputable def kV:aR->V
|.inl i=>.int i
|.inr x=>.str x
inductive HO where
 |lst (xs:List V)
 |tup (xs:List V)
 |dK (kvs:List (aR×V))|dT (kvs:List (List aR×V))
 |set (S:Int->Bool) (n:Nat)
 |ins (C dx:c8) (fs:List (Str×V))
 |own (x:c8)
 |xd (fs:List (Str×V))
 |met (f x:c8)
 |rng (lo hi:Int)
 |frz (o:Obj) (u:HO)
 |tbl (ps:Array c7)
 |ext (φ:A7->Prop)
abbrev Hp:=c8->Option HO
noncomputable def upd(H:Hp)(a:c8)(o:HO):Hp:=fun b=>if b=a then some o else H b
def aC:upd H a o a=some o:=by unfold upd;rw[if_pos rfl]
def aX(h:b≠a):upd H a o b=H b:=by unfold upd;rw[if_neg h]
def Aa:upd (upd H a o) a u=upd H a u:=by funext b;unfold upd;split <;> rfl
def gX{H:Hp}(h:H a=some o)(h':H b=some u)(d:o≠u):a≠b:=by intro e;subst e;rw[h]at h';exact d (j5 h')
def aD{H:Hp}(h:H a=some o)(h':H b=none):a≠b:=by
 intro e;subst e;rw[h]at h';cases h'
section
variable (P:m7)(w:y6)
def cS(H:Hp)(h:A7)(a:c8):HO->Prop
|.lst xs=>xs.length<=n7/\∃(its:List c7)(n:Nat),bU xs its/\h.get? a=some {cls:=.type "list",data:=.seq its.toArray n}
|.tup xs=>(xs.length<=n7/\∃o,h.get? a=some o/\o.dict=none)/\∃its:List c7,bU xs its/\xc h a its.toArray
|.dK kvs=>kvs.length<=n7/\(a==sysModules)=false/\∃vs,KV kvs vs/\h.DictOf (bY P w) a vs
|.dT kvs=>kvs.length<=n7/\(a==sysModules)=false/\∃xs:List (List aR×c8×c7),
   Paired (fun(p:List aR×V)(q:List aR×c8×c7)=>p.1=q.1/\H q.2.1=some (.tup (p.1.map kV))/\bO p.2 q.2.2) kvs xs /\
   ∃o es ep,h.get? a=some o/\o.ExactDict/\o.data=.dict es ep/\es.toList=xs.map (entryOfKey (jt (bY P w)))/\(xs.map (·.1)).Nodup
|.set S n=>h.SetOf (intKind P w) a S n
|.ins C dx fs=>H dx=some (.own a)/\fs.length<=1000/\dx≠a/\h.get? a=some (ny C dx) /\
   ∃mA,h.Ns1 dx mA/\(∀f,nF (fs.lookup f) (mA f))/\my mA (fs.map (·.1))
|.own _=>∃o,h.get? a=some o
|.xd fs=>∃mA,h.Ns1 a mA/\∀f,nF (fs.lookup f) (mA f)
|.rng lo hi=>∃t u v,h.get? a=some {cls:=.type "range",data:=.fields #[.int lo t,.int hi u,.int 1 v]}
|.frz o u=>h.get? a=some o/\cS H h a u
|.tbl ps=>h.get? a=some {cls:=.none,data:=.fields ps}
|.met f x=>h.get? a=some (methodObj (.ref f) (.ref x))
|.ext φ=>φ h/\(∃o,h.get? a=some o)/\∀h1 h2:A7,φ h1->(∀o,h1.get? a=some o->h2.get? a=some o)->φ h2
def lS(H:Hp)(h:A7):Prop:=∀a o,H a=some o->cS P w H h a o
end
section
variable {P:m7}{w:y6}{H H':Hp}{h h':A7}{a:c8}{o:HO}
def cS.lt(x:cS P w H h a o):a<h.objs.size:=by
 cases o with
|lst m=>obtain ⟨_,_,_,_,e⟩:=x;exact p7 e
|tup m=>obtain ⟨_,_,_,p⟩:=x;exact p.lt
|dK c=>obtain ⟨_,_,_,_,o,_,_,e,_⟩:=x;exact p7 e
|dT c=>obtain ⟨_,_,_,_,o,_,_,e,_⟩:=x;exact p7 e
|set S n=>obtain ⟨o,_,_,_,e,_⟩:=x;exact p7 e
|ins C q g=>obtain ⟨_,_,_,e,_⟩:=x;exact p7 e
|own y=>obtain ⟨_,e⟩:=x;exact p7 e
|xd g=>obtain ⟨_,⟨_,_,_,e,_⟩,_⟩:=x;exact p7 e
|rng lo s=>obtain ⟨_,_,_,e⟩:=x;exact p7 e
|frz t u=>obtain ⟨e,_⟩:=x;exact p7 e
|tbl A=>exact p7 (show h.get? a=some _ from x)
|met f y=>exact p7 (show h.get? a=some _ from x)
|ext B=>obtain ⟨_,⟨_,e⟩,_⟩:=x;exact p7 e
theorem Paired.mapP{c g:Type}{F G:c->g->Prop}:∀{l₁:List c}{l₂:List g},Paired F l₁ l₂->(∀a b,F a b->G a b)->Paired G l₁ l₂
|_,_,.nil,_=>.nil
|_,_,.cons r t,f=>.cons (f _ _ r) (Paired.mapP t f)
def cS.stay(x:cS P w H h a o)(k:∀b u,(b=a∨H b=some (.own a))->h.get? b=some u->h'.get? b=some u)(N:∀b,H b=some (.own a)->H' b=some (.own a))(O:∀b xs,H b=some (.tup xs)->H' b=some (.tup xs)):cS P w H' h' a o:=by
 induction o with
|lst xs=>obtain ⟨z,A,n,r,e⟩:=x;exact {z,A,n,r,k _ _ (.inl rfl) e}
|tup xs=>obtain ⟨⟨z,R,J,I⟩,A,r,g,e,c⟩:=x;exact {{z,R,k _ _ (.inl rfl) J,I},A,r,g,k _ _ (.inl rfl) e,c}
|dK B=>obtain ⟨z,y,T,r,g,s,m,e,c⟩:=x;exact {z,y,T,r,g,s,m,k _ _ (.inl rfl) e,c}
|dT B=>
  obtain ⟨z,y,xs,r,g,s,m,e,c⟩:=x;exact {z,y,xs,Paired.mapP r fun p q z=>{z.1,O _ _ z.2.1,z.2.2},g,s,m,k _ _ (.inl rfl) e,c}
|set S n=>obtain ⟨g,s,m,t,e,c⟩:=x;exact {g,s,m,t,k _ _ (.inl rfl) e,c}
|ins C U M=>
  obtain ⟨d,z,Q,e,D,⟨E,s,m,K,c⟩,r⟩:=x;exact {N _ d,z,Q,k _ _ (.inl rfl) e,D,{E,s,m,k _ _ (.inr d) K,c},r}
|own y=>obtain ⟨g,e⟩:=x;exact {g,k _ _ (.inl rfl) e}
|xd M=>obtain ⟨D,⟨E,s,m,e,c⟩,r⟩:=x;exact {D,{E,s,m,k _ _ (.inl rfl) e,c},r}
|rng lo W=>obtain ⟨t,u,v,e⟩:=x;exact {t,u,v,k _ _ (.inl rfl) e}
|frz g u ih=>obtain ⟨e,q⟩:=x;exact {k _ _ (.inl rfl) e,ih q}
|tbl G=>
  have e:h.get? a=some {cls:=.none,data:=.fields G}:=x;show h'.get? a=some {cls:=.none,data:=.fields G};exact k a _ (.inl rfl) e
|met f y=>
  have e:h.get? a=some (methodObj (.ref f) (.ref y)):=x;show h'.get? a=some (methodObj (.ref f) (.ref y));exact k a _ (.inl rfl) e
|ext X=>obtain ⟨p,⟨o,e⟩,st⟩:=x;exact {st _ _ p fun o q=>k _ _ (.inl rfl) q,{o,k _ _ (.inl rfl) e},st}
def lS.lt(x:lS P w H h)(e:H a=some o):a<h.objs.size:=(x a o e).lt
def lS.fresh(x:lS P w H h)(e:h.objs.size<=a):H a=none:=by
 cases q:H a with
|none=>rfl
|some u=>exact absurd (i7 (x.lt q) e) (nv _)
def lS.kept(x:lS P w H h)(k:∀b u,h.get? b=some u->h'.get? b=some u):lS P w H h':=fun a o e=>(x a o e).stay (fun b u _ q=>k b u q) (fun _ q=>q) fun _ _ q=>q
def lS.laid(x:lS P w H h)(k:∀b u,h.get? b=some u->h'.get? b=some u)(hp:h.objs.size<=a)(new:cS P w (upd H a o) h' a o):lS P w (upd H a o) h':=fun b u e=>by
 have hn:=x.fresh hp;by_cases f:b=a
 ·subst f;rw[aC]at e;cases e;exact new
 ·rw[aX f]at e;exact (x b u e).stay (fun c v _ q=>k c v q) (fun c q=>by rw[aX (aD q hn)];exact q) fun c g q=>by rw[aX (aD q hn)];exact q
end
def Rd(H:Hp)(a:c8)(u:HO):Prop:=H a=some u∨∃o,H a=some (.frz o u)
def Rd.ok(r:Rd H a u)(x:lS P w H h):cS P w H h a u:=by
 rcases r with r|⟨o,r⟩
 ·exact x a u r
 ·obtain ⟨_,q⟩:=x a _ r;exact q
def Rg:Option HO->Prop
|some (.lst _)=>True
|some (.dK _)=>True
|some (.dT _)=>True
|some (.set _ _)=>True
|some (.ins _ _ _)=>True
|some (.ext _)=>True
|_=>False
section
variable {P:m7}{w:y6}{H:Hp}{h h':A7}{x e:c8}{o':HO}
def lS.write(ok:lS P w H h)(mu:Rg (H x))(A:e=x∨H e=some (.own x))(k:∀b u,b≠e->h.get? b=some u->h'.get? b=some u)(t:∃u,h'.get? e=some u)(new:cS P w (upd H x o') h' x o'):lS P w (upd H x o') h':=fun b u q=>by
 have g:∀c y,H c=some (.own y)->c≠x:=fun c y r z=>by subst z;rw[r]at mu;exact mu
 have m:∀c xs,H c=some (.tup xs)->c≠x:=fun c xs r z=>by subst z;rw[r]at mu;exact mu
 by_cases o:b=x
 ·subst o;rw[aC]at q;cases q;exact new
 ·rw[aX o]at q;by_cases f:b=e
  ·have B:H b=some (.own x):=by
    rcases A with z|z
    ·exact absurd (f.trans z) o
    ·rw[f];exact z
   rw[q]at B;cases B;obtain ⟨v,C⟩:=t;exact {v,by rw[f];exact C}
  ·refine (ok b u q).stay (fun c v s r=>k c v ?_ r) (fun c r=>by rw[aX (g c b r)];exact r) fun c xs r=>by rw[aX (m c xs r)];exact r
   rcases s with rfl|s
   ·exact f
   ·rintro rfl;rcases A with z|z
    ·exact g c b s z
    ·rw[s]at z;cases z;exact o rfl
end
structure Un(fs ex:List c8)(H H':Hp)(h h':A7):Prop where
 keep:∀b o,h.get? b=some o->H b=none->b∉fs->b∉ex->h'.get? b=some o
 slot:∀b o,h.get? b=some o->H b=none->b∈fs->b∉ex->∃sl,h'.get? b=some {o with slots:=sl}
 free:∀b o,h.get? b=some o->H b=none->b∉ex->H' b=none
 there:∀b o,h.get? b=some o->b∉ex->∃o',h'.get? b=some o'
 tups:∀b xs,H b=some (.tup xs)->H' b=some (.tup xs)
 frzs:∀b o u,H b=some (.frz o u)->H' b=some (.frz o u)
 tbls:∀b ps,H b=some (.tbl ps)->∃more,H' b=some (.tbl (ps++more))
section
variable {fs ex:List c8}{H H1 H2:Hp}{h h1 h2 h':A7}{a x e:c8}{o:HO}
def Un.any(u:Un fs ex H H1 h h1)(q:h.get? b=some ob)(n:H b=none)(f:b∉ex):∃g,h1.get? b=some {ob with slots:=g}:=by
 by_cases c:b∈fs
 ·exact u.slot b ob q n c f
 ·exact {ob.slots,u.keep b ob q n c f}
def Un.trans(a:Un fs ex H H1 h h1)(b:Un fs ex H1 H2 h1 h2):Un fs ex H H2 h h2 where
 keep:=fun c g q n s f=>b.keep c g (a.keep c g q n s f) (a.free c g q n f) s f
 slot:=fun c g q n s f=>by obtain ⟨G,m⟩:=a.slot c g q n s f;obtain ⟨B,w⟩:=b.slot c _ m (a.free c g q n f) s f;exact {B,w}
 free:=fun c g q n f=>by obtain ⟨A,m⟩:=a.there c g q f;exact b.free c A m (a.free c g q n f) f
 there:=fun c g q f=>by obtain ⟨A,m⟩:=a.there c g q f;exact b.there c A m f
 tups:=fun c t q=>b.tups c t (a.tups c t q)
 frzs:=fun c g t q=>b.frzs c g t (a.frzs c g t q)
 tbls:=fun c E q=>by obtain ⟨C,m⟩:=a.tbls c E q;obtain ⟨D,w⟩:=b.tbls c _ m;exact {C++D,by rw[w,Array.append_assoc]}
def Un.kept(k:∀b u,h.get? b=some u->h'.get? b=some u):Un fs ex H H h h':=
 {fun b c q _ _ _=>k b c q,fun b c q _ _ _=>{c.slots,k b c q},fun _ _ _ n _=>n,fun b c q _=>{c,k b c q},fun _ _ q=>q,fun _ _ _ q=>q,fun _ f q=>{#[],by rw[q];simp}}
def Un.refl:Un fs ex H H h h:=Un.kept fun _ _ q=>q
def Un.laid(k:∀b u,h.get? b=some u->h'.get? b=some u)(hp:h.objs.size<=a)(hn:H a=none):Un fs ex H (upd H a o) h h' where
 keep:=fun b u q _ _ _=>k b u q
 slot:=fun b u q _ _ _=>{u.slots,k b u q}
 free:=fun b u q n _=>by rw[aX (u7 (i7 (p7 q) hp))];exact n
 there:=fun b u q _=>{u,k b u q}
 tups:=fun b c q=>by rw[aX (aD q hn)];exact q
 frzs:=fun b u c q=>by rw[aX (aD q hn)];exact q
 tbls:=fun b f q=>{#[],by rw[aX (aD q hn),q];simp}
def Un.write(mu:Rg (H x))(t:e=x∨H e=some (.own x))(k:∀b u,b≠e->h.get? b=some u->h'.get? b=some u)(f:∃u,h'.get? e=some u):Un fs ex H (upd H x o) h h':=by
 have s:∀b,H b=none->b≠x:=fun b n z=>by subst z;rw[n]at mu;exact mu
 have m:∀b,H b=none->b≠e:=fun b n z=>by
  subst z;rcases t with r|r
  ·exact s b n r
  ·rw[n]at r;cases r
 have g:∀b u,H b=some u->¬Rg (some u)->b≠x:=fun b u q w z=>by subst z;rw[q]at mu;exact w mu
 refine {fun b u q n _ _=>k b u (m b n) q,fun b u q n _ _=>{u.slots,k b u (m b n) q},fun b u q n _=>by rw[aX (s b n)];exact n,fun b u q _=>?_,
  fun b A q=>by rw[aX (g b _ q fun z=>z)];exact q,fun b u A q=>by rw[aX (g b _ q fun z=>z)];exact q,fun b B q=>{#[],by rw[aX (g b _ q fun z=>z),q];simp}}
 by_cases c:b=e
 ·subst c;exact f
 ·exact {u,k b u c q}
end
noncomputable def Ro(h:A7)(H:Hp):List c8:=(E7 h.objs.size).filter fun a=>(H a).isSome
def zI(h:A7)(H:Hp):A7:=PySem.W.hideAll h (Ro h H)
def RE(h:A7)(H:Hp):(zI h H).objs.size=h.objs.size:=PySem.W.hideAll_size _ _
def XY(e:h.get? b=some o)(n:H b=none):(zI h H).get? b=some o:=
 PySem.W.hideAll_get _ e fun c=>by have q:(H b).isSome=true:=(V5.mp c).2;rw[n]at q;simp at q
def Cg(e:(zI h H).get? b=some o):h.get? b=some o/\H b=none:=by
 have c:h.get? b=some o:=PySem.W.of_hideAll (Ro h H) e;refine {c,?_};cases q:H b with
|none=>rfl
|some x=>
  have f:b∈Ro h H:=V5.mpr {nr.mpr (p7 c),by simp[q]};have z:(zI h H).get? b=none:=PySem.W.hideAll_none (Ro h H) f;rw[z]at e;cases e
noncomputable def Ds(g h:A7)(L:c8):List (c8×Obj):=(E7 h.objs.size).filterMap fun a=>if a=L∨(g.get? a).isSome=true then none else (h.get? a).map fun o=>(a,o)
def dE(g h:A7)(L d:c8):List (c8×Obj):=(Ds g h L).filter fun p=>decide (p.1≠d)
structure Mod(K:v9)(mg:Str->Option c7)(base:A7):Prop where
 kin:K.In base
 glob:base.Ns B8 mg
 blt:∃mb,base.Ns pz mb/\∀x:Str,x≠"__name__"->mb x=B9 x
 nolimit:base.NoLimit
set_option genInjectivity false in
set_option genSizeOfSpec false in
structure Cx where
 prog:m7
 w:y6
 K:v9
 mg:Str->Option c7
 base:A7
 A:A2
 N:List Str
 s₀:f9
 H₀:Hp
 env:Env
 outer:List Env
 stack:List Env
 ex:List c8
 fn:Str->Bool
 calm:Bool
 pn:List (c8×Obj)
 xe:c7->f9->Prop
noncomputable def nV(l:List Env):List c8:=l.filterMap (·.frame)
abbrev Cx.fs(X:Cx):List c8:=nV X.outer
def Rv(sc:X1)(x:Str):Prop:=sc.names.lookup x=some .local∨sc.names.lookup x=some .cell∨sc.names.lookup x=some .free
def Ma(sc:X1)(x:Str):Prop:=sc.names.lookup x=some .local∨sc.names.lookup x=some .cell
def Tv(env:Env)(h:A7)(m:Str->Option c7)(x:Str)(u:c7):Prop:=
 (env.kindOf x=some .local/\m x=some u)∨((env.kindOf x=some .cell∨env.kindOf x=some .free)/\∃c,env.cells.lookup x=some c/\h.IsCell c (some u))
structure Cx.Ok(X:Cx):Prop where
 mod:Mod X.K X.mg X.base
 kind:X.env.scope.kind=.function
 glob:X.env.globals=B8
 blt:X.env.builtins=pz
 above:X.s₀.heap.objs.size<=X.env.locals
 inj:∀x y c,X.env.cells.lookup x=some c->X.env.cells.lookup y=some c->x=y
 has:∀x,(X.env.kindOf x=some .cell∨X.env.kindOf x=some .free)->∃c,X.env.cells.lookup x=some c
 cab:∀x c,X.fn x=true->X.env.cells.lookup x=some c->X.s₀.heap.objs.size<=c
 hd:X.calm=true->X.A.handled=none
 frames:X.A.frames=some X.stack
 stk:X.stack=X.outer∨(X.stack=X.env::X.outer/\X.env.frame=some X.env.locals)
 exf:∀b∈X.ex,b≠X.env.locals/\∀x c,X.env.cells.lookup x=some c->c≠b
 bs:∀b o,X.base.get? b=some o->X.s₀.heap.get? b=some o/\X.H₀ b=none
 bsz:X.base.objs.size<=X.s₀.heap.objs.size
 noex:∀b o,X.base.get? b=some o->b∉X.ex
 exfs:∀b∈X.ex,b∉X.fs
 funs:X.s₀.heap.FunFrames X.base X.outer
 frf:∀b∈X.fs,X.H₀ b=none
structure aZ(X:Cx)(ak:List (c8×Obj))(σ:List (Option V))(H:Hp)(s:f9):Prop where
 ok:X.Ok
 os:s.os=X.s₀.os
 bare:jd s.gens
 base:Un X.fs X.ex X.H₀ H X.s₀.heap s.heap
 loc:∃m,s.heap.Ns X.env.locals m/\∀(i:Nat)(x:Str)(v:V),X.N[i]?=some x->σ[i]?=some (some v)->Rv X.env.scope x->∃u,bO v u/\Tv X.env s.heap m x u
 cell:∀x c,X.env.cells.lookup x=some c->∃v,s.heap.IsCell c v
 free:H X.env.locals=none
 freeC:∀x c,X.env.cells.lookup x=some c->H c=none
 pin:∀p∈X.pn++ak,s.heap.get? p.1=some p.2/\H p.1=none/\p.1≠X.env.locals/\p.1∉X.fs/\∀v,p.2.data≠.cell v
 hok:lS X.prog X.w H s.heap
 len:σ.length=X.N.length
section
variable {X:Cx}{ak:List (c8×Obj)}{σ:List (Option V)}{H H':Hp}{s:f9}{h':A7}
def Cx.Ok.nofr(ok:X.Ok)(e:X.base.get? b=some o):b∉X.fs:=fun c=>by
 have:=(ok.funs.mem c).1;rw[e]at this;cases this
def aZ.bs(I:aZ X ak σ H s):∀b o,X.base.get? b=some o->s.heap.get? b=some o/\H b=none:=fun b o e=>{I.base.keep b o (I.ok.bs b o e).1 (I.ok.bs b o e).2 (I.ok.nofr e) (I.ok.noex b o e),I.base.free b o (I.ok.bs b o e).1 (I.ok.bs b o e).2 (I.ok.noex b o e)}
def aZ.bk(I:aZ X ak σ H s):∀b o,X.base.get? b=some o->s.heap.get? b=some o:=fun b o e=>(I.bs b o e).1
def aZ.mod(I:aZ X ak σ H s):Mod X.K X.mg X.base:=I.ok.mod
def aZ.kIn(I:aZ X ak σ H s):X.K.In s.heap:=I.ok.mod.kin.keeps I.bk
def aZ.lt(I:aZ X ak σ H s):X.env.locals<s.heap.objs.size:=let ⟨_,hn,_⟩:=I.loc;hn.lt
def aZ.sz(I:aZ X ak σ H s):X.s₀.heap.objs.size<=s.heap.objs.size:=A5 I.ok.above (V6 I.lt)
def aZ.nofs(I:aZ X ak σ H s)(h:s.heap.objs.size<=a):a∉X.fs:=fun c=>by obtain ⟨_,o,f,_⟩:=I.ok.funs.mem c;exact absurd (i7 (p7 f) (A5 I.sz h)) (nv _)
def aZ.cne(I:aZ X ak σ H s):∀x c,X.env.cells.lookup x=some c->c≠X.env.locals:=fun x c e z=>by
 obtain ⟨v,o,t,q⟩:=I.cell x c e;obtain ⟨m,⟨B,A,w,g,f,_⟩,_⟩:=I.loc;rw[z,g]at t;cases t;rw[f]at q;cases q
def aZ.funs(I:aZ X ak σ H s):s.heap.FunFrames X.base X.outer:=by
 have c:∀(l:List Env),(∀b∈nV l,b∈X.fs)->X.s₀.heap.FunFrames X.base l->s.heap.FunFrames X.base l:=by
  intro l
  induction l with
 |nil=>intro _ _;trivial
 |cons q r ih=>intro hs w;obtain ⟨hk,⟨L,o,m,hn,A,t⟩,B⟩:=w;have f:L∈X.fs:=hs L (by unfold nV;rw[Z4,m];exact J1);obtain ⟨C,e⟩:=I.base.slot L o A (I.ok.frf L f) f fun z=>I.ok.exfs L z f;exact {hk,{L,_,m,hn,e,t},ih (fun b g=>hs b (by unfold nV;rw[Z4,m];exact B4 _ g)) B}
 exact c X.outer (fun _ g=>g) I.ok.funs
def aZ.stack(I:aZ X ak σ H s):s.heap.FunFrames X.base X.stack:=by
 rcases I.ok.stk with e|⟨e,c⟩
 ·rw[e];exact I.funs
 ·rw[e];obtain ⟨m,hn,_⟩:=I.loc;refine .cons (by rw[I.ok.kind];decide) c hn ?_ I.funs;exact gh (A5 I.ok.bsz I.ok.above)
def aZ.stkSub(I:aZ X ak σ H s):∀b∈nV X.stack,b∈X.env.locals::X.fs:=fun b c=>by
 rcases I.ok.stk with e|⟨e,f⟩
 ·rw[e]at c;exact B4 _ c
 ·rw[e]at c;unfold nV at c;rw[Z4,f]at c;exact c
def aZ.stkFree(I:aZ X ak σ H s):∀b∈nV X.stack,H b=none:=fun b c=>by
 rcases w6.mp (I.stkSub b c) with e|c
 ·rw[e];exact I.free
 ·obtain ⟨_,o,f,_⟩:=I.ok.funs.mem c;exact I.base.free b o f (I.ok.frf b c) fun z=>I.ok.exfs b z c
def aZ.step{g':Array GenState}{t':Nat}{d':Drawn}{ch:List c8}(I:aZ X ak σ H s)(A:∀b∈ch,(b∈X.ex∨X.s₀.heap.objs.size<=b)/\b≠X.env.locals/\(∀x c,X.env.cells.lookup x=some c->c≠b)/\∀p∈X.pn++ak,p.1≠b)(B:∀b o,b≠X.env.locals->b∉X.fs->b∉ch->s.heap.get? b=some o->H b=none->h'.get? b=some o)(slot:∀b o,b≠X.env.locals->b∈X.fs->b∉ch->s.heap.get? b=some o->H b=none->∃U,h'.get? b=some {o with slots:=U})(g:∀b o,b∉ch->s.heap.get? b=some o->H b=none->H' b=none)(J:∀b o,b∉ch->s.heap.get? b=some o->∃P,h'.get? b=some P)(R:∀b xs,H b=some (.tup xs)->H' b=some (.tup xs))(N:∀b o u,H b=some (.frz o u)->H' b=some (.frz o u))(Q:∀b ps,H b=some (.tbl ps)->∃more,H' b=some (.tbl (ps++more)))(ns:∀m,s.heap.Ns X.env.locals m->h'.Ns X.env.locals m)(T:lS X.prog X.w H' h')(hg:jd g'):
  aZ X ak σ H' {s with heap:=h',gens:=g',drawn:=d',toks:=t'}:=by
 have O:∀b o,X.s₀.heap.get? b=some o->b≠X.env.locals:=fun b o e=>u7 (i7 (p7 e) I.ok.above);have E:∀b o,X.s₀.heap.get? b=some o->b∉X.ex->b∉ch:=fun b o e f G=>by
  rcases (A b G).1 with z|z
  ·exact f z
  ·exact absurd (i7 (p7 e) z) (nv _)
 have t:∀x c,X.env.cells.lookup x=some c->∀v,s.heap.IsCell c v->h'.IsCell c v:=fun x c e v ⟨o,K,S⟩=>by
  have C:c∉ch:=fun z=>(A c z).2.2.1 x c e rfl;by_cases Y:c∈X.fs
  ·obtain ⟨U,q⟩:=slot c o (I.cne x c e) Y C K (I.freeC x c e);exact {_,q,S}
  ·exact {o,B c o (I.cne x c e) Y C K (I.freeC x c e),S}
 refine {I.ok,I.os,hg,{fun b o e n G f=>?_,fun b o e n G f=>?_,fun b o e n f=>?_,fun b o e f=>?_,fun b xs e=>R b xs (I.base.tups b xs e),fun b o xs e=>N b o xs (I.base.frzs b o xs e),fun b ps e=>?_},?_,fun x c e=>?_,?_,fun x c e=>?_,fun p hp=>?_,T,I.len}
 ·exact B b o (O b o e) G (E b o e f) (I.base.keep b o e n G f) (I.base.free b o e n f)
 ·obtain ⟨U,D⟩:=I.base.slot b o e n G f;obtain ⟨W,M⟩:=slot b _ (O b o e) G (E b o e f) D (I.base.free b o e n f);exact {W,M}
 ·obtain ⟨P,D⟩:=I.base.there b o e f;exact g b P (E b o e f) D (I.base.free b o e n f)
 ·obtain ⟨P,D⟩:=I.base.there b o e f;exact J b P (E b o e f) D
 ·obtain ⟨m1,D⟩:=I.base.tbls b ps e;obtain ⟨m2,M⟩:=Q b _ D;exact {m1++m2,by rw[M,Array.append_assoc]}
 ·obtain ⟨m,hn,hl⟩:=I.loc;refine {m,ns m hn,fun i x v D M e3=>?_};obtain ⟨u,r,l⟩:=hl i x v D M e3;refine {u,r,?_};rcases l with l|⟨k,c,e,z⟩
  ·exact .inl l
  ·exact .inr {k,c,e,t x c e _ z}
 ·obtain ⟨v,z⟩:=I.cell x c e;exact {v,t x c e v z}
 ·obtain ⟨m,⟨o,_,_,K,_⟩,_⟩:=I.loc;exact g _ o (fun z=>(A _ z).2.1 rfl) K I.free
 ·obtain ⟨v,o,K,S⟩:=I.cell x c e;exact g c o (fun z=>(A c z).2.2.1 x c e rfl) K (I.freeC x c e)
 ·obtain ⟨e,n,Z,nf,d⟩:=I.pin p hp;have C:p.1∉ch:=fun z=>(A p.1 z).2.2.2 p hp rfl;exact {B p.1 p.2 Z nf C e n,g p.1 p.2 C e n,Z,nf,d}
def aZ.un(I:aZ X ak σ H s)(u:Un X.fs [] H H' s.heap h')(t:lS X.prog X.w H' h'):aZ X ak σ H' {s with heap:=h',toks:=t'}:=by
 obtain ⟨m,⟨o,G,E,A,r⟩,_⟩:=id I.loc;obtain ⟨M,B⟩:=u.any A I.free (by simp);exact I.step (g':=s.gens) (d':=s.drawn) (ch:=[]) (fun _ z=>nomatch z) (fun b o _ q _ e n=>u.keep b o e n q (by simp)) (fun b o _ q _ e n=>u.slot b o e n q (by simp)) (fun b o _ e n=>u.free b o e n (by simp)) (fun b o _ e=>u.there b o e (by simp)) u.tups u.frzs u.tbls (fun J C=>by
  obtain ⟨K,g,f,c,D⟩:=C;rw[A]at c;cases c;exact {_,g,f,B,D}) t I.bare
def aZ.call(I:aZ X ak σ H s)(u:Un (nV X.stack) ch H H' s.heap h')(C:lS X.prog X.w H' h')(G:jd g')(g:∀b∈ch,(b∈X.ex∨X.s₀.heap.objs.size<=b)/\b≠X.env.locals/\(∀x c,X.env.cells.lookup x=some c->c≠b)/\∀p∈X.pn++ak,p.1≠b):
  aZ X ak σ H' {s with heap:=h',gens:=g',drawn:=d',toks:=t'}:=by
 obtain ⟨m,⟨o,N,M,D,r⟩,_⟩:=id I.loc;obtain ⟨Q,B⟩:=u.any D I.free fun z=>(g _ z).2.1 rfl;exact I.step (ch:=ch) g (fun b o B E f e n=>u.keep b o e n (fun z=>(w6.mp (I.stkSub b z)).elim B E) f) (fun b o _ _ f e n=>u.any e n f) (fun b o f e n=>u.free b o e n f) (fun b o f e=>u.there b o e f) u.tups u.frzs u.tbls (fun O J=>by
  obtain ⟨P,A,t,q,K⟩:=J;rw[D]at q;cases q;exact {_,A,t,B,K}) C G
def aZ.turned(I:aZ X ak σ H s)(k:∀b o,b≠it->s.heap.get? b=some o->h'.get? b=some o)(hn:H it=none)(t:it≠X.env.locals)(B:it∈X.ex∨X.s₀.heap.objs.size<=it)(C:∀x c,X.env.cells.lookup x=some c->c≠it)(D:∀p∈X.pn++ak,p.1≠it):aZ X ak σ H {s with heap:=h',toks:=t'}:=by
 have g:∀b u,H b=some u->b≠it:=fun b u e z=>by rw[z,hn]at e;cases e
 refine I.step (g':=s.gens) (d':=s.drawn) (ch:=[it]) (fun b E=>?_) (fun b o _ _ f e _=>k b o (fun z=>f (by simp[z])) e) (fun b o _ _ f e _=>{o.slots,k b o (fun z=>f (by simp[z])) e}) (fun _ _ _ _ n=>n)
  (fun b o f e=>{o,k b o (fun z=>f (by simp[z])) e}) (fun _ _ e=>e) (fun _ _ _ e=>e) (fun b K e=>{#[],by rw[e];simp}) (fun m G=>?_) (fun b u e=>?_) I.bare
 ·have e:b=it:=by simpa using E
  subst e;exact {B,t,C,D}
 ·obtain ⟨o,A,w,J,r⟩:=G;exact {o,A,w,k _ o (q7 t) J,r}
 ·refine (I.hok b u e).stay (fun c v f q=>k c v ?_ q) (fun _ q=>q) fun _ _ q=>q;rcases f with z|z
  ·rw[z];exact g b u e
  ·exact g c _ z
def aZ.tok(I:aZ X ak σ H s)(t:Nat):aZ X ak σ H {s with toks:=t}:=I.un (h':=s.heap) (t':=t) Un.refl I.hok
def aZ.kept(I:aZ X ak σ H s)(k:∀b u,s.heap.get? b=some u->h'.get? b=some u):aZ X ak σ H {s with heap:=h',toks:=t'}:=I.un (Un.kept k) (I.hok.kept k)
def aZ.laid(I:aZ X ak σ H s)(k:∀b u,s.heap.get? b=some u->h'.get? b=some u)(hp:s.heap.objs.size<=a)(new:cS X.prog X.w (upd H a o) h' a o):
  aZ X ak σ (upd H a o) {s with heap:=h',toks:=t'}:=I.un (Un.laid k hp (I.hok.fresh hp)) (I.hok.laid k hp new)
def aZ.write(I:aZ X ak σ H s)(mu:Rg (H x))(f:e=x∨H e=some (.own x))(k:∀b u,b≠e->s.heap.get? b=some u->h'.get? b=some u)(c:∃u,h'.get? e=some u)(new:cS X.prog X.w (upd H x o) h' x o):aZ X ak σ (upd H x o) {s with heap:=h',toks:=t'}:=I.un (Un.write mu f k c) (I.hok.write mu f k c new)
def aZ.pins_of(I:aZ X ak σ H s)(h:∀p∈pins',s.heap.get? p.1=some p.2/\H p.1=none/\p.1≠X.env.locals/\p.1∉X.fs/\∀v,p.2.data≠.cell v):aZ X pins' σ H s:=
 {I.ok,I.os,I.bare,I.base,I.loc,I.cell,I.free,I.freeC,fun p hp=>(w8.mp hp).elim (fun z=>I.pin p (D2 _ z)) (h p),I.hok,I.len}
def xU{N:List Str}(g:N.Nodup){i j:Nat}{x:Str}(a:N[i]?=some x)(b:N[j]?=some x):i=j:=by obtain ⟨m,c⟩:=h8.mp a;obtain ⟨o,f⟩:=h8.mp b;exact (List.getElem_inj g).mp (c.trans f.symm)
def zX(I:aZ X ak σ H s)(hN:X.N.Nodup)(U:X.N[i]?=some x)(B:Ma X.env.scope x)(r:bO v u)(h:∀s',aZ X ak (σ.set i (some v)) H s'->(∃a,P9 a s.heap s'.heap/\(a=X.env.locals∨X.env.cells.lookup x=some a))->Q () s')(hf:X.fn x=true∨X.env.scope.names.lookup x=some .local:=by first|exact .inl rfl|exact .inr rfl|assumption):i6 M A (storeName X.env x u) Q E s:=by
 obtain ⟨m,hn,hl⟩:=id I.loc;have T:(X.env.scope.kind==.class||(X.env.scope.kind==.module&&X.env.locals !=X.env.globals))=false:=by rw[I.ok.kind];rfl
 have G:i<σ.length:=by rw[I.len];exact (h8.mp U).1
 have J:=I.cne;have g:∀{a:c8}{h':A7},(∃o,s.heap.get? a=some o/\H a=none)->P9 a s.heap h'->lS X.prog X.w H h':=fun {a h'} ha hs b ob e=>by
  obtain ⟨_,_,C⟩:=ha;refine (I.hok b ob e).stay (fun c w' t q=>(hs.2 c ?_).trans q) (fun _ q=>q) fun _ _ q=>q;rintro rfl;rcases t with rfl|t
  ·rw[C]at e;cases e
  ·rw[C]at t;cases t
 rcases B with hk|hk
 ·refine wpAny_storeName_local hk hn (fun h' a' hs=>?_) T;obtain ⟨oL,_,_,b',_⟩:=id hn;refine h _ {I.ok,I.os,I.bare,{fun b o e n K B=>?_,fun b o e n K B=>?_,I.base.free,fun b o e B=>?_,I.base.tups,I.base.frzs,I.base.tbls},{_,a',fun j y v' f D e3=>?_},fun y c e=>?_,I.free,I.freeC,fun p hp=>?_,g {oL,b',I.free} hs,by simpa using I.len} {_,hs,.inl rfl}
  ·exact (hs.2 b (u7 (i7 (p7 e) I.ok.above))).trans (I.base.keep b o e n K B)
  ·obtain ⟨sl,f⟩:=I.base.slot b o e n K B;exact {sl,(hs.2 b (u7 (i7 (p7 e) I.ok.above))).trans f}
  ·obtain ⟨o',f⟩:=I.base.there b o e B;exact {o',(hs.2 b (u7 (i7 (p7 e) I.ok.above))).trans f}
  ·by_cases P:j=i
   ·subst P;rw[U]at f;cases f;rw[jb G]at D;cases D;exact {u,r,.inl {hk,by simp}}
   ·rw[kh (q7 P)]at D;obtain ⟨u',r',q⟩:=hl j y v' f D e3;refine {u',r',?_};rcases q with ⟨k,e⟩|⟨k,c,e,z⟩
    ·refine .inl {k,?_};have:y≠x:=fun e=>P (xU hN f (e▸U));simp[this,e]
    ·exact .inr {k,c,e,z.sameBut hs (J y c e)}
  ·obtain ⟨w',z⟩:=I.cell y c e;exact {w',z.sameBut hs (J y c e)}
  ·obtain ⟨e,n,ne,nf,d⟩:=I.pin p hp;exact {(hs.2 p.1 ne).trans e,n,ne,nf,d}
 ·have O:X.fn x=true:=by
   rcases hf with z|z
   ·exact z
   ·rw[z]at hk;cases hk
  obtain ⟨c,t⟩:=I.ok.has x (.inl hk);obtain ⟨w',z⟩:=I.cell x c t;refine wpAny_storeName_cell I.ok.kind hk t z (fun h' R hs=>?_);obtain ⟨oc,W,Y⟩:=id z;refine h {s with heap:=h'} {I.ok,I.os,I.bare,{fun b o e n K B=>?_,fun b o e n K B=>?_,I.base.free,fun b o e B=>?_,I.base.tups,I.base.frzs,I.base.tbls},{m,hn.sameBut hs (q7 (J x c t)),fun j y v' f D e3=>?_},fun y Z e=>?_,I.free,I.freeC,fun p hp=>?_,g {oc,W,I.freeC x c t} hs,by simpa using I.len} {c,hs,.inr t}
  ·exact (hs.2 b (u7 (i7 (p7 e) (I.ok.cab x c O t)))).trans (I.base.keep b o e n K B)
  ·obtain ⟨sl,f⟩:=I.base.slot b o e n K B;exact {sl,(hs.2 b (u7 (i7 (p7 e) (I.ok.cab x c O t)))).trans f}
  ·obtain ⟨o',f⟩:=I.base.there b o e B;exact {o',(hs.2 b (u7 (i7 (p7 e) (I.ok.cab x c O t)))).trans f}
  ·by_cases P:j=i
   ·subst P;rw[U]at f;cases f;rw[jb G]at D;cases D;exact {u,r,.inr {.inl hk,c,t,R}}
   ·rw[kh (q7 P)]at D;obtain ⟨u',r',q⟩:=hl j y v' f D e3;refine {u',r',?_};rcases q with q|⟨k,Z,e,z'⟩
    ·exact .inl q
    ·refine .inr {k,Z,e,z'.sameBut hs ?_};rintro rfl;exact P (xU hN f (I.ok.inj _ _ _ e t▸U))
  ·by_cases S:Z=c
   ·subst S;exact {_,R}
   ·obtain ⟨w2,z2⟩:=I.cell y Z e;exact {w2,z2.sameBut hs S}
  ·obtain ⟨e,n,ne,nf,d⟩:=I.pin p hp;refine {(hs.2 p.1 ?_).trans e,n,ne,nf,d};intro q;rw[q,W]at e;have q':oc=p.2:=j5 e;exact d w' (by rw[←q'];exact Y)
def nZ(I:aZ X ak σ H s)(g:X.N.Nodup)(o:X.N[i]?=some x)(q:Ma X.env.scope x)(r:bO v u)(h:∀c,aZ X ak (σ.set i (some v)) H c->Q () c)(m:X.fn x=true∨X.env.scope.names.lookup x=some .local:=by first|exact .inl rfl|exact .inr rfl|assumption):i6 M A (storeName X.env x u) Q E s:=
 zX I g o q r (fun c f _=>h c f) m
def aZ.call'(I:aZ X ak σ H s)(A:s'.os=s.os)(u:Un (nV X.stack) ch H H' s.heap s'.heap)(g:lS X.prog X.w H' s'.heap)(t:jd s'.gens)(f:∀b∈ch,(b∈X.ex∨X.s₀.heap.objs.size<=b)/\b≠X.env.locals/\(∀x c,X.env.cells.lookup x=some c->c≠b)/\∀p∈X.pn++ak,p.1≠b):aZ X ak σ H' s':=by obtain ⟨h',o,m,q,B⟩:=s';have e:B=s.os:=A;subst e;exact I.call (g':=o) (t':=q) (d':=m) u g t f
end
abbrev XK:=c7->Option c8->Hp->Prop
abbrev St:=List (Option V)
abbrev VK:=V->Hp->Prop
abbrev TE:=St->Hp->VK->Prop
abbrev TT:=St->Hp->(Bool->Hp->Prop)->Prop
abbrev TA:=St->Hp->(List V->Hp->Prop)->Prop
structure fR where
 nx:St->Hp->Prop
 rt:VK
 bk:St->Hp->Prop:=fun _ _=>False
 ct:St->Hp->Prop:=fun _ _=>False
abbrev TS:=fR->St->Hp->Prop
def EP(X:Cx)(ak:List (c8×Obj))(σ:St)(Q:VK)(u:c7)(s':f9):Prop:=∃v H',aZ X ak σ H' s'/\bO v u/\Q v H'
def TP(X:Cx)(ak:List (c8×Obj))(σ:St)(Q:Bool->Hp->Prop)(b:Bool)(s':f9):Prop:=∃H',aZ X ak σ H' s'/\Q b H'
def AP(X:Cx)(ak:List (c8×Obj))(σ:St)(Q:List V->Hp->Prop)(us:List c7)(s':f9):Prop:=∃vs H',aZ X ak σ H' s'/\bU vs us/\Q vs H'
def SP(X:Cx)(ak:List (c8×Obj))(D:fR)(f:Flow)(s':f9):Prop:=
 match f with
|.next=>∃σ' H',aZ X ak σ' H' s'/\D.nx σ' H'
|.brk=>∃σ' H',aZ X ak σ' H' s'/\D.bk σ' H'
|.cont=>∃σ' H',aZ X ak σ' H' s'/\D.ct σ' H'
|.ret u=>∃v σ' H',aZ X ak σ' H' s'/\bO v u/\D.rt v H'
def PE(X:Cx)(e:D6)(t:TE):Prop:=
 ∀(ak:List (c8×Obj)) (s:f9) (σ:St) (H:Hp) (Q:VK),aZ X ak σ H s->t σ H Q->i6 (j3 X.prog X.w) X.A (I0 e X.env) (EP X ak σ Q) X.xe s
def PT(X:Cx)(e:D6)(t:TT):Prop:=
 ∀(ak:List (c8×Obj)) (s:f9) (σ:St) (H:Hp) (Q:Bool->Hp->Prop),aZ X ak σ H s->t σ H Q->i6 (j3 X.prog X.w) X.A (isTrue e X.env (I0 e X.env)) (TP X ak σ Q) X.xe s
def PW(X:Cx)(e:D6)(t:TT):Prop:=
 ∀(whole:Sem c7)(ak:List (c8×Obj)) (s:f9) (σ:St) (H:Hp) (Q:Bool->Hp->Prop),aZ X ak σ H s->t σ H Q->i6 (j3 X.prog X.w) X.A (isTrue e X.env whole) (TP X ak σ Q) X.xe s
def PW.pt(h:PW X e t):PT X e t:=h _
def PA(X:Cx)(es:List D6)(t:TA):Prop:=
 ∀(pos:Pos)(ak:List (c8×Obj)) (s:f9) (σ:St) (H:Hp) (Q:List V->Hp->Prop),aZ X ak σ H s->t σ H Q->i6 (j3 X.prog X.w) X.A (yl (K9 pos (m9 es X.env))) (AP X ak σ Q) X.xe s
def PS(X:Cx)(st:D4)(t:TS):Prop:=
 ∀(ak:List (c8×Obj)) (s:f9) (σ:St) (H:Hp) (D:fR),aZ X ak σ H s->t D σ H->i6 (j3 X.prog X.w) X.A (exec st X.env) (SP X ak D) X.xe s
def yW(X:Cx)(st:List D4)(t:TS):Prop:=
 ∀(ak:List (c8×Obj)) (s:f9) (σ:St) (H:Hp) (D:fR),aZ X ak σ H s->t D σ H->i6 (j3 X.prog X.w) X.A (execs st X.env) (SP X ak D) X.xe s
def cZ{f:Type}{t:Sem f}{Q c:f->f9->Prop}{M:Model}{A:A2}{E:c7->f9->Prop}{s:f9}(h:i6 M A t Q E s)(g:∀a s,Q a s->c a s):i6 M A t c E s:=C4 h g fun _ _ x=>x
section
variable {X:Cx}
def Hh(i:Nat):TE:=fun σ H Q=>∃v,σ[i]?=some (some v)/\Q v H
def tC(v:V):TE:=fun _ H Q=>Q v H
def Jj(A:X.N[i]?=some x)(D:Rv X.env.scope x)(t:(x==("__debug__":Str))=false:=by decide)(q:(x==("__classdict__":Str))=false:=by decide):PE X (.Name x pos) (Hh i):=by
 intro o s E H Q I h;obtain ⟨v,e,h⟩:=h;obtain ⟨m,hn,B⟩:=I.loc;obtain ⟨u,r,l⟩:=B i x v A e D;have g:EP X o E Q u s:={v,H,I,r,h}
 rcases l with ⟨hk,C⟩|⟨hk,c,w,f⟩
 ·exact wf (zw I.ok.kind hk hn C g) t
 ·rcases hk with hk|hk
  ·exact wf (wpAny_loadName_cell I.ok.kind hk w f g) t
  ·exact wf (wpAny_loadName_free I.ok.kind hk w f g q) t
def aE{i j pos}:PE X (.Constant (.int i) j pos) (tC (.int i)):=fun _ _ _ H _ I h=>wpAny_Constant_int {.int i,H,I.tok _,{_,rfl},h}
def lI{b j pos}:PE X (.Constant (.bool b) j pos) (tC (.bl b)):=fun _ _ _ H _ I h=>Constant_bool {.bl b,H,I,rfl,h}
def dH{j pos}:PE X (.Constant .none j pos) (tC .non):=fun _ _ _ H _ I h=>Constant_none {.non,H,I,rfl,h}
def aL{x j pos}:PE X (.Constant (.str x) j pos) (tC (.str x)):=fun _ _ _ H _ I h=>Calls.Constant_str {.str x,H,I.tok _,{_,rfl},h}
def Gl(X:Cx)(x:Str):Prop:=X.env.kindOf x=some .globalImplicit
def pO(I:aZ X ak σ H s)(f:Gl X x)(g:X.mg x=some u)(h:Q u s)(c:(x==("__debug__":Str))=false:=by decide):i6 (j3 X.prog X.w) X.A (I0 (.Name x pos) X.env) Q E s:=
 rg I.ok.kind f (Calls.loadGlobal_global (by rw[I.ok.glob];exact I.mod.glob.keeps I.bk) g h) c
def kX(I:aZ X ak σ H s)(m:Gl X x)(o:X.mg x=none)(q:B9 x=some u)(h:Q u s)(hn:x≠"__name__":=by decide)(g:(x==("__debug__":Str))=false:=by decide):i6 (j3 X.prog X.w) X.A (I0 (.Name x pos) X.env) Q E s:=by obtain ⟨t,c,f⟩:=I.mod.blt;exact rg I.ok.kind m (Calls.loadGlobal_builtin (by rw[I.ok.glob];exact I.mod.glob.keeps I.bk) o (by rw[I.ok.blt];exact c.keeps I.bk) ((f x hn).trans q) h) g
def fX(f:Gl X x)(g:X.mg x=some u)(r:bO v u)(c:(x==("__debug__":Str))=false:=by decide):PE X (.Name x pos) (tC v):=
 fun _ _ _ H _ I h=>pO I f g {v,H,I,r,h} c
def sP(f:Gl X x)(g:X.mg x=none)(m:B9 x=some u)(r:bO v u)(hn:x≠"__name__":=by decide)(c:(x==("__debug__":Str))=false:=by decide):PE X (.Name x pos) (tC v):=
 fun _ _ _ H _ I h=>kX I f g m {v,H,I,r,h} hn c
variable {a b:D6}{ta tb:TE}{pos:Pos}
def PC(X:Cx)(op:CmpOp)(a b:D6)(t:TE):Prop:=
 ∀(ak:List (c8×Obj)) (s:f9) (σ:St) (H:Hp) (Q:VK),aZ X ak σ H s->t σ H Q ->
  i6 (j3 X.prog X.w) X.A (I0 a X.env) (fun v s₁=>i6 (j3 X.prog X.w) X.A (I0 b X.env) (fun u s₂=>i6 (j3 X.prog X.w) X.A (E4 op v u) (EP X ak σ Q) X.xe s₂) X.xe s₁) X.xe s
def tB(t:TE):TT:=fun σ H Q=>t σ H fun x H1=>∃c,x=.bl c/\Q c H1
def Jo(h:PC X op a b t)(f:di op b=false:=by first|exact nobehind _ (by decide) (by decide)|rfl):PE X (.Compare a [op] [b] pos) t:=fun c s m H Q I g=>wpAny_Compare1 (h c s m H Q I g) f
def tU(h:PC X op a b t)(g:di op b=false:=by first|exact nobehind _ (by decide) (by decide)|rfl):PT X (.Compare a [op] [b] pos) (tB t):=by intro f s D H Q I A;refine zk (cZ (h f s D H _ I A) fun v E g=>cZ g fun u G w=>cZ w fun c J ⟨x,m,o,C,B⟩=>?_) g;obtain ⟨d,rfl,q⟩:=B;cases C;exact K2 {m,o,q}
def eA(h:PE X e t)(m:∀whole,isTrue e X.env whole=(do let v ←whole;ko e.pos;ja [v] (truthy v)):=by intro _;rfl):PT X e (tB t):=by intro c s B H Q I o;refine isTrue_plain (cZ (h c s B H _ I o) fun v C ⟨x,f,g,A,w⟩=>?_) (m _);obtain ⟨d,rfl,q⟩:=w;cases A;exact K2 {f,g,q}
variable {tA tB':TT}{dE:List D6}
def Nh(t u:TT):TT:=fun σ H Q=>t σ H fun c H1=>if c=true then u σ H1 Q else Q false H1
def Ua(t u:TT):TT:=fun σ H Q=>t σ H fun c H1=>if c=true then Q true H1 else u σ H1 Q
def Nc(t:TT):TT:=fun σ H Q=>t σ H fun c H1=>Q (!c) H1
def gM(g:PT X a tA):PW X (.BoolOp .And [a] pos) tA:=by
 intro q f s m H Q I h;refine isTrue_and (cZ (g f s m H Q I h) fun c o e=>?_);cases c with
|true=>exact isTrue_and_nil e
|false=>exact e
def iG(g:PT X a tA):PW X (.BoolOp .Or [a] pos) tA:=by
 intro q f s m H Q I h;refine isTrue_or (cZ (g f s m H Q I h) fun c o e=>?_);cases c with
|false=>exact isTrue_or_nil e
|true=>exact e
def jN(t:PT X a tA)(w:PW X (.BoolOp .And (b::dE) pos) tB'):PW X (.BoolOp .And (a::b::dE) pos) (Nh tA tB'):=by
 intro B f s q H Q I h;refine isTrue_and (cZ (t f s q H _ I h) fun c A ⟨g,m,o⟩=>?_);cases c with
|true=>exact w B f A q g Q m o
|false=>exact {g,m,o}
def lG(t:PT X a tA)(w:PW X (.BoolOp .Or (b::dE) pos) tB'):PW X (.BoolOp .Or (a::b::dE) pos) (Ua tA tB'):=by
 intro B f s q H Q I h;refine isTrue_or (cZ (t f s q H _ I h) fun c A ⟨g,m,o⟩=>?_);cases c with
|true=>exact {g,m,o}
|false=>exact w B f A q g Q m o
def kQ(m:PT X a tA):PT X (.UnaryOp .Not a pos) (Nc tA):=by intro f s o H Q I h;exact isTrue_not (m f s o H (fun c g=>Q (!c) g) I h)
def Ep(ta tb:TE):TE:=fun σ H Q=>ta σ H fun x H1=>∃c,x=.bl c/\if c=true then tb σ H1 Q else Q (.bl false) H1
def Mz(ta tb:TE):TE:=fun σ H Q=>ta σ H fun x H1=>∃c,x=.bl c/\if c=true then Q (.bl true) H1 else tb σ H1 Q
def Eg(ta:TE):TE:=fun σ H Q=>ta σ H fun x H1=>∃c,x=.bl c/\Q (.bl (!c)) H1
def mM{op}(h:PE X a t):PE X (.BoolOp op [a] pos) t:=fun c s g H Q I f=>BoolOp_one (h c s g H Q I f)
def tV(t:PE X a ta)(w:PE X (.BoolOp .And (b::dE) pos) tb):PE X (.BoolOp .And (a::b::dE) pos) (Ep ta tb):=by
 intro f s q H Q I h;refine BoolOp_and (cZ (t f s q H _ I h) fun v B ⟨x,m,o,A,g⟩=>?_);obtain ⟨c,rfl,g⟩:=g;cases A;refine K2 ?_;cases c with
|true=>exact w f B q m Q o g
|false=>exact {.bl false,m,o,rfl,g}
def Ge(t:PE X a ta)(w:PE X (.BoolOp .Or (b::dE) pos) tb):PE X (.BoolOp .Or (a::b::dE) pos) (Mz ta tb):=by
 intro f s q H Q I h;refine BoolOp_or (cZ (t f s q H _ I h) fun v B ⟨x,m,o,A,g⟩=>?_);obtain ⟨c,rfl,g⟩:=g;cases A;refine K2 ?_;cases c with
|false=>exact w f B q m Q o g
|true=>exact {.bl true,m,o,rfl,g}
def JW(q:PE X a ta):PE X (.UnaryOp .Not a pos) (Eg ta):=by intro f s w H Q I h;refine UnaryOp_ (cZ (q f s w H _ I h) fun v A ⟨x,m,o,t,g⟩=>?_);obtain ⟨c,rfl,g⟩:=g;cases t;exact not_of (K2 {.bl (!c),m,o,rfl,g})
def Ub(t:TT)(ta tb:TE):TE:=fun σ H Q=>t σ H fun c H1=>if c=true then ta σ H1 Q else tb σ H1 Q
def xK(B:PT X c tA)(w:PE X a ta)(A:PE X b tb):PE X (.IfExp c a b pos) (Ub tA ta tb):=by
 intro f s g H Q I h;refine wpAny_IfExp (cZ (B f s g H _ I h) fun d t ⟨m,o,q⟩=>?_);cases d with
|true=>exact w f t g m Q o q
|false=>exact A f t g m Q o q
end
def cU(K:v9)(H:Hp)(a:c8)(xs:List V):Prop:=
 Rd H a (.lst xs) ∨
  ∃(o:Obj)(its:Array c7)(n:Nat),K.lookup a=some o/\o.cls=.type "list"/\o.dict=none/\o.data=.seq its n/\its.size<=n7/\bU xs its.toList
def EN(K:v9)(H:Hp)(a:c8)(xs:List V):Prop:=
 Rd H a (.tup xs) ∨
  ∃(o:Obj)(its:Array c7)(n:Nat),K.lookup a=some o/\o.cls=.type "tuple"/\o.data=.seq its n/\its.size<=n7/\bU xs its.toList
noncomputable def Tm:c7->Option V
|.none=>some .non
|.bool b=>some (.bl b)
|.int i _=>some (.int i)
|.str x _=>some (.str x)
|.bytes b _=>some (.byt b)
|.float b _=>some (.flt b)
|.ref a=>some (.ref a)
|.type n=>some (.ty n)
|_=>none
def bO.abs(r:bO x u):Tm u=some x:=by
 cases x with
|non=>cases r;rfl
|bl _=>cases r;rfl
|int _=>obtain ⟨t,rfl⟩:=r;rfl
|str _=>obtain ⟨t,rfl⟩:=r;rfl
|byt _=>obtain ⟨t,rfl⟩:=r;rfl
|flt _=>obtain ⟨t,rfl⟩:=r;rfl
|ref _=>cases r;rfl
|ty _=>cases r;rfl
def bO.inj(r:bO x u)(q:bO y u):x=y:=j5 (r.abs.symm.trans q.abs)
theorem bU.inj:∀{xs ys:List V}{us:List c7},bU xs us->bU ys us->xs=ys
|_,_,_,.nil,.nil=>rfl
|_,_,_,.cons r t,.cons c t'=>by rw[r.inj c,bU.inj t t']
section
variable {X:Cx}{ak:List (c8×Obj)}{σ:St}{H:Hp}{s:f9}{a:c8}{xs ys:List V}
def cU.of{K:v9}(h:H a=some (.lst xs)):cU K H a xs:=.inl (.inl h)
def EN.of{K:v9}(h:H a=some (.tup xs)):EN K H a xs:=.inl (.inl h)
def aZ.list(I:aZ X ak σ H s)(h:cU X.K H a xs):∃c:List c7,bU xs c/\PlainL s.heap a c.toArray/\xs.length<=n7:=by
 rcases h with h|⟨o,c,n,hk,f,g,hs,m,r⟩
 ·obtain ⟨z,c,n,r,e⟩:=h.ok I.hok;exact {c,r,{_,n,e,rfl,rfl,rfl},z}
 ·refine {c.toList,r,{o,n,I.kIn a o hk,f,g,by simpa using hs},?_};have e:=r.length;simp only[C0]at e;lia
def aZ.tuple(I:aZ X ak σ H s)(h:EN X.K H a xs):∃c:List c7,bU xs c/\xc s.heap a c.toArray/\xs.length<=n7:=by
 rcases h with h|⟨o,c,n,hk,f,hs,g,r⟩
 ·obtain ⟨z,c,r,p⟩:=h.ok I.hok;exact {c,r,p,z.1}
 ·refine {c.toList,r,{o,I.kIn a o hk,f,n,by simpa using hs},?_};have e:=r.length;simp only[C0]at e;lia
def aZ.list_inj(I:aZ X ak σ H s)(h:cU X.K H a xs)(h':cU X.K H a ys):xs=ys:=by
 obtain ⟨f,r,⟨o,n,e,_,_,d⟩,_⟩:=I.list h;obtain ⟨c,q,⟨w,t,m,_,_,g⟩,_⟩:=I.list h';rw[e]at m;cases m;rw[d]at g;injection g with d1 _
 have:f=c:=by simpa using congrArg Array.toList d1
 subst this;exact r.inj q
end
noncomputable abbrev Cx.wish(X:Cx)(E:c7->f9->Prop):Cx:={X with xe:=E}
noncomputable abbrev Cx.nox(X:Cx):Cx:=X.wish fun _ _=>False
def Cx.Ok.wish{X:Cx}(ok:X.Ok)(E:c7->f9->Prop):(X.wish E).Ok:=
 {ok.mod,ok.kind,ok.glob,ok.blt,ok.above,ok.inj,ok.has,ok.cab,ok.hd,ok.frames,ok.stk,ok.exf,ok.bs,ok.bsz,ok.noex,ok.exfs,ok.funs,ok.frf}
def Cx.Ok.unwish{X:Cx}{E:c7->f9->Prop}(ok:(X.wish E).Ok):X.Ok:=
 {ok.mod,ok.kind,ok.glob,ok.blt,ok.above,ok.inj,ok.has,ok.cab,ok.hd,ok.frames,ok.stk,ok.exf,ok.bs,ok.bsz,ok.noex,ok.exfs,ok.funs,ok.frf}
section
variable {X:Cx}{ak:List (c8×Obj)}{σ:St}{H:Hp}{s:f9}{E:c7->f9->Prop}
def aZ.wish(I:aZ X ak σ H s)(E:c7->f9->Prop):aZ (X.wish E) ak σ H s:={I.ok.wish E,I.os,I.bare,I.base,I.loc,I.cell,I.free,I.freeC,I.pin,I.hok,I.len}
def aZ.unwish(I:aZ (X.wish E) ak σ H s):aZ X ak σ H s:={I.ok.unwish,I.os,I.bare,I.base,I.loc,I.cell,I.free,I.freeC,I.pin,I.hok,I.len}
def SP.unwish(h:SP (X.wish E) ak D f s'):SP X ak D f s':=by
 cases f with
|next=>obtain ⟨c,g,I,q⟩:=h;exact {c,g,I.unwish,q}
|brk=>obtain ⟨c,g,I,q⟩:=h;exact {c,g,I.unwish,q}
|cont=>obtain ⟨c,g,I,q⟩:=h;exact {c,g,I.unwish,q}
|ret u=>obtain ⟨v,c,g,I,r,q⟩:=h;exact {v,c,g,I.unwish,r,q}
def yW.nox{st:List D4}{t:TS}(h:yW X.nox st t):yW X st t:=fun ak s σ H D I c=>C4 (h ak s σ H D (I.wish _) c) (fun _ _ q=>q.unwish) fun _ _ z=>D9 z
end
section
variable {X:Cx}{st:D4}{dE:List D4}{t u:TS}{e:D6}{te:TE}{pos:Pos}
def Eh:TS:=fun D σ H=>D.nx σ H
def Mv(t u:TS):TS:=fun D σ H=>t {D with nx:=u D} σ H
def bI:yW X [] Eh:=fun _ _ c H _ I h=>U1 {c,H,I,h}
def aF(w:PS X st t)(A:yW X dE u):yW X (st::dE) (Mv t u):=by
 intro c s C H D I h;refine jp (cZ (w c s C H {D with nx:=u D} I h) fun f B q=>?_);cases f with
|next=>
  obtain ⟨g,m,o,q⟩:=q;exact A c B g m D o q
|ret v=>exact q
|brk=>exact q
|cont=>exact q
def aH(g:PS X st t):yW X [st] t:=by
 intro c s m H D I h;refine jp (cZ (g c s m H D I h) fun f o q=>?_);cases f with
|next=>exact U1 q
|ret v=>exact q
|brk=>exact q
|cont=>exact q
def En:TS:=fun D σ H=>D.ct σ H
def HG:PS X (.Continue pos) En:=fun _ _ c H _ I h=>wpAny_Continue {c,H,I,h}
def aZ.quiet(I:aZ X ak σ H s):interactive X.env=false:=by simp[interactive,I.ok.kind]
def Ek(te:TE):TS:=fun D σ H=>te σ H fun _ H1=>D.nx σ H1
def dM(o:PE X e te)(hs:ju e none pos.line X.env=K0 false:=by rfl):PS X (.Expr e pos) (Ek te):=by intro c s f H D I h;exact wpAny_Expr_any (cZ (o c s f H _ I h) fun v A ⟨x,g,m,w,q⟩=>{f,g,m,q}) I.quiet hs
def Mx(te:TE):TS:=fun D σ H=>te σ H D.rt
def aU(o:PE X e te):PS X (.Return (some e) pos) (Mx te):=by intro c s f H D I h;exact wpAny_Return_some (cZ (o c s f H _ I h) fun v A ⟨x,g,m,w,q⟩=>{x,f,g,m,w,q})
def Nd(c:TT)(t u:TS):TS:=fun D σ H=>c σ H fun b H1=>if b=true then t D σ H1 else u D σ H1
def cA(C:PT X c tc)(A:yW X a t)(B:yW X b u):PS X (.If c a b pos) (Nd tc t u):=by
 intro f s g H D I h;refine wpAny_If (cZ (C f s g H _ I h) fun d w ⟨m,o,q⟩=>?_);cases d with
|true=>exact A f w g m D o q
|false=>exact B f w g m D o q
def Hi:TS:=fun _ _ _=>False
def HE:PS X st Hi:=fun _ _ _ _ _ _ h=>h.elim
end
abbrev TG:=V->St->Hp->(St->Hp->Prop)->Prop
abbrev Rb:=List V->St->Hp->(St->Hp->Prop)->Prop
def PG(X:Cx)(target:D6)(t:TG):Prop:=
 ∀(ak:List (c8×Obj)) (s:f9) (σ:St) (H:Hp) (v:V) (u:c7) (Q:St->Hp->Prop),aZ X ak σ H s->bO v u->t v σ H Q ->
  i6 (j3 X.prog X.w) X.A (tf target X.env u) (fun _ s'=>∃σ' H',aZ X ak σ' H' s'/\Q σ' H') X.xe s
def Mh(X:Cx)(ts:List D6)(t:Rb):Prop:=
 ∀(ak:List (c8×Obj)) (s:f9) (σ:St) (H:Hp) (vs:List V) (us:List c7) (Q:St->Hp->Prop),aZ X ak σ H s->bU vs us->t vs σ H Q ->
  i6 (j3 X.prog X.w) X.A (xv ((Z8 ts X.env).map (·.2)) us) (fun _ s'=>∃σ' H',aZ X ak σ' H' s'/\Q σ' H') X.xe s
abbrev Tq:=V->V->V->Hp->(Hp->Prop)->Prop
def Tr(X:Cx)(t:Tq):Prop:=
 ∀(ak:List (c8×Obj)) (s:f9) (σ:St) (H:Hp) (o i v:V) (ov iv u:c7) (Q:Hp->Prop),aZ X ak σ H s->bO o ov->bO i iv->bO v u->t o i v H Q ->
  i6 (j3 X.prog X.w) X.A (setItem ov iv u) (fun _ s'=>∃H',aZ X ak σ H' s'/\Q H') X.xe s
abbrev TIp:=V->V->Hp->VK->Prop
def PIp(X:Cx)(op:Operator)(t:TIp):Prop:=
 ∀(ak:List (c8×Obj)) (s:f9) (σ:St) (H:Hp) (x y:V) (v u:c7) (Q:VK),aZ X ak σ H s->bO x v->bO y u->t x y H Q ->
  i6 (j3 X.prog X.w) X.A (inplaceOp op v u) (EP X ak σ Q) X.xe s
section
variable {X:Cx}{pos:Pos}
def hX(i:Nat):TG:=fun v σ H Q=>Q (σ.set i (some v)) H
def bN(g:X.N.Nodup)(o:X.N[i]?=some x)(q:Ma X.env.scope x)(m:X.fn x=true∨X.env.scope.names.lookup x=some .local:=by first|exact .inl rfl|exact .inr rfl|assumption):PG X (.Name x pos) (hX i):=by intro c s w H v u Q I r h;exact wpAny_assign_Name (nZ I g o q r (fun t f=>{_,H,f,h}) m)
def YF:Rb:=fun vs σ H Q=>vs=[]/\Q σ H
def sX(t:TG)(u:Rb):Rb:=fun vs σ H Q=>∃v r,vs=v::r/\t v σ H fun σ' H'=>u r σ' H' Q
def eI:Mh X [] YF:=by intro c s f H m g Q I r h;obtain ⟨e,h⟩:=h;subst e;cases r;exact assignInOrder_nil {f,H,I,h}
def bA(q:PG X e t)(w:Mh X es u)(hs:(Z8 (e::es) X.env).map (·.2)=tf e X.env::(Z8 es X.env).map (·.2):=by rfl):Mh X (e::es) (sX t u):=by
 intro c s D H J E Q I r h;obtain ⟨v,G,o,h⟩:=h;subst o;cases r with
|cons r B=>rw[hs];refine qc (cZ (q c s D H _ _ _ I r h) fun _ C ⟨f,g,m,A⟩=>?_);exact w c C f g _ _ Q m B A
def KU(K:v9)(n:Nat)(t:Rb):TG:=fun v σ H Q=>∃a xs,v=.ref a/\EN K H a xs/\xs.length=n/\t xs σ H Q
def jO(B:X.calm=true)(h:Mh X es t)(hn:(Z8 es X.env).length=n:=by rfl)(f:(Z8 es X.env).findIdx? (·.1)=none:=by rfl):PG X (.Tuple es k pos) (KU X.K n t):=by intro c s m H v u Q I r g;obtain ⟨a,M,w,D,C,g⟩:=g;subst w;cases r;obtain ⟨J,rv,E,N⟩:=I.tuple D;refine assign_Tuple_tuple (I.ok.hd B) E (by simp[hn,←C,rv.length]) f fun A G=>?_;have q:aZ X c m H {s with heap:=A}:=I.kept (t':=s.toks) fun b o e=>G b o (u7 (p7 e)) e;exact h c _ m H M _ Q q (by simpa using rv) g
def TM(te:TE)(g:TG):TS:=fun D σ H=>te σ H fun x H1=>g x σ H1 D.nx
def JT(w:PE X e te)(A:PG X tg g)(hs:swapsWithSole [tg] e pos.line X.env=K0 false:=by rfl)(B:swappedStores [tg] e X.env=K0 none:=by rfl)(t:(Z8 [tg] X.env).map (·.2)=[tf tg X.env]:=by rfl):PS X (.Assign [tg] e pos) (TM te g):=by intro c s f H D I h;refine wpAny_Assign_stores (cZ (w c s f H _ I h) fun v G ⟨x,m,o,E,C⟩=>?_) hs B;rw[t];exact cZ (A c G f m x v _ o E C) fun _ J q=>q
def VW(o:X.N.Nodup)(w:X.N[i]?=some x)(A:Ma X.env.scope x)(q:PE X e te)(hs:ju e (some (.Name x pos')) pos.line X.env=K0 false:=by rfl)(t:X.fn x=true∨X.env.scope.names.lookup x=some .local:=by first|exact .inl rfl|exact .inr rfl|assumption):
  PS X (.Assign [.Name x pos'] e pos) (TM te (hX i)):=by
 intro c s E H D I h;refine wpAny_Assign_Name (cZ (q c s E H _ I h) fun v G ⟨y,f,g,C,B⟩=>?_) hs;exact nZ g o w A C (fun J m=>{_,f,m,B}) t
def My(i j:Nat)(ta:TA):TS:=fun D σ H=>ta σ H fun vs H1=>∃v w,vs=[v,w]/\D.nx ((σ.set i (some v)).set j (some w)) H1
def Jh{kt k2 pt2}(Z:X.calm=true)(M:X.N.Nodup)(hi:X.N[i]?=some x)(hj:X.N[j]?=some y)(t:i≠j)(O:X.env.scope.names.lookup x=some .local)(P:X.env.scope.names.lookup y=some .local)(Y:PA X [a,b] ta)(hw:swappedStores [.Tuple [.Name x px,.Name y py] kt pt] (.Tuple [a,b] k2 pt2) X.env=K0 (some [x,y]))(hs:swapsWithSole [.Tuple [.Name x px,.Name y py] kt pt] (.Tuple [a,b] k2 pt2) pos.line X.env=K0 false:=by rfl):
  PS X (.Assign [.Tuple [.Name x px,.Name y py] kt pt] (.Tuple [a,b] k2 pt2) pos) (My i j ta):=by
 intro c s Q H D I h;rw[exec_Assign_arm];refine c6 (pc ?_);rw[hs];refine c6 (i0 ?_);rw[if_neg (by decide)];refine c6 (Tuple_ (cZ (Y _ c s Q H _ I h) fun us f ⟨vs,G,R,r1,C⟩=>?_));obtain ⟨v,w,W,C⟩:=C;subst W;obtain ⟨g,m,rfl,rv,E⟩:∃g m,us=[g,m]/\bO v g/\bO w m:=by
  cases r1 with
 |cons p q=>
   cases q with
  |cons p' q'=>cases q';exact {_,_,rfl,p,p'}
 refine K3 ?_ (by show 2<=n7;decide);have S:aZ X c Q G {f with heap:=f.heap.push {cls:=.type "tuple",data:=.seq [g,m].toArray}}:=R.kept (t':=f.toks) fun b o e=>e9 _ e;rw[hw];refine c6 (i0 ?_);show i6 (j3 X.prog X.w) X.A (do rule "assign.swapped-stores";let items ←unpackItems (.ref f.heap.objs.size) 2 none;xv [fun v=>wq X.env y v,fun v=>wq X.env x v] items.reverse;K0 Flow.next) _ _ _;refine c6 (L7 (c6 (unpackItems_tuple (items:=#[g,m]) (I.ok.hd Z) (xc.new f.heap _) fun K B=>?_)));have T:=S.kept (h':=K) (t':=f.toks) fun b o e=>B b o (u7 (p7 e)) e;show i6 _ _ (xv [fun v=>wq X.env y v,fun v=>wq X.env x v] [m,g] >>= fun _=>K0 Flow.next) _ _ _;refine c6 (qc (wpAny_bindName (nZ T M hj (.inl P) E (fun s2 U=>?_) (.inr P))));refine qc (wpAny_bindName (nZ U M hi (.inl O) rv (fun s3 J=>assignInOrder_nil (i0 ?_)) (.inr O)));rw[List.set_comm _ _ (q7 t)]at J;exact {_,G,J,C}
def Tt(X:Cx)(t:V->V->Hp->VK->Prop):Prop:=
 ∀(ak:List (c8×Obj)) (s:f9) (σ:St) (H:Hp) (o i:V) (ov iv:c7) (Q:VK),aZ X ak σ H s->bO o ov->bO i iv->t o i H Q ->
  i6 (j3 X.prog X.w) X.A (qr ov iv) (EP X ak σ Q) X.xe s
end
section
variable {X:Cx}{pos:Pos}
def JF(c:TT)(tb:TS):TS:=fun D σ H=>∃W:Nat->St->Hp->Prop,(∃m,W m σ H)/\∀m σ H,W m σ H ->
 c σ H fun b H1=>if b=true then ∃N:St->Hp->Prop,(∀σ' H',N σ' H'->∃m',m'<m/\W m' σ' H')/\tb {D with nx:=N,ct:=N,bk:=D.nx} σ H1 else D.nx σ H1
def sN(hp:PassesOwn (j3 X.prog X.w) X.A X.env X.xe)(Y:PT X c tc)(U:yW X body tb):PS X (.While c body [] pos) (JF tc tb):=by
 intro g s σ H D I h;obtain ⟨W,⟨Z,w0⟩,t⟩:=h;refine wpAny_While (codeAny_whileLoop (fun n s'=>∃B O,aZ X g B O s'/\W n B O) ?_ Z {σ,H,I,w0});rintro n s1 ⟨o,P,T,w1⟩;refine U0 hp (cZ (Y g s1 o P _ T (t n o P w1)) fun b s2 ⟨Q,R,C⟩=>?_);cases b with
|true=>
  obtain ⟨N,S,C⟩:=C;rw[if_pos rfl];refine U0 hp (cZ (U g s2 o Q _ R C) fun f s3 E=>?_);cases f with
 |next=>
   obtain ⟨m,q,G,n3⟩:=E;obtain ⟨K,J,M⟩:=S m q n3;exact {K,J,m,q,G,M}
 |cont=>
   obtain ⟨m,q,G,n3⟩:=E;obtain ⟨K,J,M⟩:=S m q n3;exact {K,J,m,q,G,M}
 |brk=>exact E
 |ret v=>exact E
|false=>rw[if_neg j4];exact U1 {o,Q,R,C}
end
structure It where
 go:Nat->Hp->Prop
 yld:Nat->Hp->V->Hp->Prop
 stop:Nat->Hp->Prop
def vG(X:Cx)(ak:List (c8×Obj))(H:Hp)(b:c8):Prop:=
 H b=none/\b≠X.env.locals/\b∉X.fs/\(b∈X.ex∨X.s₀.heap.objs.size<=b)/\(∀x c,X.env.cells.lookup x=some c->c≠b)/\∀p∈X.pn++ak,p.1≠b
def aZ.fpOk(I:aZ X ak σ H s)(f:s.heap.objs.size<=b)(hn:H' b=none):vG X ak H' b:=by
 refine {hn,C3 (i7 I.lt f),I.nofs f,.inr (A5 I.sz f),fun x c e z=>?_,fun p hp z=>?_}
 ·obtain ⟨v,q⟩:=I.cell x c e;exact absurd (i7 q.lt (by rw[z];exact f)) (nv _)
 ·exact absurd (i7 (p7 (I.pin p hp).1) (by rw[z];exact f)) (nv _)
structure SE(P:m7)(w:y6)(K:v9)(tg:D6)(J:It)(fp:List c8)(it:c8)(tn:Nat->A7->Prop):Prop where
 mem:it∈fp
 obj:∀i h,tn i h->∀b∈fp,∃o,h.get? b=some o/\∀v,o.data≠.cell v
 keep:∀i h h',tn i h->(∀b∈fp,∀o,h.get? b=some o->h'.get? b=some o)->tn i h'
 item:∀(X:Cx),X.prog=P->X.w=w->X.K=K->X.calm=true->∀(i:Nat)(ak:List (c8×Obj)) (s:f9) (σ:St) (H:Hp) (E:c7->f9->Prop),aZ X ak σ H s->(∀b∈fp,vG X ak H b)->tn i s.heap->J.go i H ->
  i6 (j3 P w) X.A (T4 (.ref it)) (fun r s1=>∃u,r=some u /\
   i6 (j3 P w) X.A (gg tg (.ref it) u) (fun _ s2=>∃x H',aZ X ak σ H' s2/\bO x u/\J.yld i H x H'/\tn (i+1) s2.heap/\∀b∈fp,H' b=none) E s1) E s
 done:∀(X:Cx),X.prog=P->X.w=w->X.K=K->X.calm=true->∀(i:Nat)(ak:List (c8×Obj)) (s:f9) (σ:St) (H:Hp) (E:c7->f9->Prop),aZ X ak σ H s->(∀b∈fp,vG X ak H b)->tn i s.heap->J.stop i H ->
  i6 (j3 P w) X.A (T4 (.ref it)) (fun r s1=>r=none/\aZ X ak σ H s1) E s
 self:∀(A:A2)(i:Nat)(s:f9)(Q:c7->f9->Prop)(E:c7->f9->Prop),tn i s.heap->Q (.ref it) s->i6 (j3 P w) A (su (.ref it)) Q E s
abbrev TI:=St->Hp->(It->Hp->Prop)->Prop
def Ts(X:Cx)(ak:List (c8×Obj))(σ:St)(tg:D6)(R:It->Hp->Prop)(itv:c7)(s2:f9):Prop:=
 ∃(it:c8)(fp:List c8)(tn:Nat->A7->Prop)(J:It)(H':Hp),itv=.ref it/\aZ X ak σ H' s2/\SE X.prog X.w X.K tg J fp it tn/\tn 0 s2.heap/\(∀b∈fp,vG X ak H' b)/\R J H'
def PI(X:Cx)(tg iter:D6)(wi:TI):Prop:=
 ∀(ak:List (c8×Obj)) (s:f9) (σ:St) (H:Hp) (R:It->Hp->Prop),aZ X ak σ H s->wi σ H R ->
  i6 (j3 X.prog X.w) X.A (I0 iter X.env) (fun v s1=>i6 (j3 X.prog X.w) X.A (su v) (Ts X ak σ tg R) X.xe s1) X.xe s
def YC(m:s.heap.get? it=some o)(f:o.cls=.type n)(g:o.data=.fields vs)(hn:["enumerate","zip","dict_itemiterator","dict_reverseitemiterator","odict_iterator","itertools.zip_longest","itertools.pairwise"].contains n=false)(c:Q () s):i6 M A (gg tg (.ref it) u) Q E s:=by
  unfold gg;cases tg <;> first
   |exact i0 c
    | (cases u <;> first
       |exact i0 c
        | (refine c6 (il m ?_)
           rw[f,g];show i6 M A (if (["enumerate","zip","dict_itemiterator","dict_reverseitemiterator","odict_iterator","itertools.zip_longest","itertools.pairwise"].contains n&&vs[0]?==some (C5 _))=true then _ else _) Q E s;rw[if_neg (by intro h;rw[hn,Bool.false_and]at h;cases h)];exact i0 c))
noncomputable def SK(K:v9)(a:c8):It:=
 {fun i H=>∃xs x,cU K H a xs/\xs[i]?=some x,fun i H x H'=>H'=H/\∀xs,cU K H a xs->xs[i]?=some x,fun i H=>∃xs,cU K H a xs/\xs.length<=i}
def LM(lo:Int)(n:Nat):It:={fun i _=>i<n,fun i H x H'=>H'=H/\x=.int (lo+i),fun i _=>n<=i}
def PR{P:m7}{w:y6}{K:v9}{tg:D6}(a it:c8):SE P w K tg (SK K a) [it] it (fun i h=>h.IsListIter it a i) where
 mem:=by simp
 obj:=fun i h st b g=>by
  have e:b=it:=by simpa using g
  subst e;obtain ⟨o,e,c,d⟩:=st;exact {o,e,fun v z=>by rw[d]at z;cases z}
 keep:=fun i h q st k=>st.at fun o e=>k it (by simp) o e
 item:=by intro X N Q M T i f s U H E I t st O;subst N Q M;obtain ⟨xs,x,A,R⟩:=O;obtain ⟨S,rv,p,hz⟩:=I.list A;obtain ⟨u,hu,ru⟩:=rv.get R;obtain ⟨B,C,Z,D,G,J⟩:=t it (by simp);refine yg st p.isList (x:=u) (by simpa using hu) fun q m sb=>?_;have W:aZ X f U H {s with heap:=q}:=I.turned (t':=s.toks) (fun b o g e=>(sb.2 b g).trans e) B C D G J;obtain ⟨o,e,c,d⟩:=id m;exact {u,rfl,YC (s:={s with heap:=q}) e c d (by decide) {x,H,W,ru,{rfl,fun ys hy=>by rw[I.list_inj hy A];exact R},m,fun b g=>(t b g).1}}
 done:=by intro X N Q M T i f s U H E I t st O;subst N Q M;obtain ⟨xs,A,R⟩:=O;obtain ⟨S,rv,p,hz⟩:=I.list A;obtain ⟨B,C,Z,D,G,J⟩:=t it (by simp);have hl:=rv.length;exact zi (I.ok.hd T) st p.isList (by simp;lia) fun q Y=>{rfl,I.turned (t':=s.toks) (fun b o g e=>Y b o g e) B C D G J}
 self:=fun _ _ _ _ _ st h=>wpAny_pyIter_listiter st h
def JD{P:m7}{w:y6}{K:v9}{tg:D6}(it:c8)(lo:Int)(n:Nat):SE P w K tg (LM lo n) [it] it (fun i h=>IsRangeIter h it (lo+(i:Nat)*1) ((n:Int)-(i:Nat)) 1) where
 mem:=by simp
 obj:=fun i h st b f=>by
  have e:b=it:=by simpa using f
  subst e;exact {_,st,fun v z=>by
   have z':Data.fields _=Data.cell v:=z;cases z'}
 keep:=fun i h m st k=>k it (by simp) _ st
 item:=by intro X M Q J N i c s R H E I q st O;subst M Q J;obtain ⟨A,B,U,C,D,G⟩:=q it (by simp);have W:=Walks.range (prog:=X.prog) (w:=X.w) (I.ok.hd N) it lo 1 n;refine W.item i s _ _ O st fun v m tk Y g Z=>?_;obtain ⟨t,rfl⟩:=Y;have S:aZ X c R H {s with heap:=m,toks:=tk}:=I.turned (fun b o f e=>Z b o (by simpa using f) e) A B C D G;refine {_,rfl,YC (s:={s with heap:=m,toks:=tk}) (n:="range_iterator") g rfl rfl (by decide) {.int (lo+i),H,S,{t,?_},{rfl,rfl},g,fun b f=>(q b f).1}};rw[xz]
 done:=by intro X M Q J N i c s R H E I q st O;subst M Q J;obtain ⟨A,B,U,C,D,G⟩:=q it (by simp);exact wpAny_pyNext_range_end (I.ok.hd N) st (by have:n<=i:=O;lia) fun m T=>{rfl,I.turned (t':=s.toks) (fun b o f e=>T b o f e) A B C D G}
 self:=fun _ _ _ _ _ st h=>wpAny_pyIter_rangeiter st h
section
variable {X:Cx}{tg:D6}
def Gq(K:v9)(tl:TE):TI:=fun σ H R=>tl σ H fun x H1=>∃a,x=.ref a/\(∃xs,cU K H1 a xs)/\R (SK K a) H1
def cL(w:PE X l tl):PI X tg l (Gq X.K tl):=by
 intro c s E H R I h;refine cZ (w c s E H _ I h) fun v g ⟨x,m,f,D,C⟩=>?_;obtain ⟨a,e,⟨J,A⟩,q⟩:=C;subst e;cases D;obtain ⟨B,rv,p,G⟩:=f.list A;refine qk p.isList ?_;refine {g.heap.objs.size,[g.heap.objs.size],_,_,m,rfl,f.kept (t':=g.toks) fun b o e=>e9 _ e,PR a _,{_,r9 _ rfl,rfl,rfl},fun b t=>?_,q};have e:b=g.heap.objs.size:=by simpa using t
 subst e;exact f.fpOk (j8 _) (f.hok.fresh (j8 _))
def GZ{g:St}{H:Hp}{R:It->Hp->Prop}{E:c7->f9->Prop}{lo c:Int}{tk:Nat}(I:aZ X ak g H s)(C:-(2^62)<=lo)(D:lo<2^62)(G:-(2^62)<=c)(J:c<2^62)(q:R (LM lo (c-lo).toNat) H):i6 (j3 X.prog X.w) X.A (su (.ref s.heap.objs.size)) (Ts X ak g tg R) E {s with heap:=s.heap.push {cls:=.type "range",data:=.fields #[.int lo t,.int c u,.int 1 v]},toks:=tk}:=by
 refine wpAny_pyIter_range (IsRange.new ..) (small_one C D G J) ?_;have f:aZ X ak g H {s with heap:=s.heap.push {cls:=.type "range",data:=.fields #[.int lo t,.int c u,.int 1 v]},toks:=tk}:=I.kept fun b o e=>e9 _ e;refine {(s.heap.push {cls:=.type "range",data:=.fields #[.int lo t,.int c u,.int 1 v]}).objs.size,[(s.heap.push {cls:=.type "range",data:=.fields #[.int lo t,.int c u,.int 1 v]}).objs.size],_,_,H,rfl,
  f.kept (t':=tk) fun b o e=>e9 _ e,JD _ lo (c-lo).toNat,?_,fun b K=>?_,q}
 ·have m:lo+((0:Nat):Int)*1=lo:=by simp
  have B:(((c-lo).toNat:Nat):Int)-((0:Nat):Int)=E8.Range.rangeSize lo c 1:=by rw[rangeSize_one];split <;> lia
  show IsRangeIter _ _ (lo+((0:Nat):Int)*1) ((((c-lo).toNat:Nat):Int)-((0:Nat):Int)) 1;rw[m,B];exact r9 _ rfl
 ·have e:b=(s.heap.push {cls:=.type "range",data:=.fields #[.int lo t,.int c u,.int 1 v]}).objs.size:=by simpa using K
  subst e;exact f.fpOk (j8 _) (f.hok.fresh (j8 _))
def Gp(ta:TA):TI:=fun σ H R=>ta σ H fun vs H1=>∃j:Int,vs=[.int j]/\-(2^62)<=j/\j<2^62/\R (LM 0 j.toNat) H1
def Go(ta:TA):TI:=fun σ H R=>ta σ H fun vs H1=>∃i j:Int,vs=[.int i,.int j]/\(-(2^62)<=i/\i<2^62/\-(2^62)<=j/\j<2^62)/\R (LM i (j-i).toNat) H1
def iI(o:Gl X "range")(w:X.mg "range"=none)(m:PA X [a] ta)(hs:m9 [a] X.env=[(false,I0 a X.env)]:=by rfl):PI X tg (.Call (.Name "range" p) [a] [] pos) (Gp ta):=by
 intro c s D H R I h;refine Call_ (kX I o w boot_range (E9 (cZ (m pos c s D H _ I h) fun J G ⟨K,E,g,B,f⟩=>?_) hs rfl));obtain ⟨j,e,f,A,q⟩:=f;subst e;cases B with
|cons r C=>cases C;obtain ⟨t,rfl⟩:=r;exact call_range_1 (GZ g (by lia) (by lia) f A (by simpa using q))
def AW(A:Gl X "range")(B:X.mg "range"=none)(w:PA X [a,b] ta)(hs:m9 [a,b] X.env=[(false,I0 a X.env),(false,I0 b X.env)]:=by rfl)(c:m9 [b] X.env=[(false,I0 b X.env)]:=by rfl):
  PI X tg (.Call (.Name "range" p) [a,b] [] pos) (Go ta):=by
 intro f s K H R I h;refine Call_ (kX I A B boot_range (E9 (cZ (w pos f s K H _ I h) fun P N ⟨Q,M,o,J,g⟩=>?_) (by rw[hs,c]) (by rw[c];rfl)));obtain ⟨i,j,e,⟨g,C,D,E⟩,q⟩:=g;subst e;cases J with
|cons r m=>
  cases m with
 |cons G m=>cases m;obtain ⟨t,rfl⟩:=r;obtain ⟨O,rfl⟩:=G;exact call_range_2 (GZ o g C D E q)
def Hj(wi:TI)(g:TG)(tb:TS):TS:=fun D σ H=>wi σ H fun J H1=>∃W:Nat->Nat->St->Hp->Prop,(∃m,W 0 m σ H1)/\∀i m σ H,W i m σ H ->
 (J.stop i H/\D.nx σ H)∨(J.go i H/\∃N:St->Hp->Prop,(∀σ' H',N σ' H'->∃m',m'<m/\W (i+1) m' σ' H')/\∀x H',J.yld i H x H'->g x σ H' fun σ2 H2=>tb {D with nx:=N,ct:=N,bk:=D.nx} σ2 H2)
noncomputable def qO(fp:List c8)(h:A7):List (c8×Obj):=fp.filterMap fun b=>(h.get? b).map fun o=>(b,o)
def mR(c:b∈fp)(e:h.get? b=some o):(b,o)∈qO fp h:=xr.mpr {b,c,by rw[e];rfl}
def QO(hp:p∈qO fp h):p.1∈fp/\h.get? p.1=some p.2:=by
 obtain ⟨b,f,e⟩:=xr.mp hp;cases q:h.get? b with
|none=>rw[q]at e;cases e
|some o=>rw[q]at e;have c:(b,o)=p:=j5 e;subst c;exact {f,q}
def aZ.pinned(I:aZ X ak σ H s)(t:∀b∈fp,vG X ak H b)(w:∀b∈fp,∃o,s.heap.get? b=some o/\∀v,o.data≠.cell v):aZ X (ak++qO fp s.heap) σ H s:=
 I.pins_of fun p hp=>(w8.mp hp).elim (fun z=>I.pin p (u9 _ z)) fun z=>by obtain ⟨f,e⟩:=QO z;obtain ⟨g,m,q,_⟩:=t p.1 f;obtain ⟨o,c,d⟩:=w p.1 f;rw[e]at c;cases c;exact {e,g,m,q,d}
def aZ.unpinned(I:aZ X (ak++pl) σ H s):aZ X ak σ H s:=I.pins_of fun p hp=>I.pin p (u9 _ (D2 _ hp))
def gB(hp:PassesOwn (j3 X.prog X.w) X.A X.env X.xe)(hc:X.calm=true)(hi:PI X tg iter wi)(hg:PG X tg g)(E:yW X body tb)(hs:∀x,V0 iter X.env x=K0 x:=by intro _;rfl):PS X (.For tg iter body [] pos) (Hj wi g tb):=by
 intro c s σ H D I h;refine wpAny_For (cZ (hi c s σ H _ I h) fun v s1 h1=>cZ h1 fun g' s2 h2=>?_) hs;obtain ⟨it,R,tn,J,H2,e,I2,T,e',f2,W,⟨m0,w0⟩,b'⟩:=h2;subst e;have G:∀{O:Hp},(∀b∈R,O b=none)->∀b∈R,vG X c O b:=fun hn b E=>{hn b E,(f2 b E).2}
 refine codeAny_forLoop_any (fun n s'=>∃i K O,aZ X c K O s'/\tn i s'.heap/\(∀b∈R,O b=none)/\W i n K O) ?_ m0 {0,σ,H2,I2,e',fun b E=>(f2 b E).1,w0};rintro n s3 ⟨i,M,H3,I3,Y,S,w3⟩;rcases b' i n M H3 w3 with ⟨a',qn⟩|⟨go,N,hN,Z⟩
 ·refine U0 hp (cZ (T.done X rfl rfl rfl hc i c s3 M H3 X.xe I3 (G S) Y a') fun r s4 ⟨hr,I4⟩=>?_);subst hr;exact U1 {M,H3,I4,qn}
 ·refine U0 hp (cZ (T.item X rfl rfl rfl hc i c s3 M H3 X.xe I3 (G S) Y go) fun r s4 ⟨u,hr,h4⟩=>?_);subst hr;refine U0 hp (cZ h4 fun _ s5 ⟨x,H5,I5,r5,y5,Q,d'⟩=>?_);have c':=I5.pinned (G d') (T.obj _ _ Q);refine U0 hp (cZ (hg _ s5 M H5 x u _ c' r5 (Z x H5 y5)) fun _ s6 ⟨f',H6,I6,q6⟩=>?_);refine U0 hp (cZ (E _ s6 f' H6 _ I6 q6) fun f s7 P=>?_);have C:∀{q:St}{t:Hp},aZ X (c++qO R s5.heap) q t s7->N q t->∃m,m<n/\∃i K O,aZ X c K O s7/\tn i s7.heap/\(∀b∈R,O b=none)/\W i m K O:=fun {q t} B U=>by
   obtain ⟨m',hm,w7⟩:=hN q t U;refine {m',hm,i+1,q,t,B.unpinned,T.keep _ _ _ Q fun b E o e=>(B.pin (b,o) (u9 _ (u9 _ (mR E e)))).1,fun b E=>?_,w7};obtain ⟨o,e,d⟩:=T.obj _ _ Q b E;exact (B.pin (b,o) (u9 _ (u9 _ (mR E e)))).2.1
  cases f with
 |next=>obtain ⟨q,t,B,U⟩:=P;exact C B U
 |cont=>obtain ⟨q,t,B,U⟩:=P;exact C B U
 |brk=>obtain ⟨q,t,B,P⟩:=P;exact {q,t,B.unpinned,P}
 |ret v=>obtain ⟨x7,q,t,B,r7,P⟩:=P;exact {x7,q,t,B.unpinned,r7,P}
end
def YG{K:v9}{a:c8}{xs:List V}{g:TG}{B:TS}{D:fR}{c:St}{H:Hp}(f:Nat->St->Hp->Prop)(h0:f 0 c H)(G:∀i c H,i<=xs.length->f i c H->cU K H a xs)(hs:∀i x c H,xs[i]?=some x->f i c H->g x c H fun s w=>B {D with nx:=f (i+1),ct:=f (i+1),bk:=D.nx} s w)(C:∀c H,f xs.length c H->D.nx c H):
  ∃W:Nat->Nat->St->Hp->Prop,(∃m,W 0 m c H)/\∀i m c H,W i m c H ->
   ((SK K a).stop i H/\D.nx c H)∨((SK K a).go i H/\∃N:St->Hp->Prop,(∀o H',N o H'->∃A,A<m/\W (i+1) A o H')/\∀x H',(SK K a).yld i H x H'->g x c H' fun s w=>B {D with nx:=N,ct:=N,bk:=D.nx} s w):=by
 refine {fun i m c H=>m=xs.length-i/\i<=xs.length/\f i c H,{xs.length,by simp,C9 _,h0},?_};rintro i m c H ⟨rfl,E,p⟩;have q:=G i c H E p;by_cases t:i<xs.length
 ·refine .inr {{xs,xs[i],q,by simp[t]},f (i+1),fun o H' I=>{xs.length-(i+1),by lia,rfl,t,I},fun x H' y=>?_};obtain ⟨e,y⟩:=y;subst e;exact hs i x c _ (y xs q) p
 ·have e:i=xs.length:=by lia
  subst e;exact .inl {{xs,q,j8 _},C c H p}
def RH{lo:Int}{n:Nat}{g:TG}{A:TS}{D:fR}{c:St}{H:Hp}(f:Nat->St->Hp->Prop)(h0:f 0 c H)(hs:∀i c H,i<n->f i c H->g (.int (lo+i)) c H fun s t=>A {D with nx:=f (i+1),ct:=f (i+1),bk:=D.nx} s t)(B:∀c H,f n c H->D.nx c H):
  ∃W:Nat->Nat->St->Hp->Prop,(∃m,W 0 m c H)/\∀i m c H,W i m c H ->
   ((LM lo n).stop i H/\D.nx c H)∨((LM lo n).go i H/\∃N:St->Hp->Prop,(∀q H',N q H'->∃w,w<m/\W (i+1) w q H')/\∀x H',(LM lo n).yld i H x H'->g x c H' fun s t=>A {D with nx:=N,ct:=N,bk:=D.nx} s t):=by
 refine {fun i m c H=>m=n-i/\i<=n/\f i c H,{n,by simp,C9 _,h0},?_};rintro i m c H ⟨rfl,E,p⟩;by_cases o:i<n
 ·refine .inr {o,f (i+1),fun q H' C=>{n-(i+1),by lia,rfl,o,C},fun x H' y=>?_};obtain ⟨e,y⟩:=y;subst e y;exact hs i c _ o p
 ·have e:i=n:=by lia
  subst e;exact .inl {j8 _,B c H p}
def wB(s:St->Hp->Prop)(t:St->Hp->Nat)(h0:s f H)(hs:∀f H,s f H->c f H fun b o=>if b=true then tb {D with nx:=fun g H'=>s g H'/\t g H'<t f H,ct:=fun g H'=>s g H'/\t g H'<t f H,bk:=D.nx} f o else D.nx f o)(mono:∀f H Q Q',(∀b o,Q b o->Q' b o)->c f H Q->c f H Q'):JF c tb D f H:=by
 refine {fun m f H=>m=t f H/\s f H,{_,rfl,h0},?_};rintro m f H ⟨rfl,p⟩;refine mono f H _ _ (fun b o q=>?_) (hs f H p);cases b with
|true=>exact {_,fun g H' ⟨w,l⟩=>{_,l,rfl,w},q}
|false=>exact q
abbrev R2:=V->V->Hp->VK->Prop
def kK(X:Cx)(f:c7->c7->Sem c7)(r:R2):Prop:=
 ∀(ak:List (c8×Obj)) (s:f9) (σ:St) (H:Hp) (x y:V) (v u:c7) (Q:VK),aZ X ak σ H s->bO x v->bO y u->r x y H Q ->
  i6 (j3 X.prog X.w) X.A (f v u) (EP X ak σ Q) X.xe s
def Tn(X:Cx)(f:c7->Sem c7)(r:V->Hp->VK->Prop):Prop:=
 ∀(ak:List (c8×Obj)) (s:f9) (σ:St) (H:Hp) (x:V) (v:c7) (Q:VK),aZ X ak σ H s->bO x v->r x H Q ->
  i6 (j3 X.prog X.w) X.A (f v) (EP X ak σ Q) X.xe s
def fO(X:Cx)(f:c7)(r:List V->Hp->VK->Prop):Prop:=
 ∀(ak:List (c8×Obj)) (s:f9) (σ:St) (H:Hp) (xs:List V) (us:List c7) (Q:VK),aZ X ak σ H s->bU xs us->r xs H Q ->
  i6 (j3 X.prog X.w) X.A (lc f us) (EP X ak σ Q) X.xe s
def To(X:Cx)(r:V->Hp->(Bool->Hp->Prop)->Prop):Prop:=
 ∀(ak:List (c8×Obj)) (s:f9) (σ:St) (H:Hp) (x:V) (v:c7) (Q:Bool->Hp->Prop),aZ X ak σ H s->bO x v->r x H Q ->
  i6 (j3 X.prog X.w) X.A (truthy v) (TP X ak σ Q) X.xe s
def Nb(r:R2)(ta tb:TE):TE:=fun σ H Q=>ta σ H fun x H1=>tb σ H1 fun y H2=>r x y H2 Q
def Ty(r:V->Hp->VK->Prop)(ta:TE):TE:=fun σ H Q=>ta σ H fun x H1=>r x H1 Q
def rI(C:Int->Int->Prop)(g:Int->Int->V):R2:=fun x y H Q=>∃i j,x=.int i/\y=.int j/\C i j/\Q (g i j) H
def ZO(g:Int->Int->V):R2:=fun x y H Q=>∃i j,x=.int i/\y=.int j/\Q (g i j) H
def rU(g:Int->V):V->Hp->VK->Prop:=fun x H Q=>∃i,x=.int i/\Q (g i) H
section
variable {X:Cx}{a b:D6}{ta tb:TE}{pos:Pos}
def Lr(D:PE X a ta)(E:PE X b tb){m:St}{H:Hp}{R:V->V->Hp->Prop}(I:aZ X ak m H s)(h:ta m H fun x t=>tb m t fun y g=>R x y g){Q:c7->f9->Prop}{f:c7->c7->Sem c7}(G:∀v u s2 x y g,aZ X ak m g s2->bO x v->bO y u->R x y g->i6 (j3 X.prog X.w) X.A (f v u) Q X.xe s2):
  i6 (j3 X.prog X.w) X.A (I0 a X.env) (fun v o=>i6 (j3 X.prog X.w) X.A (I0 b X.env) (fun u q=>i6 (j3 X.prog X.w) X.A (f v u) Q X.xe q) X.xe o) X.xe s:=by
 refine cZ (D ak s m H _ I h) fun v O ⟨x,t,B,M,J⟩=>?_;refine cZ (E ak O m t _ B J) fun u s2 ⟨y,g,C,N,K⟩=>?_;exact G v u s2 x y g C M N K
def aK(w:kK X (R3 op) r)(o:PE X a ta)(t:PE X b tb):PE X (.BinOp a op b pos) (Nb r ta tb):=by intro f s D H Q I h;exact wpAny_BinOp (Lr o t I h fun v u C x y g m A B q=>w f C D g x y v u Q m A B q)
def AX(t:Tn X (unaryOp op) r)(q:PE X a ta):PE X (.UnaryOp op a pos) (Ty r ta):=by intro f s g H Q I h;exact UnaryOp_ (cZ (q f s g H _ I h) fun v B ⟨x,m,o,A,w⟩=>t f B g m x v Q o A w)
def Pw{f:c7->c7->Sem c7}{C:Int->Int->Prop}{g:Int->Int->Int}(m:∀(i j:Int)(t u:Tok)(s:f9)(Q:c7->f9->Prop)(E:c7->f9->Prop),C i j->Q (.int (g i j) s.toks) {s with toks:=s.toks+1}->i6 (j3 X.prog X.w) X.A (f (.int i t) (.int j u)) Q E s):
  kK X f (rI C fun i j=>.int (g i j)):=by
 intro o s K H x y v u Q I D G h;obtain ⟨i,j,rfl,rfl,B,q⟩:=h;obtain ⟨t,rfl⟩:=D;obtain ⟨J,rfl⟩:=G;exact m i j t J s _ _ B {.int (g i j),H,I.tok _,{_,rfl},q}
def Pu{f:c7->c7->Sem c7}{g:Int->Int->Int}(m:∀(i j:Int)(t u:Tok)(s:f9)(Q:c7->f9->Prop)(E:c7->f9->Prop),Q (.int (g i j) s.toks) {s with toks:=s.toks+1}->i6 (j3 X.prog X.w) X.A (f (.int i t) (.int j u)) Q E s):
  kK X f (ZO fun i j=>.int (g i j)):=by
 intro o s G H x y v u Q I B C h;obtain ⟨i,j,rfl,rfl,q⟩:=h;obtain ⟨t,rfl⟩:=B;obtain ⟨D,rfl⟩:=C;exact m i j t D s _ _ {.int (g i j),H,I.tok _,{_,rfl},q}
def Bx{f:c7->c7->Sem c7}{g:Int->Int->Bool}(m:∀(i j:Int)(t u:Tok)(s:f9)(Q:c7->f9->Prop)(E:c7->f9->Prop),Q (.bool (g i j)) s->i6 (j3 X.prog X.w) X.A (f (.int i t) (.int j u)) Q E s):
  kK X f (ZO fun i j=>.bl (g i j)):=by
 intro o s G H x y v u Q I B C h;obtain ⟨i,j,rfl,rfl,q⟩:=h;obtain ⟨t,rfl⟩:=B;obtain ⟨D,rfl⟩:=C;exact m i j t D s _ _ {.bl (g i j),H,I,rfl,q}
def ZL(i j:Int):Prop:=0<=j/\j<=1000000/\i.natAbs<2^64
def Me(i j:Int):Prop:=(-(2^64)<i/\i<2^64)∨(-(2^64)<j/\j<2^64)
def Me.ok(h:Me i j):IntMulOk i j:=by
 rcases h with ⟨f,g⟩|⟨f,g⟩
 ·exact .of_left (intBits_le_64 f g)
 ·exact .of_right (intBits_le_64 f g)
def Jw:kK X (R3 .Add) (ZO fun i j=>.int (i+j)):=Pu fun _ _ _ _ _ _ _ q=>add_int q
def jA:kK X (R3 .Sub) (ZO fun i j=>.int (i-j)):=Pu fun _ _ _ _ _ _ _ q=>sub_int q
def bM:kK X (R3 .Mod) (rI (fun _ j=>0<j) fun i j=>.int (i%j)):=Pw fun i j _ _ _ _ _ f q=>by have g:(0:Int)<j:=f;exact mod_int' (by lia) (by rw[Int.fmod_eq_emod_of_nonneg i (by lia)];exact q)
def Bu:kK X (R3 .Mod) (rI (fun _ j=>j≠0) fun i j=>.int (i.fmod j)):=Pw fun _ _ _ _ _ _ _ f q=>mod_int' f q
def mO:kK X (R3 .Pow) (rI ZL fun i j=>.int (i^j.toNat)):=Pw fun _ _ _ _ _ _ _ f q=>pow_int_small f.1 f.2.1 f.2.2 q
def unI{f:c7->Sem c7}{g:Int->Int}(m:∀(i:Int)(t:Tok)(s:f9)(Q:c7->f9->Prop)(E:c7->f9->Prop),Q (.int (g i) s.toks) {s with toks:=s.toks+1}->i6 (j3 X.prog X.w) X.A (f (.int i t)) Q E s):
  Tn X f (rU fun i=>.int (g i)):=by
 intro o s C H x v Q I B h;obtain ⟨i,rfl,q⟩:=h;obtain ⟨t,rfl⟩:=B;exact m i t s _ _ {.int (g i),H,I.tok _,{_,rfl},q}
def tM:Tn X (unaryOp .USub) (rU fun i=>.int (-i)):=unI fun _ _ _ _ _ q=>neg_int q
end
noncomputable def Nt:V->V->Bool
|.non,.non=>true|.non,.int _=>true|.int _,.non=>true|.non,.bl _=>true|.bl _,.non=>true|.non,.str _=>true|.str _,.non=>true
|.int _,.int _=>true|.bl _,.bl _=>true|.str _,.str _=>true|.byt _,.byt _=>true
|.int _,.str _=>true|.str _,.int _=>true|.bl _,.str _=>true|.str _,.bl _=>true
|_,_=>false
def Sx:R2:=fun x y H Q=>Nt x y=true/\Q (.bl (decide (x=y))) H
def Sv:R2:=fun x y H Q=>Nt x y=true/\Q (.bl (!decide (x=y))) H
def vV:decide (V.int i=V.int j)=(i==j):=by rw[jg];simp
def YO:decide (V.bl i=V.bl j)=(i==j):=by rw[jg];simp
def EB:decide (V.str i=V.str j)=(i==j):=by rw[jg];simp
def PD:decide (V.byt i=V.byt j)=(i.toList==j.toList):=by rw[jg];cases i;cases j;simp
section
variable {X:Cx}{a b c:D6}{ta tb tc:TE}{pos:Pos}
def cG(I:aZ X ak σ H s)(q:Q (.bl k) H)(e:k=k'):EP X ak σ Q (.bool k') s:=by subst e;exact {.bl k,H,I,rfl,q}
def Pt:kK X (E4 .Eq) Sx:=by
 intro o s w H x y v u Q I m f h;obtain ⟨hs,q⟩:=h;cases x with
|non=>
  cases m;cases y with
 |non=>cases f;exact PySem.EqNone.eq_none_none (cG I q (by simp))
 |bl j=>cases f;exact PySem.EqNone.eq_none_bool (cG I q (by simp))
 |int j=>obtain ⟨g,rfl⟩:=f;exact PySem.EqNone.eq_none_int (cG I q (by simp))
 |str j=>obtain ⟨g,rfl⟩:=f;exact PySem.EqNone.eq_none_str (cG I q (by simp))
 |_=>exact absurd (show false=true from hs) j4
|bl i=>
  cases m;cases y with
 |non=>cases f;exact PySem.EqNone.eq_bool_none (cG I q (by simp))
 |bl j=>cases f;exact eq_bool (cG I q YO)
 |str j=>obtain ⟨g,rfl⟩:=f;exact PySem.EqMixed.eq_bool_str (cG I q (by simp))
 |_=>exact absurd (show false=true from hs) j4
|int i=>
  obtain ⟨t,rfl⟩:=m;cases y with
 |non=>cases f;exact PySem.EqNone.eq_int_none (cG I q (by simp))
 |int j=>obtain ⟨g,rfl⟩:=f;exact eq_int (cG I q vV)
 |str j=>obtain ⟨g,rfl⟩:=f;exact PySem.EqMixed.eq_int_str (cG I q (by simp))
 |_=>exact absurd (show false=true from hs) j4
|str i=>
  obtain ⟨t,rfl⟩:=m;cases y with
 |non=>cases f;exact PySem.EqNone.eq_str_none (cG I q (by simp))
 |bl j=>cases f;exact PySem.EqMixed.eq_str_bool (cG I q (by simp))
 |int j=>obtain ⟨g,rfl⟩:=f;exact PySem.EqMixed.eq_str_int (cG I q (by simp))
 |str j=>obtain ⟨g,rfl⟩:=f;exact eq_str (cG I q EB)
 |_=>exact absurd (show false=true from hs) j4
|byt i=>
  obtain ⟨t,rfl⟩:=m;cases y with
 |byt j=>obtain ⟨g,rfl⟩:=f;exact PySem.W.eq_bytes (cG I q PD)
 |_=>exact absurd (show false=true from hs) j4
|_=>cases y <;> exact absurd (show false=true from hs) j4
def Ps:kK X (E4 .NotEq) Sv:=by
 intro o s w H x y v u Q I m f h;obtain ⟨hs,q⟩:=h;cases x with
|non=>
  cases m;cases y with
 |non=>cases f;exact PySem.EqNone.ne_none_none (cG I q (by simp))
 |bl j=>cases f;exact PySem.EqNone.ne_none_bool (cG I q (by simp))
 |int j=>obtain ⟨g,rfl⟩:=f;exact PySem.EqNone.ne_none_int (cG I q (by simp))
 |str j=>obtain ⟨g,rfl⟩:=f;exact PySem.EqNone.ne_none_str (cG I q (by simp))
 |_=>exact absurd (show false=true from hs) j4
|bl i=>
  cases m;cases y with
 |non=>cases f;exact PySem.EqNone.ne_bool_none (cG I q (by simp))
 |bl j=>cases f;exact ne_bool (cG I q (congrArg not YO))
 |str j=>obtain ⟨g,rfl⟩:=f;exact PySem.EqMixed.ne_bool_str (cG I q (by simp))
 |_=>exact absurd (show false=true from hs) j4
|int i=>
  obtain ⟨t,rfl⟩:=m;cases y with
 |non=>cases f;exact PySem.EqNone.ne_int_none (cG I q (by simp))
 |int j=>obtain ⟨g,rfl⟩:=f;exact ne_int (cG I q (congrArg not vV))
 |str j=>obtain ⟨g,rfl⟩:=f;exact PySem.EqMixed.ne_int_str (cG I q (by simp))
 |_=>exact absurd (show false=true from hs) j4
|str i=>
  obtain ⟨t,rfl⟩:=m;cases y with
 |non=>cases f;exact PySem.EqNone.ne_str_none (cG I q (by simp))
 |bl j=>cases f;exact PySem.EqMixed.ne_str_bool (cG I q (by simp))
 |int j=>obtain ⟨g,rfl⟩:=f;exact PySem.EqMixed.ne_str_int (cG I q (by simp))
 |str j=>obtain ⟨g,rfl⟩:=f;exact ne_str (cG I q (congrArg not EB))
 |_=>exact absurd (show false=true from hs) j4
|byt i=>
  obtain ⟨t,rfl⟩:=m;cases y with
 |byt j=>obtain ⟨g,rfl⟩:=f;exact PySem.W.ne_bytes (cG I q (congrArg not PD))
 |_=>exact absurd (show false=true from hs) j4
|_=>cases y <;> exact absurd (show false=true from hs) j4
def sR:kK X (E4 .Lt) (ZO fun i j=>.bl (decide (i<j))):=Bx fun _ _ _ _ _ _ _ q=>lt_int q
def ON:kK X (E4 .LtE) (ZO fun i j=>.bl (decide (i<=j))):=Bx fun _ _ _ _ _ _ _ q=>le_int q
def WK:kK X (E4 .Gt) (ZO fun i j=>.bl (decide (j<i))):=Bx fun _ _ _ _ _ _ _ q=>gt_int q
def HK:kK X (E4 .GtE) (ZO fun i j=>.bl (decide (j<=i))):=Bx fun _ _ _ _ _ _ _ q=>ge_int q
def Jt:kK X (E4 .Is) (fun x y H Q=>y=.non/\Q (.bl (decide (x=.non))) H):=by
 intro f s o H x y v u Q I g m h;obtain ⟨rfl,q⟩:=h;cases m;refine is_none_gen (cG I q ?_);cases x <;> first
 |(cases g;rfl)
 |(obtain ⟨t,rfl⟩:=g;rfl)
def Bt:kK X (E4 .IsNot) (fun x y H Q=>y=.non/\Q (.bl (!decide (x=.non))) H):=by
 intro f s o H x y v u Q I g m h;obtain ⟨rfl,q⟩:=h;cases m;refine isnot_none_gen (cG I q ?_);cases x <;> first
 |(cases g;rfl)
 |(obtain ⟨t,rfl⟩:=g;rfl)
def kK.or(h:kK X f r)(h':kK X f r'):kK X f (fun x y H Q=>r x y H Q∨r' x y H Q):=by
 intro g s t H x y v u Q I m o q;rcases q with q|q
 ·exact h g s t H x y v u Q I m o q
 ·exact h' g s t H x y v u Q I m o q
def WV(b:D6)(h:op≠.In:=by decide)(m:op≠.NotIn:=by decide):di op b=false:=by
 have f:(op==CmpOp.In)=false:=by cases op <;> first|rfl|exact absurd rfl h
 have g:(op==CmpOp.NotIn)=false:=by cases op <;> first|rfl|exact absurd rfl m
 cases b <;> simp[di,f,g]
def gU(A:kK X (E4 op) r)(o:PE X a ta)(t:PE X b tb)(w:di op b=false:=by exact WV _):PE X (.Compare a [op] [b] pos) (Nb r ta tb):=by intro f s E H Q I h;exact wpAny_Compare1 (Lr o t I h fun v u D x y g m B C q=>A f D E g x y v u Q m B C q) w
def SW(t:TE):TT:=fun σ H Q=>t σ H fun x H'=>∃k,x=.bl k/\Q k H'
def aW(E:kK X (E4 op) r)(B:PE X a ta)(C:PE X b tb)(D:di op b=false:=by exact WV _):PT X (.Compare a [op] [b] pos) (SW (Nb r ta tb)):=by
 intro f s g H Q I h;refine zk (cZ (B f s g H _ I h) fun v P ⟨x,m,t,M,G⟩=>cZ (C f P g m _ t G) fun u R ⟨y,o,w,N,J⟩=>
  cZ (E f R g o x y v u _ w M N J) fun c S ⟨z,q,A,O,k,e,K⟩=>?_) D
 subst e;cases O;exact K2 {q,A,K}
def TJ(r r':R2)(ta tb tc:TE):TE:=fun σ H Q=>ta σ H fun x H1=>tb σ H1 fun y H2=>r x y H2 fun z H3=>∃k,z=.bl k /\
 (if k=true then tc σ H3 fun w' H4=>r' y w' H4 Q else Q (.bl false) H3)
def VU(T:kK X (E4 op) r)(m:kK X (E4 op') r')(O:PE X a ta)(P:PE X b tb)(R:PE X c tc)(S:lastMarks [op,op'] [b,c]=false:=by with_unfolding_all rfl):PT X (.Compare a [op,op'] [b,c] pos) (SW (TJ r r' ta tb tc)):=by
 intro f s g H Q I h;refine isTrue_chain (cZ (O f s g H _ I h) fun v s1 ⟨x,A,E,r1,W⟩=>test_link (cZ (P f s1 g A _ E W) fun u s2 ⟨y,B,G,w,Y⟩=>
  cZ (T f s2 g B x y v u _ G r1 w Y) fun d s3 ⟨z,o,q,r3,k,e,t⟩=>?_)) S
 subst e;cases r3;refine K2 ?_;cases k with
|false=>
  obtain ⟨k',M,U⟩:=t;cases M;exact ite_ff {o,q,U}
|true=>refine ite_tt (test_last (cZ (R f s3 g o _ q t) fun w' s4 ⟨z',C,J,r4,Z⟩=>cZ (m f s4 g C y z' u w' _ J w r4 Z) fun d' s5 ⟨z2,D,K,r5,k2,N,q5⟩=>?_));subst N;cases r5;exact K2 {D,K,q5}
def yV(K:v9)(x:V)(H:Hp)(k:Bool):Prop:=
 match x with
|.non=>k=false
|.bl b=>k=b
|.int i=>k=(i !=0)
|.str y=>y.length<=n7/\k=((y.length:Int) !=0)
|.byt y=>y.size<=n7/\k=((y.size:Int) !=0)
|.ref p=>(∃xs,cU K H p xs/\k=!xs.isEmpty)∨(∃xs,EN K H p xs/\k=!xs.isEmpty)∨∃kvs,H p=some (.dK kvs)/\k=!kvs.isEmpty
|_=>False
def KN{f:Type}{kvs:List (f×V)}{vs:List (f×c7)}(r:KV kvs vs):(!vs.isEmpty)=!kvs.isEmpty:=by cases r <;> rfl
def yE(r:bU xs its):(!its.toArray.isEmpty)=!xs.isEmpty:=by cases r <;> simp
def xZ:(n7:Nat)<2^63:=by rw[y9];decide
def SV:To X (fun x H Q=>∃k,yV X.K x H k/\Q k H):=by
 intro M s S H x v Q I B h;obtain ⟨k,e,q⟩:=h;have R:=xZ;have hs:n7=16777216:=y9;cases x with
|non=>
  cases B;have f:k=false:=e;subst f;exact truthy_none {H,I,q}
|bl b=>
  cases B;have f:k=b:=e;subst f;exact K2 {H,I,q}
|int i=>
  obtain ⟨t,rfl⟩:=B;have f:k=(i !=0):=e;subst f;exact PySem.P.truthy_int {H,I,q}
|str y=>
  obtain ⟨t,rfl⟩:=B;obtain ⟨O,f⟩:y.length<=n7/\k=((y.length:Int) !=0):=e;subst f;exact PySem.P.truthy_str (by lia) {H,I.tok _,q}
|byt y=>
  obtain ⟨t,rfl⟩:=B;obtain ⟨O,f⟩:y.size<=n7/\k=((y.size:Int) !=0):=e;subst f;exact PySem.W.truthy_bytes (by lia) {H,I.tok _,q}
|ref p=>
  cases B;have f:(∃A,cU X.K H p A/\k=!A.isEmpty)∨(∃A,EN X.K H p A/\k=!A.isEmpty)∨∃g,H p=some (.dK g)/\k=!g.isEmpty:=e;rcases f with ⟨A,C,f⟩|⟨A,C,f⟩|⟨g,C,f⟩
  ·subst f;obtain ⟨E,r,G,J⟩:=I.list C;have o:=r.length;exact wpAny_truthy_list G.isList (by simp only[m6];lia) {H,I.tok _,by rw[yE r];exact q}
  ·subst f;obtain ⟨E,r,G,J⟩:=I.tuple C;have o:=r.length;exact truthy_tuple G (by simp only[m6];lia) {H,I.tok _,by rw[yE r];exact q}
  ·subst f;obtain ⟨J,N,D,r,m⟩:g.length<=n7/\(p==sysModules)=false/\∃D,KV g D/\s.heap.DictOf (bY X.prog X.w) p D:=I.hok p _ C;have o:g.length=D.length:=Paired.length r;exact wpAny_truthy_dict N m (by lia) {H,I.tok _,by rw[KN r];exact q}
|_=>exact (show False from e).elim
def VT(q:PE X a ta)(t:∀whole,isTrue a X.env whole=(do let v ←whole;ko a.pos;ja [v] (truthy v))):
  PT X a (fun g H Q=>ta g H fun x H'=>∃k,yV X.K x H' k/\Q k H'):=by
 intro f s g H Q I h;exact isTrue_plain (cZ (q f s g H _ I h) fun v B ⟨x,m,o,A,w⟩=>SV f B g m x v Q o A w) (t _)
def JX:kK X (R3 .Add) (fun x y H Q=>∃i j,x=.str i/\y=.str j/\i.length+j.length<=n7/\Q (.str (i++j)) H):=by intro f s A H x y v u Q I m o h;obtain ⟨i,j,rfl,rfl,g,q⟩:=h;obtain ⟨t,rfl⟩:=m;obtain ⟨w,rfl⟩:=o;exact add_str (fun w tk=>{.str (i++j),H,I.tok _,{_,rfl},q}) g
def FB(r:bU [x] us):∃u,us=[u]/\bO x u:=by
 cases r with
|cons f g=>cases g;exact {_,rfl,f}
def Ee(r:bU [x,y] us):∃u f,us=[u,f]/\bO x u/\bO y f:=by
 cases r with
|cons g m=>
  cases m with
 |cons o q=>cases q;exact {_,_,rfl,g,o}
def YR:fO X (.builtin "abs") (fun xs H Q=>∃i,xs=[.int i]/\Q (.int (if i<0 then -i else i)) H):=by intro f s m H xs g Q I r h;obtain ⟨i,rfl,q⟩:=h;obtain ⟨u,rfl,t,rfl⟩:=FB r;exact call_abs_int fun u tk=>{.int (if i<0 then -i else i),H,I.tok _,{_,rfl},q}
def RX(m:X.calm=true):fO X (.builtin "max") (fun xs H Q=>∃i j,xs=[.int i,.int j]/\Q (.int (if j>i then j else i)) H):=by
 intro g s C H xs A Q I r h;obtain ⟨i,j,rfl,q⟩:=h;obtain ⟨u,B,rfl,⟨t,rfl⟩,⟨w,rfl⟩⟩:=Ee r;refine max_two_ints (I.ok.hd m) fun o tk k=>{_,H,I.kept k,?_,q}
 by_cases f:j>i
 ·rw[if_pos f,if_pos f];exact {_,rfl}
 ·rw[if_neg f,if_neg f];exact {_,rfl}
def RW(m:X.calm=true):fO X (.builtin "min") (fun xs H Q=>∃i j,xs=[.int i,.int j]/\Q (.int (if j<i then j else i)) H):=by
 intro g s C H xs A Q I r h;obtain ⟨i,j,rfl,q⟩:=h;obtain ⟨u,B,rfl,⟨t,rfl⟩,⟨w,rfl⟩⟩:=Ee r;refine min_two_ints (I.ok.hd m) fun o tk k=>{_,H,I.kept k,?_,q}
 by_cases f:j<i
 ·rw[if_pos f,if_pos f];exact {_,rfl}
 ·rw[if_neg f,if_neg f];exact {_,rfl}
def RY:fO X (.type "int") (fun xs H Q=>(∃i,xs=[.int i]/\Q (.int i) H)∨∃k,xs=[.bl k]/\Q (.int (if k then 1 else 0)) H):=by
 intro f s o H xs m Q I r h;rcases h with ⟨i,rfl,q⟩|⟨k,rfl,q⟩
 ·obtain ⟨u,rfl,t,rfl⟩:=FB r;exact call_int_int {.int i,H,I,{_,rfl},q}
 ·obtain ⟨u,rfl,g⟩:=FB r;cases g;exact call_int_bool {.int (if k then 1 else 0),H,I.tok _,{_,rfl},q}
def Ri(K:v9)(x:V)(H:Hp)(n:Nat):Prop:=
 match x with
|.str y=>y.length<=n7/\n=y.length
|.byt y=>y.size<=n7/\n=y.size
|.ref p=>(∃xs,cU K H p xs/\n=xs.length)∨∃xs,EN K H p xs/\n=xs.length
|_=>False
def YQ:fO X (.builtin "len") (fun xs H Q=>∃x n,xs=[x]/\Ri X.K x H n/\Q (.int n) H):=by
 intro C s M H xs J Q I r h;obtain ⟨x,n,rfl,e,q⟩:=h;obtain ⟨u,rfl,B⟩:=FB r;have G:=xZ;have hs:n7=16777216:=y9;cases x with
|str y=>
  obtain ⟨t,rfl⟩:=B;obtain ⟨D,g⟩:y.length<=n7/\n=y.length:=e;subst g;exact len_str (by lia) {.int _,H,I.tok _,{_,rfl},q}
|byt y=>
  obtain ⟨t,rfl⟩:=B;obtain ⟨D,g⟩:y.size<=n7/\n=y.size:=e;subst g;exact PySem.W.len_bytes (by lia) {.int _,H,I.tok _,{_,rfl},q}
|ref p=>
  cases B;have g:(∃xs,cU X.K H p xs/\n=xs.length)∨∃xs,EN X.K H p xs/\n=xs.length:=e;rcases g with ⟨xs,m,g⟩|⟨xs,m,g⟩
  ·subst g;obtain ⟨o,A,w,E⟩:=I.list m;have f:=A.length;exact Calls.call_len_list w.isList (by simp only[m6];lia) {.int xs.length,H,I.tok _,{_,by simp only[m6];rw[f]},q}
  ·subst g;obtain ⟨o,A,w,E⟩:=I.tuple m;have f:=A.length;exact len_tuple w (by simp only[m6];lia) {.int xs.length,H,I.tok _,{_,by simp only[m6];rw[f]},q}
|_=>exact (show False from e).elim
end
structure LK(h:A7)(x dx C:c8)(mA:Str->Option c7):Prop where
 obj:h.get? x=some (ny C dx)
 ns:h.Ns1 dx mA
 ne:dx≠x
def QU{h:A7}{f:c8}{m:Str->Option c7}(n:h.Ns1 f m):∃s,h.get? f=some s/\∀name,lookIn name s=some (m name):=by
 obtain ⟨o,g,E,C,A,hk,_,B⟩:=n;refine {o,C,fun name=>?_};have e:=B name;unfold nsFind findBy at e;rw[←Array.find?_toList]at e;unfold lookIn;rw[A];dsimp only;split
 ·rename_i y q;rw[q]at e;exact congrArg some e
 ·rename_i q;rw[q]at e;have a:g.toList.any (·.refKey)=false:=by
   rw[List.any_eq_false];intro y D;obtain ⟨z,t,c⟩:=hk y (Array.mem_toList_iff.mp D);simp[DictEntry.refKey,c]
  have w:¬g.toList.any (·.refKey)=true:=by rw[a];exact j4
  rw[if_neg w];exact congrArg some e
def LK.look(I:LK h x dx C mA):∃c,InstAt h x (ny C dx) C (some c)/\∀name,lookIn name c=some (mA name):=
 let ⟨c,g,f⟩:=QU I.ns
 {c,{I.obj,rfl,rfl,g},f}
section
variable {prog:m7}{w:y6}{A:A2}{E:c7->f9->Prop}{s:f9}{K:v9}{x dx C f:c8}{mA:Str->Option c7}{name:Str}{v:c7}
def Cv(X:K.In s.heap)(I:LK s.heap x dx C mA)(m:zy K C name=true)(o:hasDictIn K C=true)(g:M7 K (.ref C) name=some none)(t:mA name=some v)(c:handedIn v=true)(h:Q v {s with toks:=s.toks+1}):
  i6 (j3 prog w) A (getAttr (.ref x) name expr) Q E s:=by
 obtain ⟨B,J,q⟩:=I.look;exact PySem.W.get_value X J (zx m).1 (PySem.W.findObj_own o g rfl (by rw[q,t])) c h
def YD(X:K.In s.heap)(I:LK s.heap x dx C mA)(c:zy K C name=true)(g:M7 K (.ref C) name=some (some (.ref f)))(o:uh K (.ref f)=true)(q:mA name=none)(h:Q (.ref f,[.ref x]) s):
  i6 (j3 prog w) A (jx (.ref x) name pl) Q E s:=by
 obtain ⟨t,J,m⟩:=I.look;exact PySem.W.method_fn X J (zx c).1 (zx c).2 g (beq_iff_eq.mp o) (by show (lookIn name t).map (·.isSome)=some false;rw[m,q];rfl) h
def Ah(X:K.In s.heap)(I:LK s.heap x dx C mA)(hs:M7 K (.ref C) "__setattr__"=some (some (.builtin "object.__setattr__")))(hp:plainOver K C=true)(M:takerIn K C name=some none)(H:hasDictIn K C=true)(N:my mA ns)(hsz:ns.length<=n7)(h:∀h',LK h' x dx C (fun y=>if y=name then some v else mA y)->P9 dx s.heap h'->Q () {s with heap:=h',toks:=s.toks+2}):
  i6 (j3 prog w) A (setAttr (.ref x) name v) Q E s:=by
 obtain ⟨T,J,R⟩:=I.look;refine PySem.W.set_plain X J hs (PySem.W.osa_open (s:={s with toks:=s.toks+1}) (r:=none) X J hp M fun b=>?_);obtain ⟨P,G,o⟩:=PySem.W.any_some H;have O:s.heap.get? x=some {.ref C,some dx,.plain,#[]}:=I.obj;refine c6 (i0 (c6 (c6 (wpAny_loadPart O (c6 (PySem.W.Looks.here (s:={s with toks:=s.toks+1}) (PySem.W.looks_clsIn X G) ?_))))));rw[o];refine i0 (a:=some dx) (c6 (i0 (c6 ?_)));refine wpAny_nsSet1 (s:={s with toks:=s.toks+1}) I.ns fun h' c g=>?_;obtain ⟨S,D,B,t,q,m⟩:=c.count (my.cons name v N);refine c6 (wpAny_lookBehind t (by rw[q];exact pastItsLine_dict (A5 m (by rw[J2];lia))) ?_);exact i0 (h _ {(g.2 _ (q7 I.ne)).trans I.obj,c,I.ne} g)
def XC(X:K.In s.heap)(q:og K C=true)(o:M7 K (.ref C) "__init__"=some (some (.ref f)))(m:typeIn K (.ref f)=some (.type "function"))
  (h:T5 (j3 prog w) (A.under (.builtin "type.__call__" {.ref C::vs,kw})) (.call (.ref f) {.ref (s.heap.objs.size+1)::vs,kw}) (PySem.W.InitBack (s.heap.objs.size+1) R)
   {s with heap:=(s.heap.push Z7).push (ny C s.heap.objs.size)}) :
  T5 (j3 prog w) A (.call (.ref C) {vs,kw}) R s:=by
 obtain ⟨B,g,d,t,D⟩:=s;exact PySem.W.make_core (PySem.W.makes_of X q) (PySem.W.looks_findIn X o) (fun c=>PySem.W.bind_fn X c m) (.inl rfl) h
end
noncomputable def gN(f:Str)(v:V):List (Str×V)->List (Str×V)
|[]=>[(f,v)]
|(g,x)::r=>if g=f then (g,v)::r else (g,x)::gN f v r
theorem uS(f g:Str)(v:V):∀fs:List (Str×V),(gN f v fs).lookup g=if g=f then some v else fs.lookup g
|[]=>by
  show P7 g [(f,v)]=_;by_cases h:g=f
  ·have c:(g==f)=true:=beq_iff_eq.mpr h;simp only[P7,c,if_pos h]
  ·have c:(g==f)=false:=beq_eq_false_iff_ne.mpr h;simp only[P7,c,if_neg h]
|(k,x)::r=>by
  have ih:=uS f g v r;rw[show gN f v ((k,x)::r)=(if k=f then (k,v)::r else (k,x)::gN f v r) from rfl];by_cases hk:k=f
  ·rw[if_pos hk];by_cases h:g=k
   ·have c:(g==k)=true:=beq_iff_eq.mpr h;simp only[P7,c,if_pos (h.trans hk)]
   ·have c:(g==k)=false:=beq_eq_false_iff_ne.mpr h;simp only[P7,c,if_neg (fun e:g=f=>h (e.trans hk.symm))]
  ·rw[if_neg hk];by_cases h:g=k
   ·have c:(g==k)=true:=beq_iff_eq.mpr h;simp only[P7,c,if_neg (fun e:g=f=>hk (h.symm.trans e))]
   ·have c:(g==k)=false:=beq_eq_false_iff_ne.mpr h;simp only[P7,c];exact ih
theorem uD(f:Str)(v:V):∀fs:List (Str×V),f∈(gN f v fs).map (·.1)/\∀g,g∈fs.map (·.1)->g∈(gN f v fs).map (·.1)
|[]=>{by simp[gN],fun g h=>by simp at h}
|(k,x)::r=>by
  obtain ⟨c,m⟩:=uD f v r;rw[show gN f v ((k,x)::r)=(if k=f then (k,v)::r else (k,x)::gN f v r) from rfl];by_cases hk:k=f
  ·rw[if_pos hk];subst hk;exact {by simp,fun g h=>by simpa using h}
  ·rw[if_neg hk];refine {?_,fun g h=>?_}
   ·rw[J6];exact B4 _ c
   ·rw[J6]at h ⊢;rcases w6.mp h with e|e
    ·exact w6.mpr (.inl e)
    ·exact B4 _ (m g e)
theorem uT(f:Str)(v:V):∀fs:List (Str×V),(gN f v fs).length<=fs.length+1
|[]=>by simp[gN]
|(k,x)::r=>by
  have ih:=uT f v r;rw[show gN f v ((k,x)::r)=(if k=f then (k,v)::r else (k,x)::gN f v r) from rfl];by_cases hk:k=f
  ·rw[if_pos hk,J2,J2];lia
  ·rw[if_neg hk,J2,J2];lia
def nF.some_of(r:nF (some v) o):∃u,o=some u/\bO v u:=by
 cases o with
|none=>exact (show False from r).elim
|some u=>exact {u,rfl,r}
def nF.none_of(r:nF none o):o=none:=by
 cases o with
|none=>rfl
|some u=>exact (show False from r).elim
def RF(r:bO v u):handedIn u=true:=by
 cases v with
|non=>cases (show u=C6 from r);rfl
|bl b=>cases (show u=rd b from r);rfl
|int i=>obtain ⟨t,e⟩:=(show ∃t,u=dk i t from r);cases e;rfl
|str x=>obtain ⟨t,e⟩:=(show ∃t,u=dj x t from r);cases e;rfl
|byt b=>obtain ⟨t,e⟩:=(show ∃t,u=c7.bytes b t from r);cases e;rfl
|flt b=>obtain ⟨t,e⟩:=(show ∃t,u=wv b t from r);cases e;rfl
|ref a=>cases (show u=j9 a from r);rfl
|ty n=>cases (show u=O3 n from r);rfl
section
variable {P:m7}{w:y6}{H:Hp}{h:A7}{a C dx:c8}{fs:List (Str×V)}
def vO(g:lS P w H h)(e:H a=some (.ins C dx fs)):∃c,LK h a dx C c/\(∀f,nF (fs.lookup f) (c f))/\my c (fs.map (·.1))/\fs.length<=1000/\H dx=some (.own a):=by
 obtain ⟨d,z,m,o,c,n,r,q⟩:=(show cS P w H h a (.ins C dx fs) from g a _ e)
 exact {c,{o,n,m},r,q,z,d}
end
structure BY(K:v9)(C:c8):Prop where
 pg:zy K C Str.empty=true
 hd:hasDictIn K C=true
 po:plainOver K C=true
 sa:M7 K (.ref C) "__setattr__"=some (some (.builtin "object.__setattr__"))
def BY.get{K:v9}{C:c8}(c:BY K C)(f:Str):zy K C f=true:=c.pg
def fI(K:v9)(C:c8)(f:Str):Prop:=M7 K (.ref C) f=some none
def fI.taker{K:v9}{C:c8}{f:Str}(n:fI K C f):takerIn K C f=some none:=by unfold takerIn;rw[show M7 K (.ref C) f=some none from n];rfl
structure ZF(K:v9)(C:c8)(m:Str)(f:c8):Prop where
 at_:M7 K (.ref C) m=some (some (.ref f))
 fn:uh K (.ref f)=true
 kp:B3 K (.ref f)=true
section
variable {X:Cx}{ak:List (c8×Obj)}{σ:St}{H:Hp}{s:f9}{a C dx:c8}{fs:List (Str×V)}{f:Str}{v:V}{A:A2}{E:c7->f9->Prop}
def KS(I:aZ X ak σ H s)(e:H a=some (.ins C dx fs))(c:BY X.K C)(n:fI X.K C f)(l:fs.lookup f=some v)(h:∀u s',aZ X ak σ H s'->bO v u->Q u s'):i6 (j3 X.prog X.w) A (getAttr (.ref a) f b) Q E s:=by obtain ⟨q,O,r,_,_,_⟩:=vO I.hok e;obtain ⟨u,m,g⟩:=nF.some_of (v:=v) (o:=q f) (by rw[←l];exact r f);exact Cv I.kIn O (c.get f) c.hd n m (RF g) (h u _ (I.tok _) g)
def qY(I:aZ X ak σ H s)(e:H a=some (.ins C dx fs))(c:BY X.K C)(k:ZF X.K C m g)(l:fs.lookup m=none)(h:Q (.ref g,[.ref a]) s):i6 (j3 X.prog X.w) A (jx (.ref a) m pl) Q E s:=by obtain ⟨o,O,r,_,_,_⟩:=vO I.hok e;have hn:o m=none:=nF.none_of (by rw[←l];exact r m);exact YD I.kIn O (c.get m) k.at_ k.fn hn h
def JJ(I:aZ X ak σ H s)(e:H a=some (.ins C dx fs))(c:BY X.K C)(n:fI X.K C f)(U:fs.length<1000)(S:bO y u)(h:∀s',aZ X ak σ (upd H a (.ins C dx (gN f y fs))) s'->Q () s'):i6 (j3 X.prog X.w) A (setAttr (.ref a) f u) Q E s:=by
 obtain ⟨B,O,r,D,_,t⟩:=vO I.hok e;have R:(fs.map (·.1)).length<=n7:=by rw[i8,y9];lia
 refine Ah I.kIn O c.sa c.po n.taker c.hd D R fun J m T=>h _ ?_;have N:∃o,J.get? dx=some o:=let ⟨o,_,_,G,_⟩:=m.ns;{o,G};refine I.write (x:=a) (e:=dx) (by rw[e];exact M6) (.inr t) (fun b q M z=>(T.2 b M).trans z) N ?_;refine {by rw[aX O.ne];exact t,?_,O.ne,m.obj,_,m.ns,fun g=>?_,fun g P=>?_}
 ·have:=uT f y fs;lia
 ·show nF ((gN f y fs).lookup g) (if g=f then some u else B g);rw[uS];by_cases q:g=f
  ·rw[if_pos q,if_pos q];exact S
  ·rw[if_neg q,if_neg q];exact r g
 ·by_cases q:g=f
  ·rw[q];exact (uD f y fs).1
  ·refine (uD f y fs).2 g (D g fun z=>P ?_);show (if g=f then some u else B g)=none;rw[if_neg q];exact z
def aZ.made(I:aZ X ak σ H s):aZ X ak σ (upd (upd H s.heap.objs.size (.own (s.heap.objs.size+1))) (s.heap.objs.size+1) (.ins C s.heap.objs.size []))
  {s with heap:=(s.heap.push Z7).push (ny C s.heap.objs.size)}:=by
 have c:(s.heap.push Z7).get? s.heap.objs.size=some Z7:=r9 s.heap rfl;have t:((s.heap.push Z7).push (ny C s.heap.objs.size)).get? (s.heap.objs.size+1)=some (ny C s.heap.objs.size):=by have:=r9 (s.heap.push Z7) (o:=ny C s.heap.objs.size) rfl;rwa[L3]at this
 have w:(s.heap.push Z7).Ns s.heap.objs.size (fun _=>none):={Z7,#[],_,c,rfl,(fun e B=>absurd B (by simp)),fun _=>rfl}
 have m:=I.laid (a:=s.heap.objs.size) (o:=.own (s.heap.objs.size+1)) (h':=s.heap.push Z7) (t':=s.toks) (fun b u q=>e9 _ q) (j8 _) {_,c};refine m.laid (a:=s.heap.objs.size+1) (o:=.ins C s.heap.objs.size []) (t':=s.toks) (fun b u q=>e9 _ q) (io (L3 _ _)) ?_;have g:s.heap.objs.size≠s.heap.objs.size+1:=u7 (L8 _);refine {by rw[aX g,aC],C9 _,g,t,fun _=>none,(A7.Ns1.of_empty w).at fun o q=>e9 _ q,fun _=>M6,fun y D=>absurd rfl D}
def Dr(c:Q4 e f env (I0 e env)=I0 e env)(h:i6 (j3 prog w) A (I0 e env) (fun o s₁=>i6 (j3 prog w) A (getAttr o f true) Q E s₁) E s):i6 (j3 prog w) A (I0 (.Attribute e f pos) env) Q E s:=
 Attribute_any_ h (by rw[arm_eval_Attribute,c])
end
def Hk(K:v9)(ta:TE)(f:Str):TE:=fun σ H Q=>ta σ H fun x H1=>∃a C dx fs v,x=.ref a/\H1 a=some (.ins C dx fs)/\BY K C/\fI K C f/\fs.lookup f=some v/\Q v H1
def Nw(K:v9)(ta tv:TE)(f:Str):TS:=fun D σ H=>tv σ H fun y H1=>ta σ H1 fun x H2=>∃a C dx fs,x=.ref a/\H2 a=some (.ins C dx fs)/\BY K C/\fI K C f/\fs.length<1000 /\
 D.nx σ (upd H2 a (.ins C dx (gN f y fs)))
section
variable {X:Cx}{o e value:D6}{f:Str}{pos pos':Pos}{ta tv:TE}
def dQ(E:PE X e ta)(D:Q4 e f X.env (I0 e X.env)=I0 e X.env):PE X (.Attribute e f pos) (Hk X.K ta f):=by intro g s M H Q I h;refine Dr D (cZ (E g s M H _ I h) fun u P ⟨x,m,t,J,a,C,N,O,v,B,A,c,n,l,q⟩=>?_);subst B;obtain rfl:u=j9 a:=J;exact KS t A c n l fun S R w G=>{v,m,w,G,q}
def qN(J:PE X o ta)(M:PE X value tv)(hs:ju value (some (.Attribute o f pos')) pos.line X.env=K0 false):PS X (.Assign [.Attribute o f pos'] value pos) (Nw X.K ta tv f):=by intro g s m H D I h;refine plainObj_wpAny_Assign_Attribute (cZ (M g s m H _ I h) fun u R ⟨y,t,w,Q,q⟩=>cZ (J g R m t _ w q) fun N W ⟨x,S,A,P,a,C,T,U,G,E,c,n,l,O⟩=>?_) hs;subst G;obtain rfl:N=j9 a:=P;exact JJ A E c n l Q fun Y B=>{m,_,B,O}
end
section
variable {X:Cx}{ak:List (c8×Obj)}{σ:St}{H:Hp}{s:f9}{A:A2}{E:c7->f9->Prop}{Q:c7->f9->Prop}{c:c7}{b:Bool}
inductive nD (K:v9) (H:Hp):V->c7->Prop where
|non:nD K H .non (.type "NoneType")
|bl (x:Bool):nD K H (.bl x) (.type "bool")
|int (i:Int):nD K H (.int i) (.type "int")
|str (x:Str):nD K H (.str x) (.type "str")
|flt (x:UInt64):nD K H (.flt x) (.type "float")
|lst {a:c8} {xs:List V} (e:H a=some (.lst xs)):nD K H (.ref a) (.type "list")
|frz {a:c8} {o:Obj} {xs:List V} (e:H a=some (.frz o (.lst xs))):nD K H (.ref a) (.type "list")
|tup {a:c8} {xs:List V} (e:H a=some (.tup xs)):nD K H (.ref a) (.type "tuple")
|dK {a:c8} {kvs:List (aR×V)} (e:H a=some (.dK kvs)):nD K H (.ref a) (.type "dict")
|dT {a:c8} {kvs:List (List aR×V)} (e:H a=some (.dT kvs)):nD K H (.ref a) (.type "dict")
|ins {a C dx:c8} {fs:List (Str×V)} (e:H a=some (.ins C dx fs)) (cl:BY K C) (ha:M7 K (.ref C) "__class__"=some (some (.builtin "object.__class__")))
   (hn:PySem.W.specialIn K (.builtin "object.__class__") "__get__"=some (some (.builtin "getset_descriptor.__get__"))) (htk:PySem.W.takesIn K (.builtin "object.__class__")=some true)
   (hm:mroIn K C (.type "object")=some true):nD K H (.ref a) (.ref C)
def RC(I:aZ X ak σ H s)(g:bO x u)(ty:nD X.K H x t)(e:i9 X.K t c=some b)(h:∀tk,Q (.bool b) {s with toks:=tk}):
  i6 (j3 X.prog X.w) A (lc (.builtin "isinstance") [u,c]) Q E s:=by
 cases ty with
|non=>cases (show u=C6 from g);exact dh PySem.W.kitx_none I.kIn M6 e (fun z=>nomatch z) h
|bl y=>cases (show u=rd y from g);exact dh PySem.W.kitx_bool I.kIn M6 e (fun z=>nomatch z) h
|int i=>obtain ⟨t,q⟩:=(show ∃t,u=dk i t from g);cases q;exact dh PySem.W.kitx_int I.kIn M6 e (fun z=>nomatch z) h
|str y=>obtain ⟨t,q⟩:=(show ∃t,u=dj y t from g);cases q;exact dh PySem.W.kitx_str I.kIn M6 e (fun z=>nomatch z) h
|flt y=>obtain ⟨t,q⟩:=(show ∃t,u=wv y t from g);cases q;exact dh PySem.W.kitx_float I.kIn M6 e (fun z=>nomatch z) h
|@lst a D f=>
  cases (show u=j9 a from g);obtain ⟨_,_,n,_,m⟩:=(show cS X.prog X.w H s.heap a (.lst D) from I.hok a _ f)
  exact dh kitx_list I.kIn {_,m,rfl} e (fun z=>nomatch z) h
|@frz a T D f=>
  cases (show u=j9 a from g);obtain ⟨_,_,_,n,_,m⟩:=(show cS X.prog X.w H s.heap a (.frz T (.lst D)) from I.hok a _ f)
  exact dh kitx_list I.kIn {_,m,rfl} e (fun z=>nomatch z) h
|@tup a D f=>
  cases (show u=j9 a from g);obtain ⟨_,_,_,p⟩:=(show cS X.prog X.w H s.heap a (.tup D) from I.hok a _ f)
  obtain ⟨o,m,G,_⟩:=p;exact dh PySem.W.kitx_tuple I.kIn {o,m,G} e (fun z=>nomatch z) h
|@dK a B f=>
  cases (show u=j9 a from g);obtain ⟨_,_,vs,_,p⟩:=(show cS X.prog X.w H s.heap a (.dK B) from I.hok a _ f)
  obtain ⟨o,P,N,m,G,_⟩:=p;exact dh kitx_dict I.kIn {o,m,G.1} e (fun z=>nomatch z) h
|@dT a B f=>
  cases (show u=j9 a from g);obtain ⟨_,_,D,_,o,P,N,m,G,_⟩:=(show cS X.prog X.w H s.heap a (.dT B) from I.hok a _ f)
  exact dh kitx_dict I.kIn {o,m,G.1} e (fun z=>nomatch z) h
|@ins a C U Y f cl R hn M S=>cases (show u=j9 a from g);obtain ⟨Z,O,_⟩:=vO I.hok f;obtain ⟨od,J,_⟩:=O.look;exact dh (PySem.W.kitx_own (cl.get _) cl.hd R hn M S) I.kIn J e (fun z=>nomatch z) h
end
structure eR(k:Nat)(A:A2):Prop where
 hd:A.handled=none
 dp:A.depth+3*k+5<im
 un:A.units+16*k+200<L9
 gd:A.guards=some []
def eR.mono(r:eR k A)(h:j<=k):eR j A:={r.hd,by have:=r.dp;lia,by have:=r.un;lia,r.gd}
def eR.deeper(r:eR (k+1) A)(env:Env):eR k (A.deeper env):=
 {r.hd,by have:=r.dp;show A.depth+1+3*k+5<_;lia,by have:=r.un;show A.units+3+16*k+200<_;lia,r.gd}
def KK{A:A2}{C:c8}{us:List c7}{c:List (Str×c7)}:(A.under (.builtin "type.__call__" {.ref C::us,c})).depth=A.depth+1:=by first|rfl|simp[uy,No.weight,No.isCreation,No.isGuard,No.isCaller,No.frames,wa,guardIds]
def KJ{A:A2}{C:c8}{us:List c7}{c:List (Str×c7)}:(A.under (.builtin "type.__call__" {.ref C::us,c})).units=A.units+1:=by first|rfl|simp[uy,No.cUnits,No.frames,wa]
def eR.make(r:eR (k+1) A)(C:c8)(us:List c7)(c:List (Str×c7)):eR k (A.under (.builtin "type.__call__" {.ref C::us,c})):=
 {r.hd,by have:=r.dp;rw[KK];lia,by have:=r.un;rw[KJ];lia,by rw[←r.gd];rfl}
def eR.depth(r:eR k A):A.depth<im:=by have:=r.dp;lia
def eR.units(r:eR k A):A.units+64<L9:=by have:=r.un;lia
def CD:TA:=fun _ H Q=>Q [] H
def Eo(ta:TE)(tr:TA):TA:=fun σ H Q=>ta σ H fun x H1=>tr σ H1 fun xs H2=>Q (x::xs) H2
section
variable {X:Cx}{e:D6}{es:List D6}{te:TE}{t:TA}{pos:Pos}
def aB:PA X [] CD:=fun _ _ _ _ H Q I h=>S0 {[],H,I,.nil,h}
def aA(w:PE X e te)(A:PA X es t)(hs:m9 (e::es) X.env=(false,I0 e X.env)::m9 es X.env:=by rfl):PA X (e::es) (Eo te t):=by intro pos c s f H Q I h;rw[hs];show i6 _ _ (yl ((false,I0 e X.env)::K9 pos (m9 es X.env))) _ _ s;refine O5 (cZ (w c s f H _ I h) fun u G ⟨x,g,o,D,B⟩=>?_);exact cZ (A pos c G f g _ o B) fun M K ⟨J,m,q,E,C⟩=>{x::J,m,q,.cons D E,C}
def Ms(t:TA):TE:=fun σ H Q=>t σ H fun xs H1=>xs.length<=n7/\∀p,H1 p=none->Q (.ref p) (upd H1 p (.tup xs))
def PY(t:TA):TE:=fun σ H Q=>t σ H fun xs H1=>xs.length<=n7/\∀p,H1 p=none->Q (.ref p) (upd H1 p (.lst xs))
def bB{x1}(h:PA X es t):PE X (.Tuple es x1 pos) (Ms t):=by intro c s C H Q I w;refine wpAny_Tuple_spliced (cZ (h pos c s C H _ I w) fun A f ⟨B,g,m,r,z,q⟩=>{by rw[←r.length];exact z,?_});have o:g f.heap.objs.size=none:=m.hok.fresh (j8 _);refine {.ref f.heap.objs.size,upd g f.heap.objs.size (.tup B),m.laid (t':=f.toks) (fun b u e=>e9 _ e) (j8 _) ?_,rfl,q _ o};exact {{z,_,r9 _ rfl,rfl},A,r,{_,r9 _ rfl,rfl,_,rfl}}
def bQ(h:PA X es t):PE X (.List es pos) (PY t):=by intro c s C H Q I w;refine wpAny_List_spliced (cZ (h pos c s C H _ I w) fun A f ⟨B,g,m,r,z,q⟩=>{by rw[←r.length];exact z,?_});have o:g f.heap.objs.size=none:=m.hok.fresh (j8 _);refine {.ref f.heap.objs.size,upd g f.heap.objs.size (.lst B),m.laid (t':=f.toks) (fun b u e=>e9 _ e) (j8 _) ?_,rfl,q _ o};exact {z,A,0,r,r9 _ rfl}
end
abbrev Sp:=List V->Hp->VK->XK->Prop
abbrev BZ:=List Env->Hp->f9->XK->c7->f9->Prop
structure ET(P:m7)(w:y6)(K:v9)(mg:Str->Option c7)(base:A7)(A:A2)(outer:List Env)(s:f9)(H:Hp):Prop where
 frames:A.frames=some outer
 mod:Mod K mg base
 bs:∀b o,base.get? b=some o->s.heap.get? b=some o/\H b=none
 bsz:base.objs.size<=s.heap.objs.size
 funs:s.heap.FunFrames base outer
 frf:∀b∈nV outer,H b=none
 hok:lS P w H s.heap
 bare:jd s.gens
def CE(outer:List Env)(P:m7)(w:y6)(H:Hp)(s:f9)(Q:VK)(u:c7)(s':f9):Prop:=
 ∃v H',s'.os=s.os/\jd s'.gens/\Un (nV outer) [] H H' s.heap s'.heap/\lS P w H' s'.heap/\bO v u/\Q v H'
def CR(CX:BZ)(outer:List Env)(P:m7)(w:y6)(H:Hp)(s:f9)(Q:VK)(E:XK)(r:Result)(s':f9):Prop:=
 match r with
|.ok (.ret u)=>CE outer P w H s Q u s'
|.ok _=>False
|.error e=>CX outer H s E e s'
structure nG(P:m7)(w:y6)(K:v9)(mg:Str->Option c7)(base:A7)(CX:BZ)(k:Nat)(f:c8)(fd:K6)(ps:List Str)(sp:Sp):Prop where
 len:∀vs H Q E,sp vs H Q E->vs.length=ps.length
 run:∀ (A:A2) (outer:List Env) (s:f9)(H:Hp)(args:Args)(us:List c7)(vs:List V)(Q:VK)(E:XK),eR k A->ET P w K mg base A outer s H->W6 s fd args (ps.zip us)->bU vs us->sp vs H Q E ->
  T5 (j3 P w) A (.call (.ref f) args) (CR CX outer P w H s Q E) s
def nG.mono{P:m7}{w:y6}{K:v9}{q:Str->Option c7}{c:A7}{CX:BZ}{j k:Nat}{f:c8}{o:K6}{ps:List Str}{sp:Sp}(F:nG P w K q c CX j f o ps sp)(h:j<=k):
  nG P w K q c CX k f o ps sp:={F.len,fun A g s H m B C Q E t=>F.run A g s H m B C Q E (t.mono h)}
def ET.make{P:m7}{w:y6}{K:v9}{g:Str->Option c7}{f:A7}{A:A2}{c:List Env}{s:f9}{H:Hp}(e:ET P w K g f A c s H)(C:c8)(us:List c7)(m:List (Str×c7)):
  ET P w K g f (A.under (.builtin "type.__call__" {.ref C::us,m})) c s H:={by first|exact e.frames|(simpa[uy,No.envs,wa,pushEnvs] using e.frames),e.mod,e.bs,e.bsz,e.funs,e.frf,e.hok,e.bare}
section
variable {X:Cx}{ak:List (c8×Obj)}{σ:St}{H:Hp}{s s':f9}
def aZ.env0(I:aZ X ak σ H s):ET X.prog X.w X.K X.mg X.base X.A X.stack s H:=
 {I.ok.frames,I.ok.mod,I.bs,A5 I.ok.bsz I.sz,I.stack,I.stkFree,I.hok,I.bare}
def aZ.after(I:aZ X ak σ H s)(h:CE X.stack X.prog X.w H s Q u s'):EP X ak σ Q u s':=by obtain ⟨v,o,B,c,un,f,r,q⟩:=h;obtain ⟨A,g,d,t,m⟩:=s';obtain rfl:m=s.os:=B;exact {v,o,I.call (h':=A) (g':=g) (d':=d) (t':=t) (ch:=[]) un f c (fun b z=>absurd z (by simp)),r,q}
end
def FH(sp:Sp)(dvs:List V)(E:XK)(t:TA):TE:=fun σ H Q=>t σ H fun vs H1=>sp (vs++dvs) H1 Q E
def FF(C:c8)(m:Str)(sp:Sp)(dvs:List V)(E:XK)(ta:TE)(t:TA):TE:=fun σ H Q=>ta σ H fun x H1=>∃a dx fs,x=.ref a/\H1 a=some (.ins C dx fs)/\fs.lookup m=none /\
 t σ H1 fun vs H2=>sp (x::(vs++dvs)) H2 Q E
def LV(C:c8)(sp:Sp)(dvs:List V)(E:XK)(t:TA):TE:=fun σ H Q=>t σ H fun vs H1=>∀x dx,H1 x=none->H1 dx=none->dx≠x ->
 sp (.ref x::(vs++dvs)) (upd (upd H1 dx (.own x)) x (.ins C dx [])) (fun v H2=>v=.non/\Q (.ref x) H2) E
def iC(K:v9)(fd:K6)(ps:List Str)(ds:List c7):Prop:=
 ∀(s:f9)(us:List c7),K.In s.heap->(us++ds).length=ps.length->W6 s fd {us,[]} (ps.zip (us++ds))
def iC.all{K:v9}{c:K6}{ps:List Str}(h:∀us:List c7,us.length=ps.length->wt c {us,[]}=K0 (ps.zip us)):iC K c ps []:=fun s us _ f=>by rw[L0]at f ⊢;exact .of_eq (h us f)
def iN(CX:BZ)(X:Cx)(E:XK):Prop:=∀(ak:List (c8×Obj)) (σ:St) (H:Hp) (s:f9) (e:c7) (s':f9),aZ X ak σ H s->CX X.stack H s E e s'->X.xe e s'
section
variable {X:Cx}{CX:BZ}{k:Nat}{f C:c8}{fd:K6}{ps:List Str}{sp:Sp}{dvs:List V}{ds:List c7}{E:XK}{x m:Str}{p pos a7:Pos}{e o:D6}{es:List D6}{ta:TE}{t:TA}
def JP(F:nG X.prog X.w X.K X.mg X.base CX k f fd ps sp)(J:eR k X.A)(B:iC X.K fd ps ds)(D:bU dvs ds)(M:iN CX X E)(I:aZ X ak σ H s)(r:bU vs us)(h:sp (vs++dvs) H Q E):i6 (j3 X.prog X.w) X.A (lc (.ref f) us) (EP X ak σ Q) X.xe s:=by
 have g:bU (vs++dvs) (us++ds):=r.append D;have G:(us++ds).length=ps.length:=by rw[←g.length];exact F.len _ _ _ _ h
 refine ki (W5 (F.run X.A X.stack s H {us,[]} (us++ds) (vs++dvs) Q E J I.env0 (B s us I.kIn G) g h) fun r N c=>?_);cases r with
|error e=>exact M ak σ H s e N I c
|ok q=>
  cases q with
 |ret u=>exact I.after c
 |next=>exact D9 c
 |brk=>exact D9 c
 |cont=>exact D9 c
def OJ(F:nG X.prog X.w X.K X.mg X.base CX k f fd ps sp)(R:eR k X.A)(O:Gl X x)(P:X.mg x=some (.ref f))(hk:B3 X.K (.ref f)=true)(J:iC X.K fd ps ds)(M:bU dvs ds)(S:iN CX X E)(G:PA X (e::es) t)(g:(x==("__debug__":Str))=false:=by decide)(N:m9 (e::es) X.env=(false,I0 e X.env)::m9 es X.env:=by rfl)(B:(K9 pos (m9 es X.env)).any (·.1)=false:=by rfl):
  PE X (.Call (.Name x p) (e::es) [] pos) (FH sp dvs E t):=by
 intro c s T H Q I h;refine P5 (pO I O P ?_ g);refine Z9 (h₀:=X.base) I.ok.mod.kin hk (cZ (G pos c s T H _ I h) fun Z Y ⟨vs,U,D,r,q⟩=>{D.kIn,?_}) N B;exact JP F R J M S D r q
def Bp(he:PE X o ta)(c:BY X.K C)(M:ZF X.K C m f)(F:nG X.prog X.w X.K X.mg X.base CX k f fd ps sp)(hr:eR k X.A)(Y:iC X.K fd ps ds)(Z:bU dvs ds)(hx:iN CX X E)(U:PA X (e::es) t)(D:m9 (e::es) X.env=(false,I0 e X.env)::m9 es X.env:=by rfl)(B:(K9 pos (m9 es X.env)).any (·.1)=false:=by rfl)
  (ht:I0 (.Call (.Attribute o m a7) (e::es) [] pos) X.env=(do
   let ov ←I0 o X.env
   ko a7.atName
   let (f,first) ←ja [ov] (jx ov m pl)
   rc pos f first (K9 pos (m9 (e::es) X.env)) (ip pos (V7 [] X.env))):=by rfl) :
  PE X (.Call (.Attribute o m a7) (e::es) [] pos) (FF C m sp dvs E ta t):=by
 intro g s P H Q I h;refine uv (pl:=pl) (cZ (he g s P H _ I h) fun u s1 ⟨x,R,G,rx,a,dx,fs,T,S,l,q⟩=>?_) ht;subst T;obtain rfl:u=j9 a:=rx;refine qY G S c M l ?_;refine Z9 (first:=[.ref a]) (h₀:=X.base) I.ok.mod.kin M.kp (cZ (U pos g s1 P R _ G q) fun N s2 ⟨O,H2,J,r,q2⟩=>{J.kIn,?_}) D B;exact JP (us:=.ref a::N) (vs:=.ref a::O) F hr Y Z hx J (.cons rfl r) q2
def WD(O:PE X o ta)(c:BY X.K C)(D:ZF X.K C m f)(F:nG X.prog X.w X.K X.mg X.base CX k f fd ps sp)(P:eR k X.A)(M:iC X.K fd ps ds)(N:bU dvs ds)(S:iN CX X E)
  (R:I0 (.Call (.Attribute o m a7) [] [] pos) X.env=(do
   let ov ←I0 o X.env
   ko a7.atName
   let (f,first) ←ja [ov] (jx ov m pl)
   rc pos f first (K9 pos (m9 [] X.env)) (ip pos (V7 [] X.env))):=by rfl) :
  PE X (.Call (.Attribute o m a7) [] [] pos) (FF C m sp dvs E ta CD):=by
 intro g s U H Q I h;refine uv (pl:=pl) (cZ (O g s U H _ I h) fun u s1 ⟨x,Y,B,T,a,Z,fs,J,G,l,q⟩=>?_) R;subst J;obtain rfl:u=j9 a:=T;refine qY B G c D l ?_;exact PySem.W.callWith_K0 (first:=[.ref a]) B.kIn D.kp (JP (us:=[.ref a]) (vs:=[.ref a]) F P M N S B (.cons rfl .nil) q)
structure Mk(K:v9)(C f:c8):Prop where
 makes:og K C=true
 init:M7 K (.ref C) "__init__"=some (some (.ref f))
 fn:uh K (.ref f)=true
 kp:B3 K (.ref C)=true
def UY(M:Mk X.K C f)(F:nG X.prog X.w X.K X.mg X.base CX k f fd ps sp)(S:eR (k+1) X.A)(O:iC X.K fd ps ds)(P:bU dvs ds)(T:iN CX X E)(I:aZ X ak σ H s)(r:bU vs us)(h:∀x dx,H x=none->H dx=none->dx≠x->sp (.ref x::(vs++dvs)) (upd (upd H dx (.own x)) x (.ins C dx [])) (fun v H2=>v=.non/\Q (.ref x) H2) E):
  i6 (j3 X.prog X.w) X.A (lc (.ref C) us) (EP X ak σ Q) X.xe s:=by
 have q:=h (s.heap.objs.size+1) s.heap.objs.size (I.hok.fresh (U9 _)) (I.hok.fresh (j8 _)) (u7 (L8 _));have g:=aZ.made (C:=C) I;have B:bU (V.ref (s.heap.objs.size+1)::(vs++dvs)) (j9 (s.heap.objs.size+1)::(us++ds)):=.cons rfl (r.append P);have R:(j9 (s.heap.objs.size+1)::us++ds).length=ps.length:=by have e:=B.length;rw[F.len _ _ _ _ q]at e;exact e.symm
 refine ki (XC (f:=f) I.kIn M.makes M.init (beq_iff_eq.mp M.fn) (W5 (F.run _ X.stack _ _ {j9 (s.heap.objs.size+1)::us,[]} (j9 (s.heap.objs.size+1)::(us++ds)) _ _ E (S.make C us [])
  (g.env0.make C us []) (O _ (j9 (s.heap.objs.size+1)::us) g.kIn R) B q) fun r W c=>?_))
 cases r with
|error e=>exact T ak σ _ _ e W g c
|ok N=>
  cases N with
 |ret u=>
   obtain ⟨v,D,G,rv,J,U⟩:=g.after c;subst J;exact {rv,{V.ref (s.heap.objs.size+1),D,G,rfl,U}}
 |next=>exact D9 c
 |brk=>exact D9 c
 |cont=>exact D9 c
def Bq(M:Mk X.K C f)(F:nG X.prog X.w X.K X.mg X.base CX k f fd ps sp)(S:eR (k+1) X.A)(P:Gl X x)(R:X.mg x=some (.ref C))(J:iC X.K fd ps ds)(N:bU dvs ds)(T:iN CX X E)(G:PA X (e::es) t)(g:(x==("__debug__":Str))=false:=by decide)(O:m9 (e::es) X.env=(false,I0 e X.env)::m9 es X.env:=by rfl)(B:(K9 pos (m9 es X.env)).any (·.1)=false:=by rfl):
  PE X (.Call (.Name x p) (e::es) [] pos) (LV C sp dvs E t):=by
 intro c s U H Q I h;refine P5 (pO I P R ?_ g);refine Z9 (h₀:=X.base) I.ok.mod.kin M.kp (cZ (G pos c s U H _ I h) fun us Z ⟨vs,Y,D,r,q⟩=>{D.kIn,?_}) O B;exact UY M F S J N T D r q
end
def PK(X:Cx)(kws:List li)(t:TA):Prop:=
 ∀(pos:Pos)(ak:List (c8×Obj)) (s:f9) (σ:St) (H:Hp) (Q:List V->Hp->Prop),aZ X ak σ H s->t σ H Q->i6 (j3 X.prog X.w) X.A (evalAll ((ip pos (V7 kws X.env)).map (·.2))) (AP X ak σ Q) X.xe s
structure aM(N P:List Str)(sc:X1):Prop where
 kind:sc.kind=.function
 co:sc.isCoroutine=false
 gen:sc.isGenerator=false
 nd:N.Nodup
 pre:N.take P.length=P
 par:∀x∈P,sc.names.lookup x=some .local∨sc.names.lookup x=some .cell
 nofree:∀y∈sc.names,y.2≠.free
theorem BS{kindOf:Str->Option el}:∀{c:List (Str×c7)}{m:Str->Option c7},(∀v,(x,v)∉c)->yd kindOf c m x=m x
|[],_,_=>rfl
|(n,v)::r,m,h=>by
  unfold yd;rw[BS fun w f=>h w (B4 _ f)];split
  ·have:x≠n:=by rintro rfl;exact h v J1
   simp[this]
  ·rfl
theorem BU{kindOf:Str->Option el}:∀{c:List (Str×c7)}{m:Str->Option c7},(∀v,(x,v)∉c)->ye kindOf c m x=m x
|[],_,_=>rfl
|(n,v)::r,m,h=>by
  unfold ye;rw[BU fun w f=>h w (B4 _ f)];split
  ·rfl
  ·have:x≠n:=by rintro rfl;exact h v J1
   simp[this]
theorem BT{kindOf:Str->Option el}:∀{P:List Str}{vs:List c7}{i:Nat}{m:Str->Option c7},P.Nodup->P[i]?=some x->vs[i]?=some v->kindOf x=some .local ->
  yd kindOf (P.zip vs) m x=some v
|[],_,_,_,_,h,_,_=>by simp at h
|_::_,[],_,_,_,_,h,_=>by simp at h
|p::P,w::vs,0,m,g,c,f,hk=>by
  simp at c f;subst c;subst f;show yd kindOf ((p,w)::P.zip vs) m p=_;unfold yd;rw[BS fun v o=>(V4.mp g).1 (wl o).1,if_pos hk];simp
|p::P,w::vs,i+1,m,g,c,f,hk=>by show yd kindOf ((p,w)::P.zip vs) m x=_;unfold yd;exact BT (i:=i) (V4.mp g).2 (by simpa using c) (by simpa using f) hk
theorem BV{kindOf:Str->Option el}:∀{P:List Str}{vs:List c7}{i:Nat}{m:Str->Option c7},P.Nodup->P[i]?=some x->vs[i]?=some v->kindOf x≠some .local ->
  ye kindOf (P.zip vs) m x=some v
|[],_,_,_,_,h,_,_=>by simp at h
|_::_,[],_,_,_,_,h,_=>by simp at h
|p::P,w::vs,0,m,g,c,f,hk=>by
  simp at c f;subst c;subst f;show ye kindOf ((p,w)::P.zip vs) m p=_;unfold ye;rw[BU fun v o=>(V4.mp g).1 (wl o).1,if_neg hk];simp
|p::P,w::vs,i+1,m,g,c,f,hk=>by show ye kindOf ((p,w)::P.zip vs) m x=_;unfold ye;exact BV (i:=i) (V4.mp g).2 (by simpa using c) (by simpa using f) hk
noncomputable def start(N:List Str)(vs:List V):St:=vs.map some++B6 (N.length-vs.length) none
noncomputable def oZ(CX:BZ)(P:m7)(w:y6)(K:v9)(mg:Str->Option c7)(base:A7)(N:List Str)(qual:Str)(scope:X1)(f:c8)(cd:c7)(A:A2)(outer:List Env)(s:f9)(H:Hp)(E:XK):Cx where
 prog:=P
 w:=w
 K:=K
 mg:=mg
 base:=base
 A:=A.deeper (W7 qual scope s.heap.objs.size f cd)
 N:=N
 s₀:=s
 H₀:=H
 env:=W7 qual scope s.heap.objs.size f cd
 outer:=outer
 stack:=W7 qual scope s.heap.objs.size f cd::outer
 ex:=[]
 calm:=true
 fn:=fun _=>true
 pn:=[]
 xe:=fun e s'=>i6 (j3 P w) (A.deeper (W7 qual scope s.heap.objs.size f cd)) (yu (W7 qual scope s.heap.objs.size f cd) e) (fun _ s''=>CX outer H s E e s'') (fun e' s''=>CX outer H s E e' s'') s'
def IR{sc:X1}{n:Nat}{x:Str}(h:sc.names.lookup x=some .cell):∃c,(yc n sc.names []).lookup x=some c:=by have q:=wo sc.names n [] (.inl h);exact Option.isSome_iff_exists.mp q
def BJ{CX:BZ}{P:m7}{w:y6}{K:v9}{Q:Str->Option c7}{B:A7}{N ps:List Str}{o:Str}{g:X1}{f:c8}{J:c7}{A:A2}{m:List Env}{s T:f9}{H:Hp}{E:XK}{us:List c7}{vs:List V}(S:aM N ps g)(W:A.handled=none)(C:ET P w K Q B A m s H)(Z:vs.length=ps.length)(r:bU vs us)(x:InCallC s s.heap.objs.size (yd (W7 o g s.heap.objs.size f J).kindOf (ps.zip us) fun _=>none) (yc (s.heap.objs.size+1) g.names []) (ye (W7 o g s.heap.objs.size f J).kindOf (ps.zip us) fun _=>none) T):
  aZ (oZ CX P w K Q B N o g f J A m s H E) [] (start N vs) H T:=by
 have X:ps.length<=N.length:=by have:=congrArg Z6 S.pre;rw[dy]at this;lia
 obtain ⟨M,tk,rfl,hk⟩:=x.done;have G:∀b:c8,b∉(oZ CX P w K Q B N o g f J A m s H E).ex:=fun b z=>absurd (show b∈([]:List c8) from z) (by simp);refine {{C.mod,S.kind,rfl,rfl,j8 _,fun y z c M t=>?_,fun y D=>?_,fun y c _ h=>?_,fun _=>W,wb C.frames,.inr {rfl,rfl},fun b z=>absurd z (G b),C.bs,C.bsz,fun b _ _=>G b,fun b z=>absurd z (G b),C.funs,C.frf},
  rfl,C.bare,Un.kept hk,{_,x.toInCall.ns,fun i y v M t Y=>?_},fun y c h=>{_,x.cell y c h},C.hok.fresh (j8 _),fun y c h=>?_,fun p hp=>absurd (show p∈([]:List (c8×Obj)) from hp) (by simp),C.hok.kept hk,?_}
 ·exact name_of_addr x.apart (V2 M) (V2 t)
 ·have D:g.names.lookup y=some .cell∨g.names.lookup y=some .free:=D;rcases D with D|D
  ·exact IR D
  ·exact absurd rfl (S.nofree _ (V2 D))
 ·exact V6 (x.above y c (V2 h))
 ·have O:i<vs.length:=by
   unfold start at t;by_cases O:i<vs.length
   ·exact O
   ·rw[L5 (by simpa using O)]at t;rw[vd]at t;split at t <;> cases t
  have U:vs[i]?=some v:=by
   unfold start at t;rw[P0 (by simpa using O),m5]at t;cases e:vs[i]? with
  |none=>rw[e]at t;cases t
  |some a=>rw[e]at t;cases t;rfl
  obtain ⟨u,R,rv⟩:=r.get U;have hp:ps[i]?=some y:=by rw[←S.pre,List.getElem?_take_of_lt (by lia)];exact M
  have I:ps.Nodup:=by rw[←S.pre];exact S.nd.sublist (yi _ _)
  refine {u,rv,?_};rcases S.par y (o0 hp) with k|k
  ·exact .inl {k,BT I hp R k}
  ·obtain ⟨c,e⟩:=IR (n:=s.heap.objs.size+1) k;refine .inr {.inl k,c,e,?_};have q:=x.cell y c e;rw[BV I hp R (by show g.names.lookup y≠_;rw[k];decide)]at q;exact q
 ·exact C.hok.fresh (V6 (x.above y c (V2 h)))
 ·unfold start;show _=N.length;rw[q4,i8,O9];lia
def BM{CX:BZ}{P:m7}{w:y6}{K:v9}{mg:Str->Option c7}{C:A7}{k:Nat}{f:c8}{name m:Str}{D:yf}{G:List D4}{c:X1}{dV kV T pm B ct oc:c7}{an od:Option c8}{c':Array (Option c7)}{N ps:List Str}{sp:Sp}(lk:K.lookup f=some {oc,od,.func (gr name m D G c dV kV T pm an B ct),c'})(a':D8 K B m=true)(S:aM N ps c)(Z:∀vs H Q E,sp vs H Q E->vs.length=ps.length)
  (O:∀ (A:A2)(g:List Env)(s:f9)(H:Hp)(vs:List V)(Q:VK)(E:XK),eR k (A.deeper (W7 m c s.heap.objs.size f B))->sp vs H Q E ->
   ∃t,yW (oZ CX P w K mg C N m c f B A g s H E) G t/\t {nx:=fun _ H'=>Q .non H',rt:=Q} (start N vs) H) :
  nG P w K mg C CX (k+1) f (gr name m D G c dV kV T pm an B ct) ps sp:=by
 refine {Z,fun A g s H d' us vs Q E hr U hb r Y=>?_};have hl:=Z _ _ _ _ Y;have KX:K.In s.heap:=U.mod.kin.keeps fun b o e=>(U.bs b o e).1;have b':s.heap.NoLimit:=U.mod.nolimit.keeps fun b o e=>(U.bs b o e).1;have R:∀y∈ps.zip us,c.names.lookup y.1=some .local∨(c.names.lookup y.1=some .cell/\((yc (s.heap.objs.size+1) c.names []).lookup y.1).isSome=true):=fun ⟨n,v⟩ hy=>by
  rcases S.par n (wl hy).1 with q|q
  ·exact .inl q
  ·exact .inr {q,wo _ _ _ (.inl q)}
 refine zl hr.depth (KX _ _ lk) rfl S.co S.gen rfl (codeRec_of KX a') (hb _ _ _ _ ?_);refine we S.kind R fun e' he s1 x=>?_;subst he;refine {b'.keeps x.toInCall.keep,codeAny_func ?_};obtain ⟨t,ht,hq⟩:=O A g s H vs Q E (hr.deeper _) Y;have I:aZ (oZ CX P w K mg C N m c f B A g s H E) [] (start N vs) H s1:=BJ S hr.hd U hl r x;refine C4 (ht [] s1 (start N vs) H _ I hq) (fun fl s' hs=>?_) fun e s' hs=>hs;have X:∀{M:St}{H':Hp}{v:V}{u:c7},aZ (oZ CX P w K mg C N m c f B A g s H E) [] M H' s'->bO v u->Q v H'->CE g P w H s Q u s':=
  fun {M H' v u} J rv q=>{v,H',J.os,J.bare,J.base,J.hok,rv,q}
 cases fl with
|ret u=>
  obtain ⟨v,M,H',J,rv,q⟩:=hs;exact X J rv q
|next=>
  obtain ⟨M,H',J,q⟩:=hs;exact X (v:=V.non) (u:=C6) J rfl q
|brk=>
  obtain ⟨_,_,_,q⟩:=hs;exact D9 q
|cont=>obtain ⟨_,_,_,q⟩:=hs;exact D9 q
section
variable {X:Cx}{x:Str}{p pos:Pos}{e:D6}{es:List D6}{t:TA}{id T:String}{r:List V->Hp->VK->Prop}
def Rp(r:List V->Hp->VK->Prop)(t:TA):TE:=fun σ H Q=>t σ H fun vs H1=>r vs H1 Q
def aP(A:fO X (.builtin id) r)(C:Gl X x)(D:X.mg x=none)(E:B9 x=some (.builtin id))(w:PA X (e::es) t)(hn:x≠"__name__":=by decide)(f:(x==("__debug__":Str))=false:=by decide)(B:m9 (e::es) X.env=(false,I0 e X.env)::m9 es X.env:=by rfl)(g:(K9 pos (m9 es X.env)).any (·.1)=false:=by rfl):PE X (.Call (.Name x p) (e::es) [] pos) (Rp r t):=by intro c s m H Q I h;refine P5 (kX I C D E ?_ hn f);exact PyProof.Rows.callWith_builtin1 (cZ (w pos c s m H _ I h) fun M K ⟨N,o,q,J,G⟩=>A c K m o N M Q q J G) B g
def jI(A:fO X (.type T) r)(C:Gl X x)(D:X.mg x=none)(E:B9 x=some (.type T))(w:PA X (e::es) t)(hn:x≠"__name__":=by decide)(f:(x==("__debug__":Str))=false:=by decide)(B:m9 (e::es) X.env=(false,I0 e X.env)::m9 es X.env:=by rfl)(g:(K9 pos (m9 es X.env)).any (·.1)=false:=by rfl):PE X (.Call (.Name x p) (e::es) [] pos) (Rp r t):=by intro c s m H Q I h;refine P5 (kX I C D E ?_ hn f);exact E9 (cZ (w pos c s m H _ I h) fun M K ⟨N,o,q,J,G⟩=>A c K m o N M Q q J G) B g
end
end L2
namespace HT
open PySem PyProof.Rows
section
open PySem.SeqAt
open PySem.AutoSeq1 (wpAny_loadPart')
open PySem.MeetsSeq PySem.MeetsSeq2 PySem.MeetsSeq3
end
section
variable {prog:m7}{w:y6}{A:A2}{E:c7->f9->Prop}{s:f9}
def cat_tup(P:xc s.heap t vs.toArray)(O:xc s.heap b ws.toArray)(J:vs≠[])(M:ws=[]->Q (.ref t) s)(N:ws≠[]->Q (.ref s.heap.objs.size) {s with heap:=s.heap.push {cls:=.type "tuple",data:=.seq (vs++ws).toArray}})(hsz:vs.length+ws.length<=n7):i6 (j3 prog w) A (R3 .Add (.ref t) (.ref b)) Q E s:=by
 obtain ⟨⟨cls,G,data,K⟩,q,H,n,I⟩:=id P;obtain ⟨⟨D,f,C,o⟩,c,g,n2,m⟩:=id O;simp only at H I g m;subst H I g m;have e:vs.toArray++ws.toArray=(vs++ws).toArray:=by simp
 by_cases B:ws=[]
 ·exact concat_meets {_,q,rfl} {_,c,rfl} noFill_tuple_add seq_tuple_add slot_tuple_add rp (rf _ _)
   (tuple_addW1 t b vs.toArray ws.toArray n n2 G f K o (by simpa using J) (by simp[B])) {q,c,M B}
 ·refine concat_meets {_,q,rfl} {_,c,rfl} noFill_tuple_add seq_tuple_add slot_tuple_add rp (rf _ _)
   (tuple_addW2 t b vs.toArray ws.toArray n n2 G f K o (by simpa using J) (by simpa using B) (by rw[m6,m6];exact hsz)) {q,c,?_}
  rw[e];exact N B
end
end HT
namespace L2
open PySem PySem.Spec PyProof.Rows
abbrev TO:=St->Hp->(Option Int->Hp->Prop)->Prop
def PO(X:Cx)(e:Option D6)(t:TO):Prop:=
 ∀(ak:List (c8×Obj)) (s:f9) (σ:St) (H:Hp) (Q:Option Int->Hp->Prop),aZ X ak σ H s->t σ H Q ->
  i6 (j3 X.prog X.w) X.A (evalPart e X.env) (fun u s'=>∃o H',aZ X ak σ H' s'/\IsPart u o/\Q o H') X.xe s
def LU:TO:=fun _ H Q=>Q none H
def Ef(t:TE):TO:=fun σ H Q=>t σ H fun x H1=>∃i,x=.int i/\Q (some i) H1
section
variable {X:Cx}{e:D6}{te:TE}{lo hi:Option D6}{tl th:TO}{pos p2:Pos}
def OD:PO X none LU:=by intro c s f H Q I h;rw[xu];exact i0 {none,H,I,.none,h}
def OC(h:PE X e te):PO X (some e) (Ef te):=by intro c s A H Q I m;rw[evalPart_some];refine cZ (h c s A H _ I m) fun u B ⟨x,f,g,w,o⟩=>?_;obtain ⟨i,rfl,q⟩:=o;obtain ⟨t,rfl⟩:=w;exact {some i,f,g,.int i t,q}
def Uj(X:Cx)(r:V->Option Int->Option Int->Hp->VK->Prop):Prop:=
 ∀(ak:List (c8×Obj)) (s:f9) (σ:St) (H:Hp) (x:V) (v vl vu:c7) (lo hi:Option Int) (sl:c8) (Q:VK),aZ X ak σ H s->bO x v->s.heap.IsSliceOf sl vl vu .none->IsPart vl lo->IsPart vu hi->r x lo hi H Q ->
  ∃T id,kj (.type T) "__getitem__"=K0 (some (.builtin id))/\s.TypeIs v T/\i6 (j3 X.prog X.w) X.A (qr v (.ref sl)) (EP X ak σ Q) X.xe s
def Tz(r:V->Option Int->Option Int->Hp->VK->Prop)(te:TE)(tl th:TO):TE:=fun σ H Q=>te σ H fun x H1=>tl σ H1 fun l H2=>th σ H2 fun u H3=>r x l u H3 Q
def HH(P:Uj X r)(M:PE X e te)(O:PO X lo tl)(S:PO X hi th):PE X (.Subscript e (.Slice lo hi none p2) pos) (Tz r te tl th):=by intro c s g H Q I h;refine qe (cZ (M c s g H _ I h) fun v s1 ⟨x,B,D,r1,Y⟩=>?_);refine wpAny_Slice (cZ (O c s1 g B _ D Y) fun m s2 ⟨l,C,E,U,Z⟩=>cZ (S c s2 g C _ E Z) fun o f ⟨u,t,G,W,q3⟩=>?_);rw[xu];refine i0 ?_;have J:aZ X c g t {f with heap:=f.heap.push {cls:=.type "slice",data:=.fields #[m,o,.none]}}:=G.kept (t':=f.toks) fun b ob q=>e9 _ q;obtain ⟨T,id,K,R,N⟩:=P c {f with heap:=f.heap.push {cls:=.type "slice",data:=.fields #[m,o,.none]}} g t x v m o l u f.heap.objs.size Q J r1 (A7.IsSliceOf.new ..) U W q3;show i6 (j3 X.prog X.w) X.A (xq e (.Slice lo hi none p2) v (.ref f.heap.objs.size)) (EP X c g Q) X.xe {f with heap:=f.heap.push {cls:=.type "slice",data:=.fields #[m,o,.none]}};exact tail_any (ops:=[.ref f.heap.objs.size,v]) R K N (by with_unfolding_all rfl)
def Fz(K:v9):R2:=fun x y H Q=>∃a b xs ys,x=.ref a/\y=.ref b/\EN K H a xs/\EN K H b ys/\xs≠[]/\xs.length+ys.length<=n7 /\
 (ys=[]->Q (.ref a) H)/\(ys≠[]->∀p,H p=none->Q (.ref p) (upd H p (.tup (xs++ys))))
def bU.nil_iff(r:bU xs us):us=[]↔xs=[]:=by
 cases r with
|nil=>simp
|cons _ _=>simp
def Bv:kK X (R3 .Add) (Fz X.K):=by intro t s S H x y v u Q I M N h;obtain ⟨a,b,O,P,rfl,rfl,A,B,C,g,G,J⟩:=h;cases M;cases N;obtain ⟨D,f,E,_⟩:=I.tuple A;obtain ⟨m,c,p2,_⟩:=I.tuple B;refine HT.cat_tup E p2 (fun z=>C (f.nil_iff.mp z)) (fun z=>{.ref a,H,I,rfl,G (c.nil_iff.mp z)}) (fun z=>?_) (by rw[←f.length,←c.length];exact g);refine {.ref s.heap.objs.size,_,I.laid (t':=s.toks) (o:=.tup (O++P)) (fun b R q=>e9 _ q) (j8 _) ?_,rfl,J (fun w=>z (c.nil_iff.mpr w)) _ (I.hok.fresh (j8 _))};exact {{by rw[q4];exact g,_,r9 _ rfl,rfl},_,f.append c,xc.new _ _}
end
noncomputable def Mg(n:Nat)(i:Int):Option Nat:=if 0<=i then (if i<n then some i.toNat else none) else if -(n:Int)<=i then some (i+n).toNat else none
def vD{α:Type}(xs:List α)(i:Int):Option α:=(Mg xs.length i).bind fun j=>xs[j]?
def Ct(h:Mg n i=some j):seqIndex? i n=some j/\j<n/\-(n:Int)<=i/\i<n:=by
 unfold Mg at h;by_cases f:0<=i
 ·rw[if_pos f]at h;by_cases c:i<n
  ·rw[if_pos c]at h;have e:i.toNat=j:=j5 h;exact {by rw[seqIndex_of f c,e],by lia,by lia,c}
  ·rw[if_neg c]at h;cases h
 ·rw[if_neg f]at h;by_cases c:-(n:Int)<=i
  ·rw[if_pos c]at h;have e:(i+n).toNat=j:=j5 h;exact {by rw[seqIndex_neg (by lia) c,e],by lia,c,by lia}
  ·rw[if_neg c]at h;cases h
def EJ{c:Type}{xs:List c}{i:Int}{v:c}(h:vD xs i=some v):∃j,seqIndex? i xs.length=some j/\xs[j]?=some v/\j<xs.length/\-(xs.length:Int)<=i/\i<xs.length:=by
 unfold vD at h;cases e:Mg xs.length i with
|none=>rw[e]at h;cases h
|some j=>rw[e]at h;obtain ⟨f,g,m,o⟩:=Ct e;exact {j,f,h,g,m,o}
def fZ{c:Type}{xs:List c}{j:Nat}{v:c}(h:xs[j]?=some v):vD xs (j:Int)=some v:=by
 have f:j<xs.length:=(h8.mp h).1;have e:Mg xs.length (j:Int)=some j:=by unfold Mg;rw[if_pos (by lia),if_pos (by lia)];simp
 unfold vD;rw[e];exact h
def Dw(b:D6):Prop:=∀o i,uq b false o i=operate [o,i] (qr o i)
def ZG(X:Cx)(r:R2):Prop:=
 ∀(value slice:D6)(ak:List (c8×Obj)) (s:f9) (σ:St) (H:Hp) (x y:V) (v u:c7) (Q:VK),aZ X ak σ H s->bO x v->bO y u->r x y H Q ->
  uq slice false v u=operate [v,u] (qr v u)->i6 (j3 X.prog X.w) X.A (xq value slice v u) (EP X ak σ Q) X.xe s
def Uk(X:Cx)(id:String)(r:V->List V->Hp->VK->Prop):Prop:=
 ∀(ak:List (c8×Obj)) (s:f9) (σ:St) (H:Hp) (x:V) (xs:List V) (v:c7) (us:List c7) (Q:VK),aZ X ak σ H s->bO x v->bU xs us->r x xs H Q ->
  i6 (j3 X.prog X.w) X.A (lc (.builtin id) (v::us)) (EP X ak σ Q) X.xe s
section
variable {X:Cx}{a b:D6}{ta tb:TE}{pos:Pos}
def ZG.or(h:ZG X r)(h':ZG X r'):ZG X (fun x y H Q=>r x y H Q∨r' x y H Q):=by
 intro f c g s t H x y v u Q I m o q hs;rcases q with q|q
 ·exact h f c g s t H x y v u Q I m o q hs
 ·exact h' f c g s t H x y v u Q I m o q hs
def aN(t:ZG X r)(m:PE X a ta)(o:PE X b tb)(hs:Dw b:=by intro _ _;rfl):PE X (.Subscript a b pos) (Nb r ta tb):=by intro c s C H Q I h;exact qe (Lr m o I h fun v u B x y f g w A q=>t a b c B C f x y v u Q g w A q (hs _ _))
def Bh(K:v9):R2:=fun x y H Q=>∃p xs i v,x=.ref p/\y=.int i/\cU K H p xs/\vD xs i=some v/\Q v H
def Bg(K:v9):R2:=fun x y H Q=>∃p xs i v,x=.ref p/\y=.int i/\EN K H p xs/\vD xs i=some v/\Q v H
def Jb:R2:=fun x y H Q=>∃z i c,x=.str z/\y=.int i/\z.length<=n7/\vD z.cps.toList i=some c/\Q (.str ⟨#[c]⟩) H
def Cs:ZG X (Bh X.K):=by
 intro D C c s J H x y v u Q I T U h hs;obtain ⟨p,xs,i,z,rfl,rfl,S,P,q⟩:=h;cases T;obtain ⟨t,rfl⟩:=U;obtain ⟨o,r,A,Z⟩:=I.list S;obtain ⟨j,g,M,Y,N,O⟩:=EJ P;obtain ⟨w,E,B⟩:=r.get M;have R:=r.length;have hn:=xZ;have f:EP X c J Q w s:={z,H,I,B,q}
 by_cases G:0<=i
 ·have m:i.toNat=j:=by
   rw[seqIndex_of G O]at g;exact j5 g
  exact item_listR A.isList G (by lia) (by rw[m];simpa using E) f hs
 ·have m:(i+(o.toArray.size:Int)).toNat=j:=by
   rw[seqIndex_neg (by lia) N]at g;rw[m6,←R];exact j5 g
  exact km (x:=w) A.isList.typeIs slot_list_getitem.lookup
   (wpAny_getItem_list_neg (Q:=fun r W=>r=w/\EP X c J Q r W) A.isList (by lia) (by rw[m6] <;> lia) (by lia) (by rw[m];simpa using E) {rfl,f}) hs
def Ku:ZG X (Bg X.K):=by
 intro o m c s B H x y v u Q I O P h hs;obtain ⟨p,Y,i,z,rfl,rfl,M,G,q⟩:=h;cases O;obtain ⟨t,rfl⟩:=P;obtain ⟨N,r,A,W⟩:=I.tuple M;obtain ⟨j,D,E,S,T,U⟩:=EJ G;obtain ⟨w,C,g⟩:=r.get E;have J:=r.length;have hn:=xZ;have f:EP X c B Q w s:={z,H,I,g,q}
 exact km (x:=w) A.typeIs slot_tuple_getitem.lookup
  (getItem_tuple (j:=j) (Q:=fun r R=>r=w/\EP X c B Q r R) A (by lia) (by lia) (by rw[m6,←J];exact D) (by simpa using C) {rfl,f}) hs
def Kv:ZG X Jb:=by
 intro g f o s P H x y v u Q I J K h hs;obtain ⟨z,i,c,rfl,rfl,N,E,q⟩:=h;obtain ⟨t,rfl⟩:=J;obtain ⟨O,rfl⟩:=K;obtain ⟨j,m,B,M,C,D⟩:=EJ E;have G:z.cps.toList.length=z.length:=by simp[Str.length]
 rw[G]at m C D;have hn:=xZ;exact tail_any (typeIs_str s z t) slot_str_getitem.lookup (getItem_str (c:=c) (by
  have w:decide (i < -(2^63:Int))=false:=decide_eq_false (by lia);have A:decide (i≥2^63)=false:=decide_eq_false (by lia);rw[w,A,uw]) (by rw[m];simpa using B) {.str ⟨#[c]⟩,H,I.tok _,{_,rfl},q}) hs
def rIx(K:v9):R2:=fun x y H Q=>Bh K x y H Q∨Bg K x y H Q∨Jb x y H Q
def Kw:ZG X (rIx X.K):=Cs.or (Ku.or Kv)
noncomputable def nQ:V->Bool
|.non=>true
|.bl _=>true
|.int _=>true
|.str _=>true
|_=>false
noncomputable def Gs:V->V->Bool
|.non,.non=>true
|.bl a,.bl b=>a==b
|.bl a,.int b=>(if a then 1 else 0)==b
|.int a,.bl b=>a==(if b then 1 else 0)
|.int a,.int b=>a==b
|.str a,.str b=>a==b
|_,_=>false
def Le(m:bO y u)(c:bO x v)(o:nQ y=true)(g:nQ x=true):C2 A s u v (Gs y x):=by
 cases y with
|non=>
  cases m;cases x with
 |non=>cases c;exact Y1 _
 |bl b=>cases c;exact rk b
 |int b=>obtain ⟨t,rfl⟩:=c;exact ua b t
 |str b=>obtain ⟨t,rfl⟩:=c;exact tw b t
 |_=>exact absurd (show false=true from g) j4
|bl a=>
  cases m;cases x with
 |non=>cases c;exact rm a
 |bl b=>cases c;exact rn a b
 |int b=>obtain ⟨t,rfl⟩:=c;exact uf a b t
 |str b=>obtain ⟨t,rfl⟩:=c;exact ud a b t
 |_=>exact absurd (show false=true from g) j4
|int a=>
  obtain ⟨f,rfl⟩:=m;cases x with
 |non=>cases c;exact ub a f
 |bl b=>cases c;exact uc a f b
 |int b=>obtain ⟨t,rfl⟩:=c;exact C2.int_int a f b t
 |str b=>obtain ⟨t,rfl⟩:=c;exact jk a f b t
 |_=>exact absurd (show false=true from g) j4
|str a=>
  obtain ⟨f,rfl⟩:=m;cases x with
 |non=>cases c;exact tj a f
 |bl b=>cases c;exact tu a f b
 |int b=>obtain ⟨t,rfl⟩:=c;exact jh a f b t
 |str b=>obtain ⟨t,rfl⟩:=c;exact C2.str_str a f b t
 |_=>exact absurd (show false=true from g) j4
|_=>exact absurd (show false=true from o) j4
def Dc(x:V)(u:c7):Bool:=match u with
|.none=>Gs .non x
|.bool b=>Gs (.bl b) x
|.int i _=>Gs (.int i) x
|.str z _=>Gs (.str z) x
|_=>false
def YJ(r:bO y u)(f:nQ y=true):Dc x u=Gs y x:=by
 cases y with
|non=>cases r;rfl
|bl b=>cases r;rfl
|int i=>obtain ⟨t,rfl⟩:=r;rfl
|str z=>obtain ⟨t,rfl⟩:=r;rfl
|_=>exact absurd (show false=true from f) j4
theorem EL:∀{xs:List V}{us:List c7},bU xs us->xs.all nQ=true->us.any (Dc x)=xs.any fun y=>Gs y x
|_,_,.nil,_=>rfl
|y::xs,u::us,.cons r t,f=>by rw[LA,iu]at f;rw[eh,eh,YJ r f.1,EL t f.2]
theorem xX(m:bO x v)(g:nQ x=true):∀{xs:List V}{us:List c7},bU xs us->xs.all nQ=true->∀u∈us,C2 A s u v (Dc x u)
|_,_,.nil,_=>fun u c=>by cases c
|y::xs,u::us,.cons r t,f=>fun o c=>by
  rw[LA,iu]at f;rcases w6.mp c with rfl|c
  ·rw[YJ r f.1];exact Le r m f.1 g
  ·exact xX m g t f.2 o c
def Qi(x:V)(xs:List V):Bool:=xs.any fun y=>Gs y x
def Sw(K:v9)(neg:Bool):R2:=fun x y H Q=>∃p xs,y=.ref p/\(cU K H p xs∨EN K H p xs)/\nQ x=true/\xs.all nQ=true/\Q (.bl (if neg then !Qi x xs else Qi x xs)) H
def AZ:kK X (E4 .In) (Sw X.K false):=by
 intro A s G H x y v u Q I B D h;obtain ⟨p,E,rfl,f,t,g,q⟩:=h;cases D;rcases f with f|f
 ·obtain ⟨c,r,o,C⟩:=I.list f;refine SeqAt.in_listAt (Dc x) o.isList (fun w m=>xX B t r g w (by simpa using m)) {.bl _,H,I,rfl,?_};rw[show c.toArray.any (Dc x)=c.any (Dc x) by simp,EL r g];exact q
 ·obtain ⟨c,r,o,C⟩:=I.tuple f;refine SeqAt.in_tupleAt (Dc x) o (fun w m=>xX B t r g w (by simpa using m)) {.bl _,H,I,rfl,?_};rw[show c.toArray.any (Dc x)=c.any (Dc x) by simp,EL r g];exact q
def EF:fO X (.type "list") (fun xs H Q=>∃p ys,xs=[.ref p]/\(cU X.K H p ys∨EN X.K H p ys)/\∀l,H l=none->Q (.ref l) (upd H l (.lst ys))):=by
 intro D s P H xs R Q I r h;obtain ⟨p,ys,rfl,B,q⟩:=h;obtain ⟨u,rfl,O⟩:=FB r;cases O;have t:∀(c:List c7),bU ys c->ys.length<=n7->∀(f:A7)(g:Nat),(∀b N,s.heap.get? b=some N->f.get? b=some N) ->
   f.get? s.heap.objs.size=some {cls:=.type "list",dict:=none,data:=.seq c.toArray g,slots:=#[]}->EP X D P Q (.ref s.heap.objs.size) {s with heap:=f}:=fun c m C f g kp e=>
  {.ref s.heap.objs.size,_,I.laid (t':=s.toks) kp (j8 _) (show cS X.prog X.w _ f _ (.lst ys) from {C,c,g,m,e}),rfl,q _ (I.hok.fresh (j8 _))}
 rcases B with B|B
 ·obtain ⟨c,m,M,C⟩:=I.list B;have A:=m.length;obtain ⟨o,J,E,n,G⟩:=M.isList;exact call_list_seq p (.inl rfl) J E G (fun f g kp e=>t c m C f g kp e) (by simp only[m6] <;> lia)
 ·obtain ⟨c,m,M,C⟩:=I.tuple B;have A:=m.length;obtain ⟨o,J,E,n,G⟩:=M;exact call_list_seq p (.inr rfl) J E G (fun f g kp e=>t c m C f g kp e) (by simp only[m6] <;> lia)
def Sc(K:v9)(T:String)(x:V)(H:Hp):Prop:=match x with
|.str _=>T="str"
|.int _=>T="int"
|.ref p=>(T="list"/\∃xs,cU K H p xs)∨(T="tuple"/\∃o,K.lookup p=some o/\o.cls=.type "tuple"/\o.dict=none) ∨
   (T="dict"/\((∃kvs,H p=some (.dK kvs))∨∃kvs,H p=some (.dT kvs)))∨(T="set"/\∃S n,H p=some (.set S n))
|_=>False
def Ha(I:aZ X ak σ H s)(r:bO x v)(ty:Sc X.K T x H):
  s.TypeIs v T/\∀a,v=.ref a->∃w,s.heap.get? a=some w/\w.dict=none:=by
 cases x with
|str z=>
  obtain ⟨t,rfl⟩:=r;cases (show T="str" from ty);exact {typeIs_str s z t,fun _ e=>nomatch e}
|int i=>
  obtain ⟨t,rfl⟩:=r;cases (show T="int" from ty);exact {typeIs_int s i t,fun _ e=>nomatch e}
|ref p=>
  cases r;rcases ty with ⟨rfl,E,C⟩|⟨rfl,o,hk,B,m⟩|⟨rfl,hk⟩|⟨rfl,S,n,hk⟩
  ·obtain ⟨D,_,A,_⟩:=I.list C;refine {A.isList.typeIs,fun a e=>?_};cases e;obtain ⟨o,n,e,c,m,_⟩:=A;exact {o,e,m}
  ·refine {{o,I.kIn p o hk,B},fun a e=>?_};cases e;exact {o,I.kIn _ o hk,m}
  ·have z:∃o,s.heap.get? p=some o/\o.ExactDict:=by
    rcases hk with ⟨q,hk⟩|⟨q,hk⟩
    ·obtain ⟨_,_,_,_,o,_,_,e,f,_⟩:=I.hok p _ hk;exact {o,e,f}
    ·obtain ⟨_,_,_,_,o,_,_,e,f,_⟩:=I.hok p _ hk;exact {o,e,f}
   obtain ⟨o,e,f⟩:=z;refine {{o,e,f.1},fun a g=>?_};cases g;exact {o,e,f.2.1}
  ·obtain ⟨o,_,_,_,e,f,_⟩:=I.hok p _ hk;refine {{o,e,f.1},fun a g=>?_};cases g;exact {o,e,f.2.1}
|_=>exact D9 ty
def Uc(K:v9)(T:String)(r:V->List V->Hp->VK->Prop)(to:TE)(t:TA):TE:=fun σ H Q=>to σ H fun x H1=>Sc K T x H1/\t σ H1 fun xs H2=>r x xs H2 Q
variable {o e:D6}{es:List D6}{to:TE}{t:TA}{name:Str}{a7 bw:Pos}{T id:String}{r:V->List V->Hp->VK->Prop}
def jD(S:PlainAttrs T)(slot:Slot T name id)(w:typeOf (.builtin id)=K0 (.type "method_descriptor"))(P:Uk X id r)(R:PE X o to)(O:PA X (e::es) t)(g:Q4 o name X.env (I0 o X.env)=I0 o X.env:=by rfl)
  (q:((K9 bw (m9 (e::es) X.env)).all (fun x=>!x.1)&&(ip bw (V7 [] X.env)).all (fun x=>x.1.isSome)
   && decide ((e::es).length+([]:List li).length+(if ([]:List li).isEmpty then 0 else 1)<30))=true:=by rfl)
  (m:(a7.endLine==bw.line)=true:=by rfl) (hs:m9 (e::es) X.env=(false,I0 e X.env)::m9 es X.env:=by rfl) (f:(K9 bw (m9 es X.env)).any (·.1)=false:=by rfl) :
  PE X (.Call (.Attribute o name a7) (e::es) [] bw) (Uc X.K T r to t):=by
 intro c s A H Q I h;refine wpAny_Call_method_late g q m rfl (cZ (R c s A H _ I h) fun v Z ⟨x,E,B,D,ty,U⟩=>?_);obtain ⟨M,N⟩:=Ha B D ty;refine {T,id,S,slot,w,M,N,?_};have C:=O bw c Z A E _ B U;rw[hs]at C ⊢;refine X2 (by show (false||(K9 bw (m9 es X.env)).any (·.1))=false;rw[f] <;> rfl) (U2 ?_);exact cZ C fun us s2 ⟨vs,G,J,Y,W⟩=>P c s2 A G x vs v us Q J D Y W
end
def MtM(X:Cx)(id:String)(r:V->List V->Hp->VK->Prop):Prop:=
 ∀(ak:List (c8×Obj)) (s:f9) (σ:St) (H:Hp) (x:V) (xs:List V) (v:c7) (us:List c7) (Q:VK),aZ X ak σ H s->bO x v->bU xs us->r x xs H Q ->
  i6 (j3 X.prog X.w) X.A (lc (.builtin id) (v::us)) (EP X ak σ Q) X.xe s
def bU.one:∀{x:V}{us:List c7},bU [x] us->∃u,us=[u]/\bO x u
 :=fun h=>by cases h with|cons r h=>cases h;exact {_,rfl,r}
def bU.two:∀{x y:V}{us:List c7},bU [x,y] us->∃u v,us=[u,v]/\bO x u/\bO y v
 :=fun h=>by cases h with|cons r h=>cases h with|cons q h=>cases h;exact {_,_,rfl,r,q}
def bU.reverse(h:bU xs us):bU xs.reverse us.reverse:=by
 induction h with
|nil=>exact .nil
|cons r t ih=>rw[yo,yo];exact bU.append ih (.cons r .nil)
section
variable {X:Cx}{ak:List (c8×Obj)}{σ:St}{H:Hp}{s:f9}{l:c8}{xs ys:List V}
def aZ.lset{c its':List c7}{n:Nat}{f:Array c7->Array c7}{t':Nat}(I:aZ X ak σ H s)(g:H l=some (.lst xs))(e:s.heap.get? l=some {cls:=.type "list",data:=.seq c.toArray n})(o:f c.toArray=its'.toArray)(w:bU ys its')(hz:ys.length<=n7):
  aZ X ak σ (upd H l (.lst ys)) {s with heap:=s.heap.update l (y8 f),toks:=t'}:=by
 have q:=PySem.IsL.update e f;rw[o]at q;refine I.write (x:=l) (e:=l) (by rw[g];exact trivial) (.inl rfl) (fun A u m t=>(A9 s.heap (y8 f) (q7 m)).trans t) {_,q} ?_;exact {hz,its',_,w,q}
def aZ.lnew(I:aZ X ak σ H s)(c:bU ys its)(hz:ys.length<=n7):
  aZ X ak σ (upd H s.heap.objs.size (.lst ys)) {s with heap:=s.heap.push {cls:=.type "list",data:=.seq its.toArray},toks:=t'}:=
 I.laid (fun _ _ q=>e9 _ q) (j8 _) {hz,its,0,c,r9 _ rfl}
def aZ.fresh(I:aZ X ak σ H s):H s.heap.objs.size=none:=I.hok.fresh (j8 _)
def aZ.lstM(I:aZ X ak σ H s)(f:H l=some (.lst xs)):xs.length<=n7/\∃(c:List c7)(n:Nat),bU xs c/\xs.length=c.length/\s.heap.get? l=some {cls:=.type "list",data:=.seq c.toArray n}:=by obtain ⟨z,c,n,r,e⟩:=I.hok l _ f;exact {z,c,n,r,r.length,e}
end
section
variable {X:Cx}
def NZ:V->List V->Hp->VK->Prop:=fun x vs H Q=>∃l xs y,x=.ref l/\vs=[y]/\H l=some (.lst xs)/\xs.length<n7/\Q .non (upd H l (.lst (xs++[y])))
def dD:MtM X "list.append" NZ:=by intro g s D H x B v A Q I o rv h;obtain ⟨l,C,y,rfl,rfl,f,w,q⟩:=h;cases o;obtain ⟨u,rfl,m⟩:=rv.one;obtain ⟨z,c,n,r,t,e⟩:=I.lstM f;refine call_meets F.slot_list_append {_,e,rfl} F.entry_list_append (F.args_list_append_2 _ _) (PySem.list_append l c.toArray n u (by rw[m6];lia)) {e,?_};refine {.non,_,I.lset (its':=c++[u]) f e (by simp) (r.append (.cons m .nil)) ?_,rfl,q};rw[q4,jl];lia
def Pp:R2:=fun x y H Q=>∃l b xs zs,x=.ref l/\y=.ref b/\H l=some (.lst xs)/\H b=some (.lst zs)/\xs.length+zs.length<=n7/\∀p,H p=none->Q (.ref p) (upd H p (.lst (xs++zs)))
def Jv:kK X (R3 .Add) Pp:=by
 intro g s N H x y v u Q I C D h;obtain ⟨l,b,J,M,rfl,rfl,w,t,G,q⟩:=h;cases C;cases D;obtain ⟨z,f,n,r,E,e⟩:=I.lstM w;obtain ⟨K,c,n2,B,A,m⟩:=I.lstM t;refine PySem.P.add_list e m ?_ (by rw[m6,m6];lia);have o:f.toArray++c.toArray=(f++c).toArray:=by simp
 rw[o];exact {.ref _,_,I.lnew (t':=s.toks) (r.append B) (by rw[q4];lia),rfl,q _ I.fresh}
end
end L2
namespace Att
open PySem PySem.W PySem.Calls PyProof.Rows
def vB:∀(ns:List Int)(vs:List c7),WellAll P h vs (ns.map WData.int)->O6 vs ns:=by
 intro ns
 induction ns with
|nil=>
  intro vs w;rw[vq]at w;cases w;exact .nil
|cons n ns ih=>
  intro vs w;rw[J6]at w;cases w with
 |cons a b=>cases a;exact .cons _ _ (ih _ b)
def QD{l:OpenLaw}{n:Nat}(hn:l.most=some n){P:Params}{h:A7}{args:List WData}{f:List c7}(c:l.row.toRowW.claim.pre args=true)(w:WellAll P h f args):
  ∃a vs ns,f=[j9 a]/\args=[WData.list (ns.map WData.int)]/\h.get? a=some {cls:=.type "list",data:=.seq vs.toArray}/\O6 vs ns/\ns.length<=n:=by
 have t:WShape.hasAll [] args [.list .int]=true:=(pre_splitW c).1;have A:l.pre.holds [] {args:=args}=true:=(pre_splitW c).2;obtain ⟨d,r,rfl,B,C⟩:=hasAllW_cons t;obtain rfl:=hasAllW_nil C;obtain ⟨J,rfl,D⟩:=hasW_list B;obtain ⟨ns,rfl⟩:=items_int D;have m:ns.length<=n:=by
  unfold OpenLaw.pre at A;have o:(WTm.not (.lt (.lit (.int (n:Int))) (.len (.arg 0)))).holds [] {args:=[.list (ns.map .int)]}=true:=by have o:=(holds_andW A).1;rw[hn]at o;exact o
  have s:=condW_of o (w_not (w_lt w_lit (w_len_list (w_arg rfl))));rw[i8]at s;refine Nat.le_of_not_lt fun q=>?_;have G:(n:Int)<((ns.length:Nat):Int):=by lia
  first
  |(rw[decide_eq_true G]at s;exact absurd s (by decide))
  |(simp at s;lia)
 cases w with
|cons H I=>
  cases I;cases H with
 |list E g=>exact {_,_,ns,rfl,rfl,E,vB ns _ g,m}
def QG(l:OpenLaw)(args:List WData):l.row.toRowW.claim.post args (.bool true) args=true:=
 postW_of (r:=l.row.toRowW) (X:=(true==true))
  (show WShape.has [] (.bool true) .bool=true by first|rfl|decide|simp[WShape.has,WShape.arms,WShape.armsAll])
  (show (WTm.eq .res (.lit (.bool true))).value [] {args:=args,res:=some (.bool true),after:=args}=some (.bool (true==true)) from w_eq_bool (w_res rfl) w_lit) rfl
def attach_call{l:OpenLaw}{n:Nat}{q:m7}{g:List Str}{Q:(Str->Option c7)->A7->Prop}{R:y6->A7->Prop}{d:DefRec}(hn:l.most=some n)(K:d.params.defaults=[])
  (A:∀ (w:y6) (m c:f9) (H O:Str->Option c7)(fa:c8)(o:Obj)(P E s:c7)(a:c8)(vs:List c7)(ns:List Int),
   Ground q g [] Q w m H O c.heap->R w c.heap ->
   c.heap.get? fa=some o->o.data=.func (docDef d.name d.params d.body d.scope P E s)->c.heap.CodeRec E d.name->H d.name=some (.ref fa) ->
   c.heap.get? a=some {cls:=.type "list",data:=.seq vs.toArray}->O6 vs ns->ns.length<=n->c.gens=#[] ->
   T5 (j3 l.prog w) qz (.call (.ref fa) {[.ref a],[]}) (fun r I=>r=.ok (.ret (.bool true))/\OldK c.heap I.heap/\I.os=c.os/\jd I.gens) c) :
  WalkO q g Q R l.row.toRowW d [] (fun f vs=>PySem.call f vs):=by
 intro w m c H O G Y fa o P E s X kV ho hd J T M hg S W as D U b' N a';obtain rfl:X=.none:=Dflts.none T K;obtain rfl:kV=.none:=Dflts.noKw T;obtain ⟨a,vs,ns,rfl,rfl,C,t,B⟩:=QD hn D N;refine enter_call (W5 (A w m c H O fa o P E s a vs ns G Y ho (fd_plain hd) J M C t B hg) fun r I hq=>?_);obtain ⟨rfl,Z,h3,h4⟩:=hq;exact {.inl {.bool true,.bool true,[],rfl,fun _=>rfl,.bool true,QG l _,fun _=>{List.Pairwise.nil,fun _ hm=>(nomatch hm)}},Z,h3,h4}
noncomputable def noObjs(h:A7):A7:={h with objs:=#[]}
def noObjs_get(h:A7)(b:c8):(noObjs h).get? b=none:=by
 cases e:(noObjs h).get? b with
|none=>rfl
|some o=>exact absurd (p7 e) (X8 _)
noncomputable def ledger(h:A7)(L d:c8):List (c8×Obj):=(E7 h.objs.size).filterMap fun a=>if a=L∨a=d then none else (h.get? a).map fun o=>(a,o)
def mem_ledger:(a,o)∈ledger h L d↔a≠L/\a≠d/\h.get? a=some o:=by
 unfold ledger;rw[xr];constructor
 ·rintro ⟨b,_,e⟩;split at e
  ·cases e
  ·rename_i f;obtain ⟨t,c,g⟩:=A8.mp e;cases g;exact {fun q=>f (.inl q),fun q=>f (.inr q),c}
 ·rintro ⟨m,n2,c⟩;refine {a,nr.mpr (p7 c),?_};rw[if_neg (show ¬(a=L∨a=d) from fun q=>q.elim m n2),c] <;> rfl
end Att
namespace L2
open PySem PySem.Spec PyProof.Rows
theorem pJ:∀{vs:List c7}{ns:List Int},O6 vs ns->bU (ns.map V.int) vs
|_,_,.nil=>.nil
|_,_,.cons n t h=>.cons {t,rfl} (pJ h)
noncomputable def cY(s:D4):yf:=match s with
|.FunctionDef _ a _ _ _ _ _ _ _ _=>a
|_=>{posonlyargs:=[],args:=[],vararg:=none,kwonlyargs:=[],kw_defaults:=[],kwarg:=none,defaults:=[]}
noncomputable def bV(s:D4):List D4:=match s with
|.FunctionDef _ _ b _ _ _ _ _ _ _=>b
|_=>[]
noncomputable def aG(s:D4):X1:=match s with
|.FunctionDef _ _ _ _ _ _ sc _ _ _=>sc
|_=>{kind:=.function,names:=[],isGenerator:=false,isCoroutine:=false}
abbrev rL:BZ:=fun _ _ _ _ _ _=>False
abbrev E0:XK:=fun _ _ _=>False
def lJ:iN rL X E0:=fun _ _ _ _ _ _ _ h=>h.elim
structure Rz(K:v9)(x qual:Str)(st:D4)(f:c8)(fd:K6):Prop where
 ex:∃(oc:c7)(od:Option c8)(kV doc pm:c7)(an:Option c8)(bz ct:c7)(osl:Array (Option c7)),
  fd=gr x qual (cY st) (bV st) (aG st) .none kV doc pm an bz ct/\K.lookup f=some {oc,od,.func fd,osl}/\D8 K bz qual=true
 kp:B3 K (.ref f)=true
section
variable {P:m7}{w:y6}{K:v9}{mg:Str->Option c7}{base:A7}
def Rz.ok{x g:Str}{st:D4}{f:c8}{G:K6}{N ps:List Str}{k:Nat}{sp:Sp}(F:Rz K x g st f G)(S:aM N ps (aG st))(D:∀vs H Q E,sp vs H Q E->vs.length=ps.length)
  (o:∀ (m:c7) (A:A2)(c:List Env)(s:f9)(H:Hp)(vs:List V)(Q:VK)(E:XK),eR k (A.deeper (W7 g (aG st) s.heap.objs.size f m))->sp vs H Q E ->
   ∃t,yW (oZ rL P w K mg base N g (aG st) f m A c s H E).nox (bV st) t/\t {nx:=fun _ H'=>Q .non H',rt:=Q} (start N vs) H):nG P w K mg base rL (k+1) f G ps sp:=by
 obtain ⟨U,W,kV,I,X,R,m,T,O,rfl,M,B⟩:=F.ex;refine BM M B S D fun A c s H vs Q E J C=>?_;obtain ⟨t,h,q⟩:=o m A c s H vs Q E J C;exact {t,h.nox,q}
def Lb{x g:Str}{st:D4}{f:c8}{B:c7}{C s:Option c8}{q:Array (Option c7)}{kV o A m t:c7}(l:K.lookup f=some {B,C,.func (gr x g (cY st) (bV st) (aG st) .none kV o A s m t),q})(c:D8 K m g=true)(k:B3 K (.ref f)=true):Rz K x g st f (gr x g (cY st) (bV st) (aG st) .none kV o A s m t):={{B,C,kV,o,A,s,m,t,q,rfl,l,c},k}
end
def eE(h:n<=1000):n<n7:=E3 h (by decide)
section
variable {X:Cx}
def pv(i:Nat)(f:X.N[i]?=some x:=by rfl)(m:Rv X.env.scope x:=by first|exact F0 rfl|exact E5 (F0 rfl)|exact E5 (E5 rfl))(g:(x==("__debug__":Str))=false:=by decide)(c:(x==("__classdict__":Str))=false:=by decide):PE X (.Name x pos) (Hh i):=Jj f m g c
end
def Qg{A B:Prop}(h:B):if false=true then A else B:=by rw[if_neg j4];exact h
def Qf{A B:Prop}(h:A):if true=true then A else B:=by rw[if_pos rfl];exact h
def aJ(H H':Hp):Prop:=∀b o,H b=some o->H' b=some o
def aJ.refl(H:Hp):aJ H H:=fun _ _ h=>h
def aJ.trans(a:aJ H H1)(b:aJ H1 H2):aJ H H2:=fun c o h=>b c o (a c o h)
def aJ.free(e:aJ H H')(h:H' l=Option.none):H l=Option.none:=by
 cases q:H l with
|none=>rfl
|some o=>
  rw[e l o q]at h;cases h
def aJ.seq{K:v9}{H H':Hp}{a:c8}{xs:List V}(e:aJ H H')(h:cU K H a xs):cU K H' a xs:=by
 rcases h with (h|⟨o,h⟩)|h
 ·exact .inl (.inl (e _ _ h))
 ·exact .inl (.inr {o,e _ _ h})
 ·exact .inr h
end L2
set_option Elab.async false
set_option linter.all false
set_option maxRecDepth 100000
namespace L2
open PySem PySem.Spec PyProof.Rows
section
variable {κ:Type}[DecidableEq κ]
noncomputable def bP(kvs:List (κ×V))(k:κ):Option V:=(kvs.find? fun kv=>decide (kv.1=k)).map (·.2)
noncomputable def eK(kvs:List (κ×V))(k:κ)(v:V):List (κ×V):=
 if (kvs.any fun kv=>decide (kv.1=k))=true then kvs.map (fun kv=>if kv.1=k then (kv.1,v) else kv) else kvs++[(k,v)]
noncomputable def eP(kvs:List (κ×V))(k:κ):List (κ×V):=kvs.filter fun kv=>decide (kv.1≠k)
def gG{p:κ×V}{r:List (κ×V)}{k:κ}(e:p.1=k):bP (p::r) k=some p.2:=by simp[bP,P6,e]
def fS{p:κ×V}{r:List (κ×V)}{k:κ}(e:¬p.1=k):bP (p::r) k=bP r k:=by simp[bP,P6,e]
theorem FC(k:κ):∀kvs:List (κ×V),(kvs.any fun kv=>decide (kv.1=k))=(bP kvs k).isSome
|[]=>rfl
|p::r=>by
  rw[eh];by_cases e:p.1=k
  ·simp only[gG e,decide_eq_true e,Bool.true_or,Option.isSome_some]
  ·rw[fS e,decide_eq_false e,Bool.false_or];exact FC k r
def oS(kvs:List (κ×V))(k:κ)(v:V):(eK kvs k v).length<=kvs.length+1:=by
 unfold eK;split
 ·rw[i8];lia
 ·rw[q4,J2,length_nil];lia
def nF.isSome_eq(r:nF o u):o.isSome=u.isSome:=by
 cases o with
|none=>cases u with
 |none=>rfl
 |some _=>exact (show False from r).elim
|some _=>cases u with
 |none=>exact (show False from r).elim
 |some _=>rfl
def nF.getD(r:nF o u)(c:bO d d'):bO (o.getD d) (u.getD d'):=by
 cases o with
|none=>cases u with
 |none=>exact c
 |some _=>exact (show False from r).elim
|some _=>cases u with
 |none=>exact (show False from r).elim
 |some _=>exact r
def KV.val(r:KV kvs vs)(k:κ):nF (bP kvs k) (Y9 vs k):=by
 unfold KV at r
 induction r with
|nil=>exact M6
|@cons p q o f h t ih=>
  obtain ⟨g,m⟩:=h;by_cases e:p.1=k
  ·have c:q.1=k:=g.symm.trans e;have b:Y9 (q::f) k=some q.2:=by simp[Y9,P6,c]
   rw[gG e,b];exact m
  ·have c:¬q.1=k:=fun z=>e (g.trans z);have b:Y9 (q::f) k=Y9 f k:=by simp[Y9,P6,c]
   rw[fS e,b];exact ih
def KV.any(r:KV kvs vs)(k:κ):(kvs.any fun kv=>decide (kv.1=k))=vs.any fun kv=>decide (kv.1=k):=by
 unfold KV at r
 induction r with
|nil=>rfl
|cons h t ih=>rw[eh,eh,ih,h.1]
def KV.repl(r:KV kvs vs)(k:κ)(g:bO y u):
  KV (kvs.map fun kv=>if kv.1=k then (kv.1,y) else kv) (vs.map fun kv=>if kv.1=k then (kv.1,u) else kv):=by
 unfold KV at r⊢
 induction r with
|nil=>exact .nil
|@cons p q m o h t ih=>
  rw[J6,J6];refine .cons ?_ ih;obtain ⟨c,f⟩:=h;by_cases e:p.1=k
  ·rw[if_pos e,if_pos (c.symm.trans e)];exact {c,g}
  ·rw[if_neg e,if_neg (fun z=>e (c.trans z))];exact {c,f}
def KV.put(r:KV kvs vs)(k:κ)(c:bO y u):KV (eK kvs k y) (sq vs k u):=by
 unfold eK sq;rw[r.any k];by_cases e:(vs.any fun kv=>decide (kv.1=k))=true
 ·rw[if_pos e,if_pos e];exact r.repl k c
 ·rw[if_neg e,if_neg e];exact Paired.snoc r {rfl,c}
def KV.drop(r:KV kvs vs)(k:κ):KV (eP kvs k) (without vs k):=by
 unfold KV at r⊢;unfold eP without
 induction r with
|nil=>exact .nil
|@cons p q m o h t ih=>
  obtain ⟨c,g⟩:=h;rw[X9,X9];by_cases e:p.1=k
  ·have a:¬decide (p.1≠k)=true:=by simp[e]
   have b:¬decide (q.1≠k)=true:=by simp[c.symm.trans e]
   rw[if_neg a,if_neg b];exact ih
  ·have f:¬q.1=k:=fun z=>e (c.trans z);have a:decide (p.1≠k)=true:=by simp[e]
   have b:decide (q.1≠k)=true:=by simp[f]
   rw[if_pos a,if_pos b];exact .cons {c,g} ih
def KV.keys{kvs:List (κ×V)}{vs:List (κ×c7)}(r:KV kvs vs):kvs.map (·.1)=vs.map (·.1):=by
 unfold KV at r
 induction r with
|nil=>rfl
|cons h t ih=>rw[J6,J6,ih,h.1]
def KV.length(r:KV kvs vs):kvs.length=vs.length:=Paired.length r
def YL(kvs:List (κ×V))(k:κ):(eP kvs k).length<=kvs.length:=jm _ _
end
def oV(r:bO (kV k) u):(bY P w).is k u=true:=by
 cases k with
|inl i=>obtain ⟨t,e⟩:=(show ∃t,u=dk i t from r);subst e;exact HY P w i t
|inr x=>obtain ⟨t,e⟩:=(show ∃t,u=dj x t from r);subst e;exact HX P w x t
theorem BH:∀{c:List aR}{us:List c7},bU (c.map kV) us->ItemsAre (bY P w) c us
|[],_,r=>by rw[vq]at r;cases r;exact .nil
|k::c,_,r=>by
  rw[J6]at r;cases r with
 |cons h t=>exact .cons (oV h) (BH t)
abbrev KT(H:Hp):List (List aR×V)->List (List aR×c8×c7)->Prop:=Paired fun p q=>p.1=q.1/\H q.2.1=some (.tup (p.1.map kV))/\bO p.2 q.2.2
def KT.val(r:KT H kvs xs)(k:List aR):nF (bP kvs k) ((wu xs k).map (·.2)):=by
 induction r with
|nil=>exact M6
|@cons p q o f h t ih=>
  obtain ⟨g,_,m⟩:=h;by_cases e:p.1=k
  ·have c:q.1=k:=g.symm.trans e;have b:wu (q::f) k=some q.2:=by simp[wu,P6,c]
   rw[gG e,b];exact m
  ·have c:¬q.1=k:=fun z=>e (g.trans z);have b:wu (q::f) k=wu f k:=by simp[wu,P6,c]
   rw[fS e,b];exact ih
def KT.repl(r:KT H kvs xs)(k:List aR)(m:bO y u):
  KT H (kvs.map fun kv=>if kv.1=k then (kv.1,y) else kv) (xs.map (putAt k u)):=by
 induction r with
|nil=>exact .nil
|@cons p q o s h t ih=>
  rw[J6,J6];refine .cons ?_ ih;obtain ⟨c,f,g⟩:=h;unfold putAt;by_cases e:p.1=k
  ·rw[if_pos e,if_pos (c.symm.trans e)];exact {c,f,m}
  ·rw[if_neg e,if_neg (fun z=>e (c.trans z))];exact {c,f,g}
def KT.put(r:KT H kvs xs)(k:List aR)(f:H b=some (.tup (k.map kV)))(c:bO y u):
  KT H (eK kvs k y) (storedH xs k b u):=by
 have e:(kvs.any fun kv=>decide (kv.1=k))=(wu xs k).isSome:=by rw[FC,(r.val k).isSome_eq,me]
 unfold eK storedH;rw[e];by_cases q:(wu xs k).isSome=true
 ·rw[if_pos q,if_pos q];exact r.repl k c
 ·rw[if_neg q,if_neg q];exact Paired.snoc r {rfl,f,c}
def KT.keeps(r:KT H kvs xs)(c:∀b ys,H b=some (.tup ys)->H' b=some (.tup ys)):KT H' kvs xs:=
 Paired.mapP r fun _ _ z=>{z.1,c _ _ z.2.1,z.2.2}
section
variable {P:m7}{w:y6}{H:Hp}{h:A7}{a:c8}
def Fm(ok:lS P w H h)(e:Rd H a u):cS P w H h a u:=e.ok ok
def uV(ok:lS P w H h)(e:Rd H a (.dK kvs)):kvs.length<=n7/\(a==sysModules)=false/\∃vs,KV kvs vs/\h.DictOf (bY P w) a vs:=
 show cS P w H h a (.dK kvs) from Fm ok e
def qH(ok:lS P w H h)(e:H a=some (.dK kvs)):kvs.length<=n7/\(a==sysModules)=false/\∃vs,KV kvs vs/\h.DictOf (bY P w) a vs:=uV ok (.inl e)
def qX(ok:lS P w H h)(e:H a=some (.tup (ks.map kV))):(jt (bY P w)).is h ks a:=by
 obtain ⟨_,c,r,o,f,g,n,m⟩:=(show cS P w H h a (.tup (ks.map kV)) from ok a _ e)
 exact {o,c.toArray,n,f,g,m,by simpa using BH r}
def uU(ok:lS P w H h)(e:Rd H a (.dT kvs)):kvs.length<=n7/\(a==sysModules)=false /\
  ∃xs,KT H kvs xs/\h.DictOfH (jt (bY P w)) a xs:=by
 obtain ⟨z,y,xs,r,o,A,s,B,C,D,E,G⟩:=(show cS P w H h a (.dT kvs) from Fm ok e)
 refine {z,y,xs,r,o,A,s,B,C,D,E,fun x c=>?_,G};have f:∀{l:List (List aR×V)} {m:List (List aR×c8×c7)},KT H l m->∀x∈m,(jt (bY P w)).is h x.1 x.2.1:=by
  intro l m q
  induction q with
 |nil=>intro x c;exact nomatch c
 |@cons p q I J g t ih=>
   intro x c;rcases w6.mp c with e|c
   ·subst e;exact qX ok (by rw[←g.1];exact g.2.1)
   ·exact ih x c
 exact f r x c
def Qp(ok:lS P w H h)(e:H a=some (.dT kvs)):kvs.length<=n7/\(a==sysModules)=false /\
  ∃xs,KT H kvs xs/\h.DictOfH (jt (bY P w)) a xs:=uU ok (.inl e)
end
def pG(H:Hp)(a:c8)(y:V)(r:Option V):Prop:=
 (∃kvs k,Rd H a (.dK kvs)/\y=kV k/\r=bP kvs k)∨∃kvs k b,Rd H a (.dT kvs)/\y=.ref b/\H b=some (.tup (k.map kV))/\r=bP kvs k
def SL(H:Hp)(a:c8)(y v:V)(H':Hp):Prop:=
 (∃kvs k,H a=some (.dK kvs)/\y=kV k/\kvs.length<n7/\H'=upd H a (.dK (eK kvs k v))) ∨
 ∃kvs k b,H a=some (.dT kvs)/\y=.ref b/\H b=some (.tup (k.map kV))/\kvs.length<n7/\H'=upd H a (.dT (eK kvs k v))
def SL.k{H:Hp}{a:c8}{kvs:List (aR×V)}{k:aR}{v:V}(e:H a=some (.dK kvs))(c:kvs.length<n7):SL H a (kV k) v (upd H a (.dK (eK kvs k v))):=.inl {kvs,k,e,rfl,c,rfl}
section
variable {X:Cx}{ak:List (c8×Obj)}{σ:St}{H:Hp}{s:f9}{a:c8}{y v:V}{u r:c7}{o:Option V}{A:A2}{E:c7->f9->Prop}
def aZ.big(I:aZ X ak σ H s):sysModules<s.heap.objs.size:=by have h:B8<s.heap.objs.size:=(I.mod.glob.keeps I.bk).lt;exact jw (by decide) h
def RT(M:A.units+1<L9)(I:aZ X ak σ H s)(g:pG H a y (some v))(G:bO y u)(h:∀m s',aZ X ak σ H s'->bO v m->Q m s'):
  i6 (j3 X.prog X.w) A (qr (.ref a) u) Q E s:=by
 rcases g with ⟨D,k,e,t,l⟩|⟨D,k,b,e,t,J,l⟩
 ·subst t;obtain ⟨z,K,N,c,q⟩:=uV I.hok e;obtain ⟨m,C,f⟩:=nF.some_of (v:=v) (o:=Y9 N k) (by rw[l];exact c.val k);exact wpAny_getItem_of (oV G) q.mapOf C (h m _ (I.tok _) f)
 ·subst t;cases (show u=j9 b from G);obtain ⟨z,K,O,c,q⟩:=uU I.hok e;obtain ⟨m,C,f⟩:=nF.some_of (v:=v) (o:=(wu O k).map (·.2)) (by rw[l];exact c.val k);obtain ⟨p,hp,B⟩:=A8.mp C;refine wpAny_getItem_heap (S9 M) (qX I.hok J) q hp ?_;rw[B];exact h m _ (I.tok _) f
def Tk(G:A.units+1<L9)(I:aZ X ak σ H s)(g:pG H a y o)(C:bO y u)(h:∀s',aZ X ak σ H s'->Q (.bool o.isSome) s'):
  i6 (j3 X.prog X.w) A (E4 .In u (.ref a)) Q E s:=by
 rcases g with ⟨B,k,e,m,l⟩|⟨B,k,b,e,m,D,l⟩
 ·subst m;obtain ⟨z,t,J,c,f⟩:=uV I.hok e;refine wpAny_in_of (oV C) t f.mapOf ?_;rw[←(c.val k).isSome_eq,←l];exact h _ (I.tok _)
 ·subst m;cases (show u=j9 b from C);obtain ⟨z,t,K,c,f⟩:=uU I.hok e;refine wpAny_in_heap (S9 G) (qX I.hok D) t f ?_;have q:=(c.val k).isSome_eq;rw[me]at q;rw[←q,←l];exact h _ (I.tok _)
def Dk(G:A.units+1<L9)(I:aZ X ak σ H s)(g:pG H a y o)(C:bO y u)(h:∀s',aZ X ak σ H s'->Q (.bool (!o.isSome)) s'):
  i6 (j3 X.prog X.w) A (E4 .NotIn u (.ref a)) Q E s:=by
 rcases g with ⟨B,k,e,m,l⟩|⟨B,k,b,e,m,D,l⟩
 ·subst m;obtain ⟨z,t,J,c,f⟩:=uV I.hok e;refine wpAny_notIn_of (oV C) t f.mapOf ?_;rw[←(c.val k).isSome_eq,←l];exact h _ (I.tok _)
 ·subst m;cases (show u=j9 b from C);obtain ⟨z,t,K,c,f⟩:=uU I.hok e;refine wpAny_notIn_heap (S9 G) (qX I.hok D) t f ?_;have q:=(c.val k).isSome_eq;rw[me]at q;rw[←q,←l];exact h _ (I.tok _)
def tF(I:aZ X ak σ H s)(mu:Rg (H a))(hs:P9 a s.heap h')(f:∃q,h'.get? a=some q)(new:cS X.prog X.w (upd H a ob) h' a ob):
  aZ X ak σ (upd H a ob) {s with heap:=h',toks:=t'}:=
 I.write (x:=a) (e:=a) mu (.inl rfl) (fun b q c z=>(hs.2 b c).trans z) f new
def yL(z:kvs.length<=n7)(f:(a==sysModules)=false)(c:KV kvs vs)(dd:h'.DictOf (bY P w) a vs):
  cS P w H' h' a (.dK kvs):={z,f,vs,c,dd}
def RS(hu:A.units+1<L9)(I:aZ X ak σ H s)(g:SL H a y v H')(R:bO y u)(rv:bO v r)(h:∀s',aZ X ak σ H' s'->Q () s'):
  i6 (j3 X.prog X.w) A (setItem (.ref a) u r) Q E s:=by
 rcases g with ⟨f,k,e,G,l,D⟩|⟨f,k,b,e,G,N,l,D⟩
 ·subst G D;obtain ⟨z,J,vs,m,C⟩:=qH I.hok e;have M:vs.length<=n7:=by rw[←m.length];exact z
  have K:(eK f k v).length<=n7:=by have:=oS f k v;lia
  refine wpAny_setItem_pairs (hsz:=M) (oV R) C fun P t hs=>h _ ?_;have he:∃q,P.get? a=some q:=let ⟨q,_,_,B,_⟩:=t;{q,B};exact tF I (by rw[e];exact M6) hs he (yL K J (m.put k rv) t)
 ·subst G D;cases (show u=j9 b from R);obtain ⟨z,J,xs,m,C⟩:=Qp I.hok e;have M:xs.length<=n7:=by rw[←Paired.length m];exact z
  have K:(eK f k v).length<=n7:=by have:=oS f k v;lia
  refine wpAny_setItem_heap (hsz:=M) (S9 hu) (qX I.hok N) C fun P t hs=>h _ ?_;obtain ⟨q,T,S,B,U,W,Y,_,Z⟩:=t;refine tF I (by rw[e];exact M6) hs {q,B} {K,J,_,(m.put k N rv).keeps fun c ys O=>?_,q,T,S,B,U,W,Y,Z};rw[aX (gX O e (fun z=>nomatch z))];exact O
end
section
variable {X:Cx}{ak:List (c8×Obj)}{σ:St}{H:Hp}{s:f9}{a:c8}{kvs:List (aR×V)}{k:aR}{u:c7}{A:A2}{E:c7->f9->Prop}
def Qu(I:aZ X ak σ H s)(e:H a=some (.dK kvs))(B:bO (kV k) u)(l:bP kvs k=some v)(D:more=[]∨∃x,more=[x])(h:∀g s',aZ X ak σ (upd H a (.dK (eP kvs k))) s'->bO v g->Q g s'):i6 (j3 X.prog X.w) A (lc (.builtin "dict.pop") (.ref a::u::more)) Q E s:=by
 obtain ⟨z,M,G,c,C⟩:=qH I.hok e;obtain ⟨g,P,m⟩:=nF.some_of (v:=v) (o:=Y9 G k) (by rw[←l];exact c.val k);have hp:(keyPart u).isSome=true:=by
  cases k with
 |inl i=>obtain ⟨t,q⟩:=(show ∃t,u=dk i t from B);subst q;rfl
 |inr x=>obtain ⟨t,q⟩:=(show ∃t,u=dj x t from B);subst q;rfl
 have K:zc "dict.pop" {.ref a::u::more,[]}:=by
  rcases D with q|⟨x,q⟩
  ·subst q;exact PySem.F.args_dict_pop_2 _ _
  ·subst q;exact PySem.F.args_dict_pop_3 _ _ _
 refine gs slot_dict_pop C.typeIs PySem.F.entry_dict_pop K (meets_dict_pop_there (bY X.prog X.w) a (oV B) more D hp)
  {G,g,C,by rw[←c.length];exact z,P,fun J f hs=>h g _ ?_ m}
 have N:∃q,J.get? a=some q:=let ⟨q,_,_,O,_⟩:=f;{q,O};exact tF I (by rw[e];exact M6) hs N (yL (A5 (YL kvs k) z) M (c.drop k) f)
end
def Rf(i:D6):Prop:=∀ov iv,uq i false ov iv=operate [ov,iv] (qr ov iv)
def Ae{prog:m7}{w:y6}{A:A2}{E:c7->f9->Prop}{s:f9}{env:Env}{f c:D6}{pos:Pos}{T id:String}{Q:c7->f9->Prop}(H:kj (.type T) "__getitem__"=K0 (some (.builtin id)))(hs:Rf c)(h:i6 (j3 prog w) A (I0 f env) (fun o q=>i6 (j3 prog w) A (I0 c env) (fun i g=>g.TypeIs o T/\i6 (j3 prog w) A (qr o i) Q E g) E q) E s):
  i6 (j3 prog w) A (I0 (.Subscript f c pos) env) Q E s:=by
 refine qe (C4 h (fun o q C=>C4 C (fun i g m=>?_) fun _ _ x=>x) fun _ _ x=>x);obtain ⟨G,m⟩:=m;unfold xq;refine c6 ?_;rw[getitemInPython_of_ne G.not_modules];refine c6 (fk G H ?_);have B:i6 (j3 prog w) A (uq c false o i) (fun r t=>i6 (j3 prog w) A (letTemporaryGo f o r >>= fun _=>K0 r) Q E t) E g:=by rw[hs o i];exact wpAny_operating (C4 m (fun r t D=>c6 (wpAny_letTemporaryGo (i0 D))) fun _ _ x=>x)
 first
 |exact i0 (c6 B)
 |exact c6 (i0 (c6 B))
 |exact c6 B
def IH(I:aZ X ak σ H s)(g:pG H a y o):s.TypeIs (.ref a) "dict":=by
 rcases g with ⟨f,k,e,_,_⟩|⟨f,k,b,e,_,_,_⟩
 ·obtain ⟨_,_,m,_,c⟩:=uV I.hok e;exact c.typeIs
 ·obtain ⟨_,_,q,_,c⟩:=uU I.hok e;exact c.typeIs
def Em(td ty:TE):TE:=fun σ H Q=>td σ H fun x H1=>ty σ H1 fun y H2=>∃a v,x=.ref a/\pG H2 a y (some v)/\Q v H2
def Nf(ty td:TE):TE:=fun σ H Q=>ty σ H fun y H1=>td σ H1 fun x H2=>∃a o,x=.ref a/\pG H2 a y o/\Q (.bl o.isSome) H2
def LW(ty td:TE):TE:=fun σ H Q=>ty σ H fun y H1=>td σ H1 fun x H2=>∃a o,x=.ref a/\pG H2 a y o/\Q (.bl (!o.isSome)) H2
def Fj(td ty tv:TE):TS:=fun D σ H=>tv σ H fun v H1=>td σ H1 fun x H2=>ty σ H2 fun y H3=>∃a H4,x=.ref a/\SL H3 a y v H4/\D.nx σ H4
section
variable {X:Cx}{o i value:D6}{pos pos':Pos}{td ty tv:TE}
def aQ(J:X.A.units+1<L9)(G:PE X o td)(E:PE X i ty)(hs:Rf i:=by intro _ _;rfl):PE X (.Subscript o i pos) (Em td ty):=by intro c s q H Q I h;refine Ae PySem.F.slot_dict_getitem.lookup hs (cZ (G c s q H _ I h) fun u P ⟨x,t,B,N,K⟩=>cZ (E c P q t _ B K) fun R S ⟨y,w,m,O,a,v,D,g,M⟩=>?_);subst D;obtain rfl:u=j9 a:=N;exact {IH m g,RT J m g O fun U T C f=>{v,w,C,f,M}}
def DC(G:X.A.units+1<L9)(D:PE X i ty)(E:PE X o td):PC X .In i o (Nf ty td):=by intro c s f H Q I h;refine cZ (D c s f H _ I h) fun R P ⟨y,m,t,O,K⟩=>cZ (E c P f m _ t K) fun u S ⟨x,q,w,N,a,J,C,g,M⟩=>?_;subst C;obtain rfl:u=j9 a:=N;exact Tk G w g O fun T B=>{.bl J.isSome,q,B,rfl,M}
def tW(G:X.A.units+1<L9)(D:PE X i ty)(E:PE X o td):PC X .NotIn i o (LW ty td):=by intro c s f H Q I h;refine cZ (D c s f H _ I h) fun R P ⟨y,m,t,O,K⟩=>cZ (E c P f m _ t K) fun u S ⟨x,q,w,N,a,J,C,g,M⟩=>?_;subst C;obtain rfl:u=j9 a:=N;exact Dk G w g O fun T B=>{.bl (!J.isSome),q,B,rfl,M}
def gO(M:X.A.units+1<L9)(K:PE X o td)(J:PE X i ty)(N:PE X value tv)(hs:ju value (some (.Subscript o i pos')) pos.line X.env=K0 false):
  PS X (.Assign [.Subscript o i pos'] value pos) (Fj td ty tv):=by
 intro c s f H D I h;refine wpAny_Assign_Subscript (cZ (N c s f H _ I h) fun r T ⟨v,m,w,rv,O⟩=>cZ (K c T f m _ w O) fun u U ⟨x,q,B,R,P⟩=>cZ (J c U f q _ B P) fun Y Z ⟨y,W,C,S,a,t,G,g,Q⟩=>?_) hs;subst G;obtain rfl:u=j9 a:=R;exact RS M C g S rv fun s4 E=>{f,t,E,Q}
end
def IG(h:A7)(c:sysModules<h.objs.size):cS P w H (h.push {cls:=.type "dict",data:=.dict #[]}) h.objs.size (.dK []):=
 {C9 _,beq_eq_false_iff_ne.mpr (q7 (u7 c)),[],.nil,A7.DictOf.new h}
def SZ:TE:=fun _ H Q=>∀p,H p=none->Q (.ref p) (upd H p (.dK []))
section
variable {X:Cx}{pos:Pos}
def iW:PE X (.Dict [] [] pos) SZ:=fun c s f H Q I h=>wpAny_Dict_empty {.ref s.heap.objs.size,_,I.laid (a:=s.heap.objs.size) (o:=.dK []) (t':=s.toks) (fun _ _ q=>e9 _ q) (j8 _) (IG s.heap I.big),rfl,h _ (I.hok.fresh (j8 _))}
end
def JH:List (TE×TE)->St->Hp->(List (V×V)->Hp->Prop)->Prop
|[],_,H,Q=>Q [] H
|(tk,tv)::r,σ,H,Q=>tk σ H fun x H1=>tv σ H1 fun y H2=>JH r σ H2 fun ps H3=>Q ((x,y)::ps) H3
abbrev VV:List (V×V)->List (c7×c7)->Prop:=Paired fun p q=>bO p.1 q.1/\bO p.2 q.2
def Re(X:Cx)(pos:Pos)(keys:List (Option D6))(values:List D6)(trs:List (TE×TE)):Prop:=
 ∀(ak:List (c8×Obj)) (s:f9) (σ:St) (H:Hp) (Q:List (V×V)->Hp->Prop),aZ X ak σ H s->JH trs σ H Q ->
  i6 (j3 X.prog X.w) X.A (evalPairs (pairTrees keys values X.env pos)) (fun vs s'=>∃ps H',aZ X ak σ H' s'/\VV ps vs/\Q ps H') X.xe s
def Bo:Re X pos [] [] []:=fun c s f H Q I h=>pairTrees_nil_walk {[],H,I,.nil,h}
def oN(hk:PE X k tk)(C:PE X v tv)(B:Re X pos ks vs trs):
  Re X pos (some k::ks) (v::vs) ((tk,tv)::trs):=fun c s g H Q I h=>
 pairTrees_cons_walk (cZ (hk c s g H _ I h) fun u N ⟨x,m,t,K,E⟩=>cZ (C c N g m _ t E) fun R O ⟨y,o,w,M,G⟩=>
  cZ (B c O g o _ w G) fun S P ⟨D,q,A,f,J⟩=>{(x,y)::D,q,A,.cons {K,M} f,J})
def iK(kvs more:List (aR×V)):List (aR×V):=more.foldl (fun cc kv=>eK cc kv.1 kv.2) kvs
def KV.merge:∀{c:List (aR×V)}{f:List (aR×c7)}{kvs:List (aR×V)}{vs:List (aR×c7)},KV c f->KV kvs vs->KV (iK kvs c) (merged vs f):=by
 intro c f kvs vs r;unfold KV at r
 induction r generalizing kvs vs with
|nil=>intro q;exact q
|@cons p q m o h t ih=>
  intro g;have e:KV (eK kvs p.1 p.2) (sq vs q.1 q.2):=by have:=g.put p.1 h.2;rw[←h.1];exact this
  exact ih e
theorem kU:∀(c kvs:List (aR×V)),(iK kvs c).length<=kvs.length+c.length
|[],kvs=>by show kvs.length<=kvs.length+0;lia
|p::r,kvs=>by have f:=kU r (eK kvs p.1 p.2);have g:=oS kvs p.1 p.2;show (iK (eK kvs p.1 p.2) r).length<=_;rw[J2];lia
theorem yN:∀{kvs:List (aR×V)}{g:List (c7×c7)},VV (kvs.map fun kv=>(kV kv.1,kv.2)) g->∃f,Carries (bY P w) g f/\KV kvs f
|[],_,r=>by rw[vq]at r;cases r;exact {[],M6,.nil}
|p::kvs,_,r=>by
  rw[J6]at r;cases r with
 |@cons a b as bs h t=>obtain ⟨f,c,q⟩:=yN (P:=P) (w:=w) t;obtain ⟨o,m⟩:=b;exact {(p.1,m)::f,{oV h.1,rfl,c},.cons {rfl,h.2} q}
def El(trs:List (TE×TE)):TE:=fun σ H Q=>∀p,H p=none->JH trs σ (upd H p (.dK [])) fun ps H2=>H2 p=some (.dK [])/\∃kvs:List (aR×V),ps=kvs.map (fun kv=>(kV kv.1,kv.2))/\kvs.length<=15/\Q (.ref p) (upd H2 p (.dK (iK [] kvs)))
def Bs(h:Re X pos keys values trs)(g:keys.all (·.isSome)=true)(O:keys.length=values.length)(h0:keys≠[])(A:keys.length<=15):PE X (.Dict keys values pos) (El trs):=by
 intro t s σ H Q I q;have hn:=I.hok.fresh (j8 s.heap.objs.size);have E:=I.laid (a:=s.heap.objs.size) (o:=.dK []) (h':=s.heap.push {cls:=.type "dict",data:=.dict #[]}) (t':=s.toks) (fun _ _ q=>e9 _ q) (j8 _) (IG s.heap I.big);refine wpAny_Dict_walk (knd:=bY X.prog X.w) g O h0 A (cZ (h t _ σ _ _ E (q _ hn)) fun ws s2 ⟨ps,H2,C,B,e,m,J,lk,T⟩=>?_);subst J;obtain ⟨Y,c,W⟩:=yN (P:=X.prog) (w:=X.w) B;obtain ⟨z,M,Z,U,G⟩:=qH C.hok e;cases U;refine {Y,c,G,fun D f hs=>{.ref s.heap.objs.size,_,?_,rfl,T}};have S:(iK [] m).length<=n7:=by have K:=kU m [];rw[length_nil]at K;rw[y9];lia
 have N:∃q,D.get? s.heap.objs.size=some q:=let ⟨q,_,_,R,_⟩:=f;{q,R};exact tF C (by rw[e];exact M6) hs N (yL S M (W.merge .nil) f)
structure M1(X:Cx)(o:D6)(m:Str)(a7:Pos)(e:D6)(bw:Pos):Prop where
 base:Q4 o m X.env (I0 o X.env)=I0 o X.env
 few:((K9 bw (m9 [e] X.env)).all (fun x=>!x.1)&&(ip bw (V7 [] X.env)).all (fun x=>x.1.isSome)
  && decide (([e]:List D6).length+([]:List li).length+(if ([]:List li).isEmpty then 0 else 1)<30))=true
 line:(a7.endLine==bw.line)=true
 trees:K9 bw (m9 [e] X.env)=[(false,I0 e X.env)]
structure M2(X:Cx)(o:D6)(m:Str)(a7:Pos)(e f:D6)(bw:Pos):Prop where
 base:Q4 o m X.env (I0 o X.env)=I0 o X.env
 few:((K9 bw (m9 [e,f] X.env)).all (fun x=>!x.1)&&(ip bw (V7 [] X.env)).all (fun x=>x.1.isSome)
  && decide (([e,f]:List D6).length+([]:List li).length+(if ([]:List li).isEmpty then 0 else 1)<30))=true
 line:(a7.endLine==bw.line)=true
 trees:K9 bw (m9 [e,f] X.env)=[(false,I0 e X.env),(false,I0 f X.env)]
def Mc(H:Hp)(a:c8):Prop:=(∃kvs,Rd H a (.dK kvs))∨∃kvs,Rd H a (.dT kvs)
def KO(I:aZ X ak σ H s)(d:Mc H a):
  s.TypeIs (.ref a) "dict"/\(∀b,j9 a=.ref b->∃c,s.heap.get? b=some c/\c.dict=none)/\(a==sysModules)=false:=by
 rcases d with ⟨t,e⟩|⟨t,e⟩
 ·obtain ⟨_,o,w,_,f⟩:=uV I.hok e;refine {f.typeIs,fun b q=>?_,o};cases q;obtain ⟨c,_,_,g,m,_⟩:=f;exact {c,g,m.2.1}
 ·obtain ⟨_,o,A,_,f⟩:=uU I.hok e;refine {f.typeIs,fun b q=>?_,o};cases q;obtain ⟨c,_,_,g,m,_⟩:=f;exact {c,g,m.2.1}
section
variable {X:Cx}{ak:List (c8×Obj)}{σ:St}{H:Hp}{s:f9}{a:c8}{y d:V}{u r:c7}{o:Option V}{A:A2}{E:c7->f9->Prop}
def Lj(D:A.units+1<L9)(I:aZ X ak σ H s)(g:pG H a y o)(B:bO y u)(h:∀w' s',aZ X ak σ H s'->bO (o.getD .non) w'->Q w' s'):
  i6 (j3 X.prog X.w) A (lc (.builtin "dict.get") [.ref a,u]) Q E s:=by
 rcases g with ⟨t,k,e,m,l⟩|⟨t,k,b,e,m,C,l⟩
 ·subst m;obtain ⟨z,q,J,c,f⟩:=uV I.hok e;refine gs dg f.typeIs mq (rz _ _) (meets_dict_get (bY X.prog X.w) a (oV B) q) {_,f.mapOf,h _ _ (I.tok _) ?_};rw[l];exact (c.val k).getD rfl
 ·subst m;cases (show u=j9 b from B);obtain ⟨z,q,G,c,f⟩:=uU I.hok e;refine gs dg f.typeIs mq (rz _ _) (meetsH_dict_get (jt (bY X.prog X.w)) a b q) {S9 D,k,G,qX I.hok C,f,h _ _ (I.tok _) ?_};rw[l];exact (c.val k).getD rfl
def Li(G:A.units+1<L9)(I:aZ X ak σ H s)(g:pG H a y o)(C:bO y u)(B:bO d r)(h:∀w' s',aZ X ak σ H s'->bO (o.getD d) w'->Q w' s'):
  i6 (j3 X.prog X.w) A (lc (.builtin "dict.get") [.ref a,u,r]) Q E s:=by
 rcases g with ⟨t,k,e,m,l⟩|⟨t,k,b,e,m,D,l⟩
 ·subst m;obtain ⟨z,q,K,c,f⟩:=uV I.hok e;refine gs dg f.typeIs mq (rr _ _ _) (meets_dict_get_default (bY X.prog X.w) a (oV C) q r) {_,f.mapOf,h _ _ (I.tok _) ?_};rw[l];exact (c.val k).getD B
 ·subst m;cases (show u=j9 b from C);obtain ⟨z,q,J,c,f⟩:=uU I.hok e;refine gs dg f.typeIs mq (rr _ _ _) (meetsH_dict_get_default (jt (bY X.prog X.w)) a b q r) {S9 G,k,J,qX I.hok D,f,h _ _ (I.tok _) ?_};rw[l];exact (c.val k).getD B
end
def TD(td ty:TE):TE:=fun σ H Q=>td σ H fun x H1=>∃a,x=.ref a/\Mc H1 a/\ty σ H1 fun y H2=>∃o,pG H2 a y o/\Q (o.getD .non) H2
def TC(td ty tx:TE):TE:=fun σ H Q=>td σ H fun x H1=>∃a,x=.ref a/\Mc H1 a/\ty σ H1 fun y H2=>tx σ H2 fun z H3=>∃o,pG H3 a y o/\Q (o.getD z) H3
def SY(td ty:TE):TE:=fun σ H Q=>td σ H fun x H1=>∃a,x=.ref a/\Mc H1 a/\ty σ H1 fun y H2=>∃kvs k v,H2 a=some (.dK kvs)/\y=kV k/\bP kvs k=some v/\Q v (upd H2 a (.dK (eP kvs k)))
section
variable {X:Cx}{o e f:D6}{a7 bw:Pos}{td ty tx:TE}
def HI(M:X.A.units+1<L9)(K:PE X o td)(J:PE X e ty)(m:M1 X o "get" a7 e bw):PE X (.Call (.Attribute o "get" a7) [e] [] bw) (TD td ty):=by intro c s w H Q I h;refine ix m.base m.few m.line X3 dg type_dict_get (cZ (K c s w H _ I h) fun u S ⟨x,B,t,P,a,G,d,N⟩=>?_);subst G;obtain rfl:u=j9 a:=P;obtain ⟨T,U,_⟩:=KO t d;refine {T,U,?_};rw[m.trees];refine X2 rfl (U2 (O5 (cZ (J c S w B _ t N) fun W Z ⟨y,C,D,R,Y,g,O⟩=>S0 ?_)));exact Lj M D g R fun w' s3 E q=>{_,C,E,q,O}
def gP(P:X.A.units+1<L9)(O:PE X o td)(M:PE X e ty)(N:PE X f tx)(m:M2 X o "get" a7 e f bw):PE X (.Call (.Attribute o "get" a7) [e,f] [] bw) (TC td ty tx):=by
 intro c s t H Q I h;refine ix m.base m.few m.line X3 dg type_dict_get (cZ (O c s t H _ I h) fun u Z ⟨x,B,w,U,a,K,d,R⟩=>?_);subst K;obtain rfl:u=j9 a:=U;obtain ⟨t1,t2,_⟩:=KO w d;refine {t1,t2,?_};rw[m.trees];refine X2 rfl (U2 (O5 (cZ (M c Z t B _ w R) fun iv s2 ⟨y,C,E,W,S⟩=>
  O5 (cZ (N c s2 t C _ E S) fun fv s3 ⟨z,D,G,Y,ov,g,T⟩=>S0 ?_))))
 exact Li P G g W Y fun w' s4 J q=>{_,D,J,q,T}
def WE(J:PE X o td)(G:PE X e ty)(m:M1 X o "pop" a7 e bw):PE X (.Call (.Attribute o "pop" a7) [e] [] bw) (SY td ty):=by intro c s t H Q I h;refine ix m.base m.few m.line X3 slot_dict_pop PySem.F.type_dict_pop (cZ (J c s t H _ I h) fun u R ⟨x,w,q,O,a,D,d,M⟩=>?_);subst D;obtain rfl:u=j9 a:=O;obtain ⟨S,T,_⟩:=KO q d;refine {S,T,?_};rw[m.trees];refine X2 rfl (U2 (O5 (cZ (G c R t w _ q M) fun W Y ⟨y,U,A,P,K,k,v,C,E,l,N⟩=>S0 ?_)));subst E;exact Qu A C P l (.inl rfl) fun w' Z B g=>{v,_,B,g,N}
end
section
variable {κ:Type}[DecidableEq κ]
def RO{p:κ×V}{r:List (κ×V)}{k:κ}(e:p.1=k):eP (p::r) k=eP r k:=by unfold eP;rw[X9,if_neg (by simp[e])]
def RP{p:κ×V}{r:List (κ×V)}{k:κ}(e:¬p.1=k):eP (p::r) k=p::eP r k:=by unfold eP;rw[X9,if_pos (by simp[e])]
end
def Sm(n:Nat)(x:Int):Prop:=x.natAbs<2^n
def Sm.mono(h:Sm m x)(l:m<=n):Sm n x:=i7 h (W1 (by decide) l)
def Sm.bits(h:Sm n x):si x<=n:=by
 unfold si;split
 ·exact C9 _
 ·have hn:x.natAbs<2^n:=h;rename_i f;have c:x.natAbs≠0:=fun e=>f (by rw[show x=0 by lia];rfl);have:x.natAbs.log2<n:=(Nat.log2_lt c).mpr hn;lia
def Sm.mulOk(c:Sm m a)(f:Sm n b)(h:m+n<=134217728):IntMulOk a b:=PyProof.Rows.mulOk_of_bits c.bits f.bits h
def Sm.log2(h:Sm n x):x.natAbs.log2<n+1:=by
 have hn:x.natAbs<2^n:=h;by_cases c:x.natAbs=0
 ·rw[c,Nat.log2_zero];lia
 ·have:=(Nat.log2_lt c).mpr hn;lia
def Sm.of{n:Nat}{x:Int}(c:-(2^n:Nat)<x)(f:x<(2^n:Nat)):Sm n x:=by unfold Sm;generalize 2^n=k at *;lia
def Sm.mul(c:Sm m a)(f:Sm n b):Sm (m+n) (a*b):=by unfold Sm at *;rw[J5,Nat.pow_add];exact Nat.mul_lt_mul'' c f
def Sm.le(h:a.natAbs<=b.natAbs)(c:Sm n b):Sm n a:=E3 h c
section
variable {X:Cx}
def pH(_ j:Int):Prop:=j≠0/\Sm 8000 j
def bE:kK X (R3 .FloorDiv) (rI pH fun i j=>.int (i.fdiv j)):=Pw fun _ _ _ _ _ _ _ c q=>floordiv_int c.1 q (.inl (PyProof.noPylong_of_log2 (jw c.2.log2 (by decide))))
def fJ(i j:Int):Prop:=Me i j∨(Sm 60000000 i/\Sm 60000000 j)
def fJ.ok(h:fJ i j):IntMulOk i j:=by
 rcases h with h|⟨c,f⟩
 ·exact h.ok
 ·exact c.mulOk f (by decide)
def fJ.l(c:-(2^64)<i)(f:i<2^64):fJ i j:=.inl (.inl {c,f})
def fJ.r(c:-(2^64)<j)(f:j<2^64):fJ i j:=.inl (.inr {c,f})
def fJ.s(c:Sm m i)(f:Sm n j)(g:m<=60000000)(hn:n<=60000000):fJ i j:=.inr {c.mono g,f.mono hn}
def cV:kK X (R3 .Mult) (rI fJ fun i j=>.int (i*j)):=Pw fun _ _ _ _ _ _ _ c q=>mul_int q c.ok
def Fx(K:v9)(T:String):List V->Hp->VK->Prop:=fun xs H Q=>∃x t b,xs=[x,.ty T]/\nD K H x t/\i9 K t (.type T)=some b/\Q (.bl b) H
def pP:fO X (.builtin "isinstance") (Fx X.K T):=by intro c s o H m g Q I r h;obtain ⟨x,t,b,rfl,ty,e,q⟩:=h;obtain ⟨u,v,rfl,f,rv⟩:=bU.two r;obtain rfl:v=O3 T:=rv;exact RC I f ty e fun tk=>{.bl b,H,I.tok tk,rfl,q}
end
section
variable {σ:St}{H:Hp}{Q:VK}{D:fR}{t u:TS}{te ta tb:TE}{v w x:V}{i j:Int}{b c:Bool}{X:Cx}{K:v9}
def Ny(h:σ[n]?=some (some v))(k:Q v H):Hh n σ H Q:={v,h,k}
def r_c(k:Q v H):tC v σ H Q:=k
def jM(k:t {u D,D.rt,D.bk,D.ct} σ H):Mv t u D σ H:=k
def uY{n r b' c'}(k:n σ H):fR.nx {n,r,b',c'} σ H:=k
def Si{n r b' c'}(k:r v H):fR.rt {n,r,b',c'} v H:=k
def So{n r b' c'}(k:c' σ H):fR.ct {n,r,b',c'} σ H:=k
def Hy(k:D.nx σ H):Eh D σ H:=k
def Iq(k:D.ct σ H):En D σ H:=k
def Pf(k:te σ H fun x H1=>g x σ H1 D.nx):TM te g D σ H:=k
def As(k:R (σ.set n (some v)) H):hX n v σ H R:=k
def Sk(k:ta σ H fun x H1=>tb σ H1 fun y H2=>r x y H2 Q):Nb r ta tb σ H Q:=k
def Sf{r}(k:ta σ H fun x H1=>r x H1 Q):Ty r ta σ H Q:=k
def Pi{g}(k:Q (g i j) H):ZO g (.int i) (.int j) H Q:={i,j,rfl,rfl,k}
def Fu{C g}(c:C i j)(k:Q (g i j) H):rI C g (.int i) (.int j) H Q:={i,j,rfl,rfl,c,k}
def r_U{g}(k:Q (g i) H):rU g (.int i) H Q:={i,rfl,k}
def bK(R:Bool->Hp->Prop):VK:=fun x H=>∃k,x=.bl k/\R k H
def Sr(k:R b H):bK R (.bl b) H:={b,rfl,k}
def Hm(k:te σ H (bK R)):SW te σ H R:=k
def Sg(k:te σ H (bK R)):tB te σ H R:=k
def Ov(k:tc σ H fun b H1=>if b=true then t D σ H1 else u D σ H1):Nd tc t u D σ H:=k
def Sn(k:tc σ H fun b H1=>if b=true then ta σ H1 Q else tb σ H1 Q):Ub tc ta tb σ H Q:=k
def Pg(k:ca σ H fun c H1=>if c=true then cb σ H1 R else R false H1):Nh ca cb σ H R:=k
def Sj(k:ca σ H fun c H1=>if c=true then R true H1 else cb σ H1 R):Ua ca cb σ H R:=k
def Om(k:ca σ H fun c H1=>R (!c) H1):Nc ca σ H R:=k
def Qy(tb:TE)(σ:St)(Q:VK):VK:=fun x H1=>∃c,x=.bl c/\if c=true then tb σ H1 Q else Q (.bl false) H1
def Ue(tb:TE)(σ:St)(Q:VK):VK:=fun x H1=>∃c,x=.bl c/\if c=true then Q (.bl true) H1 else tb σ H1 Q
def Pz(Q:VK):VK:=fun x H1=>∃c,x=.bl c/\Q (.bl (!c)) H1
def Ix(k:ta σ H (Qy tb σ Q)):Ep ta tb σ H Q:=k
def Og(k:ta σ H (Ue tb σ Q)):Mz ta tb σ H Q:=k
def Hu(k:ta σ H (Pz Q)):Eg ta σ H Q:=k
def Iy(k:if c=true then tb σ H Q else Q (.bl false) H):Qy tb σ Q (.bl c) H:={c,rfl,k}
def Oj(k:if c=true then Q (.bl true) H else tb σ H Q):Ue tb σ Q (.bl c) H:={c,rfl,k}
def Hv(k:Q (.bl (!c)) H):Pz Q (.bl c) H:={c,rfl,k}
def Oe(k:te σ H D.rt):Mx te D σ H:=k
def Il(k:te σ H fun _ H1=>D.nx σ H1):Ek te D σ H:=k
def Fo(k:R [] H):CD σ H R:=k
def Ir(k:ta σ H fun x H1=>tr σ H1 fun xs H2=>R (x::xs) H2):Eo ta tr σ H R:=k
def Hb(Q:VK):List V->Hp->Prop:=fun xs H1=>xs.length<=n7/\∀p,H1 p=none->Q (.ref p) (upd H1 p (.tup xs))
def Cn(Q:VK):List V->Hp->Prop:=fun xs H1=>xs.length<=n7/\∀p,H1 p=none->Q (.ref p) (upd H1 p (.lst xs))
def vL(h:n<=1000):n<=n7:=V6 (eE h)
def Nz(k:tr σ H (Hb Q)):Ms tr σ H Q:=k
def Fp(k:tr σ H (Cn Q)):PY tr σ H Q:=k
def bD(k:∀p,H p=none->Q (.ref p) (upd H p (.tup xs)))(h:xs.length<=1000:=by exact A3 rfl):Hb Q xs H:={vL h,k}
def cE(k:∀p,H p=none->Q (.ref p) (upd H p (.lst xs)))(h:xs.length<=1000:=by exact A3 rfl):Cn Q xs H:={vL h,k}
def Iv(k:tr σ H fun vs f=>sp vs f Q E):FH sp [] E tr σ H Q:=by
 show tr σ H fun vs f=>sp (vs++[]) f Q E;have e:(fun(vs:List V) f=>sp (vs++[]) f Q E)=fun vs f=>sp vs f Q E:=by funext vs f;rw[L0]
 rw[e];exact k
def Ss{r}(k:tr σ H fun vs H1=>r vs H1 Q):Rp r tr σ H Q:=k
def Of{f:TA}(k:f σ H fun vs H1=>∃v w,vs=[v,w]/\D.nx ((σ.set n (some v)).set m (some w)) H1):My n m f D σ H:=k
def Oy(k:Q (.bl (decide (i=j))) H):Sx (.int i) (.int j) H Q:={rfl,by rw[vV,xi];exact k}
def On(k:Q (.bl (!decide (i=j))) H):Sv (.int i) (.int j) H Q:={rfl,by rw[vV,xi];exact k}
def Fq(h:cU K H p xs)(e:vD xs i=some v)(k:Q v H):Bh K (.ref p) (.int i) H Q:={p,xs,i,v,rfl,rfl,h,e,k}
def Ou(h:EN K H p xs)(e:vD xs i=some v)(k:Q v H):Bg K (.ref p) (.int i) H Q:={p,xs,i,v,rfl,rfl,h,e,k}
def AV(K:v9):R2:=fun x y H Q=>Bh K x y H Q∨Bg K x y H Q∨Jb x y H Q
def aS:ZG X (AV X.K):=Kw
def eV(h:H p=some (.lst xs))(e:vD xs i=some v)(k:Q v H):AV K (.ref p) (.int i) H Q:=.inl (Fq (cU.of h) e k)
def NP(h:H p=some (.tup xs))(e:vD xs i=some v)(k:Q v H):AV K (.ref p) (.int i) H Q:=.inr (.inl (Ou (EN.of h) e k))
def Uf{A B:Prop}(h:A):if true=true then A else B:=Qf h
def Ug{A B:Prop}(h:B):if false=true then A else B:=Qg h
def Kz{p A B:Prop}[Decidable p](hp:p)(h:A):if decide p=true then A else B:=by rw[decide_eq_true hp];exact Qf h
def Qj{p A B:Prop}[Decidable p](hp:¬p)(h:B):if decide p=true then A else B:=by rw[decide_eq_false hp];exact Qg h
def mX{p A B:Prop}[Decidable p](f:p->A)(g:¬p->B):if decide p=true then A else B:=by
 by_cases h:p
 ·exact Kz h (f h)
 ·exact Qj h (g h)
def Ky{A B:Prop}(h:if b=true then B else A):if (!b)=true then A else B:=by cases b <;> exact h
def oW{A B:Prop}(f:b=true)(h:A):if b=true then A else B:=by rw[f];exact Uf h
def gC{A B:Prop}(f:b=false)(h:B):if b=true then A else B:=by rw[f];exact Ug h
end
def Kp(p:c8)(H H':Hp):Prop:=∀b o,b≠p->H b=some o->H' b=some o
def Kp.refl(p:c8)(H:Hp):Kp p H H:=fun _ _ _ h=>h
def Kp.trans(a:Kp p H H1)(b:Kp p H1 H2):Kp p H H2:=fun c o n h=>b c o n (a c o n h)
def Kp.upd:Kp p H (upd H p o):=fun c u n h=>by rw[aX n];exact h
def Kp.new(f:H q=none):Kp p H (L2.upd H q o):=fun c u n h=>by rw[aX (aD h f)];exact h
def aJ.new(f:H q=none):aJ H (upd H q o):=fun c u h=>by rw[aX (aD h f)];exact h
def aJ.kp(s:aJ H H'):Kp p H H':=fun c o _ h=>s c o h
def Uh(H:Hp)(p:c8)(n:Int):Prop:=∃a b c:Int,H p=some (.lst [.int a,.int b,.int c])/\0<=a/\0<=b/\b<=n
structure Df(K:v9)(mg:Str->Option c7)(x:Str)(st:D4)(ps:List Str):Prop where
 ex:∃(f:c8)(fd:K6),(∃(oc:c7)(od:Option c8)(dV kV doc pm:c7)(an:Option c8)(bz ct:c7)(osl:Array (Option c7)),
  fd=gr x x (cY st) (bV st) (aG st) dV kV doc pm an bz ct/\K.lookup f=some {oc,od,.func fd,osl}/\D8 K bz x=true)/\B3 K (.ref f)=true/\mg x=some (.ref f)/\iC K fd ps []
structure bZ(P:m7)(w:y6)(K:v9)(mg:Str->Option c7)(base:A7)(k:Nat)(x:Str)(ps:List Str)(sp:Sp):Prop where
 ex:∃(f:c8)(fd:K6),mg x=some (.ref f)/\B3 K (.ref f)=true/\iC K fd ps []/\nG P w K mg base rL k f fd ps sp
def bZ.mono{P:m7}{w:y6}{K:v9}{m:Str->Option c7}{g:A7}{j k:Nat}{x:Str}{ps:List Str}{sp:Sp}(o:bZ P w K m g j x ps sp)(h:j<=k):bZ P w K m g k x ps sp:=
 let ⟨f,q,a,b,c,d⟩:=o.ex;{f,q,a,b,c,d.mono h}
def bZ.of{P:m7}{w:y6}{K:v9}{G:Str->Option c7}{m:A7}{k:Nat}{x:Str}{st:D4}{N ps:List Str}{sp:Sp}(d:Df K G x st ps)(S:aM N ps (aG st))(D:∀vs H Q E,sp vs H Q E->vs.length=ps.length)
  (o:∀ (f:c8) (g:c7) (A:A2)(c:List Env)(s:f9)(H:Hp)(vs:List V)(Q:VK)(E:XK),eR k (A.deeper (W7 x (aG st) s.heap.objs.size f g))->sp vs H Q E ->
   ∃t,yW (oZ rL P w K G m N x (aG st) f g A c s H E).nox (bV st) t/\t {nx:=fun _ H'=>Q .non H',rt:=Q} (start N vs) H):bZ P w K G m (k+1) x ps sp:=by
 obtain ⟨f,W,⟨X,Y,U,kV,I,Z,R,g,T,O,rfl,M,B⟩,kp,a,b⟩:=d.ex;refine {f,_,a,kp,b,BM M B S D fun A c s H vs Q E J C=>?_};obtain ⟨t,h,q⟩:=o f g A c s H vs Q E J C;exact {t,h.nox,q}
def df_mk{K:v9}{A:Str->Option c7}{h:A7}{x:Str}{st:D4}{ps:List Str}{f:c8}{B:c7}{C q:Option c8}{o:Array (Option c7)}{t kV m w g s:c7}(X:K.In h)(G:h.Ns B8 A)(a:nsIn K B8 x=some (some (.ref f)))(l:K.lookup f=some {B,C,.func (gr x x (cY st) (bV st) (aG st) t kV m w q g s),o})(c:D8 K g x=true)(k:B3 K (.ref f)=true)(b:∀us:List c7,us.length=ps.length->wt (gr x x (cY st) (bV st) (aG st) t kV m w q g s) {us,[]}=K0 (ps.zip us)):Df K A x st ps:=
 {f,_,{B,C,t,kV,m,w,q,g,s,o,rfl,l,c},k,mg_of X G a,.all b}
structure Gv(K:v9)(mg:Str->Option c7)(x:Str)(st:D4)(ps:List Str)(dvs:List V):Prop where
 ex:∃(f:c8)(fd:K6),(∃(oc:c7)(od:Option c8)(dV kV doc pm:c7)(an:Option c8)(bz ct:c7)(osl:Array (Option c7)),
  fd=gr x x (cY st) (bV st) (aG st) dV kV doc pm an bz ct/\K.lookup f=some {oc,od,.func fd,osl}/\D8 K bz x=true)/\B3 K (.ref f)=true/\mg x=some (.ref f)/\iC K fd ps []/\∃ds,bU dvs ds/\iC K fd ps ds
structure pC(P:m7)(w:y6)(K:v9)(mg:Str->Option c7)(base:A7)(k:Nat)(x:Str)(ps:List Str)(dvs:List V)(sp:Sp):Prop where
 ex:∃(f:c8)(fd:K6),mg x=some (.ref f)/\B3 K (.ref f)=true/\iC K fd ps []/\(∃ds,bU dvs ds/\iC K fd ps ds)/\nG P w K mg base rL k f fd ps sp
def pC.mono{P:m7}{w:y6}{K:v9}{q:Str->Option c7}{g:A7}{j k:Nat}{x:Str}{ps:List Str}{m:List V}{sp:Sp}(o:pC P w K q g j x ps m sp)(h:j<=k):pC P w K q g k x ps m sp:=
 let ⟨f,s,a,b,c,e,d⟩:=o.ex;{f,s,a,b,c,e,d.mono h}
def pC.f{P:m7}{w:y6}{K:v9}{q:Str->Option c7}{g:A7}{k:Nat}{x:Str}{ps:List Str}{m:List V}{sp:Sp}(o:pC P w K q g k x ps m sp):bZ P w K q g k x ps sp:=
 let ⟨f,s,a,b,c,_,d⟩:=o.ex;{f,s,a,b,c,d}
def pC.of{P:m7}{w:y6}{K:v9}{I:Str->Option c7}{m:A7}{k:Nat}{x:Str}{st:D4}{N ps:List Str}{B:List V}{sp:Sp}(d:Gv K I x st ps B)(S:aM N ps (aG st))(G:∀vs H Q E,sp vs H Q E->vs.length=ps.length)
  (o:∀ (f:c8) (g:c7) (A:A2)(c:List Env)(s:f9)(H:Hp)(vs:List V)(Q:VK)(E:XK),eR k (A.deeper (W7 x (aG st) s.heap.objs.size f g))->sp vs H Q E ->
   ∃t,yW (oZ rL P w K I m N x (aG st) f g A c s H E).nox (bV st) t/\t {nx:=fun _ H'=>Q .non H',rt:=Q} (start N vs) H):pC P w K I m (k+1) x ps B sp:=by
 obtain ⟨f,Y,⟨Z,od,X,kV,M,pm,U,g,W,T,rfl,R,C⟩,kp,a,b,J⟩:=d.ex;refine {f,_,a,kp,b,J,BM R C S G fun A c s H vs Q E O D=>?_};obtain ⟨t,h,q⟩:=o f g A c s H vs Q E O D;exact {t,h.nox,q}
def LB{K:v9}{H:Str->Option c7}{h:A7}{x:Str}{st:D4}{ps:List Str}{f T:c8}{I:c7}{J A:Option c8}{w:Array (Option c7)}{kV m D g B:c7}{o:Obj}{items:Array c7}{n:Nat}{q:List V}{ds:List c7}(X:K.In h)(G:h.Ns B8 H)(a:nsIn K B8 x=some (some (.ref f)))(l:K.lookup f=some {I,J,.func (gr x x (cY st) (bV st) (aG st) (.ref T) kV m D A g B),w})(c:D8 K g x=true)(k:B3 K (.ref f)=true)(t:K.lookup T=some o)(O:o.data=.seq items n)(b:∀(s:f9)(us:List c7),s.heap.get? T=some o->us.length=ps.length->W6 s (gr x x (cY st) (bV st) (aG st) (.ref T) kV m D A g B) {us,[]} (ps.zip us))(N:bU q ds)(M:∀(s:f9)(us:List c7),s.heap.get? T=some o->(us++ds).length=ps.length->W6 s (gr x x (cY st) (bV st) (aG st) (.ref T) kV m D A g B) {us,[]} (ps.zip (us++ds))):Gv K H x st ps q:=
 {f,_,{I,J,.ref T,kV,m,D,A,g,B,w,rfl,l,c},k,mg_of X G a,fun s us E C=>by rw[L0]at C ⊢;exact b s us (E T o t) C,ds,N,fun s us E C=>M s us (E T o t) C}
section
variable {X:Cx}{k:Nat}{x:Str}{ps:List Str}{dvs:List V}{sp:Sp}{p pos:Pos}{e:D6}{es:List D6}{t:TA}
def WH(o:pC X.prog X.w X.K X.mg X.base k x ps dvs sp)(C:eR k X.A)(B:Gl X x)(q:PA X (e::es) t)(g:(x==("__debug__":Str))=false:=by decide)(s:m9 (e::es) X.env=(false,I0 e X.env)::m9 es X.env:=by rfl)(m:(K9 pos (m9 es X.env)).any (·.1)=false:=by rfl):
  PE X (.Call (.Name x p) (e::es) [] pos) (FH sp dvs E0 t):=by
 obtain ⟨f,G,a,b,_,⟨E,D,c⟩,d⟩:=o.ex;exact OJ d C B a b c D lJ q g s m
def Bc(k:tr σ H fun vs H1=>sp (vs++dvs) H1 Q E):FH sp dvs E tr σ H Q:=k
end
section
variable {X:Cx}{k:Nat}{x:Str}{ps:List Str}{sp:Sp}{p pos:Pos}{e:D6}{es:List D6}{t:TA}
def aI(o:bZ X.prog X.w X.K X.mg X.base k x ps sp)(C:eR k X.A)(B:Gl X x)(q:PA X (e::es) t)(g:(x==("__debug__":Str))=false:=by decide)(s:m9 (e::es) X.env=(false,I0 e X.env)::m9 es X.env:=by rfl)(m:(K9 pos (m9 es X.env)).any (·.1)=false:=by rfl):
  PE X (.Call (.Name x p) (e::es) [] pos) (FH sp [] E0 t):=by
 obtain ⟨f,D,a,b,c,d⟩:=o.ex;exact OJ d C B a b c .nil lJ q g s m
end
section
variable {σ:St}{H:Hp}{Q:VK}{D:fR}{v:V}{i j:Int}{K:v9}
def Ot(h:cU K H p xs)(e:vD xs i=some v)(k:Q v H):AV K (.ref p) (.int i) H Q:=.inl (Fq h e k)
def lE(h:0<j)(k:Q (.int (i%j)) H):rI (fun _ j=>0<j) (fun i j=>.int (i%j)) (.int i) (.int j) H Q:=Fu h k
def nO(h:fJ i j)(k:Q (.int (i*j)) H):rI fJ (fun i j=>.int (i*j)) (.int i) (.int j) H Q:=Fu h k
def pH.of(h0:0<j)(c:j<2^64):pH i j:={by lia,Sm.mono (m:=64) (Sm.of (by lia) (by lia)) (by decide)}
def iF(h:pH i j)(k:Q (.int (i.fdiv j)) H):rI pH (fun i j=>.int (i.fdiv j)) (.int i) (.int j) H Q:=Fu h k
def Hr(k:Q (.int 1000000000) H):rI ZL (fun i j=>.int (i^j.toNat)) (.int 10) (.int 9) H Q:=Fu {by decide,by decide,by decide} k
def Ht(k:D.nx ((σ.set n (some v)).set m (some w)) H):∃c f,[v,w]=[c,f]/\D.nx ((σ.set n (some c)).set m (some f)) H:={v,w,rfl,k}
end
def YU:B9 "int"=some (.type "int"):=by k_is
def Dq:B9 "bool"=some (.type "bool"):=by k_is
def Lp:B9 "str"=some (.type "str"):=by k_is
def PJ:B9 "list"=some (.type "list"):=by k_is
def YT:B9 "tuple"=some (.type "tuple"):=by k_is
def EI:B9 "dict"=some (.type "dict"):=by k_is
def Lq:B9 "set"=some (.type "set"):=by k_is
def EH:B9 "enumerate"=some (.type "enumerate"):=by k_is
def Lo:B9 "zip"=some (.type "zip"):=by k_is
def eB:B9 "len"=some (.builtin "len"):=by k_is
def LF:B9 "abs"=some (.builtin "abs"):=by k_is
def yQ:B9 "max"=some (.builtin "max"):=by k_is
def EG:B9 "min"=some (.builtin "min"):=by k_is
def bL:B9 "isinstance"=some (.builtin "isinstance"):=by k_is
def lQ:B9 "sorted"=some (.builtin "sorted"):=by k_is
structure Bl(mg:Str->Option c7):Prop where
 z_int:mg "int"=none
 z_bool:mg "bool"=none
 z_str:mg "str"=none
 z_list:mg "list"=none
 z_tuple:mg "tuple"=none
 z_dict:mg "dict"=none
 z_set:mg "set"=none
 z_range:mg "range"=none
 z_enumerate:mg "enumerate"=none
 z_zip:mg "zip"=none
 z_reversed:mg "reversed"=none
 z_len:mg "len"=none
 z_abs:mg "abs"=none
 z_max:mg "max"=none
 z_min:mg "min"=none
 z_isinstance:mg "isinstance"=none
 z_sorted:mg "sorted"=none
 z_all:mg "all"=none
 z_any:mg "any"=none
 z_sum:mg "sum"=none
section
variable {K:v9}{H:Hp}{Q:VK}
def kY:i9 K (.type "bool") (.type "bool")=some true:=by first|rfl|with_unfolding_all rfl|decide
def mV:i9 K (.type "bool") (.type "int")=some true:=by first|rfl|with_unfolding_all rfl|decide
def DU:i9 K (.type "bool") (.type "str")=some false:=by first|rfl|with_unfolding_all rfl|decide
def yD:i9 K (.type "bool") (.type "tuple")=some false:=by first|rfl|with_unfolding_all rfl|decide
def hV:i9 K (.type "int") (.type "bool")=some false:=by first|rfl|with_unfolding_all rfl|decide
def iX:i9 K (.type "int") (.type "int")=some true:=by first|rfl|with_unfolding_all rfl|decide
def IB:i9 K (.type "int") (.type "str")=some false:=by first|rfl|with_unfolding_all rfl|decide
def zG:i9 K (.type "int") (.type "tuple")=some false:=by first|rfl|with_unfolding_all rfl|decide
def mU:i9 K (.type "str") (.type "bool")=some false:=by first|rfl|with_unfolding_all rfl|decide
def oU:i9 K (.type "str") (.type "int")=some false:=by first|rfl|with_unfolding_all rfl|decide
def IA:i9 K (.type "str") (.type "str")=some true:=by first|rfl|with_unfolding_all rfl|decide
def zC:i9 K (.type "str") (.type "tuple")=some false:=by first|rfl|with_unfolding_all rfl|decide
def yB:i9 K (.type "tuple") (.type "bool")=some false:=by first|rfl|with_unfolding_all rfl|decide
def zB:i9 K (.type "tuple") (.type "int")=some false:=by first|rfl|with_unfolding_all rfl|decide
def qD:i9 K (.type "tuple") (.type "str")=some false:=by first|rfl|with_unfolding_all rfl|decide
def nP:i9 K (.type "tuple") (.type "tuple")=some true:=by first|rfl|with_unfolding_all rfl|decide
def zD:i9 K (.type "list") (.type "bool")=some false:=by first|rfl|with_unfolding_all rfl|decide
def DR:i9 K (.type "list") (.type "int")=some false:=by first|rfl|with_unfolding_all rfl|decide
def DP:i9 K (.type "list") (.type "str")=some false:=by first|rfl|with_unfolding_all rfl|decide
def yC:i9 K (.type "list") (.type "tuple")=some false:=by first|rfl|with_unfolding_all rfl|decide
def zH:i9 K (.type "dict") (.type "bool")=some false:=by first|rfl|with_unfolding_all rfl|decide
def DT:i9 K (.type "dict") (.type "int")=some false:=by first|rfl|with_unfolding_all rfl|decide
def DS:i9 K (.type "dict") (.type "str")=some false:=by first|rfl|with_unfolding_all rfl|decide
def kE:i9 K (.type "NoneType") (.type "bool")=some false:=by first|rfl|with_unfolding_all rfl|decide
def lP:i9 K (.type "NoneType") (.type "int")=some false:=by first|rfl|with_unfolding_all rfl|decide
def uC:i9 K (.type "NoneType") (.type "str")=some false:=by first|rfl|with_unfolding_all rfl|decide
def qV:i9 K (.type "NoneType") (.type "tuple")=some false:=by first|rfl|with_unfolding_all rfl|decide
def qM(ty:nD K H x t)(e:i9 K t (.type T)=some b)(k:Q (.bl b) H):Fx K T [x,.ty T] H Q:={x,t,b,rfl,ty,e,k}
end
section
variable {X:Cx}{K:v9}{σ:St}{H:Hp}{Q:VK}{D:fR}{i j:Int}{b:Bool}
def Pq:List V->Hp->VK->Prop:=fun xs H Q=>∃i,xs=[.int i]/\Q (.int (if i<0 then -i else i)) H
def YS:fO X (.builtin "abs") Pq:=YR
def Ph(k:Q (.int (if i<0 then -i else i)) H):Pq [.int i] H Q:={i,rfl,k}
def Fw:List V->Hp->VK->Prop:=fun xs H Q=>∃i j,xs=[.int i,.int j]/\Q (.int (if j>i then j else i)) H
def IT(c:X.calm=true):fO X (.builtin "max") Fw:=RX c
def Os(k:Q (.int (if j>i then j else i)) H):Fw [.int i,.int j] H Q:={i,j,rfl,k}
def Fv:List V->Hp->VK->Prop:=fun xs H Q=>∃i j,xs=[.int i,.int j]/\Q (.int (if j<i then j else i)) H
def PH(c:X.calm=true):fO X (.builtin "min") Fv:=RW c
def Oq(k:Q (.int (if j<i then j else i)) H):Fv [.int i,.int j] H Q:={i,j,rfl,k}
def Bf(K:v9):List V->Hp->VK->Prop:=fun xs H Q=>∃x n,xs=[x]/\Ri K x H n/\Q (.int n) H
def fH:fO X (.builtin "len") (Bf X.K):=YQ
def CS(h:cU K H p xs)(k:Q (.int xs.length) H):Bf K [.ref p] H Q:={_,_,rfl,.inl {xs,h,rfl},k}
def xG(h:H p=some (.lst xs))(k:Q (.int xs.length) H):Bf K [.ref p] H Q:=CS (cU.of h) k
def Ib(h:H p=some (.tup xs))(k:Q (.int xs.length) H):Bf K [.ref p] H Q:={_,_,rfl,.inr {xs,EN.of h,rfl},k}
def Fy:List V->Hp->VK->Prop:=fun xs H Q=>(∃i,xs=[.int i]/\Q (.int i) H)∨∃k,xs=[.bl k]/\Q (.int (if k then 1 else 0)) H
def Qx:fO X (.type "int") Fy:=RY
def Ii(k:Q (.int (if b then 1 else 0)) H):Fy [.bl b] H Q:=.inr {b,rfl,k}
def IC(g:TG)(tb:TS)(D:fR)(σ:St):It->Hp->Prop:=fun J H1=>∃W:Nat->Nat->St->Hp->Prop,(∃m,W 0 m σ H1)/\∀i m σ H,W i m σ H ->
 (J.stop i H/\D.nx σ H)∨(J.go i H/\∃N:St->Hp->Prop,(∀σ' H',N σ' H'->∃m',m'<m/\W (i+1) m' σ' H')/\∀x H',J.yld i H x H'->g x σ H' fun σ2 H2=>tb {D with nx:=N,ct:=N,bk:=D.nx} σ2 H2)
def Ow(k:wi σ H (IC g tb D σ)):Hj wi g tb D σ H:=k
def Fl(R:It->Hp->Prop):List V->Hp->Prop:=fun vs H1=>∃j:Int,vs=[.int j]/\-(2^62)<=j/\j<2^62/\R (LM 0 j.toNat) H1
def Fk(R:It->Hp->Prop):List V->Hp->Prop:=fun vs H1=>∃i j:Int,vs=[.int i,.int j]/\(-(2^62)<=i/\i<2^62/\-(2^62)<=j/\j<2^62)/\R (LM i (j-i).toNat) H1
def Hq(k:ta σ H (Fl R)):Gp ta σ H R:=k
def Ho(k:ta σ H (Fk R)):Go ta σ H R:=k
def mG(c:-(2^62)<=j)(f:j<2^62)(k:R (LM 0 j.toNat) H):Fl R [.int j] H:={j,rfl,c,f,k}
def NO(c:-(2^62)<=i)(f:i<2^62)(g:-(2^62)<=j)(m:j<2^62)(k:R (LM i (j-i).toNat) H):Fk R [.int i,.int j] H:={i,j,rfl,{c,f,g,m},k}
def Ik{lo:Int}{n:Nat}{g:TG}{f:TS}(c:Nat->St->Hp->Prop)(h0:c 0 σ H)(hs:∀i σ H,i<n->c i σ H->g (.int (lo+i)) σ H fun σ2 H2=>f {c (i+1),D.rt,D.nx,c (i+1)} σ2 H2)(m:∀σ H,c n σ H->D.nx σ H):IC g f D σ (LM lo n) H:=RH c h0 hs m
def Gj(K:v9)(R:It->Hp->Prop):VK:=fun x H1=>∃a,x=.ref a/\(∃xs,cU K H1 a xs)/\R (SK K a) H1
def Aq(k:tl σ H (Gj K R)):Gq K tl σ H R:=k
def cK(h:cU K H a xs)(k:R (SK K a) H):Gj K R (.ref a) H:={a,rfl,{xs,h},k}
def JR(c:Nat->St->Hp->Prop)(h0:c 0 σ H)(m:∀i σ H,i<=xs.length->c i σ H->cU K H a xs)(hs:∀i x σ H,xs[i]?=some x->c i σ H->g x σ H fun σ2 H2=>tb {c (i+1),D.rt,D.nx,c (i+1)} σ2 H2)(f:∀σ H,c xs.length σ H->D.nx σ H):IC g tb D σ (SK K a) H:=YG c h0 m hs f
end
end L2
namespace L2
open PySem
noncomputable def sg(t b:Int):Int:=if b<0 then 0-(n6 t b:Int) else (n6 t b:Int)
def eY(t b:Int):Int:=t.fdiv (sg t b)
def fB(t b:Int):Int:=b.fdiv (sg t b)
def vQ(h:b≠0):0<n6 t b:=Nat.pos_of_ne_zero fun e=>h (ma.mp e).2
def GO(h:b≠0):sg t b≠0:=by have:=vQ (t:=t) h;unfold sg;split <;> lia
def UP(t b:Int):sg t b∣t:=by
 unfold sg;split
 ·exact (Int.zero_sub _▸Int.neg_dvd.mpr (V3 ..))
 ·exact V3 ..
def UO(t b:Int):sg t b∣b:=by
 unfold sg;split
 ·exact (Int.zero_sub _▸Int.neg_dvd.mpr (X6 ..))
 ·exact X6 ..
def vS{a g:Int}(f:g≠0)(h:g∣a):a.fdiv g*g=a:=by obtain ⟨c,rfl⟩:=h;rw[ir _ f,O2]
def xY(h:b≠0):eY t b*sg t b=t:=vS (GO h) (UP t b)
def oR(h:b≠0):fB t b*sg t b=b:=vS (GO h) (UO t b)
def tO(t b:Int):(sg t b).natAbs=n6 t b:=by unfold sg;split <;> lia
def sW(h:b≠0):0<fB t b:=by
 have e:=oR (t:=t) h;have hp:=vQ (t:=t) h;by_cases c:b<0
 ·have hs:sg t b<0:=by unfold sg;rw[if_pos c];lia
  rcases jf 0 (fB t b) with q|q
  ·exact q
  ·have:0<=fB t b*sg t b:=Int.mul_nonneg_of_nonpos_of_nonpos q (xg hs);lia
 ·have hs:0<sg t b:=by unfold sg;rw[if_neg c];lia
  rcases jf 0 (fB t b) with q|q
  ·exact q
  ·have:fB t b*sg t b<=0:=W8 q (xg hs);lia
def Cq(h:b≠0):n6 (eY t b) (fB t b)=1:=by
 have c:=xY (t:=t) h;have f:=oR (t:=t) h;have hp:=vQ (t:=t) h;have e:n6 (eY t b*sg t b) (fB t b*sg t b)=n6 (eY t b) (fB t b)*(sg t b).natAbs:=ox ..;rw[c,f,tO]at e;have:1*n6 t b=n6 (eY t b) (fB t b)*n6 t b:=by lia
 exact (gi hp this).symm
def QT(h:b≠0):t*fB t b=b*eY t b:=by
 have c:=xY (t:=t) h;have f:=oR (t:=t) h
 calc t*fB t b=(eY t b*sg t b)*fB t b:=by rw[c]
  _=(fB t b*sg t b)*eY t b:=by rw[mf,O2 (sg t b),←mf,O2 (eY t b),mf,O2 (eY t b),←mf]
  _=b*eY t b:=by rw[f]
def iJ{a g c:Int}(f:g≠0)(e:a*g=c):a.natAbs<=c.natAbs:=by rw[←e,J5];exact Q5 _ (by lia)
def DN(h:b≠0):(eY t b).natAbs<=t.natAbs:=iJ (GO h) (xY h)
def YE(h:0<other):n6 other (one%other)=n6 one other:=by
 have e:one%other=one-(one/other)*other:=by rw[Int.emod_def,O2]
 rw[e,X7 other,uk]
def RG(h:other≠0):n6 other (one.fmod other)=n6 one other:=by
 have e:one.fmod other=one-(one.fdiv other)*other:=by rw[Int.fmod_def,O2]
 rw[e,X7 other,uk]
def Sy{ns:List Int}{i:Int}(h0:0<=i)(f:i<ns.length):∃z,z∈ns/\vD (ns.map V.int) i=some (.int z):=by
 have hk:i.toNat<ns.length:=by lia
 have c:i=((i.toNat:Nat):Int):=by lia
 have q:vD (ns.map V.int) ((i.toNat:Nat):Int)=some (.int ns[i.toNat]):=fZ (by rw[m5,i3 hk] <;> rfl);rw[←c]at q;exact {ns[i.toNat],K7 hk,q}
def Hz(h:j≠0)(k:Q (.int (i.fmod j)) H):rI (fun _ j=>j≠0) (fun i j=>.int (i.fmod j)) (.int i) (.int j) H Q:=Fu h k
def Cw{a b:Int}(h:b≠0):(a.fmod b).natAbs<b.natAbs:=by
 have e:=Int.fmod_eq_emod (a:=a) (b:=b);have f:=n9 a h;have g:=Int.emod_lt a h;rw[e];by_cases c:0<=b∨b∣a
 ·rw[if_pos c];lia
 ·rw[if_neg c];have m:a%b≠0:=fun z=>c (.inr (Int.dvd_of_emod_eq_zero z));lia
noncomputable def Lc:V->V->Bool
|.int a,.int b=>decide (1<=b)&&decide (n6 a b=1)
|_,_=>false
def uB(h:b≠0):eY t b*b=t*fB t b:=by rw[QT h,O2]
end L2
namespace L2
open PySem PySem.Spec PyProof.Rows
inductive Dt where
|non|bl (b:Bool)|int (i:Int)|str (x:Str)|tup (xs:List Dt)|lst (xs:List Dt)
mutual
def nY(H:Hp):Dt->V->Prop
|.non,v=>v=.non
|.bl b,v=>v=.bl b
|.int i,v=>v=.int i
|.str x,v=>v=.str x
|.tup ds,v=>∃p vs,v=.ref p/\H p=some (.tup vs)/\jH H ds vs
|.lst ds,v=>∃p vs,v=.ref p/\H p=some (.lst vs)/\jH H ds vs
def jH(H:Hp):List Dt->List V->Prop
|[],vs=>vs=[]
|d::ds,vs=>∃v r,vs=v::r/\nY H d v/\jH H ds r
end
mutual
noncomputable def SM:Dt->Dt->Bool
|.non,.non=>true
|.bl a,.bl b=>a==b
|.bl a,.int b=>(if a then 1 else 0)==b
|.int a,.bl b=>a==(if b then 1 else 0)
|.int a,.int b=>a==b
|.str a,.str b=>a==b
|.tup xs,.tup ys=>tD xs ys
|.lst xs,.lst ys=>tD xs ys
|_,_=>false
noncomputable def tD:List Dt->List Dt->Bool
|[],[]=>true
|x::xs,y::ys=>SM x y&&tD xs ys
|_,_=>false
end
mutual
noncomputable def uW:Dt->Nat
|.tup xs=>iL xs+1
|.lst xs=>iL xs+1
|_=>0
noncomputable def iL:List Dt->Nat
|[]=>0
|x::xs=>max (uW x) (iL xs)
end
theorem jH.length:∀{ds:List Dt}{vs:List V},jH H ds vs->ds.length=vs.length
|[],vs,h=>by rw[show vs=[] from h];rfl
|d::ds,vs,h=>by obtain ⟨v,r,rfl,_,t⟩:=h;rw[J2,J2,jH.length t]
mutual
theorem nY.same_eq{H:Hp}:∀(d e:Dt){x:V},nY H d x->nY H e x->SM d e=true
|.tup ds,.tup es,x,g,f=>by
  obtain ⟨p,vs,rfl,a,b⟩:=g;obtain ⟨q,o,m,c,d⟩:=f;cases m;rw[a]at c;cases c;exact jH.same_eq ds es b d
|.lst ds,.lst es,x,g,f=>by
  obtain ⟨p,vs,rfl,a,b⟩:=g;obtain ⟨q,o,m,c,d⟩:=f;cases m;rw[a]at c;cases c;exact jH.same_eq ds es b d
|.tup ds,.lst es,x,g,f=>by
  obtain ⟨p,vs,rfl,a,b⟩:=g;obtain ⟨q,o,m,c,d⟩:=f;cases m;rw[a]at c;cases c
|.lst ds,.tup es,x,g,f=>by
  obtain ⟨p,vs,rfl,a,b⟩:=g;obtain ⟨q,o,m,c,d⟩:=f;cases m;rw[a]at c;cases c
|.non,e,x,g,f=>by
  have g:x=.non:=g;subst g;cases e <;> first|rfl|(have f:V.non=_:=f;cases f)|(obtain ⟨_,_,z,_⟩:=f;cases z)
|.bl b,e,x,g,f=>by
  have g:x=.bl b:=g;subst g;cases e <;> first|(have f:V.bl b=_:=f;cases f;exact beq_self_eq_true b)|(have f:V.bl b=_:=f;cases f;done)|(obtain ⟨_,_,z,_⟩:=f;cases z)
|.int b,e,x,g,f=>by
  have g:x=.int b:=g;subst g;cases e <;> first|(have f:V.int b=_:=f;cases f;exact beq_self_eq_true b)|(have f:V.int b=_:=f;cases f;done)|(obtain ⟨_,_,z,_⟩:=f;cases z)
|.str b,e,x,g,f=>by
  have g:x=.str b:=g;subst g;cases e <;> first|(have f:V.str b=_:=f;cases f;exact beq_self_eq_true b)|(have f:V.str b=_:=f;cases f;done)|(obtain ⟨_,_,z,_⟩:=f;cases z)
|.tup ds,.non,x,g,f=>by obtain ⟨p,vs,rfl,_⟩:=g;have f:V.ref p=_:=f;cases f
|.tup ds,.bl _,x,g,f=>by obtain ⟨p,vs,rfl,_⟩:=g;have f:V.ref p=_:=f;cases f
|.tup ds,.int _,x,g,f=>by obtain ⟨p,vs,rfl,_⟩:=g;have f:V.ref p=_:=f;cases f
|.tup ds,.str _,x,g,f=>by obtain ⟨p,vs,rfl,_⟩:=g;have f:V.ref p=_:=f;cases f
|.lst ds,.non,x,g,f=>by obtain ⟨p,vs,rfl,_⟩:=g;have f:V.ref p=_:=f;cases f
|.lst ds,.bl _,x,g,f=>by obtain ⟨p,vs,rfl,_⟩:=g;have f:V.ref p=_:=f;cases f
|.lst ds,.int _,x,g,f=>by obtain ⟨p,vs,rfl,_⟩:=g;have f:V.ref p=_:=f;cases f
|.lst ds,.str _,x,g,f=>by obtain ⟨p,vs,rfl,_⟩:=g;have f:V.ref p=_:=f;cases f
theorem jH.same_eq{H:Hp}:∀(ds es:List Dt){xs:List V},jH H ds xs->jH H es xs->tD ds es=true
|[],[],xs,_,_=>rfl
|[],e::es,xs,c,f=>by
  have c:xs=[]:=c;subst c;obtain ⟨_,_,z,_⟩:=f;cases z
|d::ds,[],xs,c,f=>by
  have f:xs=[]:=f;subst f;obtain ⟨_,_,z,_⟩:=c;cases z
|d::ds,e::es,xs,c,f=>by obtain ⟨v,r,rfl,a,b⟩:=c;obtain ⟨q,o,z,g,m⟩:=f;cases z;show (SM d e&&tD ds es)=true;rw[nY.same_eq d e a g,jH.same_eq ds es b m];rfl
end
def WU(ds es:List Dt)(j:Nat):Bool:=match ds[j]?,es[j]? with
|some d,some e=>SM d e
|_,_=>false
theorem fV:∀(ds es:List Dt),((E7 (min ds.length es.length)).all (WU ds es)&&ds.length==es.length)=tD ds es
|[],[]=>rfl
|[],e::es=>by show (_&&(0==es.length+1))=false;simp
|d::ds,[]=>by show (_&&(ds.length+1==0))=false;simp
|d::ds,e::es=>by
  have ih:=fV ds es;show _=(SM d e&&tD ds es)
  rw[←ih];have c:min (d::ds).length (e::es).length=min ds.length es.length+1:=by simp only[J2];lia
  rw[c,List.range_succ_eq_map,LA,List.all_map];have f:(WU (d::ds) (e::es)) ∘ Nat.succ=WU ds es:=by funext j;rfl
  rw[f];have g:WU (d::ds) (e::es) 0=SM d e:=rfl;rw[g];have m:((d::ds).length==(e::es).length)=(ds.length==es.length):=by simp
  rw[m,Bool.and_assoc]
section
variable {X:Cx}{ak:List (c8×Obj)}{σ:St}{H:Hp}{s:f9}
def jK(I:aZ X ak σ H s)(h:H p=some (.tup vs)):∃c:List c7,bU vs c/\s.heap.IsTuple p c.toArray:=by
 obtain ⟨_,c,r,q⟩:=(show cS X.prog X.w H s.heap p (.tup vs) from I.hok p _ h)
 exact {c,r,q}
def jP(I:aZ X ak σ H s)(h:H p=some (.lst vs)):∃c:List c7,bU vs c/\s.heap.IsList p c.toArray:=by
 obtain ⟨_,c,n,r,q⟩:=(show cS X.prog X.w H s.heap p (.lst vs) from I.hok p _ h)
 exact {c,r,_,q,rfl,_,rfl}
def DW{A:A2}{ds:List Dt}(h:A.units+uW (.tup ds)<L9):A.in1.units+iL ds<L9:=by
 have e:uW (.tup ds)=iL ds+1:=by simp[uW]
 show A.units+1+iL ds<L9;lia
def DX{A:A2}{ds:List Dt}(h:A.units+uW (.lst ds)<L9):A.in1.units+iL ds<L9:=by
 have e:uW (.lst ds)=iL ds+1:=by simp[uW]
 show A.units+1+iL ds<L9;lia
mutual
theorem KW(I:aZ X ak σ H s):∀(d e:Dt){x y:V}{u v:c7}{A:A2},nY H d x->nY H e y->bO x u->bO y v->A.units+uW d<L9->C2 A s u v (SM d e)
|.tup ds,e,x,y,u,v,A,K,g,M,o,O=>by
  obtain ⟨p,vs,rfl,a,b⟩:=K;cases M;obtain ⟨P,r,t⟩:=jK I a;have f:A.units<L9:=by lia
  cases e with
 |tup w=>
   obtain ⟨q,N,rfl,C,D⟩:=id g;cases o;by_cases G:p=q
   ·subst G;have:=nY.same_eq (.tup ds) (.tup w) (x:=.ref p) {p,vs,rfl,a,b} g;rw[this];exact Y1 _
   ·obtain ⟨m,E,B⟩:=jK I C;have z:=re.tuples (e:=WU ds w) t B f (fun j U W=>rB I ds w b D r E (DW O) j (by simpa using U) (by simpa using W));have S:P.length=ds.length:=by rw[b.length,r.length]
    have T:m.length=w.length:=by rw[D.length,E.length]
    rw[m6,m6,S,T,fV]at z;exact ji G z
 |lst w=>
   obtain ⟨q,N,rfl,C,D⟩:=id g;cases o;obtain ⟨m,E,B⟩:=jP I C;exact C2.tuple_list t B f
 |non=>cases (show y=.non from g);cases o;exact C2.tuple_none t f
 |bl b=>cases (show y=.bl b from g);cases o;exact C2.tuple_bool b t f
 |int b=>cases (show y=.int b from g);obtain ⟨tk,rfl⟩:=o;exact C2.tuple_int b tk t f
 |str b=>cases (show y=.str b from g);obtain ⟨tk,rfl⟩:=o;exact C2.tuple_str b tk t f
|.lst ds,e,x,y,u,v,A,K,g,M,o,O=>by
  obtain ⟨p,vs,rfl,a,b⟩:=K;cases M;obtain ⟨P,r,t⟩:=jP I a;have f:A.units<L9:=by lia
  cases e with
 |lst w=>
   obtain ⟨q,N,rfl,C,D⟩:=id g;cases o;by_cases G:p=q
   ·subst G;have:=nY.same_eq (.lst ds) (.lst w) (x:=.ref p) {p,vs,rfl,a,b} g;rw[this];exact Y1 _
   ·obtain ⟨m,E,B⟩:=jP I C;have S:P.length=ds.length:=by rw[b.length,r.length]
    have T:m.length=w.length:=by rw[D.length,E.length]
    by_cases R:ds.length=w.length
    ·have z:=re.lists (e:=WU ds w) t B (by rw[m6,m6,S,T,R]) f (fun j U W=>rB I ds w b D r E (DX O) j (by simpa using U) (by simpa using W));have Q:=fV ds w;rw[R,qp,beq_self_eq_true,ux]at Q;rw[m6,S,R,Q]at z;exact ji G z
    ·have z:=pi t B (by rw[m6,m6,S,T];simpa using R) f;have Q:=fV ds w;rw[show (ds.length==w.length)=false from by simpa using R,sj]at Q;have Y:SM (.lst ds) (.lst w)=false:=by show tD ds w=false;exact Q.symm
     rw[Y];exact ji G z
 |tup w=>
   obtain ⟨q,N,rfl,C,D⟩:=id g;cases o;obtain ⟨m,E,B⟩:=jK I C;exact C2.list_tuple t B f
 |non=>cases (show y=.non from g);cases o;exact C2.list_none t f
 |bl b=>cases (show y=.bl b from g);cases o;exact C2.list_bool b t f
 |int b=>cases (show y=.int b from g);obtain ⟨tk,rfl⟩:=o;exact C2.list_int b tk t f
 |str b=>cases (show y=.str b from g);obtain ⟨tk,rfl⟩:=o;exact C2.list_str b tk t f
|.non,e,x,y,u,v,A,K,g,M,o,O=>by
  cases (show x=.non from K);cases M;have f:A.units<L9:=by lia
  cases e with
 |tup w=>obtain ⟨q,N,rfl,C,D⟩:=id g;cases o;obtain ⟨m,E,B⟩:=jK I C;exact C2.none_tuple B f
 |lst w=>obtain ⟨q,N,rfl,C,D⟩:=id g;cases o;obtain ⟨m,E,B⟩:=jP I C;exact C2.none_list B f
 |non=>cases (show y=.non from g);cases o;exact Y1 _
 |bl b=>cases (show y=.bl b from g);cases o;exact rk b
 |int b=>cases (show y=.int b from g);obtain ⟨tk,rfl⟩:=o;exact ua b tk
 |str b=>cases (show y=.str b from g);obtain ⟨tk,rfl⟩:=o;exact tw b tk
|.bl c,e,x,y,u,v,A,K,g,M,o,O=>by
  cases (show x=.bl c from K);cases M;have f:A.units<L9:=by lia
  cases e with
 |tup w=>obtain ⟨q,N,rfl,C,D⟩:=id g;cases o;obtain ⟨m,E,B⟩:=jK I C;exact C2.bool_tuple c B f
 |lst w=>obtain ⟨q,N,rfl,C,D⟩:=id g;cases o;obtain ⟨m,E,B⟩:=jP I C;exact C2.bool_list c B f
 |non=>cases (show y=.non from g);cases o;exact rm c
 |bl b=>cases (show y=.bl b from g);cases o;exact rn c b
 |int b=>cases (show y=.int b from g);obtain ⟨tk,rfl⟩:=o;exact uf c b tk
 |str b=>cases (show y=.str b from g);obtain ⟨tk,rfl⟩:=o;exact ud c b tk
|.int c,e,x,y,u,v,A,K,g,M,o,O=>by
  cases (show x=.int c from K);obtain ⟨J,rfl⟩:=M;have f:A.units<L9:=by lia
  cases e with
 |tup w=>obtain ⟨q,N,rfl,C,D⟩:=id g;cases o;obtain ⟨m,E,B⟩:=jK I C;exact C2.int_tuple c J B f
 |lst w=>obtain ⟨q,N,rfl,C,D⟩:=id g;cases o;obtain ⟨m,E,B⟩:=jP I C;exact C2.int_list c J B f
 |non=>cases (show y=.non from g);cases o;exact ub c J
 |bl b=>cases (show y=.bl b from g);cases o;exact uc c J b
 |int b=>cases (show y=.int b from g);obtain ⟨tk,rfl⟩:=o;exact C2.int_int c J b tk
 |str b=>cases (show y=.str b from g);obtain ⟨tk,rfl⟩:=o;exact jk c J b tk
|.str c,e,x,y,u,v,A,K,g,M,o,O=>by
  cases (show x=.str c from K);obtain ⟨J,rfl⟩:=M;have f:A.units<L9:=by lia
  cases e with
 |tup w=>obtain ⟨q,N,rfl,C,D⟩:=id g;cases o;obtain ⟨m,E,B⟩:=jK I C;exact C2.str_tuple c J B f
 |lst w=>obtain ⟨q,N,rfl,C,D⟩:=id g;cases o;obtain ⟨m,E,B⟩:=jP I C;exact C2.str_list c J B f
 |non=>cases (show y=.non from g);cases o;exact tj c J
 |bl b=>cases (show y=.bl b from g);cases o;exact tu c J b
 |int b=>cases (show y=.int b from g);obtain ⟨tk,rfl⟩:=o;exact jh c J b tk
 |str b=>cases (show y=.str b from g);obtain ⟨tk,rfl⟩:=o;exact C2.str_str c J b tk
theorem rB(I:aZ X ak σ H s):∀(ds es:List Dt){xs ys:List V}{us vs:List c7}{A:A2},jH H ds xs->jH H es ys->bU xs us->bU ys vs->A.units+iL ds<L9 ->
  ∀(j:Nat)(o:j<us.length)(q:j<vs.length),C2 A s us[j] vs[j] (WU ds es j)
|[],es,xs,ys,us,vs,A,c,f,g,m,t=>fun j o q=>by
  have c:xs=[]:=c;subst c;cases g;exact absurd o (X8 _)
|d::ds,[],xs,ys,us,vs,A,c,f,g,m,t=>fun j o q=>by
  have f:ys=[]:=f;subst f;cases m;exact absurd q (X8 _)
|d::ds,e::es,xs,ys,us,vs,A,c,f,g,m,t=>fun j o q=>by
  obtain ⟨x,G,rfl,a,b⟩:=c;obtain ⟨y,J,rfl,w,B⟩:=f;cases g with
 |cons C g=>
   cases m with
  |cons D m=>
    have E:iL (d::ds)=max (uW d) (iL ds):=by simp[iL]
    cases j with
   |zero=>exact KW I d e a w C D (by lia)
   |succ j=>exact rB I ds es b B g m (by lia) j (by simpa using o) (by simpa using q)
end
def Po:R2:=fun x y H Q=>∃d e,nY H d x/\nY H e y/\uW d<=60/\((∃ds es,d=.tup ds/\e=.tup es)∨∃ds es,d=.lst ds/\e=.lst es)/\Q (.bl (SM d e)) H
def Pm:R2:=fun x y H Q=>∃d e,nY H d x/\nY H e y/\uW d<=60/\((∃ds es,d=.tup ds/\e=.tup es)∨∃ds es,d=.lst ds/\e=.lst es)/\Q (.bl (!SM d e)) H
def Ju(hu:X.A.units+64<L9):kK X (E4 .Eq) Po:=by
 intro P s σ H x y v u Q I R S h;obtain ⟨d,e,N,O,Z,k,q⟩:=h;rcases k with ⟨c,f,rfl,rfl⟩|⟨c,f,rfl,rfl⟩
 ·obtain ⟨p,W,rfl,a,b⟩:=N;obtain ⟨U,Y,rfl,J,o⟩:=O;cases R;cases S;obtain ⟨m,r,t⟩:=jK I a;obtain ⟨g,D,G⟩:=jK I J;have z:=re.tuples (A:=X.A) (e:=WU c f) t G (by lia) (fun j K M=>rB I c f b o r D (DW (by lia)) j (by simpa using K) (by simpa using M));have C:m.length=c.length:=by rw[b.length,r.length]
  have E:g.length=f.length:=by rw[o.length,D.length]
  rw[m6,m6,C,E,fV]at z;exact z _ _ _ _ {.bl _,H,I,rfl,q}
 ·obtain ⟨p,W,rfl,a,b⟩:=N;obtain ⟨U,Y,rfl,J,o⟩:=O;cases R;cases S;obtain ⟨m,r,t⟩:=jP I a;obtain ⟨g,D,G⟩:=jP I J;have C:m.length=c.length:=by rw[b.length,r.length]
  have E:g.length=f.length:=by rw[o.length,D.length]
  by_cases B:c.length=f.length
  ·have z:=re.lists (A:=X.A) (e:=WU c f) t G (by rw[m6,m6,C,E,B]) (by lia) (fun j K M=>rB I c f b o r D (DX (by lia)) j (by simpa using K) (by simpa using M));have w:=fV c f;rw[B,qp,beq_self_eq_true,ux]at w;rw[m6,C,B,w]at z;exact z _ _ _ _ {.bl _,H,I,rfl,q}
  ·have z:=pi (A:=X.A) t G (by rw[m6,m6,C,E];simpa using B) (by lia);have w:=fV c f;rw[show (c.length==f.length)=false from by simpa using B,sj]at w;have T:SM (.lst c) (.lst f)=false:=by show tD c f=false;exact w.symm
   rw[T]at q;exact z _ _ _ _ {.bl _,H,I,rfl,q}
def Js(hu:X.A.units+64<L9):kK X (E4 .NotEq) Pm:=by
 intro P s σ H x y v u Q I R S h;obtain ⟨d,e,N,O,Z,k,q⟩:=h;rcases k with ⟨c,f,rfl,rfl⟩|⟨c,f,rfl,rfl⟩
 ·obtain ⟨p,W,rfl,a,b⟩:=N;obtain ⟨U,Y,rfl,J,o⟩:=O;cases R;cases S;obtain ⟨m,r,t⟩:=jK I a;obtain ⟨g,D,G⟩:=jK I J;have z:=vc.tuples (A:=X.A) (e:=WU c f) t G (by lia) (fun j K M=>rB I c f b o r D (DW (by lia)) j (by simpa using K) (by simpa using M));have C:m.length=c.length:=by rw[b.length,r.length]
  have E:g.length=f.length:=by rw[o.length,D.length]
  rw[m6,m6,C,E,fV]at z;exact z _ _ _ _ {.bl _,H,I,rfl,q}
 ·obtain ⟨p,W,rfl,a,b⟩:=N;obtain ⟨U,Y,rfl,J,o⟩:=O;cases R;cases S;obtain ⟨m,r,t⟩:=jP I a;obtain ⟨g,D,G⟩:=jP I J;have C:m.length=c.length:=by rw[b.length,r.length]
  have E:g.length=f.length:=by rw[o.length,D.length]
  by_cases B:c.length=f.length
  ·have z:=vc.lists (A:=X.A) (e:=WU c f) t G (by rw[m6,m6,C,E,B]) (by lia) (fun j K M=>rB I c f b o r D (DX (by lia)) j (by simpa using K) (by simpa using M));have w:=fV c f;rw[B,qp,beq_self_eq_true,ux]at w;rw[m6,C,B,w]at z;exact z _ _ _ _ {.bl _,H,I,rfl,q}
  ·have z:=vc.lists_lengths (A:=X.A) t G (by rw[m6,m6,C,E];simpa using B) (by lia);have w:=fV c f;rw[show (c.length==f.length)=false from by simpa using B,sj]at w;have T:SM (.lst c) (.lst f)=false:=by show tD c f=false;exact w.symm
   rw[T]at q;exact z _ _ _ _ {.bl _,H,I,rfl,q}
def VR:R2:=fun x y H Q=>Sx x y H Q∨Po x y H Q
def JS:R2:=fun x y H Q=>Sv x y H Q∨Pm x y H Q
def dS(c:X.A.units+64<L9):kK X (E4 .Eq) VR:=Pt.or (Ju c)
def oO(c:X.A.units+64<L9):kK X (E4 .NotEq) JS:=Ps.or (Js c)
end
section
variable {H:Hp}{Q:VK}{i j:Int}{b:Bool}{x y:Str}{u v:V}
def Qo(k:Q (.bl (decide (i=j))) H):VR (.int i) (.int j) H Q:=.inl (Oy k)
def Qa(k:Q (.bl (!decide (i=j))) H):JS (.int i) (.int j) H Q:=.inl (On k)
def Qm(k:Q (.bl (x==y)) H):VR (.str x) (.str y) H Q:=.inl {rfl,by rw[EB];exact k}
def Qn(f:nY H (.lst ds) u)(g:nY H (.lst es) v)(m:iL ds<=50)(k:Q (.bl (tD ds es)) H):VR u v H Q:=
 .inr {_,_,f,g,by simp[uW];lia,.inr {_,_,rfl,rfl},k}
def WY(f:nY H (.lst ds) u)(g:nY H (.lst es) v)(m:iL ds<=50)(k:Q (.bl (!tD ds es)) H):JS u v H Q:=
 .inr {_,_,f,g,by simp[uW];lia,.inr {_,_,rfl,rfl},k}
def Tj{a b:Int}(h:H p=some (.tup [.int a,.int b])):nY H (.tup [.int a,.int b]) (.ref p):={p,_,rfl,h,_,_,rfl,rfl,_,_,rfl,rfl,rfl}
end
section
variable {X:Cx}{K:v9}{H:Hp}{Q:VK}{i j:Int}{σ:St}
def Ga:R2:=fun x y H Q=>∃i j,x=.str i/\y=.str j/\i.length+j.length<=n7/\Q (.str (i++j)) H
def Bw:kK X (R3 .Add) Ga:=JX
def HD(K:v9):R2:=fun x y H Q=>ZO (fun i j=>.int (i+j)) x y H Q∨Pp x y H Q∨Fz K x y H Q∨Ga x y H Q
def bH:kK X (R3 .Add) (HD X.K):=Jw.or (Jv.or (Bv.or Bw))
def Qz(k:Q (.int (i+j)) H):HD K (.int i) (.int j) H Q:=.inl (Pi k)
def yU(c:H p=some (.lst xs))(f:H q=some (.lst ys))(g:xs.length+ys.length<=1000)(k:∀l,H l=none->Q (.ref l) (upd H l (.lst (xs++ys)))):HD K (.ref p) (.ref q) H Q:=
 .inr (.inl {p,q,xs,ys,rfl,rfl,c,f,vL g,k})
def NY(K:v9):List V->Hp->VK->Prop:=fun xs H Q=>∃p ys,xs=[.ref p]/\(cU K H p ys∨EN K H p ys)/\∀l,H l=none->Q (.ref l) (upd H l (.lst ys))
def Ln:fO X (.type "list") (NY X.K):=EF
def Qe(h:H p=some (.lst xs))(k:∀l,H l=none->Q (.ref l) (upd H l (.lst xs))):NY K [.ref p] H Q:={p,xs,rfl,.inl (cU.of h),k}
def Gg(R:Option Int->Hp->Prop):VK:=fun x H1=>∃i,x=.int i/\R (some i) H1
def Hs(k:t σ H (Gg R)):Ef t σ H R:=k
def Ap(k:R (some i) H):Gg R (.int i) H:={i,rfl,k}
def VE(k:R none H):LU σ H R:=k
def Sh(k:te σ H fun x H1=>tl σ H1 fun l H2=>th σ H2 fun u H3=>r x l u H3 Q):Tz r te tl th σ H Q:=k
def aO(c:H q=none)(h:H b=some u):upd H q o b=some u:=by rw[aX (aD h c)];exact h
noncomputable def isI:V->Bool
|.int _=>true
|_=>false
def OZ(h:nQ v=true):∃t b c,nD K H v t/\i9 K t (.type "int")=some b/\i9 K t (.type "bool")=some c/\(b&&!c)=isI v:=by
 cases v with
|non=>exact {_,_,_,.non,lP,kE,rfl}
|bl b=>exact {_,_,_,.bl b,mV,kY,rfl}
|int b=>exact {_,_,_,.int b,iX,hV,rfl}
|str b=>exact {_,_,_,.str b,oU,mU,rfl}
|_=>exact absurd (show false=true from h) j4
def NT(K:v9)(H:Hp)(x:V):Prop:=∃t,nD K H x t/\i9 K t (.type "tuple")=some false
def NT.int(i:Int):NT K H (.int i):={_,.int i,zG}
def NT.non:NT K H .non:={_,.non,qV}
def NT.str(x:Str):NT K H (.str x):={_,.str x,zC}
def NT.bl(x:Bool):NT K H (.bl x):={_,.bl x,yD}
def NT.lst(h:H p=some (.lst xs)):NT K H (.ref p):={_,.lst h,yC}
def Tw(K:v9)(H:Hp)(x:V)(r:Bool):Prop:=
 (NT K H x/\r=false)∨(∃p xs,x=.ref p/\H p=some (.tup xs)/\xs.length≠2/\r=false) ∨
  ∃p v w,x=.ref p/\H p=some (.tup [v,w])/\nQ v=true/\nQ w=true/\(∀a b,v=.int a->w=.int b->Sm 8000 a/\Sm 8000 b)/\r=Lc v w
def OY(n:Nat)(h:H p=some (.tup xs))(hn:xs.length=n)(c:n≠2):Tw K H (.ref p) false:=.inr (.inl {p,xs,rfl,h,by lia,rfl})
end
noncomputable def cD(X:Cx)(scope:X1)(cl:List (Str×c8))(N:List Str)(C:c8)(s0:f9)(H0:Hp)(ex:List c8):Cx:=
 {X with N:=N,s₀:=s0,H₀:=H0,env:=compEnvC scope cl C X.env,outer:=X.stack,stack:=X.stack,ex:=ex,fn:=fun _=>false,pn:=[],xe:=fun _ _=>False}
noncomputable def cH(env:Env)(names:List Str):List (Str×c8):=names.filterMap fun n=>(env.cells.lookup n).map fun c=>(n,c)
theorem nB:∀{names:List Str}{x:Str}{c:c8},(cH env names).lookup x=some c->env.cells.lookup x=some c
|[],x,c,h=>by simp[cH]at h
|n::r,x,c,h=>by
  unfold cH at h;rw[Z4]at h;cases e:env.cells.lookup n with
 |none=>
   rw[e]at h;exact nB (names:=r) h
 |some d=>
   rw[e]at h;have f:P7 x ((n,d)::cH env r)=some c:=h;rw[iz]at f;by_cases g:x=n
   ·subst g;rw[beq_self_eq_true]at f;cases f;exact e
   ·rw[beq_eq_false_iff_ne.mpr g]at f;exact nB (names:=r) f
theorem rD:∀{names:List Str}{x:Str}{c:c8},x∈names->env.cells.lookup x=some c->(cH env names).lookup x=some c
|[],x,c,h,_=>by cases h
|n::r,x,c,h,e=>by
  unfold cH;rw[Z4];by_cases f:x=n
  ·subst f;rw[e];show P7 x ((x,c)::_)=some c;rw[iz,beq_self_eq_true]
  ·have g:x∈r:=(w6.mp h).resolve_left f;have ih:=rD (env:=env) g e;cases e2:env.cells.lookup n with
  |none=>exact ih
  |some d=>show P7 x ((n,d)::cH env r)=some c;rw[iz,beq_eq_false_iff_ne.mpr f];exact ih
noncomputable def pS(σ:St)(is:List Nat):St:=is.map fun i=>(σ[i]?).join
def kI(te:TE)(tc:Option TT)(g:TG)(ts:St)(az:St)(Q:VK):It->Hp->Prop:=fun J H1=>∀cc,H1 cc=none ->
 ∃W:Nat->Nat->List V->Hp->Prop,(∃m,W 0 m [] (upd H1 cc (.lst [])))/\∀i m ys H,W i m ys H ->
  H cc=some (.lst ys)/\((J.stop i H/\Q (.ref cc) H)∨(ys.length<n7/\J.go i H/\∀(us:St) x H',us.length=ts.length->J.yld i H x H'->g x (us++az) H' fun σ2 H2=>
   (∃us2,us2.length=ts.length/\σ2=us2++az) /\
   let made:=te σ2;let next:=fun y H3=>H3 cc=some (.lst ys)/\∃m',m'<m/\W (i+1) m' (ys++[y]) (upd H3 cc (.lst (ys++[y])))
   match tc with
  |none=>made H2 next
   | some c=>c σ2 H2 fun b H3=>if b=true then made H3 next else ∃m',m'<m/\W (i+1) m' ys H3))
def FG(wi:TI)(te:TE)(tc:Option TT)(g:TG)(k:Nat)(is:List Nat):TE:=fun σ H Q=>wi σ H (kI te tc g (B6 k none) (pS σ is) Q)
section
variable {X:Cx}{scope:X1}{N tn names:List Str}{is:List Nat}{elt iter tg:D6}{ifs:List D6}{pos:Pos}{wi:TI}{te:TE}{tc:Option TT}{g:TG}
structure rK(X:Cx)(scope:X1)(tn names:List Str)(is:List Nat):Prop where
 cls:(∀x∈names,∃c,X.env.cells.lookup x=some c)->pk scope X.env=K0 (cH X.env names)
 nocell:∀y∈scope.names,y.2≠.cell
 kind:scope.kind=.function
 nms:∀y∈scope.names,y.2=.local->scope.names.lookup y.1=some .local
 slots:∀(j i:Nat)(x:Str),is[j]?=some i->names[j]?=some x->X.N[i]?=some x
 len:is.length=names.length
 outk:∀x∈names,X.env.kindOf x=some .cell∨X.env.kindOf x=some .free
 ink:∀x∈names,(qm scope X.env).names.lookup x=some .cell∨(qm scope X.env).names.lookup x=some .free
 free:∀x,((qm scope X.env).names.lookup x=some .cell∨(qm scope X.env).names.lookup x=some .free)->x∈names
theorem rC:∀(l:List (Str×el)) (f:List (Str×c8)),(∀x∈(l.filter fun y=>y.2==.free).map (·.1),∃c,env.cells.lookup x=some c) ->
  (forIn l f fun(x:Str×el)(o:List (Str×c8))=>(if (x.2==.free)=true then (do let a ←yx env x.1;K0 (L1 ((x.1,a)::o))) else K0 (L1 o)):Sem (List (Str×c8)))
   = K0 ((((l.filter fun y=>y.2==.free).map (·.1)).reverse.filterMap fun n=>(env.cells.lookup n).map fun c=>(n,c))++f)
|[],f,_=>rfl
|(n,k)::r,f,h=>by
  rw[forIn_cons];by_cases hk:(k==qh)=true
  ·have m:((n,k)::r).filter (fun y=>y.2==.free)=(n,k)::r.filter fun y=>y.2==.free:=by rw[X9];exact if_pos hk
   rw[m]at h ⊢;obtain ⟨c,e⟩:=h n (by simp);have s:yx env n=K0 c:=by unfold yx;rw[e]
   show (((if (k==qh)=true then (do let a ←yx env n;K0 (L1 ((n,a)::f))) else K0 (L1 f)):Sem _) >>= _)=_;rw[if_pos hk,s];have ih:=rC r ((n,c)::f) fun x q=>h x (by simp at q⊢;exact .inr q);have t:(((n,k)::r.filter fun y=>y.2==.free).map (·.1)).reverse.filterMap (fun n=>(env.cells.lookup n).map fun c=>(n,c))=((r.filter fun y=>y.2==.free).map (·.1)).reverse.filterMap (fun n=>(env.cells.lookup n).map fun c=>(n,c))++[(n,c)]:=by rw[J6,yo,List.filterMap_append,Z4,e];rfl
   rw[t,E1];exact ih
  ·have m:((n,k)::r).filter (fun y=>y.2==.free)=r.filter fun y=>y.2==.free:=by rw[X9];exact if_neg hk
   rw[m]at h ⊢;show (((if (k==qh)=true then (do let a ←yx env n;K0 (L1 ((n,a)::f))) else K0 (L1 f)):Sem _) >>= _)=_;rw[if_neg hk];exact rC r f h
def vC(hn:((scope.names.filter fun y=>y.2==.free).map (·.1)).reverse=names)(h:∀x∈names,∃c,env.cells.lookup x=some c):
  pk scope env=K0 (cH env names):=by
 unfold pk cH;have q:=rC (env:=env) scope.names [] fun x w=>h x (by rw[←hn];exact List.mem_reverse.mpr w);rw[hn,L0]at q;show (_ >>= fun r=>K0 r)=_;have t:(forIn scope.names ([]:List (Str×c8)) fun(x:Str×el)(s:List (Str×c8))=>match x with
   | (f,o)=>(if (o==.free)=true then (do let a ←yx env f;K0 (L1 ((f,a)::s))) else K0 (L1 s)):Sem (List (Str×c8)))=K0 (names.filterMap fun n=>(env.cells.lookup n).map fun c=>(n,c)):=q
 first
 |exact (m (fun z=>z >>= fun r=>K0 r) t)
 |simpa using t
noncomputable def NM(scope sc:X1):X1:={scope with names:=scope.names.map fun (n,k)=>if (k==.free&&sc.kind==.function&&sc.names.lookup n==some .cell) then (n,.cell) else (n,k)}
def cM(sc)(N)(tn)(names)(is)(m:X.env.scope=sc:=by rfl)(I:X.N=N:=by rfl)(B:((scope.names.filter fun y=>y.2==.free).map (·.1)).reverse=names:=by k_is)(C:∀y∈scope.names,y.2≠.cell:=by k_is)(D:scope.kind=.function:=by rfl)(E:∀y∈scope.names,y.2=.local->scope.names.lookup y.1=some .local:=by k_is)(o:(is.map fun i=>N[i]?)=names.map some:=by rfl)(G:∀x∈names,sc.names.lookup x=some .cell∨sc.names.lookup x=some .free:=by k_is)(H:∀x∈names,(NM scope sc).names.lookup x=some .cell∨(NM scope sc).names.lookup x=some .free:=by k_is)(s:∀y∈(NM scope sc).names,(y.2=.cell∨y.2=.free)->y.1∈names:=by k_is):rK X scope tn names is:=by
 subst m I;have t:qm scope X.env=NM scope X.env.scope:=rfl;refine {vC B,C,D,E,fun j i x w A=>?_,?_,G,?_,fun x c=>?_}
 ·have q:=congrArg (fun l=>l[j]?) o;simp only[m5,w,A,Option.map_some]at q;exact j5 q
 ·have q:=congrArg Z6 o;simpa using q
 ·rw[t];exact H
 ·rw[t]at c;have f:∀{l:List (Str×el)} {k:el},l.lookup x=some k->(x,k)∈l:=fun {l} {k}=>by
   induction l with
  |nil=>intro e;cases e
  |cons y r ih=>
    intro e;obtain ⟨n,J⟩:=y;rw[iz]at e;by_cases c:x=n
    ·subst c;rw[beq_self_eq_true]at e;cases e;exact J1
    ·rw[beq_eq_false_iff_ne.mpr c]at e;exact B4 _ (ih e)
  rcases c with c|c
  ·exact s _ (f c) (.inl rfl)
  ·exact s _ (f c) (.inr rfl)
def Dn(C:rK X scope tn names is)(I:aZ X ak σ H s)(f:aZ X ak σ (upd H cc (.lst [])) s3)(M:∀b∈fp,vG X ak H b)(O:∀b∈fp,b<s3.heap.objs.size)(R:∀b∈fp,b≠cc)(ns:h1.Ns s3.heap.objs.size fun _=>none)(kp:∀b o,s3.heap.get? b=some o->h1.get? b=some o):
    aZ (cD X scope (cH X.env names) (tn++names) s3.heap.objs.size s3 (upd H cc (.lst [])) fp) [] (B6 tn.length none++pS σ is) (upd H cc (.lst [])) {s3 with heap:=h1,toks:=t4}:=by
  have ok:=f.ok;have D:∀x c,(cH X.env names).lookup x=some c->X.env.cells.lookup x=some c:=fun x c h=>nB h;have J:∀x c,X.env.cells.lookup x=some c->c<s3.heap.objs.size:=fun x c e=>let ⟨v,z⟩:=f.cell x c e;z.lt;refine {{ok.mod,?_,ok.glob,ok.blt,j8 _,fun x y c a b=>ok.inj x y c (D _ _ a) (D _ _ b),fun x B=>?_,fun _ _ z=>absurd z (by simp[cD]),ok.hd,ok.frames,.inl rfl,fun b w=>?_,fun b o e=>f.bs b o e,A5 ok.bsz f.sz,fun b o e w=>?_,fun b w z=>?_,f.stack,fun b w=>f.stkFree b w},
    rfl,f.bare,Un.kept kp,{_,ns,fun i x v A t e3=>?_},fun x c e=>?_,?_,fun x c e=>f.freeC x c (D _ _ e),fun p hp=>absurd hp (by simp[cD]),f.hok.kept kp,?_}
  . show (qm scope X.env).kind=.function
    exact C.kind
  . have P:=C.free x B
    obtain ⟨c,e⟩:=ok.has x (C.outk x P);exact {c,rD P e}
  . refine {u7 (O b w),fun x c e=>(M b w).2.2.2.2.1 x c (D _ _ e)}
  . rcases (M b w).2.2.2.1 with z|z
    . exact ok.noex b o e z
    . have:=i7 (p7 e) ok.bsz
      lia
  . have:=f.stkSub b z
    rcases w6.mp this with q|q
    . exact (M b w).2.1 q
    . exact (M b w).2.2.1 q
  . by_cases S:i<tn.length
    . rw[P0 (by rw[O9];exact S),vd]at t
      rw[if_pos S]at t;cases t
    . have A:(tn++names)[i]?=some x:=A
      rw[L5 (by lia)]at A;rw[L5 (by rw[O9];lia),O9]at t;generalize hj:i-tn.length=j at A t;unfold pS at t;rw[m5]at t;cases e4:is[j]? with
     |none=>rw[e4]at t;cases t
     |some E=>
        rw[e4]at t;have K:(σ[E]?).join=some v:=j5 t;have T:σ[E]?=some (some v):=by
          cases q:σ[E]? with
         |none=>rw[q]at K;cases K
         |some o=>rw[q]at K;exact congrArg some K
        have B:x∈names:=o0 A;obtain ⟨m,P,G⟩:=f.loc;have W:Rv X.env.scope x:=by
          rcases C.outk x B with q|q
          . exact .inr (.inl q)
          . exact .inr (.inr q)
        obtain ⟨u,Z,Y⟩:=G E x v (C.slots j E x e4 A) T W;refine {u,Z,.inr {C.ink x B,?_}};rcases Y with ⟨q,_⟩|⟨_,c,U,z⟩
        . rcases C.outk x B with Q|Q <;> (rw[q]at Q;cases Q)
        . exact {c,rD B U,let ⟨o,a,b⟩:=z;{o,kp _ _ a,b}}
  . obtain ⟨v,o,a,b⟩:=f.cell x c (D _ _ e)
    exact {v,o,kp _ _ a,b}
  . exact f.hok.fresh (j8 _)
  . show (B6 tn.length none++pS σ is).length=(tn++names).length
    rw[q4,q4,O9];unfold pS;rw[i8,C.len]
def EC(I:Nat->f9->Prop)
  (O:∀n s,I n s->i6 (j3 prog w) A (T4 it) (fun r o=>match r with
  |none=>R (.ok .next) o
   | some v=>i6 (j3 prog w) A (gg target it v) (fun _ q=>i6 (j3 prog w) A (tf target env v) (fun _ D=>
     i6 (j3 prog w) A (forIn ifs true fun c r=>if r=true then do let ok ←isTrue c env (I0 c env);K0 (L1 ok) else K0 (L1 r)) (fun ok t=>
      if ok=true then i6 (j3 prog w) A (I0 elt env) (fun x E=>
       i6 (j3 prog w) A (lc (.builtin "list.append") [cc,x]) (fun _ G=>∃m,m<n/\I m G) (fun _ _=>False) E) (fun _ _=>False) t
      else ∃m,m<n/\I m t) (fun _ _=>False) D) (fun _ _=>False) q) (fun _ _=>False) o) (fun _ _=>False) s)
  (n:Nat) (h:I n s) :
  T5 (j3 prog w) A (.compLoop (.ListComp elt [{target,iter,ifs,0}] scope pos) 0 it cc env) R s:=by
 refine codeAny_loop rfl I (fun n s P=>?_) n h;show i6 _ A ((compTurn (.ListComp elt [{target,iter,ifs,0}] scope pos) 0 it cc env).onRaise (fun x=>do nk x env;theTreesLotGoes x)) _ _ s;refine wpAny_noted ?_;rw[compTurn_list];refine c6 (pc (c6 (C4 (O n s P) (fun r o B=>?_) fun _ _ f=>f.elim)));cases r with
|none=>exact i0 B
|some v=>
  refine c6 (C4 B (fun _ q H=>?_) fun _ _ f=>f.elim);refine c6 (C4 H (fun _ D J=>c6 (C4 J (fun ok t C=>?_) fun _ _ f=>f.elim)) fun _ _ f=>f.elim);cases ok with
 |false=>exact i0 {rfl,C}
 |true=>exact c6 (c6 (C4 C (fun x E K=>c6 (C4 K (fun _ G M=>i0 (i0 {rfl,M})) fun _ _ f=>f.elim)) fun _ _ f=>f.elim))
def Dx(X':Cx)(ifs:List D6)(tc:Option TT):Prop:=match ifs,tc with
|[],none=>True
|[c],some t=>PT X' c t
|_,_=>False
def eG:Dx X' [] none:=trivial
def iQ(h:PT X' c t):Dx X' [c] (some t):=h
structure Ra(ok:Cx->Prop)(P:m7)(w:y6)(K:v9)(tg:D6)(J:It)(fp:List c8)(it:c8)(tn:Nat->A7->Prop):Prop where
 mem:it∈fp
 obj:∀i h,tn i h->∀b∈fp,∃o,h.get? b=some o/\∀v,o.data≠.cell v
 keep:∀i h h',tn i h->(∀b∈fp,∀o,h.get? b=some o->h'.get? b=some o)->tn i h'
 item:∀(X:Cx),X.prog=P->X.w=w->X.K=K->ok X->∀(i:Nat)(ak:List (c8×Obj)) (s:f9) (σ:St) (H:Hp) (E:c7->f9->Prop),aZ X ak σ H s->(∀b∈fp,vG X ak H b)->tn i s.heap->J.go i H ->
  i6 (j3 P w) X.A (T4 (.ref it)) (fun r s1=>∃u,r=some u/\i6 (j3 P w) X.A (gg tg (.ref it) u) (fun _ s2=>∃x H',aZ X ak σ H' s2/\bO x u/\J.yld i H x H'/\tn (i+1) s2.heap/\∀b∈fp,H' b=none) E s1) E s
 done:∀(X:Cx),X.prog=P->X.w=w->X.K=K->ok X->∀(i:Nat)(ak:List (c8×Obj)) (s:f9) (σ:St) (H:Hp) (E:c7->f9->Prop),aZ X ak σ H s->(∀b∈fp,vG X ak H b)->tn i s.heap->J.stop i H ->
  i6 (j3 P w) X.A (T4 (.ref it)) (fun r s1=>r=none/\aZ X ak σ H s1) E s
 self:∀(A:A2)(i:Nat)(s:f9)(Q:c7->f9->Prop)(E:c7->f9->Prop),tn i s.heap->Q (.ref it) s->i6 (j3 P w) A (su (.ref it)) Q E s
def Lz(ok:Cx->Prop)(X:Cx)(ak:List (c8×Obj))(σ:St)(tg:D6)(R:It->Hp->Prop)(itv:c7)(s2:f9):Prop:=
 ∃(it:c8)(fp:List c8)(tn:Nat->A7->Prop)(J:It)(H':Hp),itv=.ref it/\aZ X ak σ H' s2/\Ra ok X.prog X.w X.K tg J fp it tn/\tn 0 s2.heap/\(∀b∈fp,vG X ak H' b)/\R J H'
def Gd(h:Ts X ak σ tg R itv s2):Lz (fun X=>X.calm=true) X ak σ tg R itv s2:=
 let ⟨o,m,tn,J,f,a,b,T,c,d,e⟩:=h;{o,m,tn,J,f,a,b,{T.mem,T.obj,T.keep,T.item,T.done,T.self},c,d,e}
def IL{ok:Cx->Prop}(ck:rK X scope tn names is)(hc:∀C s0 H0 ex,ok (cD X scope (cH X.env names) (tn++names) C s0 H0 ex)){te:TE}{g:TG}(hg:∀C s0 H0 ex,PG (cD X scope (cH X.env names) (tn++names) C s0 H0 ex) tg g)(he:∀C s0 H0 ex,PE (cD X scope (cH X.env names) (tn++names) C s0 H0 ex) elt te)(ht:∀C s0 H0 ex,Dx (cD X scope (cH X.env names) (tn++names) C s0 H0 ex) ifs tc){P:St}{Q:VK}{E:c7->f9->Prop}(h2:Lz ok X ak P tg (kI te tc g (B6 tn.length none) (pS P is) Q) itv s2){RR:c7->c8->Result->f9->Prop}
    (R':∀(R C:c8)(H':Hp)(s':f9)(m:Str->Option c7),aZ X ak P H' s'->s'.heap.Ns C m->H' C=none->C≠X.env.locals->(∀x c,X.env.cells.lookup x=some c->c≠C)->(∀p∈X.pn++ak,p.1≠C)->X.s₀.heap.objs.size<=C->Q (.ref R) H' ->
      RR (.ref R) C (.ok .next) s') :
    i6 (j3 X.prog X.w) X.A (yr []) (fun R L'=>i6 (j3 X.prog X.w) X.A (newFunctionEnv scope X.env.globals (cH X.env names) [] X.env.qual none .none (some X.env)) (fun i' Y=>
      T5 (j3 X.prog X.w) X.A (.compStart (.ListComp elt [{tg,iter,ifs,0}] scope pos) 0 itv R {i' with scope:=qm scope X.env}) (RR R i'.locals) Y) E L') E s2:=by
  obtain ⟨it,M,Z,J,H2,rfl,I2,T,G',f2,hK⟩:=h2;have j':H2 s2.heap.objs.size=none:=I2.hok.fresh (j8 _);refine K3 ?_ (by show 0<=n7;decide);have b':∀b∈M,b<s2.heap.objs.size:=fun b B=>let ⟨o,e,_⟩:=T.obj 0 _ G' b B;p7 e;generalize c':({s2 with heap:=s2.heap.push {cls:=.type "list",data:=.seq ([]:List c7).toArray}}:f9)=D;have E':D.heap.objs.size=s2.heap.objs.size+1:=by rw[←c'];exact L3 ..
  have I:∀b o,s2.heap.get? b=some o->D.heap.get? b=some o:=fun b o e=>by rw[←c'];exact e9 _ e
  have I3:aZ X ak P (upd H2 s2.heap.objs.size (.lst [])) D:=by rw[←c'];exact I2.laid (t':=s2.toks) (fun b u e=>e9 _ e) (j8 _) {C9 _,[],0,.nil,r9 _ rfl}
  refine zv ck.nocell (by intro y hy;simp at hy) (fun h1 ns sb=>?_) ck.kind;have kp:∀b o,D.heap.get? b=some o->h1.get? b=some o:=fun b o e=>sb.extBut b o (u7 (p7 e)) (e9 _ e);have f':∀b:c8,b<s2.heap.objs.size->b<D.heap.objs.size:=fun b B=>i7 B (by rw[E'];exact U9 _);have β:h1.Ns D.heap.objs.size fun _=>none:=ns;have I4:=Dn (t4:=D.toks+([]:List (Str×c7)).length) ck I2 I3 f2 (fun b B=>f' b (b' b B)) (fun b B=>u7 (b' b B)) β kp;generalize f:cD X scope (cH X.env names) (tn++names) D.heap.objs.size D (upd H2 s2.heap.objs.size (.lst [])) M=s at I4;have hA:s.A=X.A:=by rw[←f];rfl
  have hP:s.prog=X.prog:=by rw[←f];rfl
  have hW:s.w=X.w:=by rw[←f];rfl
  have x':s.K=X.K:=by rw[←f];rfl
  have z':ok s:=by rw[←f];exact hc _ _ _ _
  have B':s.fs=nV X.stack:=by rw[←f];rfl
  have A':s.ex=M:=by rw[←f];rfl
  have S:s.env.locals=D.heap.objs.size:=by rw[←f];rfl
  have D':s.s₀=D:=by rw[←f];rfl
  have T':s.H₀=upd H2 s2.heap.objs.size (.lst []):=by rw[←f];rfl
  have e':s.xe=fun _ _=>False:=by rw[←f];rfl
  have k':s.env=compEnvC scope (cH X.env names) D.heap.objs.size X.env:=by rw[←f];rfl
  have W':PG s tg g:=by rw[←f];exact hg _ _ _ _
  have V':PE s elt te:=by rw[←f];exact he _ _ _ _
  have d':Dx s ifs tc:=by rw[←f];exact ht _ _ _ _
  have a':∀x c,s.env.cells.lookup x=some c->X.env.cells.lookup x=some c:=fun x c e=>by rw[k']at e;exact nB e
  obtain ⟨W,⟨m0,w0⟩,M'⟩:=hK _ j';have U:∀{H':Hp},(∀b∈M,H' b=none)->∀b∈M,vG s [] H' b:=fun {H'} hn b B=>by
    refine {hn b B,?_,?_,.inl (by rw[A'];exact B),fun x c e=>(f2 b B).2.2.2.2.1 x c (a' x c e),fun p hp=>?_}
    . rw[S];exact u7 (f' b (b' b B))
    . rw[B']
      intro z;rcases w6.mp (I2.stkSub b z) with q|q
      . exact (f2 b B).2.1 q
      . exact (f2 b B).2.2.1 q
    . rw[←f]at hp
      exact absurd hp (by simp[cD])
  have F':∀s4:f9,aZ s [] (B6 tn.length none++pS P is) (upd H2 s2.heap.objs.size (.lst [])) s4->Z 0 s4.heap ->
      T5 (j3 X.prog X.w) X.A (.compLoop (.ListComp elt [{tg,iter,ifs,0}] scope pos) 0 (.ref it) (.ref s2.heap.objs.size) s.env) (RR (.ref s2.heap.objs.size) D.heap.objs.size) s4:=by
    intro s4 J4 g';refine EC (fun n s'=>∃i ys ts H',aZ s [] (ts++pS P is) H' s'/\ts.length=tn.length/\Z i s'.heap/\(∀b∈M,H' b=none)/\W i n ys H') ?_ m0
      {0,[],_,_,J4,O9 ..,g',fun b B=>by rw[aX (u7 (b' b B))];exact (f2 b B).1,w0}
    rintro n s5 ⟨i,ys,ts,H5,I5,Z',I',w',w5⟩;obtain ⟨U',o'⟩:=M' i n ys H5 w5;have H:∀{α:Type}{m:Sem α}{Q':α->f9->Prop}{s':f9},i6 (j3 s.prog s.w) s.A m Q' (fun _ _=>False) s'->i6 (j3 X.prog X.w) X.A m Q' (fun _ _=>False) s':=fun {α m Q' s'} z=>by rw[hP,hW,hA]at z;exact z
    rcases o' with ⟨K',qn⟩|⟨C',go,J'⟩
    . have z:=T.done s hP hW x' z' i [] s5 _ H5 (fun _ _=>False) I5 (U w') I' K'
      rw[hA]at z;refine cZ z fun r s6 ⟨hr,I6⟩=>?_;subst hr;have δ:Un (nV X.stack) M H2 (upd H2 s2.heap.objs.size (.lst [])) s2.heap D.heap:=Un.laid I (j8 _) j';have ε:Un (nV X.stack) M (upd H2 s2.heap.objs.size (.lst [])) H5 D.heap s6.heap:=by have b:=I6.base;rw[B',A',D',T']at b;exact b
      have Y':s6.os=s2.os:=by have b:=I6.os;rw[D',←c']at b;exact b
      have IO:aZ X ak P H5 s6:=I2.call' Y' (δ.trans ε) (by have b:=I6.hok;rw[hP,hW]at b;exact b) I6.bare fun b B=>by obtain ⟨_,f1,θ,f3,f4,f5⟩:=f2 b B;exact {f3,f1,fun x c e=>f4 x c e,fun p hp=>f5 p hp}
      obtain ⟨m,hm,_⟩:=I6.loc;rw[S]at hm;have fC:H5 D.heap.objs.size=none:=by have b:=I6.free;rw[S]at b;exact b
      refine R' _ _ H5 s6 m IO hm fC ?_ (fun x c e=>?_) (fun p hp=>?_) ?_ qn
      . exact C3 (i7 I2.lt (by lia))
      . obtain ⟨v,z⟩:=I2.cell x c e
        exact u7 (f' c z.lt)
      . exact u7 (f' p.1 (p7 (I2.pin p hp).1))
      . exact A5 I2.sz (by lia)
    . have z:=T.item s hP hW x' z' i [] s5 _ H5 (fun _ _=>False) I5 (U w') I' go
      rw[hA]at z;refine cZ z fun r s6 ⟨u,hr,h6⟩=>?_;subst hr;refine cZ h6 fun _ s7 ⟨x,H7,I7,r7,y7,r',S'⟩=>?_;have O':=I7.pinned (U S') (T.obj _ _ r');have zg:=W' _ s7 _ H7 x u _ O' r7 (J' ts x H7 (by rw[Z',O9]) y7);rw[e']at zg;refine cZ (H zg) fun _ s8 ⟨κ,H8,I8,⟨O,q',e8⟩,q8⟩=>?_;subst e8;rw[O9]at q';have h':∀{s9:f9}{H9:Hp},aZ s ([]++qO M s7.heap) (O++pS P is) H9 s9->Z (i+1) s9.heap/\∀b∈M,H9 b=none:=fun {s9 H9} I9=>by refine {T.keep _ _ _ r' fun b B o e=>(I9.pin (b,o) (u9 _ (u9 _ (mR B e)))).1,fun b B=>?_};obtain ⟨o,e,d⟩:=T.obj _ _ r' b B;exact (I9.pin (b,o) (u9 _ (u9 _ (mR B e)))).2.1
      have l':∀{s9:f9}{H9:Hp},aZ s ([]++qO M s7.heap) (O++pS P is) H9 s9->te (O++pS P is) H9 (fun y H3=>H3 s2.heap.objs.size=some (.lst ys)/\∃m',m'<n/\W (i+1) m' (ys++[y]) (upd H3 s2.heap.objs.size (.lst (ys++[y])))) ->
          i6 (j3 X.prog X.w) X.A (I0 elt s.env) (fun x Y=>i6 (j3 X.prog X.w) X.A (lc (.builtin "list.append") [.ref s2.heap.objs.size,x]) (fun _ n'=>∃m,m<n/\∃i ys ts H',aZ s [] (ts++pS P is) H' n'/\ts.length=tn.length/\Z i n'.heap/\(∀b∈M,H' b=none)/\W i m ys H') (fun _ _=>False) Y) (fun _ _=>False) s9:=fun {s9 H9} I9 q9=>by
        have ze:=V' _ s9 _ H9 _ I9 q9;rw[e']at ze;refine cZ (H ze) fun y γ ⟨yv,u',N',ry,y',m',p',ζ⟩=>?_;have za:=(dD (X:=s)) ([]++qO M s7.heap) γ (O++pS P is) u' (.ref s2.heap.objs.size) [yv] (.ref s2.heap.objs.size) [y] (fun v H'=>v=.non/\H'=upd u' s2.heap.objs.size (.lst (ys++[yv]))) N' rfl (.cons ry .nil)
          {_,ys,yv,rfl,rfl,y',C',rfl,rfl}
        rw[e']at za;refine cZ (H za) fun _ ι ⟨_,η,v',_,_,P'⟩=>?_;subst P';obtain ⟨b1,b2⟩:=h' v';exact {m',p',i+1,_,O,_,v'.unpinned,q',b1,b2,ζ}
      cases ifs with
     |nil=>
        cases tc with
       |some t=>exact d'.elim
       |none=>exact wpAny_tests_nil (by rw[if_pos rfl];exact l' I8 q8)
     |cons c0 dE=>
        cases dE with
       |cons _ _=>cases tc <;> exact d'.elim
       |nil=>
          cases tc with
         |none=>exact d'.elim
         |some t=>
            have zt:=(show PT s c0 t from d') _ s8 _ H8 _ I8 q8;rw[e']at zt;refine wpAny_tests_one (cZ (H zt) fun ok s9 ⟨H9,I9,q9⟩=>?_);cases ok with
           |true=>rw[if_pos rfl];rw[if_pos rfl]at q9;exact l' I9 q9
           |false=>rw[if_neg j4];rw[if_neg j4]at q9;obtain ⟨m',p',w9⟩:=q9;obtain ⟨b1,b2⟩:=h' I9;exact {m',p',i+1,_,O,_,I9.unpinned,q',b1,b2,w9}
  have g':Z 0 h1:=T.keep _ _ _ G' fun b B o e=>kp b o (I b o e);have G:=F' _ I4 g';rw[k']at G;refine codeAny_compStart_list G (T.self X.A 0 _ _ _ g' G)
def eJ(t:rK X scope tn names is)(T:X.calm=true)(Y:PI X tg iter wi)(W:∀C s0 H0 ex,PG (cD X scope (cH X.env names) (tn++names) C s0 H0 ex) tg g)(U:∀C s0 H0 ex,PE (cD X scope (cH X.env names) (tn++names) C s0 H0 ex) elt te)(Z:∀C s0 H0 ex,Dx (cD X scope (cH X.env names) (tn++names) C s0 H0 ex) ifs tc)(hs:∀x,V0 iter X.env x=K0 x:=by intro _;rfl):
  PE X (.ListComp elt [{tg,iter,ifs,0}] scope pos) (FG wi te tc g tn.length is):=by
 intro c s G H Q I h;rw[eval_ListComp];refine xo (use:=none) rfl hs (t.cls fun x hx=>I.ok.has x (t.outk x hx)) t.kind t.nms (cZ (Y c s G H _ I h) fun v s1 M=>cZ M fun a' s2 O=>?_);refine IL (RR:=fun f C=>compPost (j3 X.prog X.w) X.A X.xe none (EP X c G Q) f C) (ok:=fun X=>X.calm=true) t (fun _ _ _ _=>T) W U Z (Gd O) fun f C J s' m K hn P R B D E q=>?_;refine {m,hn,fun h' sb=>{.ref f,J,?_,rfl,q}};exact K.turned (t':=s'.toks) (fun b o S e=>sb.extBut b o S e) P R (.inr E) B D
def pM(hN:X.N.Nodup)(K:X.N[i]?=some x)(S:Ma X.env.scope x)(B:rK X scope tn names is)(hc:X.calm=true)(hi:PI X tg iter wi)(hg:∀C s0 H0 ex,PG (cD X scope (cH X.env names) (tn++names) C s0 H0 ex) tg g)(he:∀C s0 H0 ex,PE (cD X scope (cH X.env names) (tn++names) C s0 H0 ex) elt te)(ht:∀C s0 H0 ex,Dx (cD X scope (cH X.env names) (tn++names) C s0 H0 ex) ifs tc)(hs:∀x,V0 iter X.env x=K0 x:=by intro _;rfl)(P:ju (.ListComp elt [{tg,iter,ifs,0}] scope pos) (some (.Name x pos')) spos.line X.env=K0 true:=by rfl)(hf:X.fn x=true∨X.env.scope.names.lookup x=some .local:=by first|exact .inl rfl|exact .inr rfl|assumption):
  PS X (.Assign [.Name x pos'] (.ListComp elt [{tg,iter,ifs,0}] scope pos) spos) (TM (FG wi te tc g tn.length is) (hX i)):=by
 intro c s σ H D I h;rw[exec_Assign_Name_used _ _ _ _ P];refine c6 (pc (c6 ?_));show i6 _ X.A (do let _ ←comprehension (.ListComp elt [{tg,iter,ifs,0}] scope pos) scope X.env _ (yr []) false (I0 iter X.env) (some (tf (.Name x pos') X.env))) _ _ s;refine c6 (C4 (xo (use:=some (tf (.Name x pos') X.env)) (Q:=fun _ t=>SP X c D .next t) rfl hs (B.cls fun x S=>I.ok.has x (B.outk x S)) B.kind B.nms
  (cZ (hi c s σ H _ I h) fun v s1 h1=>cZ h1 fun a' s2 h2=>?_)) (fun _ t hq=>i0 (i0 hq)) fun _ _ e=>e)
 refine IL (RR:=fun f C=>compPost (j3 X.prog X.w) X.A X.xe (some (tf (.Name x pos') X.env)) (fun _ t=>SP X c D .next t) f C) (ok:=fun X=>X.calm=true) B (fun _ _ _ _=>hc) hg he ht (Gd h2) fun f C Z t m I' hn hC Y E O R q=>?_;show i6 _ X.A (tf (.Name x pos') X.env (.ref f)) _ _ t;refine wpAny_assign_Name (zX I' hN K S (v:=.ref f) rfl (fun T G U=>?_) hf);obtain ⟨a,U,J⟩:=U;have M:C≠a:=by
  rcases J with rfl|J
  ·exact Y
  ·exact fun z=>E x a J z.symm
 refine {m,hn.sameBut U M,fun h' W=>{_,Z,G.turned (t':=T.toks) (fun b o hb e=>W.extBut b o hb e) hC Y (.inr R) E O,q}}
end
section
variable {te:TE}{Q:VK}{H:Hp}{σ az:St}{wi:TI}{K:v9}
def Iu(h:wi σ H (kI te o g (B6 k none) (pS σ is) Q)):FG wi te o g k is σ H Q:=h
def QW{us:St}(h:us.length=1):∃o,us=[o]:=by
 cases us with
|nil=>cases h
|cons o r=>
  cases r with
 |nil=>exact {o,rfl}
 |cons _ _=>simp at h
def cW(n:Nat)(cc:c8)(Pv:Nat->List V->Hp->Prop):Nat->Nat->List V->Hp->Prop:=fun i m ys H1=>m=n-i/\i<=n/\ys.length=i/\H1 cc=some (.lst ys)/\Pv i ys H1
def yP(n:Nat)(cc:c8)(Pv:Nat->List V->Hp->Prop)(ys:List V)(i:Nat):VK:=fun y H3=>H3 cc=some (.lst ys)/\∃m',m'<n-i/\cW n cc Pv (i+1) m' (ys++[y]) (upd H3 cc (.lst (ys++[y])))
def gD(c:i<n)(g:ys.length=i)(f:H3 cc=some (.lst ys))(p:Pv (i+1) (ys++[y]) (upd H3 cc (.lst (ys++[y])))):yP n cc Pv ys i y H3:=
 {f,n-(i+1),by lia,rfl,c,by rw[q4,g];rfl,aC,p}
def Az{lo:Int}{n:Nat}(hn:n<=1000)(q:c8->Nat->List V->Hp->Prop)(h0:∀c,H c=none->q c 0 [] (upd H c (.lst [])))(hs:∀c i ys g,H c=none->i<n->ys.length=i->g c=some (.lst ys)->q c i ys g->te (some (.int (lo+i))::az) g (yP n c (q c) ys i))(A:∀c ys g,H c=none->g c=some (.lst ys)->ys.length=n->q c n ys g->Q (.ref c) g):kI te none (hX 0) (B6 1 none) az Q (LM lo n) H:=by
 intro c f;refine {cW n c (q c),{n,by simp,C9 _,rfl,aC,h0 c f},?_};rintro i m ys g ⟨rfl,D,w,t,p⟩;refine {t,?_};by_cases s:i<n
 ·refine .inr {eE (by lia),s,fun E x C B y=>?_};obtain ⟨e,y⟩:=y;subst e y;obtain ⟨o,rfl⟩:=QW B;exact {{[some (.int (lo+i))],rfl,rfl},hs c i ys _ f s w t p}
 ·have e:i=n:=by lia
  subst e;exact .inl {j8 _,A c ys g f t w p}
def mI(hn:xs.length<=1000)(s:c8->Nat->List V->Hp->Prop)(h0:∀c,H c=none->s c 0 [] (upd H c (.lst [])))(w:∀c i ys g,H c=none->i<=xs.length->s c i ys g->cU K g a xs)(hs:∀c i ys g x,H c=none->xs[i]?=some x->ys.length=i->g c=some (.lst ys)->s c i ys g->te (some x::az) g (yP xs.length c (s c) ys i))(C:∀c ys g,H c=none->g c=some (.lst ys)->ys.length=xs.length->s c xs.length ys g->Q (.ref c) g):kI te none (hX 0) (B6 1 none) az Q (SK K a) H:=by
 intro c f;refine {cW xs.length c (s c),{xs.length,by simp,C9 _,rfl,aC,h0 c f},?_};rintro i m ys g ⟨rfl,D,B,t,p⟩;have q:=w c i ys g f D p;refine {t,?_};by_cases A:i<xs.length
 ·refine .inr {eE (by lia),{xs,xs[i],q,by simp[A]},fun I x G E y=>?_};obtain ⟨e,y⟩:=y;subst e;obtain ⟨o,rfl⟩:=QW E;exact {{[some x],rfl,rfl},hs c i ys _ x f (y xs q) B t p}
 ·have e:i=xs.length:=by lia
  subst e;exact .inl {{xs,q,j8 _},C c ys g f t B p}
end
end L2
namespace L2
open PySem
end L2
namespace L2
def PF(c:n6 x y=1)(f:n6 x z=1):n6 x (y*z)=1:=by unfold n6 at *;rw[J5];exact Nat.Coprime.mul_right c f
def vW(h:x'∣x)(c:n6 x y=1):n6 x' y=1:=by unfold n6 at *;exact Nat.Coprime.coprime_dvd_left (ka.mpr h) c
def VB(q:b≠0)(s:0<g)(c:n6 f g=1)(e:f*b=t*g):(j7 t b).num=f/\((j7 t b).den:Int)=g:=by
 obtain ⟨n,rfl⟩:∃n:Nat,g=n:={g.toNat,by lia}
 have m:j7 t b=j7 f n:=(Q0 q (by lia)).mpr e.symm;have o:j7 f n=Rat.mk' f n (by lia) c:=C8 (Rat.mk' f n (by lia) c);rw[m,o];exact {rfl,rfl}
def yH{a g:Int}(f:g≠0)(h:g∣a):a.fdiv g*g=a:=by obtain ⟨c,rfl⟩:=h;rw[ir _ f,O2]
def sY(h:k∣n*m)(g:n6 k n=1):k∣m:=by have q:=Int.dvd_gcd_mul_iff_dvd_mul.mpr h;rw[g]at q;simpa using q
def yG(h:∀k:Int,k∣x->k∣y->k∣1):n6 x y=1:=by
 have c:=h (n6 x y) (V3 ..) (X6 ..);have:=mh (by decide) c;have f:n6 x y≠0:=by intro z;rw[z]at c;simp at c
 lia
def SD(W:0<b)(hd:0<d)(T:n6 a b=1)(U:n6 c d=1)(hs:s=(n6 b d:Int))(Y:u=d.fdiv s)(Z:v=b.fdiv s)(hk:k=(n6 (a*u+c*v) s:Int))(X:f=(a*u+c*v).fdiv k):
  0<s/\0<k/\s<=b/\k<=s/\(0<b.fdiv k*u/\n6 f (b.fdiv k*u)=1/\f*(b*d)=(a*d+c*b)*(b.fdiv k*u)) /\
   u.natAbs<=d.natAbs/\v.natAbs<=b.natAbs/\f.natAbs<=(a*u+c*v).natAbs/\(b.fdiv k).natAbs<=b.natAbs:=by
 have o:∀{a g c:Int},g≠0->a*g=c->a.natAbs<=c.natAbs:=fun {a g c} hg e=>by rw[←e,J5];exact Q5 _ (by lia)
 have N:0<s:=by
  rw[hs];have:n6 b d≠0:=fun e=>by have:=(ma.mp e).1;lia
  lia
 have O:s∣b:=hs▸V3 ..;have sd:s∣d:=hs▸X6 ..;have D:u*s=d:=Y▸yH (by lia) sd;have w:v*s=b:=Z▸yH (by lia) O;have k0:0<k:=by
  rw[hk];have:n6 (a*u+c*v) s≠0:=fun e=>by have:=(ma.mp e).2;lia
  lia
 have kt:k∣a*u+c*v:=hk▸V3 ..;have ks:k∣s:=hk▸X6 ..;have G:f*k=a*u+c*v:=X▸yH (by lia) kt;obtain ⟨m,C⟩:=ks;have m0:0<m:=by
  rcases jf 0 m with q|q
  ·exact q
  ·have:k*m<=0:=Int.mul_nonpos_of_nonneg_of_nonpos (by lia) q;lia
 have u0:0<u:=by
  rcases jf 0 u with q|q
  ·exact q
  ·have:u*s<=0:=W8 q (by lia);lia
 have v0:0<v:=by
  rcases jf 0 v with q|q
  ·exact q
  ·have:v*s<=0:=W8 q (by lia);lia
 have t:b.fdiv k=v*m:=by
  have:b=k*(v*m):=by rw[←w,C];grind
  rw[this,ir _ (by lia)]
 have B:n6 u v=1:=by
  have e:n6 (u*s) (v*s)=n6 u v*s.natAbs:=ox ..;rw[D,w,X7]at e;have:s.natAbs=n6 b d:=by lia
  rw[this]at e;have H:0<n6 b d:=by lia
  have:1*n6 b d=n6 u v*n6 b d:=by lia
  exact (gi H this).symm
 have Q:n6 (a*u+c*v) u=1:=by refine yG fun z E A=>?_;have I:z∣c*v:=(Int.dvd_add_right (vo A)).mp E;have J:n6 z c=1:=vW (vj A {s,D.symm}) (by rw[X7];exact U);have K:z∣v:=sY I J;have:=Int.dvd_coe_gcd A K;rw[B]at this;exact this
 have R:n6 (a*u+c*v) v=1:=by refine yG fun z E A=>?_;have I:z∣a*u:=(Int.dvd_add_left (vo A)).mp E;have J:n6 z a=1:=vW (vj A {s,w.symm}) (by rw[X7];exact T);have K:z∣u:=sY I J;have:=Int.dvd_coe_gcd K A;rw[B]at this;exact this
 have P:n6 f m=1:=by
  have e:n6 (f*k) (m*k)=n6 f m*k.natAbs:=ox ..;have:m*k=s:=by rw[C,O2]
  rw[G,this]at e;have E:k.natAbs=n6 (a*u+c*v) s:=by lia
  rw[E]at e;have H:0<n6 (a*u+c*v) s:=by lia
  have:1*n6 (a*u+c*v) s=n6 f m*n6 (a*u+c*v) s:=by lia
  exact (gi H this).symm
 have M:f∣a*u+c*v:={k,G.symm}
 refine {N,k0,mh W O,mh N {m,C},{?_,?_,?_},o (by lia) D,o (by lia) w,o (by lia) G,o (g:=k) (by lia) (by rw[t,←w,C];grind)}
 ·rw[t];exact ij (ij v0 m0) u0
 ·rw[t];exact PF (PF (vW M R) P) (vW M Q)
 ·rw[t];have S:a*d+c*b=(f*k)*s:=by rw[G,←D,←w];grind
  rw[S,←D,←w];have:f*(v*s*(u*s))=f*s*v*u*s:=by grind
  rw[this];have:f*k*s*(v*m*u)=f*s*v*u*(k*m):=by grind
  rw[this,←C]
def Sz(n:Nat)(q:Rat):Prop:=q.num.natAbs<2^n/\q.den<2^n
def Sz.mono(h:Sz m q)(l:m<=n):Sz n q:=
 have:=W1 (n:=2) (by decide) l
 {i7 h.1 this,i7 h.2 this}
def Sz.divInt(f:b≠0)(B:t.natAbs<2^n)(hs:b.natAbs<2^n):Sz n (j7 t b):=by
 have e:j7 (j7 t b).num (j7 t b).den=j7 t b:=C8 _;have g:((j7 t b).den:Int)≠0:=by have:=(j7 t b).den_pos;lia
 rw[Q0 g f]at e;generalize C:j7 t b=q at *;have A:n6 q.num q.den=1:=q.reduced;have w:(q.den:Int)∣b:=sY (k:=q.den) (n:=q.num) {t,by rw[e,O2]} (by rw[X7];exact A);obtain ⟨m,c⟩:=w;have s:t=q.num*m:=by
  have:t*q.den=(q.num*m)*q.den:=by rw[←e,c];grind
  exact Int.eq_of_mul_eq_mul_right g this
 have D:m≠0:=by rintro rfl;simp at c;exact f c
 have o:1<=m.natAbs:=by lia
 constructor
 ·refine E3 ?_ B;rw[s,J5];exact Q5 _ o
 ·refine E3 ?_ hs;rw[c,J5];have:(q.den:Int).natAbs=q.den:=by lia
  rw[this];exact Q5 _ o
def yT(q r:Rat):q+r=j7 (q.num*r.den+r.num*q.den) (q.den*r.den):=by
 have c:(q.den:Int)≠0:=by have:=q.den_pos;lia
 have f:(r.den:Int)≠0:=by have:=r.den_pos;lia
 have:=xm q.num r.num c f;rw[C8,C8]at this;exact this
def KH(q r:Rat):q*r=j7 (q.num*r.num) (q.den*r.den):=by have:=T6 q.num r.num (d₁:=q.den) (d₂:=r.den);rw[C8,C8]at this;exact this
def KY(q r:Rat):q/r=j7 (q.num*r.den) (q.den*r.num):=by rw[lg,Rat.inv_def];have:=T6 q.num r.den (d₁:=q.den) (d₂:=r.num);rw[C8]at this;exact this
def mJ(c:x<2^m)(f:y<2^n):x*y<2^(m+n):=by rw[Nat.pow_add];exact Nat.mul_lt_mul'' c f
def Sz.add(c:Sz m q)(f:Sz n r):Sz (m+n+1) (q+r):=by
 rw[yT];have w:=q.den_pos;have A:=r.den_pos;refine Sz.divInt (Int.ne_of_gt (ij (by lia) (by lia))) ?_ ?_
 ·have o:=mJ c.1 f.2;have s:=mJ f.1 c.2;have g:(q.num*r.den).natAbs=q.num.natAbs*r.den:=by rw[J5];rfl
  have t:(r.num*q.den).natAbs=r.num.natAbs*q.den:=by rw[J5];rfl
  rw[Nat.add_comm n m]at s;rw[pow_succ];refine E3 (Int.natAbs_add_le _ _) ?_;rw[g,t];lia
 ·have o:=mJ c.2 f.2;have g:((q.den:Int)*r.den).natAbs=q.den*r.den:=by rw[J5];rfl
  rw[pow_succ];lia
def Sz.neg(h:Sz n q):Sz n (-q):={by rw[qg,Int.natAbs_neg];exact h.1,h.2}
def Sz.sub(c:Sz m q)(f:Sz n r):Sz (m+n+1) (q-r):=by rw[Rat.sub_eq_add_neg];exact c.add f.neg
def Sz.mul(c:Sz m q)(f:Sz n r):Sz (m+n) (q*r):=by
 rw[KH];have s:=q.den_pos;have t:=r.den_pos;refine Sz.divInt (Int.ne_of_gt (ij (by lia) (by lia))) ?_ ?_
 ·rw[J5];exact mJ c.1 f.1
 ·have g:=mJ c.2 f.2;have o:((q.den:Int)*r.den).natAbs=q.den*r.den:=by rw[J5];rfl
  lia
def Sz.div(c:Sz m q)(f:Sz n r)(t:r≠0):Sz (m+n) (q/r):=by
 rw[KY];have w:=q.den_pos;have s:r.num≠0:=fun e=>t (Rat.num_eq_zero.mp e);refine Sz.divInt (df (by lia) s) ?_ ?_
 ·have g:=mJ c.1 f.2;have o:(q.num*(r.den:Int)).natAbs=q.num.natAbs*r.den:=by rw[J5];rfl
  lia
 ·have g:=mJ c.2 f.1;have o:((q.den:Int)*r.num).natAbs=q.den*r.num.natAbs:=by rw[J5];rfl
  rw[Nat.add_comm]at *;lia
def XI(q r:Rat):decide (q.num*r.den<r.num*q.den)=decide (q<r):=by
 by_cases h:q<r
 ·rw[decide_eq_true h,decide_eq_true ((Rat.lt_iff q r).mp h)]
 ·rw[decide_eq_false h,decide_eq_false (fun z=>h ((Rat.lt_iff q r).mpr z))]
end L2
namespace L2
def Bd(D M:Nat)(q:Rat):Prop:=q.den∣D/\-((M:Nat):Rat)<=q/\q<=((M:Nat):Rat)
def OS{a b:Int}(c:0<=a)(f:1<=b):a<=a*b:=by have:=Int.mul_le_mul_of_nonneg_left f c;lia
def PB(c:b≠0):((j7 t b).den:Int)∣b:=by
 have e:j7 (j7 t b).num (j7 t b).den=j7 t b:=C8 _;have g:((j7 t b).den:Int)≠0:=by have:=(j7 t b).den_pos;lia
 rw[Q0 g c]at e;have f:n6 (j7 t b).num (j7 t b).den=1:=(j7 t b).reduced;exact sY (n:=(j7 t b).num) {t,by rw[e,O2]} (by rw[X7];exact f)
def Jp{D:Nat}{q:Rat}(h:q.den∣D)(f:D≠0):∃a:Int,q=j7 a D:=by
 obtain ⟨m,e⟩:=h;refine {q.num*m,?_};have g:=q.den_pos;have c:j7 (q.num*m) D=j7 q.num q.den:=by
  rw[Q0 (by lia) (by lia),e]
  push_cast
  grind
 rw[c,C8]
def tE{D:Nat}{q r:Rat}(c:D≠0)(f:q.den∣D)(g:r.den∣D):(q+r).den∣D:=by
 obtain ⟨a,rfl⟩:=Jp f c;obtain ⟨b,rfl⟩:=Jp g c;rw[xm a b (by lia) (by lia)];have e:j7 (a*D+b*D) (D*D)=j7 (a+b) D:=by rw[Q0 (df (by lia) (by lia)) (by lia)];grind
 rw[e];exact Q6.mp (PB (by lia))
def Bd.add(o:D≠0)(g:Bd D M q)(m:Bd D N r):Bd D (M+N) (q+r):=by
 obtain ⟨c,s,t⟩:=g;obtain ⟨f,w,A⟩:=m;refine {tE o c f,?_,?_}
 ·have e:(((M+N:Nat)):Rat)=(M:Rat)+(N:Rat):=by push_cast;rfl
  rw[e];grind
 ·have e:(((M+N:Nat)):Rat)=(M:Rat)+(N:Rat):=by push_cast;rfl
  rw[e];grind
def Bd.mono(h:Bd D M q)(l:M<=N):Bd D N q:=by
 obtain ⟨c,f,g⟩:=h;have e:(M:Rat)<=(N:Rat):=by rw[mw];simp;lia
 exact {c,by grind,by grind}
def Bd.sz(h:Bd D M q)(B:D≠0)(w:D<2^n)(A:M*D<2^n):Sz n q:=by
 obtain ⟨f,g,m⟩:=h;have c:=sw (by lia) f;have C:q.num<=M*q.den:=by have:=(mw q (M:Rat)).mp m;simpa using this
 have E:-(M*q.den:Int)<=q.num:=by
  have:=(mw (-(M:Rat)) q).mp g;have o:(-(M:Rat)).num=-(M:Int):=by rw[qg];simp
  have s:(-(M:Rat)).den=1:=by rw[xw];simp
  rw[o,s]at this;simp at this;have t:-(M:Int)*q.den=-((M:Int)*q.den):=by grind
  lia
 refine {?_,by lia};have G:M*q.den<=M*D:=X4 _ c;have H:((M*q.den:Nat):Int)=(M:Int)*q.den:=by push_cast;rfl
 lia
def Bd.of(h:q.num.natAbs<=M):Bd q.den M q:=by
 have hp:=q.den_pos;refine {Nat.dvd_refl _,?_,?_}
 ·rw[mw];have c:(-(M:Rat)).num=-(M:Int):=by rw[qg];simp
  have f:(-(M:Rat)).den=1:=by rw[xw];simp
  rw[c,f];have:(M:Int)<=(M:Int)*q.den:=OS (by lia) (by lia);have g:-(M:Int)*q.den=-((M:Int)*q.den):=by grind
  simp;lia
 ·rw[mw];have:(M:Int)<=(M:Int)*q.den:=OS (by lia) (by lia);simp;lia
def Bd.dvd(h:Bd D M q)(d:D∣E):Bd E M q:={dvd_trans h.1 d,h.2}
end L2
namespace L2
open PySem
def IZ(xs:Array Nat):Prop:=xs.toList.Pairwise (· < ·)
def IZ.lt(h:IZ xs)(c:i<j)(f:j<xs.size):xs[i]'(jw c f)<xs[j]:=by have:=gj.mp h i j (by simpa using jw c f) (by simpa using f) c;simpa using this
def IZ.le(h:IZ xs)(c:i<=j)(g:j<xs.size):xs[i]'(E3 c g)<=xs[j]:=by
 rcases Nat.lt_or_eq_of_le c with f|f
 ·exact V6 (h.lt f g)
 ·subst f;exact j8 _
def IW(xs:Array Nat)(j r:Nat):Prop:=r<=xs.size/\(∀k (hk:k<xs.size),k<r->xs[k]<j)/\∀k (hk:k<xs.size),r<=k->j<=xs[k]
theorem yR(h:IZ xs):∀(fuel lo f:Nat),f-lo<=fuel->lo<=f->f<=xs.size->(∀k (hk:k<xs.size),k<lo->xs[k]<j)->(∀k (hk:k<xs.size),f<=k->j<=xs[k])->IW xs j (V1 xs j fuel lo f)
|0,lo,f,A,B,s,o,q=>by
  have:lo=f:=by lia
  subst this;unfold V1;exact {s,o,q}
|fuel+1,lo,f,A,B,s,o,q=>by
  unfold V1;by_cases m:lo<f
  ·rw[if_pos m];have t:(lo+f)/2<xs.size:=by lia
   have w:xs.getD ((lo+f)/2) j=xs[(lo+f)/2]:=by simp[Array.getD,t]
   show IW xs j (if xs.getD ((lo+f)/2) j<j then V1 xs j fuel ((lo+f)/2+1) f else V1 xs j fuel lo ((lo+f)/2));rw[w];by_cases c:xs[(lo+f)/2]<j
   ·rw[if_pos c];exact yR h fuel ((lo+f)/2+1) f (by lia) (by lia) s (fun k hk g=>E3 (h.le (show k<=(lo+f)/2 by lia) t) c) q
   ·rw[if_neg c];exact yR h fuel lo ((lo+f)/2) (by lia) (by lia) (by lia) o fun k hk g=>A5 (Nat.le_of_not_lt c) (h.le g hk)
  ·rw[if_neg m];have:lo=f:=by lia
   subst this;exact {s,o,q}
def pA(j:Nat)(h:IZ xs):IW xs j (K8 xs j):=
 yR h xs.size 0 xs.size (by lia) (C9 _) (j8 _) (fun _ _ z=>absurd z (X8 _)) fun k hk z=>absurd hk (yq.mpr z)
def zY(h:IW xs j r)(h':IW xs j r'):r=r':=by
 rcases Nat.lt_trichotomy r r' with c|c|c
 ·have hk:r<xs.size:=i7 c h'.1;exact absurd (h'.2.1 r hk c) (yq.mpr (h.2.2 r hk (j8 _)))
 ·exact c
 ·have hk:r'<xs.size:=i7 c h.1;exact absurd (h.2.1 r' hk c) (yq.mpr (h'.2.2 r' hk (j8 _)))
def LG(h:IZ xs):K8 xs 0=0:=
 zY (pA 0 h) {C9 _,fun _ _ z=>absurd z (X8 _),fun _ _ _=>C9 _}
def LH(h:IZ xs)(c:i<xs.size):K8 xs (xs[i]+1)=i+1:=
 zY (pA _ h) {c,fun k hk z=>Nat.lt_succ_of_le (h.le (Nat.le_of_lt_succ z) c),fun k hk z=>Nat.succ_le_of_lt (h.lt z hk)}
def Ak(h:IZ xs)(hn:xs[K8 xs j]?≠some j):IZ (J0.insertAt xs (K8 xs j) j):=by
 have st:=pA j h;generalize K8 xs j=p at st hn;unfold IZ;rw[J0.toList_insertAt];have g:∀a∈xs.toList.take p,a<j:=fun a c=>by obtain ⟨k,hk,e⟩:=ly c;rw[dy]at hk;rw[List.getElem_take,xl]at e;rw[←e];exact st.2.1 k (by simp at hk;lia) (by lia)
 have m:∀a∈xs.toList.drop p,j<a:=fun a c=>by
  obtain ⟨k,hk,e⟩:=ly c;rw[At,C0]at hk;rw[List.getElem_drop,xl]at e;have hp:p<xs.size:=by lia
  have o:=st.2.2 p hp (j8 _);have q:xs[p]≠j:=fun z=>hn (by rw[J8 hp,z]);have s:=h.le (show p<=p+k by lia) (by lia);rw[←e];lia
 refine List.pairwise_append.mpr {h.sublist (yi ..),List.pairwise_cons.mpr {m,h.sublist (List.drop_sublist ..)},fun a c b f=>?_};rcases w6.mp f with rfl|f
 ·exact g a c
 ·exact jw (g a c) (m b f)
def Tb(w:y6)(t:J0)(_n:Nat):Prop:=t.led=!(w.params.followText "set-order")/\IZ t.place/\t.dummies=#[]
def pL(n:Nat):IZ (Array.range n):=by unfold IZ;rw[Array.toList_range];exact vv
def OX(j:Nat):rj #[] j=false:=by unfold rj;simp
theorem xJ(m:t.dummies=#[]):∀(fuel:Nat)(p:J0.Probe)(j:Nat)(d:Option Nat),J0.probe.go t f h fuel p=some (.empty j d)->p.dummy=none->t.slot j=.empty/\d=none
|0,p,j,d,e,c=>nomatch e
|fuel+1,p,j,d,e,c=>by
  have g:(t.advance p).dummy=none:=by
   unfold J0.advance;split
   ·exact c
   ·exact c
  unfold J0.probe.go at e;cases hs:t.slot p.j with
 |empty=>
   rw[hs]at e;have e:=j5 e;injection e with e1 e2
   exact {by rw[←e1];exact hs,by rw[←e2];exact c}
 |dummy=>
   exfalso;unfold J0.slot at hs;dsimp only at hs;rw[m,OX,if_neg j4]at hs;split at hs <;> cases hs
 |live i=>
   rw[hs]at e;dsimp only at e;split at e
   ·exact nomatch j5 e
   ·exact xJ m fuel _ j d e g
def PZ{t:J0}{j:Nat}(h:t.slot j=.empty):t.place[K8 t.place j]?≠some j:=fun e=>by
 unfold J0.slot at h;dsimp only at h;rw[e,if_pos (by simp)]at h;cases h
def QX(es:Array (Int×c7))(h:Int)(x:c7)(A:Tb w t n):Tb w (layNew t es h x).2.1 m:=by
 obtain ⟨f,s,g⟩:=A;unfold layNew;split
 ·rename_i c B e;dsimp only;have hp:Tb w (t.put c).1 m:=by
   have hs:t.place[K8 t.place c]?≠some c:=by
    unfold J0.freeSlot at e;split at e
    ·rename_i j d o;have:=xJ g _ _ _ _ o rfl;rw[this.2]at e;have e:=j5 e;have q:j=c:=congrArg Prod.fst e;rw[←q];exact PZ this.1
    ·cases e
   unfold J0.put;refine {f,Ak s hs,?_};show (if rj t.dummies c then _ else t.dummies)=#[];rw[g,OX,if_neg j4]
  unfold J0.orStandIn;split
  ·exact hp
  ·exact {f,pL _,rfl}
 ·exact {f,pL _,rfl}
def VA(es:Array (Int×c7))(k:Nat)(A:Tb w t n):Tb w (ql t es k).2.1 m:=by
 obtain ⟨c,B,C⟩:=A;unfold ql;split
 ·rename_i E g e;unfold J0.relaid J0.laid at e;cases hc:J0.layClean (J0.sizeAbove k-1) (Array.map (fun x=>x.fst) es) with
 |none=>
   rw[hc]at e;exact nomatch e
 |some D=>
  rw[hc]at e;have o:=congrArg Prod.fst (j5 e);dsimp only at o;subst o;dsimp only;split
  ·refine {c,?_,rfl};unfold IZ;dsimp only;refine gn.mpr (List.pairwise_filterMap.mpr (vv.imp fun {a b} f x q y s=>?_));simp only[A8]at q s;obtain ⟨_,_,rfl⟩:=q;obtain ⟨_,_,rfl⟩:=s;exact f
  ·exact {c,pL _,rfl}
 ·exact {c,pL _,rfl}
section
variable {prog:m7}{w:y6}{K:Type}[DecidableEq K]{knd:KeyKind prog w K}{A:A2}{E:c7->f9->Prop}{s:f9}
def ZB(N:x.scannable=true)(J:knd.is k x=true)(S:s.heap.get? a=some o)(b':o.ExactSet)(H:o.data=.set es ep t)(I:ElemsOf knd es.toList)(hb:es.size+1<ni)(hf:t.fits es.size=true)(ht:Tb w t es.size)(h1:(∃e∈es.toList,knd.is k e.2=true)->Q false s)
  (h2:(∀e∈es.toList,knd.is k e.2=false)->∀(h':A7)(es':Array (Int×c7)) (t':J0) (ep':Nat),P9 a s.heap h'->h'.get? a=some {o with data:=.set es' ep' t'}->fb es'.toList (es.toList++[(knd.hash k,x)]) ->
   t'.fits es'.size=true->Tb w t' es'.size->Q true {s with heap:=h'}):i6 (j3 prog w) A (ym a x (knd.hash k)) Q E s:=by
 unfold ym setAddHashedIn;refine D7 (c6 (U8 S H hf ?_));dsimp only;rw[byScan_of N (by lia) I,if_pos rfl];unfold setAddByScan;refine c6 (c6 (L7 (c6 (wpAny_setScan_of J S H hf I ?_))));cases hr:List.findIdx? (fun e=>knd.is k e.2) es.toList with
|some j=>
  obtain ⟨hj,Y,_⟩:=List.findIdx?_eq_some_iff_getElem.mp hr;exact i0 (i0 (h1 {_,K7 hj,Y}))
|none=>
  have M:=List.findIdx?_eq_none_iff.mp hr;have gw:∀(b:Bool){q:f9}{Q':Unit->f9->Prop},Q' () q->i6 (j3 prog w) A (match b with|true=>rule "set.scan.the-table-gave-way"|false=>K0 ()) Q' E q:=fun b _ _ hq=>by
   cases b
   ·exact i0 hq
   ·exact L7 hq
  dsimp only;have C:=layNew_perm t es (knd.hash k) x;have G:=layNew_fits t es (knd.hash k) x;have O:=fun m=>QX (m:=m) es (knd.hash k) x ht;generalize layNew t es (knd.hash k) x=L at C G O ⊢;obtain ⟨c,t1,wd,a'⟩:=L;dsimp only at C G O ⊢;rw[L4]at C;have hz:c.size=es.size+1:=by have:=C.length_eq;simpa using this
  refine c6 (gw _ ?_);have B:∀f:J0,f.fits c.size=true->(∀m,Tb w f m)->i6 (j3 prog w) A (do
    storeSet a c f
    if (!wd&&f.tooFull)=true then do
      (match (ql f c (R5 c.size)).2.2 with|true=>rule "set.scan.the-table-gave-way"|false=>K0 ())
      storeSet a (ql f c (R5 c.size)).1 (ql f c (R5 c.size)).2.1
      K0 (some true)
     else K0 (some true)) (fun r q=>i6 (j3 prog w) A (match r with | some added=>K0 added | none=>setAddHashedIn a x (knd.hash k) 99999) Q E q) E s:=by
   intro f f2 l2;refine c6 (wpAny_storeSet_of S H ?_ (qw (by lia)));have W:(s.heap.update a (je c f)).get? a=some {o with data:=.set c (ep+1) f}:=by have z:=C7 (je c f) S (by rw[yb c f H];rfl);rw[yb c f H]at z;exact z
   have P:=E6 s.heap a (je c f);split
   ·have T:=relayAll_perm f c (R5 c.size);have U:=relayAll_fits f c (R5 c.size);have Z:=fun m=>VA (m:=m) c (R5 c.size) (l2 0);generalize ql f c (R5 c.size)=R at T U Z ⊢;obtain ⟨g,D,X⟩:=R;dsimp only at T U Z ⊢;have c':g.size=c.size:=by
     have:=T.length_eq;simpa using this
    refine c6 (gw _ ?_);refine c6 (wpAny_storeSet_of W rfl ?_ (qw (by lia)));have g2:((s.heap.update a (je c f)).update a (je g D)).get? a=some {o with data:=.set g (ep+1+1) D}:=by have z:=C7 (je g D) W (by rw[yb g D rfl];rfl);rw[yb g D rfl]at z;exact z
    exact i0 (i0 (h2 M _ g D _ (P.trans (E6 _ a _)) g2 (T.trans C) U (Z _)))
   ·exact i0 (i0 (h2 M _ c f _ P W C f2 (l2 _)))
  split
  ·refine c6 ?_;rw[hashByValue_scannable 8 N];refine i0 ?_;cases plainKind x with
  |true=>
    rw[if_pos rfl];exact B t1 G O
  |false=>rw[if_neg j4];exact B _ (J0.fits_plain_off G) O
  ·refine c6 (i0 ?_);rw[if_pos rfl];exact B t1 G O
end
end L2
namespace L2
open PySem
section
variable {A:A2}{E:c7->f9->Prop}{s:f9}
def RQ(hn:n≠0)(h:∀i d,i<n->Q i {s with drawn:=d}):i6 M A (choose src n) Q E s:=by intro c p _;show Sem.wp M c (.choose src n .pure) _ _ p s;rw[Sem.wp_choose];exact {hn,by rw[Sem.wp];exact h _ _ (mod_lt _ (Nat.pos_of_ne_zero hn))}
theorem mZ{c:Type}:∀{l:List c}{i:Nat}{x:c},l[i]?=some x->(x::l.eraseIdx i).Perm l
|[],i,x,h=>by simp at h
|a::l,0,x,h=>by simp at h;subst h;exact .refl _
|a::l,i+1,x,h=>by have ih:=mZ (l:=l) (i:=i) (x:=x) (by simpa using h);show (x::a::l.eraseIdx i).Perm (a::l);exact (fb.swap ..).trans (ih.cons a)
theorem AY{g:Type}:∀(n:Nat)(xs:List g)(s:f9)(Q:List g->f9->Prop),xs.length=n->(∀ys d,ys.Perm xs->Q ys {s with drawn:=d})->i6 M A (drawOrder n xs) Q E s
|0,xs,s,Q,c,h=>by
  have:xs=[]:=N8.mp c;subst this;exact i0 (h [] s.drawn (.refl _))
|n+1,[],s,Q,c,h=>by cases c
|n+1,x::xs,s,Q,c,h=>by
  unfold drawOrder;refine c6 (RQ (by simp) fun i d o=>?_);obtain ⟨y,f⟩:∃y,(x::xs)[i]?=some y:={_,i3 o}
  rw[f];refine c6 (AY n _ _ _ ?_ fun ys m hp=>i0 (h _ m ?_))
  ·have:=(mZ f).length_eq;simp at this c⊢;lia
  ·exact (hp.cons y).trans (mZ f)
theorem OE{m:Type}(next:Nat->Nat):∀(fuel k:Nat)(left:List m)(out:Array m),left.length=fuel->(qo next fuel k left out).toList.Perm (out.toList++left)
|0,k,left,out,f=>by
  have:left=[]:=N8.mp f;subst this;unfold qo;simp
|fuel+1,k,left,out,f=>by
  unfold qo;have c:next k%left.length<left.length:=mod_lt _ (by lia)
  obtain ⟨y,g⟩:∃y,left[next k%left.length]?=some y:={_,i3 c}
  rw[g];dsimp only;have hp:=mZ g;have ih:=OE next fuel (k+1) (left.eraseIdx (next k%left.length)) (out.push y) (by
   have:=hp.length_eq;simp at this;lia)
  refine ih.trans ?_;rw[L4,E1];exact fb.append_left _ hp
def QH{c:Type}(next:Nat->Nat)(xs:Array c):(nj next xs).toList.Perm xs.toList:=by
 unfold nj;have:=OE next xs.size 0 xs.toList #[] (by simp)
 simpa using this
def jF:Slot "set_iterator" "__next__" "set_iterator.__next__":=
 .of (owner:="set_iterator") (n:="__next__") (by rw[fy,U7];kernel_rfl) (by k_is) (by k_is) (by k_is) (by first|exact .inl (by k_is)|exact .inr (by k_is)) (by rw[mn];kernel_rfl)
def zJ:qx table "set_iterator.__next__"=some E8.«set_iterator.__next__»:=sx (by kernel_rfl)
def EA:qx table "set.__iter__"=some E8.«frozenset.__iter__»:=entryFor_alias (id':="frozenset.__iter__") (by kernel_rfl) rfl (by k_is) (by kernel_rfl)
def EK(a:c7):zc "set_iterator.__next__" {[a],[]}:=by
 unfold zc
 kernel_rfl
end
end L2
namespace L2
open PySem
noncomputable def eX(es:Array (Int×c7))(ep:Nat)(t:J0):Obj:={cls:=.type "set",dict:=none,data:=.set es ep t,slots:=#[]}
def pV(h:A7)(it:c8)(first:c7)(i:Nat)(a:c8)(n ep:Nat):Prop:=
 ∃o,h.get? it=some o/\o.cls=.type "set_iterator"/\o.data=.fields #[first,.int i 0,.ref a,.int n 0,.int ep 0]
def pV.typeIs{s:f9}{it a:c8}{first:c7}{i n ep:Nat}(x:pV s.heap it first i a n ep):s.TypeIs (.ref it) "set_iterator":=let ⟨o,f,c,_⟩:=x;{o,f,c}
section
variable {prog:m7}{w:y6}{A:A2}{E:c7->f9->Prop}{s:f9}
def vI(g:s.TypeIs (.ref it) "set_iterator")(h:i6 (j3 prog w) A.in1 (E8.«set_iterator.__next__» {[.ref it],[]}) (fun f c=>∃v,f=.done (.ret v)/\Q (some v) c) (fun e c=>i6 (j3 prog w) A (do if ←pj e (.type "StopIteration") then K0 none else throw e) Q E c) s):
  i6 (j3 prog w) A (T4 (.ref it)) Q E s:=by
 unfold T4;have m:i6 (j3 prog w) A (callSpecial? (.ref it) (J7 "__next__")) (fun r c=>∃v,r=some v/\Q (some v) c) (fun e c=>i6 (j3 prog w) A (do if ←pj e (.type "StopIteration") then K0 none else throw e) Q E c) s:=
  jq (name:=J7 "__next__") g jF (O7 jF g zJ (C4 h (fun f c ⟨v,e,q⟩=>{v,e,v,rfl,q}) fun _ _ e=>e) (EK _))
 refine c6 (U5 (C4 m (fun r c t=>?_) fun e c o=>o));obtain ⟨v,rfl,q⟩:=t;exact i0 q
def MZ(c:s.TypeIs e "StopIteration")(h:Q none s):i6 (j3 prog w) A (do if ←pj e (.type "StopIteration") then K0 none else throw e) Q E s:=by refine c6 (jo c isSubtype_stop ?_);exact i0 h
def GL{c:Type}{Q:c->f9->Prop}(f:A.handled=none)(h:∀e h',(∀b o,s.heap.get? b=some o->h'.get? b=some o)->Y3 {s with heap:=h'} e "StopIteration"->E e {s with heap:=h'}):
  i6 (j3 prog w) A (do jv (←sv (.type "StopIteration") []):Sem c) Q E s:=by
 refine c6 ?_;simp only[sv,newTuple];refine c6 (K3 ?_ (by size_fits));refine c6 (m:=firstArgMember _ _) (wpAny_of_eq (a:=C6) (by first|rfl|(simp only[firstArgMember];rfl)) ?_);refine K3 ?_ (by size_fits);simp only[jv];refine c6 (wpAny_handled ?_);rw[f];refine c6 (i0 (wpAny_throw ?_));exact h (.ref _) _ (fun b o e=>e9 _ (e9 _ e)) {_,r9 _ rfl,rfl}
variable {a it:c8}{es:Array (Int×c7)}{ep i:Nat}{t:J0}{first:c7}
def vH{Q:Fin->f9->Prop}(q:pV s.heap it first i a es.size ep)(c:s.heap.get? a=some (eX es ep t))(g:t.fits es.size=true)
  (h:i6 (j3 prog w) A (if let .int slot _:=first then do
    match ←ku a slot.toNat i ep with
   |some (x,next)=>
     M8 (.ref it) 0 (C5 next)
     M8 (.ref it) 1 (C5 ((i:Int)+1))
     ret x
   |none=>M8 (.ref it) 2 .none;jv (←sv (.type "StopIteration") [])
   else do
    let some places ←ng first|dw "internal:set_iterator"
    match places[i]? with
   |some (.int place _)=>
     let x ←kr a place.toNat ep
     M8 (.ref it) 1 (C5 ((i:Int)+1))
     ret x
   |some _=>dw "internal:set_iterator"
    | none=>M8 (.ref it) 0 (C5 0);M8 (.ref it) 2 .none;jv (←sv (.type "StopIteration") [])) Q E s) :
  i6 (j3 prog w) A (E8.«set_iterator.__next__» {[.ref it],[]}) Q E s:=by
 obtain ⟨o,B,C,f⟩:=q;unfold E8.«set_iterator.__next__»;refine c6 (m:=slotArgs _ _ _) (i0 ?_);refine c6 (wpAny_fieldsOf B f ?_);dsimp only;refine c6 (Uv c rfl g ?_);rw[if_neg (by simp)];exact h
def CJ(h:A7)(f:h.get? it=some o)(c:o.data=.fields vs):(h.update it (iq (·.setIfInBounds k v))).get? it=some (o.mapFields (·.setIfInBounds k v)):=
 C7 _ f (Y7 (J3 c _))
def QA{tp:c8}{places:List Nat}{p:Nat}{x:Int×c7}{Q:Option c7->f9->Prop}(g:pV s.heap it (.ref tp) i a es.size ep)(m:s.heap.get? a=some (eX es ep t))(q:t.fits es.size=true)(J:it≠a)(K:it≠tp)(I:∃o k,s.heap.get? tp=some o/\o.data=.seq (places.map fun j=>C5 (j:Nat)).toArray k)(hp:places[i]?=some p)(M:es[p]?=some x)(h:∀h',pV h' it (.ref tp) (i+1) a es.size ep->P9 it s.heap h'->Q (some x.2) {s with heap:=h'}):i6 (j3 prog w) A (T4 (.ref it)) Q E s:=by
  refine vI g.typeIs (vH g m q ?_);obtain ⟨o,B,H,f⟩:=g;obtain ⟨O,N,D,G⟩:=I;show i6 (j3 prog w) A.in1 (do
        let some places ←ng (.ref tp)|dw "internal:set_iterator"
        match places[i]? with
       |some (.int c _)=>
          let x ←kr a c.toNat ep
          M8 (.ref it) 1 (C5 ((i:Int)+1))
          ret x
       |some _=>dw "internal:set_iterator"
        | none=>M8 (.ref it) 0 (C5 0);M8 (.ref it) 2 .none;jv (←sv (.type "StopIteration") [])) _ _ s
  unfold ng;refine c6 (c6 (il D ?_));rw[G];refine i0 ?_;have C:(places.map fun j=>C5 (j:Nat)).toArray[i]?=some (C5 (p:Nat)):=by simp[hp]
  dsimp only;rw[C];show i6 (j3 prog w) A.in1 (do
          let x ←kr a ((p:Int)).toNat ep
          M8 (.ref it) 1 (C5 ((i:Int)+1))
          ret x) _ _ s
  unfold kr;refine c6 (c6 (U8 m rfl q ?_));dsimp only;rw[if_neg (by simp),ig,M];refine i0 ?_;refine c6 (P4 B f (by simp) ?_);refine i0 {_,rfl,h _ {_,CJ s.heap B f,(gy ..).trans H,?_} (E6 ..)};rw[J3 f];simp[C5]
def UM{tp:c8}{places:List Nat}{Q:Option c7->f9->Prop}(M:A.handled=none)(g:pV s.heap it (.ref tp) i a es.size ep)(J:s.heap.get? a=some (eX es ep t))(K:t.fits es.size=true)(N:∃o k,s.heap.get? tp=some o/\o.data=.seq (places.map fun j=>C5 (j:Nat)).toArray k)(hp:places[i]?=none)(h:∀h',A7.ExtBut it s.heap h'->Q none {s with heap:=h'}):i6 (j3 prog w) A (T4 (.ref it)) Q E s:=by
  refine vI g.typeIs (vH g J K ?_);obtain ⟨o,q,P,f⟩:=g;obtain ⟨S,R,G,H⟩:=N;show i6 (j3 prog w) A.in1 (do
        let some places ←ng (.ref tp)|dw "internal:set_iterator"
        match places[i]? with
       |some (.int c _)=>
          let x ←kr a c.toNat ep
          M8 (.ref it) 1 (C5 ((i:Int)+1))
          ret x
       |some _=>dw "internal:set_iterator"
        | none=>M8 (.ref it) 0 (C5 0);M8 (.ref it) 2 .none;jv (←sv (.type "StopIteration") [])) _ _ s
  unfold ng;refine c6 (c6 (il G ?_));rw[H];refine i0 ?_;have C:(places.map fun j=>C5 (j:Nat)).toArray[i]?=none:=by simpa using hp
  dsimp only;rw[C];refine c6 (P4 q f (by simp) ?_);have D:=CJ (k:=0) (v:=C5 0) s.heap q f;refine c6 (P4 D (J3 f _) (by simp) ?_);refine GL (by simpa using M) fun e h' k I=>?_;refine MZ I (h h' fun b O m B=>k b O ?_);exact (A9 _ _ (q7 m)).trans ((A9 _ _ (q7 m)).trans B)
def AN{slot next:Nat}{Q:Option c7->f9->Prop}(f:pV s.heap it (.int slot 0) i a es.size ep)(q:s.heap.get? a=some (eX es ep t))(C:t.fits es.size=true)(hn:∀(A:A2)(E:c7->f9->Prop)(Q:Option (c7×Nat)->f9->Prop),Q (some (x,next)) s->i6 (j3 prog w) A (ku a slot i ep) Q E s)(h:∀h',pV h' it (.int next 0) (i+1) a es.size ep->P9 it s.heap h'->Q (some x) {s with heap:=h'}):i6 (j3 prog w) A (T4 (.ref it)) Q E s:=by
  refine vI f.typeIs (vH f q C ?_);obtain ⟨o,m,B,c⟩:=f;show i6 (j3 prog w) A.in1 (do
        match ←ku a ((slot:Int)).toNat i ep with
       |some (x,next)=>
          M8 (.ref it) 0 (C5 next)
          M8 (.ref it) 1 (C5 ((i:Int)+1))
          ret x
        | none=>M8 (.ref it) 2 .none;jv (←sv (.type "StopIteration") [])) _ _ s
  rw[ig];refine c6 (hn _ _ _ ?_);refine c6 (P4 m c (by simp) ?_);have g:=CJ (k:=0) (v:=C5 next) s.heap m c;refine c6 (P4 g (J3 c _) (by simp) ?_);refine i0 {_,rfl,h _ {_,CJ _ g (J3 c _),(gy ..).trans ((gy ..).trans B),?_} ((E6 ..).trans (E6 ..))};rw[J3 (J3 c _)];simp[C5]
def GM{slot:Nat}{Q:Option c7->f9->Prop}(D:A.handled=none)(c:pV s.heap it (.int slot 0) i a es.size ep)(m:s.heap.get? a=some (eX es ep t))(C:t.fits es.size=true)(hn:∀(A:A2)(E:c7->f9->Prop)(Q:Option (c7×Nat)->f9->Prop),Q none s->i6 (j3 prog w) A (ku a slot i ep) Q E s)(h:∀h',A7.ExtBut it s.heap h'->Q none {s with heap:=h'}):i6 (j3 prog w) A (T4 (.ref it)) Q E s:=by
  refine vI c.typeIs (vH c m C ?_);obtain ⟨o,G,I,B⟩:=c;show i6 (j3 prog w) A.in1 (do
        match ←ku a ((slot:Int)).toNat i ep with
       |some (x,next)=>
          M8 (.ref it) 0 (C5 next)
          M8 (.ref it) 1 (C5 ((i:Int)+1))
          ret x
        | none=>M8 (.ref it) 2 .none;jv (←sv (.type "StopIteration") [])) _ _ s
  rw[ig];refine c6 (hn _ _ _ ?_);refine c6 (P4 G B (by simp) ?_);refine GL (by simpa using D) fun e h' k g=>?_;refine MZ g (h h' fun b H q f=>k b H ?_);exact (A9 _ _ (q7 q)).trans f
end
end L2
namespace L2
open PySem
section
variable {prog:m7}{w:y6}{A:A2}{E:c7->f9->Prop}{s:f9}{a it:c8}{es:Array (Int×c7)}{ep i n:Nat}{t:J0}
def pQ(h:Q (w.params.followText "set-order") s):i6 (j3 prog w) A setsByText Q E s:=by unfold setsByText;exact c6 (so (i0 h))
def BA(g:w.params.followText "set-order"=true)(c:s.heap.get? a=some (eX es ep t))(f:t.fits es.size=true)(h:Q (((nj (w.params.setOrder a ep) es)[i]?).map fun e=>(e.2,slot)) s):i6 (j3 prog w) A (ku a slot i ep) Q E s:=by unfold ku;refine c6 (U8 c rfl f ?_);dsimp only;refine c6 (pQ ?_);rw[g,if_pos rfl,if_neg (by simp)];unfold setWalk;refine c6 (c6 (U8 c rfl f ?_));dsimp only;refine c6 (pQ ?_);rw[g,if_pos rfl];exact c6 (so (i0 (i0 h)))
def HV(o:w.params.followText "set-order"=false)(m:t.led=true)(f:(!t.plain&&decide (es.size>1))=false)(c:s.heap.get? a=some (eX es ep t))(g:t.fits es.size=true)(h:Q (match es[K8 t.place slot]?,t.place[K8 t.place slot]? with|some (_,x),some j=>some (x,j+1)|_,_=>none) s):i6 (j3 prog w) A (ku a slot i ep) Q E s:=by unfold ku;refine c6 (U8 c rfl g ?_);dsimp only;refine c6 (pQ ?_);rw[o,if_neg j4];show i6 (j3 prog w) A (if (!t.plain&&decide (es.size>1))=true then _ else _) Q E s;rw[if_neg (by rw[f];exact j4)];refine c6 ?_;show i6 (j3 prog w) A (if (!t.led&&!es.isEmpty)=true then dw "set:maker-not-led" else K0 ()) _ _ s;rw[if_neg (by rw[m];simp)];exact i0 (i0 h)
structure vX(prog:m7)(w:y6)(A:A2)(it:c8)(fp:List c8)(ord:List c7)(St:Nat->A7->Prop):Prop where
 ws:Walks prog w A it fp [it] ord.length (fun i v=>ord[i]?=some v) St
 ty:∀i (s:f9),St i s.heap->s.TypeIs (.ref it) "set_iterator"
def CK(g:pV s.heap it first i a n ep)(h:Q (.ref it) s)(slot:Slot "set_iterator" "__iter__" "set_iterator.__iter__")(c:qx table "set_iterator.__iter__"=some E8.«dict_keyiterator.__iter__»)(f:zc "set_iterator.__iter__" {[.ref it],[]}):i6 (j3 prog w) A (su (.ref it)) Q E s:=by refine qj g.typeIs slot (O7 slot g.typeIs c ?_ f);show i6 _ _ (ret (.ref it)) _ _ s;exact i0 {_,rfl,"set_iterator",_,g.typeIs,jF.lookup,h}
end
def lY:Slot "set_iterator" "__iter__" "set_iterator.__iter__":=
 .of (owner:="set_iterator") (n:="__iter__") (by rw[fy,U7];kernel_rfl) (by k_is) (by k_is) (by k_is) (by first|exact .inl (by k_is)|exact .inr (by k_is)) (by rw[mn];kernel_rfl)
def lA:qx table "set_iterator.__iter__"=some E8.«dict_keyiterator.__iter__»:=entryFor_alias (id':="dict_keyiterator.__iter__") (by kernel_rfl) rfl (by k_is) (by kernel_rfl)
def nC(a:c7):zc "set_iterator.__iter__" {[a],[]}:=by
 unfold zc
 kernel_rfl
section
variable {prog:m7}{w:y6}{A:A2}{E:c7->f9->Prop}{s:f9}{a it:c8}{es:Array (Int×c7)}{ep i n:Nat}{t:J0}
def pV.at(x:pV h it first i a n ep)(e:∀o,h.get? it=some o->h'.get? it=some o):pV h' it first i a n ep:=let ⟨o,c,r⟩:=x;{o,e _ c,r}
def PP(J:A.handled=none)(D:a≠it)(G:w.params.followText "set-order"=true)(m:t.fits es.size=true):
  vX prog w A it [it,a] ((nj (w.params.setOrder a ep) es).toList.map (·.2)) (fun i h=>pV h it (.int (0:Nat) 0) i a es.size ep/\h.get? a=some (eX es ep t)) where
 ws:={
  sub:=fun b c=>by simp at c;simp[c]
  frame:=fun _ _ _ st hk=>{st.1.at fun o e=>hk it (by simp) o e,hk a (by simp) _ st.2}
  item:=fun i s Q E K st f=>by
   have g:i<(nj (w.params.setOrder a ep) es).size:=by simpa using K
   refine AN (slot:=0) (next:=0) (x:=((nj (w.params.setOrder a ep) es)[i]).2) st.1 st.2 m (fun A E Q q=>BA G st.2 m (by simpa[g] using q)) fun B C H=>?_;exact f _ B s.toks (by simp[g]) {C,(H.2 a D).trans st.2} fun b o c e=>(H.2 b (by simpa using c)).trans e
  done:=fun s Q E st f=>by refine GM (slot:=0) J st.1 st.2 m (fun A E Q q=>BA G st.2 m (by simpa using q)) fun B I=>?_;exact f B s.toks fun b o c e=>I b o (by simpa using c) e
  self:=fun _ _ _ _ st f=>CK st.1 f lY lA (nC _)}
 ty:=fun _ _ st=>st.1.typeIs
def SQ(S:A.handled=none)(K:a≠it)(O:w.params.followText "set-order"=false)(N:t.led=true)(M:(!t.plain&&decide (es.size>1))=false)(U:IZ t.place)(B:t.fits es.size=true):
  vX prog w A it [it,a] (es.toList.map (·.2)) (fun i h=>(∃slot:Nat,pV h it (.int slot 0) i a es.size ep/\K8 t.place slot=i)/\h.get? a=some (eX es ep t)) where
 ws:={
  sub:=fun b g=>by simp at g;simp[g]
  frame:=fun _ _ _ ⟨⟨G,st,r⟩,c⟩ hk=>{{G,st.at fun o e=>hk it (by simp) o e,r},hk a (by simp) _ c}
  item:=fun i s Q E T st m=>by
   obtain ⟨⟨G,f,H⟩,c⟩:=st;have C:i<es.size:=by simpa using T
   have D:i<t.place.size:=by have:=B;unfold J0.fits at this;simp at this;lia
   refine AN (slot:=G) (next:=t.place[i]+1) (x:=es[i].2) f c B (fun A E Q q=>HV O N M c B ?_) fun I J P=>?_
   ·rw[H,J8 C,J8 D];exact q
   ·exact m _ I s.toks (by simp[C]) {{_,J,LH U D},(P.2 a K).trans c} fun b o g e=>(P.2 b (by simpa using g)).trans e
  done:=fun s Q E st m=>by
   obtain ⟨⟨G,f,H⟩,c⟩:=st;rw[i8,C0]at f H;refine GM (slot:=G) S f c B (fun A E Q q=>HV O N M c B ?_) fun I R=>?_
   ·rw[H,Array.getElem?_eq_none (j8 _)];exact q
   ·exact m I s.toks fun b o g e=>R b o (by simpa using g) e
  self:=fun _ _ _ _ ⟨⟨_,st,_⟩,_⟩ m=>CK st m lY lA (nC _)}
 ty:=fun _ _ ⟨⟨_,st,_⟩,_⟩=>st.typeIs
def JB{tp:c8}{places:List Nat}(M:A.handled=none)(B:a≠it)(C:tp≠it)(J:t.fits es.size=true)(hp:∀p∈places,p<es.size):
  vX prog w A it [it,a,tp] (places.map fun p=>((es[p]?).getD (0,.none)).2) (fun i h=>pV h it (.ref tp) i a es.size ep/\h.get? a=some (eX es ep t)/\∃o k,h.get? tp=some o/\o.data=.seq (places.map fun j=>C5 (j:Nat)).toArray k) where
 ws:={
  sub:=fun b m=>by simp at m;simp[m]
  frame:=fun _ _ _ ⟨st,c,o,k,e,d⟩ hk=>{st.at fun o e=>hk it (by simp) o e,hk a (by simp) _ c,o,k,hk tp (by simp) _ e,d}
  item:=fun i s Q E N st q=>by
   have g:i<places.length:=by simpa using N
   have D:=hp _ (K7 g);obtain ⟨f,c,o,k,e,d⟩:=st;refine QA (p:=places[i]) (x:=es[places[i]]) f c J B.symm C.symm {o,k,e,d} (by simp[g]) (by simp[D]) fun G H I=>?_;exact q _ G s.toks (by simp[g,D]) {H,(I.2 a B).trans c,o,k,(I.2 tp C).trans e,d} fun b o m e=>(I.2 b (by simpa using m)).trans e
  done:=fun s Q E st q=>by obtain ⟨f,c,o,k,e,d⟩:=st;rw[i8]at f;refine UM M f c J {o,k,e,d} (by simp) fun G K=>?_;exact q G s.toks fun b o m e=>K b o (by simpa using m) e
  self:=fun _ _ _ _ st q=>CK st.1 q lY lA (nC _)}
 ty:=fun _ _ st=>st.1.typeIs
end
end L2
namespace L2
open PySem
def yZ{f:Type}(es:Array f)(d:f):(E7 es.size).map (fun p=>(es[p]?).getD d)=es.toList:=by
 apply List.ext_getElem
 ·simp
 ·intro i c g;simp at c g⊢;simp[c]
section
variable {prog:m7}{w:y6}{A A₂:A2}{E:c7->f9->Prop}{s:f9}{a it:c8}{es:Array (Int×c7)}{ep i:Nat}{t:J0}
def AO(c:s.heap.get? a=some (eX es ep t)):s.TypeIs (.ref a) "set":={_,c,rfl}
def XT(N:A₂.handled=none)(g:s.heap.get? a=some (eX es ep t))(G:t.fits es.size=true)(O:Tb w t es.size)(B:es.size<=n7)
  (h:∀it h' d fp ord St,vX prog w A₂ it fp ord St->ord.Perm (es.toList.map (·.2))->St 0 h'->(∀b o,s.heap.get? b=some o->h'.get? b=some o)->(∀b∈fp,(b=a∨s.heap.objs.size<=b)/\b<h'.objs.size)->it∈fp->it≠a ->
   Q (.ref it) {s with heap:=h',drawn:=d}):i6 (j3 prog w) A (su (.ref a)) Q E s:=by
 have T:=AO g;have c:a<s.heap.objs.size:=p7 g;refine qj T F.slot_set_iter (O7 F.slot_set_iter T EA ?_ (F.args_set_iter_1 _));unfold E8.«frozenset.__iter__»;refine c6 (m:=E8.Frozenset.slot0 _ _) (i0 ?_);refine c6 ?_;show i6 _ _ (do return (←setEntries a).size) _ _ s;refine c6 (Uv g rfl G (i0 ?_));refine c6 ?_;unfold setDrawn;refine c6 (U8 g rfl G ?_);dsimp only;refine c6 (pQ (i0 ?_));have f:∀(first:c7)(H:f9),H.heap.get? a=some (eX es ep t)->(∀(S:Q (.ref H.heap.objs.size) {H with heap:=H.heap.push {cls:=.type "set_iterator",data:=.fields #[first,.int (0:Nat) 0,.ref a,.int es.size 0,.int ep 0]}}),
   i6 (j3 prog w) A.in1 (do ret (←newFields "set_iterator" [first,C5 0,.ref a,C5 es.size,C5 (←setEpoch a)])) (fun f U=>∃v,f=.done (.ret v)/\∃R r,U.TypeIs v R/\kj (.type R) "__next__"=K0 (some r)/\Q v U) E H):=fun first H I S=>by
  refine c6 (wpAny_setEpoch_of I rfl G ?_);refine c6 (K3 (i0 {_,rfl,"set_iterator",_,{_,r9 _ rfl,rfl},jF.lookup,?_}));exact S
 by_cases D:w.params.followText "set-order"=true
 ·rw[D,if_neg (by simp)];refine c6 (i0 (f _ s g ?_));have W:=PP (prog:=prog) (w:=w) (A:=A₂) (a:=a) (it:=s.heap.objs.size) (es:=es) (ep:=ep) (t:=t) N (u7 c) D G;refine h _ (s.heap.push _) s.drawn _ _ _ W ?_ {{_,r9 _ rfl,rfl,rfl},e9 _ g} (fun b o e=>e9 _ e) (fun b B=>?_) (by simp) (C3 c)
  ·exact (QH _ es).map _
  ·rw[L3];simp at B;rcases B with rfl|rfl
   ·exact {.inr (j8 _),L8 _}
   ·exact {.inl rfl,B7 c}
 ·have C:w.params.followText "set-order"=false:=by simpa using D
  rw[C];have J:t.led=true:=by rw[O.1,C];rfl
  show i6 _ _ (if (!false&&(!t.plain&&decide (es.size>1)))=true then _ else _) _ _ s;by_cases I:(!t.plain&&decide (es.size>1))=false
  ·have M:(!false&&(!t.plain&&decide (es.size>1)))=false:=by rw[I];rfl
   rw[if_neg (by rw[M];exact j4)];refine c6 (i0 (f _ s g ?_));have W:=SQ (prog:=prog) (w:=w) (A:=A₂) (a:=a) (it:=s.heap.objs.size) (es:=es) (ep:=ep) (t:=t) N (u7 c) C J I O.2.1 G;refine h _ (s.heap.push _) s.drawn _ _ _ W (.refl _) {{0,{_,r9 _ rfl,rfl,rfl},LG O.2.1},e9 _ g} (fun b o e=>e9 _ e) (fun b B=>?_) (by simp) (C3 c);rw[L3];simp at B;rcases B with rfl|rfl
   ·exact {.inr (j8 _),L8 _}
   ·exact {.inl rfl,B7 c}
  ·have M:(!false&&(!t.plain&&decide (es.size>1)))=true:=by rw[Bool.not_false,Bool.true_and];simpa using I
   rw[if_pos M];refine c6 (AY es.size (E7 es.size) s _ (by simp) fun K d hp=>?_);unfold newTuple;refine c6 (K3 ?_ ?hs)
   case hs=>show (sf (fun(i:Nat)=>C5 i) K).toArray.size<=n7;have:=hp.length_eq;simp at this⊢;lia
   refine f (.ref s.heap.objs.size) _ (e9 _ g) ?_;have P:∀p∈K,p<es.size:=fun p Y=>by simpa using hp.mem_iff.mp Y
   have W:=JB (prog:=prog) (w:=w) (A:=A₂) (a:=a) (it:=(s.heap.push {cls:=.type "tuple",data:=.seq (sf (fun(i:Nat)=>C5 i) K).toArray}).objs.size) (tp:=s.heap.objs.size) (es:=es) (ep:=ep) (t:=t) (places:=K) N
    (by rw[L3];exact u7 (B7 c)) (by rw[L3];exact u7 (L8 _)) G P
   refine h _ _ d _ _ _ W ?_ {{_,r9 _ rfl,rfl,rfl},e9 _ (e9 _ g),_,0,e9 _ (r9 _ rfl),rfl} (fun b o e=>e9 _ (e9 _ e)) (fun b B=>?_) (by simp) (by rw[L3];exact C3 (B7 c))
   ·have q:=hp.map (fun p=>((es[p]?).getD (0,.none)).2);have X:(E7 es.size).map (fun p=>((es[p]?).getD (0,.none)).2)=es.toList.map (·.2):=by
     have:=congrArg (sf (·.2)) (yZ es (0,C6));rw[W4]at this;exact this
    rw[X]at q;exact q
   ·rw[L3,L3];simp at B;rcases B with rfl|rfl|rfl
    ·exact {.inr (U9 _),L8 _}
    ·exact {.inl rfl,B7 (B7 c)}
    ·exact {.inr (j8 _),B7 (L8 _)}
end
end L2
namespace L2
open PySem
def FI:splitId "set.__len__"=some ("set","__len__"):=by kernel_rfl
def Ac:isSubtype (.type "set") (.type "set")=K0 true:=by rw[mn];kernel_rfl
section
variable {prog:m7}{w:y6}{A A₂:A2}{E:c7->f9->Prop}{s:f9}{a it:c8}{es:Array (Int×c7)}{ep:Nat}{t:J0}
def XX(f:s.heap.get? a=some (eX es ep t))(h:Q false s):i6 (j3 prog w) A (M9 (.ref a)) Q E s:=by unfold M9;have c:=AO f;refine c6 (fk c F.slot_set_len.lookup ?_);dsimp only;rw[FI];dsimp only;refine c6 (jo c Ac ?_);rw[if_neg (by simp)];show i6 (j3 prog w) A (if true=true then _ else _) Q E s;rw[if_pos rfl];refine c6 (Y8 c ?_);exact i0 h
def IP(hh:A.handled=none)(P:s.heap.get? a=some (eX es ep t))(hf:t.fits es.size=true)(ht:Tb w t es.size)(C:es.size<=n7)(h:∀vs h' d tk,vs.Perm (es.toList.map (·.2))->(∀b o,s.heap.get? b=some o->h'.get? b=some o)->s.heap.objs.size<=h'.objs.size->Q vs {s with heap:=h',drawn:=d,toks:=tk}):i6 (j3 prog w) A (qy (.ref a)) Q E s:=by
 have N:a<s.heap.objs.size:=p7 P;unfold qy;refine c6 (mi (C1 lm ?_));rw[A4 lj _];show i6 _ A.in1 (yr [] >>= fun l=>again (.builtin "list.__iadd__" {[l,.ref a],[]})) _ _ s;refine c6 (K3 ?_);refine i0 {J9 U6 _,C1 qf ?_};rw[A4 U6 _];generalize O:s.heap.objs.size=S at *;have g0:(s.heap.push {cls:=.type "list",data:=.seq ([]:List c7).toArray}).get? S=some {cls:=.type "list",data:=.seq ([]:List c7).toArray}:=O▸r9 _ rfl;have f:∀b o,s.heap.get? b=some o->(s.heap.push {cls:=.type "list",data:=.seq ([]:List c7).toArray}).get? b=some o:=fun b o e=>e9 _ e;have z0:(s.heap.push {cls:=.type "list",data:=.seq ([]:List c7).toArray}).objs.size=S+1:=by rw[L3,O]
 generalize s.heap.push {cls:=.type "list",data:=.seq ([]:List c7).toArray}=h0 at g0 f z0⊢;show i6 _ A.in1 (K1 (.ref S) (.ref a) (.ref S)) _ _ _;unfold K1;have T:Y3 {s with heap:=h0} (.ref a) "set":={_,f _ _ P,rfl}
 refine c6 (Y8 T ?_);have h1:L6 (.ref S) (.ref a)=false:=by simp[L6];exact C3 N
 have h2:(O3 "set"==O3 "list")=false:=by decide
 have R:(O3 "set"==O3 "tuple")=false:=by decide
 simp only[h1,h2,R,uw,K5,if_false];refine c6 (XT (A₂:=A.in1) (by simpa using hh) (show (f9.heap {s with heap:=h0}).get? a=_ from f _ _ P) hf ht C fun it h' d fp g St W hp st kp G Z Y=>?_);have hz:g.length=es.size:=by have:=hp.length_eq;simpa using this
 have U:h'.get? a=some (eX es ep t):=kp _ _ (f _ _ P);have gS:h'.get? S=some {cls:=.type "list",data:=.seq ([]:List c7).toArray}:=kp _ _ g0;have K:S∉fp:=fun D=>by
  rcases (G S D).1 with e|e
  ·exact C3 N e
  ·have e:S+1<=S:=z0▸e;exact Nat.not_succ_le_self _ e
 refine c6 (D7 (XX U ?_));show i6 _ A.in1 (if (false||_)=true then _ else _) _ _ _;rw[if_pos (by first|rfl|decide)];refine c6 (L7 ?_);refine c6 ?_;show i6 _ A.in1 (jr S (·.push .none) >>= fun _=>jr S (·.pop)) _ _ _;refine c6 (T9 gS rfl ?_);have H:=C7 (y8 (·.push C6)) gS rfl;refine T9 H rfl ?_;have I:=C7 (y8 (·.pop)) H rfl;have B:∀b o,b≠S->h'.get? b=some o->((h'.update S (y8 (·.push C6))).update S (y8 (·.pop))).get? b=some o:=
  fun b o C e=>(A9 _ _ (q7 C)).trans ((A9 _ _ (q7 C)).trans e)
 generalize (h'.update S (y8 (·.push C6))).update S (y8 (·.pop))=R at I B ⊢;refine i0 {J9 Q8 _,KI W.ws.toS (by lia) S K _ g.length 0 _ _ _ rfl (C9 _)
  (W.ws.frame 0 h' R st fun b C o e=>B b o (fun z=>K (z▸C)) e) I (ItemsOf.nil _) fun s' c c' D J m=>?_}
 show i6 _ A (load S >>= _) _ _ s';refine c6 (il J ?_);refine i0 ?_;obtain ⟨h4,g4,d4,t4,o4⟩:=s';have eg:g4=s.gens:=D.gens;have ed:d4=d:=D.drawn;have eo:o4=s.os:=D.os;subst eg ed eo;have ev:c.toList=g:=by
  apply List.ext_getElem?;intro j;by_cases hj:j<c.size
  ·have:=m.2 j c[j] (by simp[hj]);rw[this];simp[hj]
  ·have e1:c.toList[j]?=none:=by simp;lia
   have q:g[j]?=none:=by have:=m.1;simp;lia
   rw[e1,q]
 rw[ev];refine h g h4 d4 t4 hp (fun b o e=>?_) (V6 (p7 J));have M:b≠S:=u7 (O▸p7 e);have X:b≠it:=fun z=>by
  subst z;rcases (G b Z).1 with q|q
  ·exact Y q
  ·have q:S+1<=b:=z0▸q;have e3:b<S:=O▸p7 e;exact nv _ (i7 e3 (Nat.le_of_succ_le q))
 exact D.heap b o (by simp[M,X]) (B b o M (kp _ _ (f _ _ e)))
end
end L2
namespace L2
open PySem
noncomputable def JC(prog:m7)(w:y6):KeyKind prog w Str where
 is:=O1
 hash:=hashStr w
 inj:=c7.isStrOf_inj
 byValue:=fun k v h=>by obtain ⟨t,rfl⟩:=O0 h;rfl
 pyHash:=fun hv h=>by obtain ⟨t,rfl⟩:=O0 hv;exact sk h
 eqBool:=fun hu hv h=>by obtain ⟨t,rfl⟩:=O0 hu;obtain ⟨u,rfl⟩:=O0 hv;exact wpAny_eqBool_str h
 «strs»:=fun k x t v h=>by obtain ⟨u,e⟩:=O0 h;cases e;cases v <;> rfl
noncomputable def FE:c7->Str
|.str x _=>x
|_=>⟨#[]⟩
def kJ(w:y6)(h:A7)(a:c8)(xs:List Str):Prop:=
 ∃es ep t,h.get? a=some (eX es ep t)/\(∀e∈es.toList,∃y u,e=(hashStr w y,dj y u))/\es.toList.map (fun e=>FE e.2)=xs/\xs.Nodup/\es.size<ni/\t.fits es.size=true/\Tb w t es.size
def kJ.at(x:kJ w h a xs)(e:∀o,h.get? a=some o->h'.get? a=some o):kJ w h' a xs:=
 let ⟨f,c,t,g,r⟩:=x;{f,c,t,e _ g,r}
section
variable {prog:m7}{w:y6}{A:A2}{E:c7->f9->Prop}{s:f9}{a:c8}
def Lu(X:kJ w s.heap a xs)(hb:xs.length+1<ni)(P:y∈xs->Q false s)(R:y∉xs->∀h' xs',P9 a s.heap h'->xs'.Perm (xs++[y])->kJ w h' a xs'->Q true {s with heap:=h'}):i6 (j3 prog w) A (ym a (.str y tk) (hashStr w y)) Q E s:=by
 obtain ⟨H,ep,t,g,m,f,J,U,T,W⟩:=X;have hl:xs.length=H.size:=by rw[←f];simp
 have S:ElemsOf (JC prog w) H.toList:=fun e c=>by obtain ⟨z,u,rfl⟩:=m e c;exact {{z,by show O1 z (.str z u)=true;simp[O1],rfl},rfl}
 have o:∀e∈H.toList,((JC prog w).is y e.2=true↔FE e.2=y):=fun e c=>by
  obtain ⟨z,u,rfl⟩:=m e c;constructor
  ·intro q;obtain ⟨u',Y⟩:=O0 (show O1 y (.str z u)=true from q);cases Y;rfl
  ·intro q;have q:z=y:=q;subst q;show O1 z (.str z u)=true;simp[O1]
 refine ZB (knd:=JC prog w) (k:=y) rfl (by show O1 y (.str y tk)=true;simp[O1]) g {rfl,rfl,rfl} rfl S (by lia) T W (fun ⟨e,c,q⟩=>P ?_) fun D h' C t' G Z O hp I K=>R ?_ h' (C.toList.map fun e=>FE e.2) Z ?_ {C,G,t',O,?_,rfl,?_,?_,I,K}
 ·rw[←f];exact u8.mpr {e,c,(o e c).mp q}
 ·intro M;rw[←f]at M;obtain ⟨e,c,q⟩:=u8.mp M;have:=D e c;rw[(o e c).mpr q]at this;cases this
 ·have q:=hp.map fun e=>FE e.2;rw[z9,f]at q;exact q
 ·intro e c;rcases w8.mp (hp.mem_iff.mp c) with q|q
  ·exact m e q
  ·rw[i4]at q;exact {y,tk,q}
 ·have q:=hp.map fun e=>FE e.2;rw[z9,f]at q;refine q.nodup_iff.mpr (W3.mpr {J,by simp,fun z N z' B=>?_});have B:z'=y:=by simpa[FE] using B
  subst B;rintro rfl;rw[←f]at N;obtain ⟨e,c,q⟩:=u8.mp N;have:=D e c;rw[(o e c).mpr q]at this;cases this
 ·have:=hp.length_eq;simp at this;lia
end
section
variable {prog:m7}{w:y6}{A:A2}{R:Result->f9->Prop}{I:c8}{fp wr:List c8}{G:Array GenState->Array GenState->Prop}{n:Nat}{P:Nat->c7->Prop}{St:Nat->f9->Prop}
def qE:qx table "set.update.loop"=some E8.«set.update.loop»:=sx (by kernel_rfl)
def iR:plainId "set.update.loop"=true:=by k_is
def Cy(W:WalksS prog w A.in1 I fp wr G n P St)(S:c8)(M:S∉fp)(c:Nat->Str)(O:∀i v,P i v->∃t,v=.str (c i) t)(E:n+1<ni):
  ∀(k i:Nat)(s:f9)(xs:List Str),n-i=k->i<=n->St i s->kJ w s.heap S xs->xs.length<=i->(∀z,z∈xs↔∃j,j<i/\c j=z) ->
   (∀f m,Moved (S::wr) G s f->kJ w f.heap S m->(∀z,z∈m↔∃j,j<n/\c j=z)->R (.ok (.ret .none)) f) ->
   T5 (j3 prog w) A (.builtin "set.update.loop" {[.ref S,.ref I],[]}) R s:=by
 have N:S∉wr:=fun h=>M (W.sub _ h);have D:∀b∈wr,b∈S::wr:=fun b E=>B4 _ E;intro k
 induction k with
|zero=>
  intro i s xs hk hi C T hl Y Q;have:i=n:=by lia
  subst this;refine C1 qE ?_;rw[A4 iR _];show i6 _ A.in1 (T4 (.ref I) >>= _) _ _ s;refine c6 (W.done s _ _ C fun f H=>i0 (Q f xs (H.mono D) (T.at fun o e=>H.heap S _ N e) Y))
|succ k ih=>
  intro i s xs hk hi C T hl Y Q;have X:i<n:=by lia
  refine C1 qE ?_;rw[A4 iR _];show i6 _ A.in1 (T4 (.ref I) >>= _) _ _ s;refine c6 (W.item i s _ _ X C fun v f hP B H=>?_);obtain ⟨tk,rfl⟩:=O i v hP;have K:kJ w f.heap S xs:=T.at fun o e=>H.heap S _ N e;show i6 _ A.in1 (ja [dj (c i) tk] (setAdd S (.str (c i) tk)) >>= _) _ _ f;refine c6 (D7 ?_);unfold setAdd;refine D7 (c6 (sk ?_));have go:∀(J:f9)(g:List Str),Moved (S::wr) G s J->St (i+1) J->kJ w J.heap S g->g.length<=i+1->(∀z,z∈g↔z∈xs∨z=c i)->T5 (j3 prog w) A (.builtin "set.update.loop" {[.ref S,.ref I],[]}) R J:=fun J g Z b' t2 l2 m2=>by
   refine ih (i+1) J g (by lia) (by lia) b' t2 l2 (fun z=>?_) fun s3 c' a' t3 m3=>Q s3 c' (Moved.trans W.gtrans Z a') t3 m3;rw[m2,Y];constructor
   ·rintro (⟨j,hj,e⟩|rfl)
    ·exact {j,by lia,e}
    ·exact {i,by lia,rfl}
   ·rintro ⟨j,hj,e⟩;by_cases q:j<i
    ·exact .inl {j,q,e}
    ·have:j=i:=by lia
     subst this;exact .inr e.symm
  refine Lu (s:={f with toks:=f.toks+1}) K (by lia) (fun U=>?_) fun d' h' m sb hp ht=>?_
  ·refine i0 {J9 iR _,go _ xs ((H.mono D).then_heap (U9 _) fun b o _ e=>e) ?_ K (by lia) fun z=>{.inl,fun q=>q.elim id fun e=>e▸U}};exact W.frame _ f _ _ B (U9 _) fun b _ o e=>e
  ·refine i0 {J9 iR _,go _ m ((H.mono D).then_heap (U9 _) fun b o E e=>?_) ?_ ht ?_ fun z=>?_}
   ·rw[sb.2 b (fun q:b=S=>E (by rw[q];exact J1))];exact e
   ·exact W.frame _ f _ _ B (U9 _) fun b E o e=>by rw[sb.2 b (fun q:b=S=>M (by rw[←q];exact E))];exact e
   ·have:=hp.length_eq;simp at this;lia
   ·rw[hp.mem_iff];simp
end
end L2
namespace L2
open PySem
section
variable {prog:m7}{w:y6}{A:A2}{E:c7->f9->Prop}{s:f9}
abbrev eF(w:y6):Obj:=eX #[] 0 (.fresh 0 0 (!(w.params.followText "set-order")))
def UQ(a:c7)(h:Q₁ (.ref s.heap.objs.size) {s with heap:=s.heap.push (eF w)}):
  T5 (j3 prog w) A (.call (.builtin "set.__new__") {[.type "set",a],[]}) (wants Q₁ E) s:=by
 refine codeAny_of_tree ?_;show i6 _ A.in1 (sy "set.__new__" {[.type "set",a],[]} >>= fun _=>again (.builtin "set.__new__" {[.type "set",a],[]})) _ _ s;refine c6 (wpAny_of_eq (F.newCall_set_1 a) (i0 {J9 F.plain_set_new _,C1 F.entry_set_new ?_}));rw[A4 F.plain_set_new _];unfold E8.«set.__new__» E8.Frozenset.newClass;have c:=sub_set_self;obtain ⟨hp,g,d,tk,f⟩:=s;dsimp only
 wp_walk
 refine so (i0 ?_);dsimp only;simp only[newObj];exact c6 (wpAny_alloc (i0 (i0 h)))
def PQ(g:h.get? a=some (eF w)):kJ w h a []:=
 {#[],0,_,g,fun e c=>by simp at c,rfl,nodup_nil,by decide,rfl,rfl,List.Pairwise.nil,rfl}
set_option maxRecDepth 100000 in
set_option maxHeartbeats 3200000 in
def QB{l:c8}{items:Array c7}{xs:List Str}{Q:c7->f9->Prop}(hh:A.handled=none)(hl:s.heap.IsList l items)(hi:∀(i:Nat)(v:c7),items[i]?=some v->∃t,v=.str (xs.getD i ⟨#[]⟩) t)(m:items.size=xs.length)(U:xs.length+1<ni)(h:∀h' tk ys,kJ w h' s.heap.objs.size ys->(∀z,z∈ys↔z∈xs)->(∀b o,b<s.heap.objs.size->s.heap.get? b=some o->h'.get? b=some o)->Q (.ref s.heap.objs.size) {s with heap:=h',toks:=tk}):
  i6 (j3 prog w) A (lc (.type "set") [.ref l]) Q E s:=by
 obtain ⟨c,tl,k'⟩:=V9.mro;have e':=V9.made;have n':=V9.sub;refine ki (codeAny_of_tree ?_);show i6 _ _ (callAny (.type "set") _) _ _ _;refine i0 {No.quiet_builtin _ (by k_is),C1 F.entry_type_call ?_};rw[A2.under_plain (weight_type_call_type "set" [.ref l] []) rfl];have h1:=V9.notType;have h2:=V9.canCreate;have q':=F.typeCall_set_1 (.ref l)
 repeat (any_goals (first|assumption|wp_step))
 refine W5 (UQ (.ref l) (E:=E) (Q₁:=fun S q=>S=.ref s.heap.objs.size/\q={s with heap:=s.heap.push (eF w)}) {rfl,rfl}) fun r q hr=>?_;cases r with
|error e=>exact hr
|ok fl=>
  cases fl with
 |ret S=>
   obtain ⟨rfl,rfl⟩:=hr;have hS:(s.heap.push (eF w)).get? s.heap.objs.size=some (eF w):=r9 _ rfl;have hT:Y3 {s with heap:=s.heap.push (eF w)} (.ref s.heap.objs.size) "set":={_,hS,rfl}
   have r':=V9.init.lookup;have p':=V9.init.bind (.ref s.heap.objs.size)
   repeat (any_goals (first|assumption|wp_step))
   refine W5 (mr (R:=wants (fun r B=>r=.none/\∃h' tk ys,B={s with heap:=h',toks:=tk}/\kJ w h' s.heap.objs.size ys/\(∀z,z∈ys↔z∈xs) /\
     (∀b o,b<s.heap.objs.size->s.heap.get? b=some o->h'.get? b=some o)) E) V9.init.plain F.entry_set_init (check_set_init_1 hT ?_)) fun T B f=>?_
   ·obtain ⟨ol,O,G,nl,H⟩:=hl;obtain ⟨o',D,f',g⟩:=ol;simp only at G H;subst G;subst H;have P:(s.heap.push (eF w)).get? l=some {cls:=.type "list",dict:=D,data:=.seq items nl,slots:=g}:=e9 _ O;have m':=F.sub_list_set;have l':=F.sub_list_frozenset;have t':(O3 "list"==O3 "dict")=false:=by decide
    have J:(s.heap.push (eF w)).IsList l items:={_,P,rfl,nl,rfl}
    unfold E8.«set.__init__» noKeywords E8.Frozenset.updateFrom;generalize X:su=PI
    wp_walk
    subst X;refine qk J ?_;refine c6 (mi ?_);have K:l<s.heap.objs.size:=p7 O;have c':A.in1.in1.in1.handled=none:=by simp[hh]
    have zP:(s.heap.push (eF w)).objs.size=s.heap.objs.size+1:=L3 ..;have N:l≠(s.heap.push (eF w)).objs.size:=by rw[zP];exact u7 (B7 K)
    have Z:s.heap.objs.size∉[(s.heap.push (eF w)).objs.size,l]:=by rw[zP];simp only[w6,N9,or_false,not_or];exact {u7 (L8 _),C3 K}
    refine Cy ((Walks.list c' _ l N items).toS) s.heap.objs.size Z (fun i=>xs.getD i ⟨#[]⟩) hi (by rw[m];exact U) (items.size-0) 0 _ [] (by lia) (C9 _)
     {{_,r9 _ rfl,rfl,rfl},(J.push _)} (PQ (e9 _ hS)) (j8 _) (fun z=>by simp) fun s' ys W Y M=>?_
    obtain ⟨h',g',d',j',i'⟩:=s';have eg:g'=s.gens:=W.gens;have ed:d'=s.drawn:=W.drawn;have eo:i'=s.os:=W.os;subst eg ed eo;refine i0 ?_;refine i0 {rfl,h',j',ys,rfl,Y,fun z=>?_,fun b o U e=>?_}
    ·rw[M,m];constructor
     ·rintro ⟨j,I,rfl⟩;have:xs.getD j ⟨#[]⟩=xs[j]:=by simp[List.getD,I]
      rw[this];exact K7 I
     ·intro hz;obtain ⟨j,I,e⟩:=ly hz;exact {j,I,by simp[List.getD,I,e]}
    ·have a':b≠s.heap.objs.size:=u7 U;have b':b≠(s.heap.push (eF w)).objs.size:=by rw[zP];exact u7 (B7 U)
     exact W.heap b o (by simp only[w6,N9,or_false,not_or];exact {a',b'}) (e9 _ (e9 _ e))
   ·cases T with
   |error e=>exact f
   |ok C=>
     cases C with
    |ret r=>
      obtain ⟨rfl,h',tk,ys,rfl,q1,q2,q3⟩:=f
      repeat (any_goals (first|assumption|wp_step))
      exact h _ _ _ q1 q2 q3
    |_=>exact f.elim
 |_=>exact hr.elim
end
end L2
namespace L2
open PySem PyProof.Rows
theorem wE:∀{vs:List c7} ,(∀v∈vs,∃y u,v=.str y u)->lf vs (vs.map FE)
|[],_=>.nil
|v::vs,h=>by obtain ⟨y,u,rfl⟩:=h v (J1 ..);exact .cons y u (wE fun x c=>h x (B4 _ c))
end L2
namespace L2
open PySem PyProof.Rows
def FJ:splitId "dict.__len__"=some ("dict","__len__"):=by kernel_rfl
def Ad:isSubtype (.type "dict") (.type "dict")=K0 true:=by rw[mn];kernel_rfl
section
variable {prog:m7}{w:y6}{K:Type}[DecidableEq K]{knd:KeyKind prog w K}{A:A2}{E:c7->f9->Prop}{s:f9}{a:c8}{kvs:List (K×c7)}{ep:Nat}
def RD(c:s.TypeIs (.ref a) "dict")(h:Q false s):i6 (j3 prog w) A (M9 (.ref a)) Q E s:=by unfold M9;refine c6 (fk c F.slot_dict_len.lookup ?_);dsimp only;rw[FJ];dsimp only;refine c6 (jo c Ad ?_);rw[if_neg (by simp)];show i6 (j3 prog w) A (if true=true then _ else _) Q E s;rw[if_pos rfl];refine c6 (Y8 c ?_);exact i0 h
def tG(hh:A.handled=none)(hd:(a==sysModules)=false)(Z:s.heap.DictAt knd a kvs ep)(D:kvs.length<=n7)(h:∀vs h' tk,vs.length=kvs.length->(∀(i:Nat)(v:c7),vs[i]?=some v->∃k x,kvs[i]?=some (k,x)/\knd.is k v=true)->(∀b o,s.heap.get? b=some o->h'.get? b=some o)->s.heap.objs.size<=h'.objs.size->Q vs {s with heap:=h',toks:=tk}):
  i6 (j3 prog w) A (qy (.ref a)) Q E s:=by
 have m:a<s.heap.objs.size:=Z.lt_size;unfold qy;refine c6 (mi (C1 lm ?_));rw[A4 lj _];show i6 _ A.in1 (yr [] >>= fun l=>again (.builtin "list.__iadd__" {[l,.ref a],[]})) _ _ s;refine c6 (K3 ?_);refine i0 {J9 U6 _,C1 qf ?_};rw[A4 U6 _];generalize R:s.heap.objs.size=S at *;have X:(s.heap.push {cls:=.type "list",data:=.seq ([]:List c7).toArray}).get? S=some {cls:=.type "list",data:=.seq ([]:List c7).toArray}:=R▸r9 _ rfl;have t:∀b o,s.heap.get? b=some o->(s.heap.push {cls:=.type "list",data:=.seq ([]:List c7).toArray}).get? b=some o:=fun b o e=>e9 _ e;have O:(s.heap.push {cls:=.type "list",data:=.seq ([]:List c7).toArray}).objs.size=S+1:=by rw[L3,R]
 generalize s.heap.push {cls:=.type "list",data:=.seq ([]:List c7).toArray}=c at X t O ⊢;have q:c.DictAt knd a kvs ep:=Z.keep t;show i6 _ A.in1 (K1 (.ref S) (.ref a) (.ref S)) _ _ _;unfold K1;have T:Y3 {s with heap:=c} (.ref a) "dict":=q.dictOf.typeIs;refine c6 (Y8 T ?_);have h1:L6 (.ref S) (.ref a)=false:=by simp[L6];exact C3 m
 have h2:(O3 "dict"==O3 "list")=false:=by decide
 have P:(O3 "dict"==O3 "tuple")=false:=by decide
 simp only[h1,h2,P,uw,K5,if_false];refine c6 (wpAny_pyIter_dict (s:={s with heap:=c}) hd q ?_);have U:a≠c.objs.size:=by rw[O];exact u7 (B7 m)
 have W:=Walks.dictKeys (prog:=prog) (w:=w) (knd:=knd) (A:=A.in1) (by simpa using hh) c.objs.size a U kvs ep;have st:(c.push {cls:=.type "dict_keyiterator",data:=.fields #[.ref a,.int (0:Nat) 0,.int kvs.length 0,.int ep 0]}).IsKeyIter c.objs.size a 0 kvs.length ep /\
   (c.push {cls:=.type "dict_keyiterator",data:=.fields #[.ref a,.int (0:Nat) 0,.int kvs.length 0,.int ep 0]}).DictAt knd a kvs ep:={{_,r9 _ rfl,rfl,rfl},q.push _}
 have B:∀b o,c.get? b=some o->(c.push {cls:=.type "dict_keyiterator",data:=.fields #[.ref a,.int (0:Nat) 0,.int kvs.length 0,.int ep 0]}).get? b=some o:=fun b o e=>e9 _ e;show i6 _ A.in1 _ _ _ {s with heap:=c.push {cls:=.type "dict_keyiterator",data:=.fields #[.ref a,.int (0:Nat) 0,.int kvs.length 0,.int ep 0]}};generalize c.push {cls:=.type "dict_keyiterator",data:=.fields #[.ref a,.int (0:Nat) 0,.int kvs.length 0,.int ep 0]}=h' at st B ⊢;have Y:h'.get? S=some {cls:=.type "list",data:=.seq ([]:List c7).toArray}:=B _ _ X;have M:S∉[c.objs.size,a]:=by rw[O];simp only[w6,N9,or_false,not_or];exact {u7 (L8 _),C3 m}
 refine c6 (D7 (RD (show Y3 {s with heap:=h'} (.ref a) "dict" from st.2.dictOf.typeIs) ?_));show i6 _ A.in1 (if (false||_)=true then _ else _) _ _ _;rw[if_pos (by first|rfl|decide)];refine c6 (L7 ?_);refine c6 ?_;show i6 _ A.in1 (jr S (·.push .none) >>= fun _=>jr S (·.pop)) _ _ _;refine c6 (T9 Y rfl ?_);have H:=C7 (y8 (·.push C6)) Y rfl;refine T9 H rfl ?_;have I:=C7 (y8 (·.pop)) H rfl;have C:∀b o,b≠S->h'.get? b=some o->((h'.update S (y8 (·.push C6))).update S (y8 (·.pop))).get? b=some o:=
  fun b o D e=>(A9 _ _ (q7 D)).trans ((A9 _ _ (q7 D)).trans e)
 generalize (h'.update S (y8 (·.push C6))).update S (y8 (·.pop))=P at I C ⊢;refine i0 {J9 Q8 _,KI W.toS D S M _ kvs.length 0 _ _ _ rfl (C9 _)
  (W.frame 0 h' P st fun b D o e=>C b o (fun z=>M (z▸D)) e) I (ItemsOf.nil _) fun s' G c' N J f=>?_}
 show i6 _ A (load S >>= _) _ _ s';refine c6 (il J ?_);refine i0 ?_;obtain ⟨h4,g4,d4,t4,o4⟩:=s';have eg:g4=s.gens:=N.gens;have ed:d4=s.drawn:=N.drawn;have eo:o4=s.os:=N.os;subst eg ed eo;refine h G.toList h4 t4 (by rw[C0];exact f.1) (fun i v hv=>f.2 i v (by simpa using hv)) (fun b o e=>?_) (V6 (p7 J));have g:b<S:=R▸p7 e;exact N.heap b o (by
  rw[O];simp only[w6,N9,or_false,not_or];exact {u7 g,u7 (B7 g)}) (C b o (u7 g) (B _ _ (t _ _ e)))
end
end L2
namespace L2
open PySem PyProof.Rows
def DO:kj (.type "list") "keys"=K0 none:=by rw[fy,U7];kernel_rfl
def qG:qx table "dict.update.loop"=some E8.«dict.update.loop»:=sx (by kernel_rfl)
def iS:plainId "dict.update.loop"=true:=by k_is
section
variable {prog:m7}{w:y6}{A:A2}{E:c7->f9->Prop}{s:f9}
def QZ(q:s.heap.get? l=some {cls:=.type "list",data:=.seq xs k})(B:A.handled=none)(h:∀h' tk,(∀b o,s.heap.get? b=some o->h'.get? b=some o)->Q none {s with heap:=h',toks:=tk}):i6 (j3 prog w) A (HL (.ref l) "keys") Q E s:=by
 obtain ⟨hp,g,d,tk,C⟩:=s;have m:∀c,({hp,g,d,c,C}:f9).TypeIs (.ref l) "list":=fun _=>{_,q,rfl}
 have D:=sub_AttributeError;have G:=iw.lookup;have H:=iw.bind (.ref l);have I:=am_list_getattr_none;unfold HL getAttrBy? getAttrBy
 repeat (any_goals (first|assumption|exact m _|((with_reducible show i6 _ _ (lc (Y5 "list.__getattribute__") _ _) _ _ _);refine call_meets iw (m _) am_entry_list_getattribute (F.args_list_getattribute_2 _ _) (meets_getattribute_miss_list l xs k #[] (J7 "keys") _ DO (by decide)) {q,by simpa using B,fun h' c e f=>?_})|wp_step))
 obtain ⟨K,M,J⟩:=f.there;show i6 _ _ (getattributeRaised _ _ _ _ _ _ _) _ _ _;unfold getattributeRaised
 repeat (any_goals (first|assumption|wp_step))
 exact h h' c fun b o t=>f.keeps b o t
variable {K:Type}[DecidableEq K]{knd:KeyKind prog w K}
noncomputable def vM(kvs:List (K×c7))(ps:List (K×c7)):List (K×c7):=ps.foldl (fun m p=>sq m p.1 p.2) kvs
def QJ{R:Result->f9->Prop}{I l D:c8}{items:Array c7}{ps:List (K×c7)}(hh:A.handled=none)(hI:l≠I)(t:D≠I)(a':D≠l)(N:items.size=ps.length)(d':∀(h:A7)(i:Nat)(v:c7),items[i]?=some v->(∀b o,s.heap.get? b=some o->b≠I->b≠D->h.get? b=some o)->∃a c k x,v=.ref a/\h.IsTuple a #[c,x]/\ps[i]?=some (k,x)/\knd.is k c=true)(hsz:ps.length<=1000):
  ∀(n i:Nat)(h:A7)(tk:Nat)(kvs:List (K×c7)),items.size-i=n->i<=items.size->h.IsListIter I l i->h.IsList l items->h.DictOf knd D kvs->kvs.length<=i->(∀b o,s.heap.get? b=some o->b≠I->b≠D->h.get? b=some o) ->
   (∀h' f',h'.DictOf knd D (vM kvs (ps.drop i))->(∀b o,s.heap.get? b=some o->b≠I->b≠D->h'.get? b=some o)->R (.ok (.ret .none)) {s with heap:=h',toks:=f'}) ->
   T5 (j3 prog w) A (.builtin "dict.update.loop" {[.ref D,.ref I,C5 (i:Nat),.none],[]}) R {s with heap:=h,toks:=tk}:=by
 intro n
 induction n with
|zero=>
  intro i h tk kvs hn hi B P W hk kp hR;have:i=items.size:=by lia
  subst this;refine C1 qG ?_;rw[A4 iS _];show i6 _ A.in1 (T4 (.ref I) >>= _) _ _ _;refine c6 (zi (by simpa using hh) B P (by simp) fun h' eb=>?_);show i6 _ A.in1 (E8.Dict.addKeywords D [] >>= _) _ _ _;refine c6 (i0 (i0 (hR h' tk ?_ fun b o e m G=>eb b o m (kp b o e m G))));rw[N,List.drop_length];obtain ⟨o,U,S,g,r⟩:=W;exact {o,U,S,eb _ _ t g,r}
|succ n ih=>
  intro i h tk kvs hn hi B P W hk kp hR;have c':i<items.size:=by lia
  refine C1 qG ?_;rw[A4 iS _];show i6 _ A.in1 (T4 (.ref I) >>= _) _ _ _;obtain ⟨v,hv⟩:∃v,items[i]?=some v:={_,J8 c'}
  refine c6 (yg B P hv fun h' J sb=>?_);have O:∀b o,s.heap.get? b=some o->b≠I->b≠D->h'.get? b=some o:=fun b o e m G=>(sb.2 b m).trans (kp b o e m G);obtain ⟨a,c,k,x,rfl,ht,hp,M⟩:=d' h' i v hv O;have X:h'.DictOf knd D kvs:=by obtain ⟨o,U,S,g,r⟩:=W;exact {o,U,S,(sb.2 _ t).trans g,r}
  have b':h'.IsList l items:=by obtain ⟨o,g,r⟩:=P;exact {o,(sb.2 _ hI).trans g,r}
  refine c6 (D7 ?_);refine c6 (wpAny_tryCatch (C4 (Q:=fun r s'=>r=[c,x]/\s'={s with heap:=h',toks:=tk}) (E:=fun _ _=>False) ?_ (fun r s' q=>?_) fun _ _ z=>z.elim))
  ·unfold E8.Dict.pairItems;obtain ⟨ot,g,hc,nt,hd⟩:=ht;refine c6 (Y8 (T:="tuple") {ot,g,hc} ?_);rw[if_pos (by decide)];unfold ng;refine c6 (c6 (il g ?_));rw[hd];exact i0 (i0 {rfl,rfl})
  ·obtain ⟨rfl,rfl⟩:=q;show i6 _ A.in1 (ja [c,x] (dictSet D c x)) _ _ _;refine D7 (wpAny_dictSet_pairs M X (fun G Y C=>?_) (by rw[y9];lia));have eD:ps.drop i=(k,x)::ps.drop (i+1):=by
    have f:i<ps.length:=by lia
    rw[ui f];have:ps[i]=(k,x):=by have:=hp;rw[i3 f]at this;exact j5 this
    rw[this]
   refine i0 {J9 iS _,?_};have:=ih (i+1) G (tk+1) (sq kvs k x) (by lia) (by lia) (by
     obtain ⟨o,g,r⟩:=J;exact {o,(C.2 _ t.symm).trans g,r}) (by
     obtain ⟨o,g,r⟩:=b';exact {o,(C.2 _ a'.symm).trans g,r}) Y (by
     have:(sq kvs k x).length<=kvs.length+1:=by unfold sq;split <;> simp
     lia) (fun b o e m H=>(C.2 b H).trans (O b o e m H)) fun h3 ZM Z e'=>hR h3 ZM (by rw[eD];exact Z) e'
   exact this
def KZ(hh:A.handled=none)(hl:s.heap.get? l=some {cls:=.type "list",data:=.seq items k})(J:items.size=ps.length)(U:∀(h:A7)(i:Nat)(v:c7),items[i]?=some v->(∀b o,s.heap.get? b=some o->h.get? b=some o)->∃a q k x,v=.ref a/\h.IsTuple a #[q,x]/\ps[i]?=some (k,x)/\knd.is k q=true)(hsz:ps.length<=1000)(h:∀h' tk,h'.DictOf knd s.heap.objs.size (vM [] ps)->(∀b o,s.heap.get? b=some o->h'.get? b=some o)->Q (.ref s.heap.objs.size) {s with heap:=h',toks:=tk}):i6 (j3 prog w) A (lc (.type "dict") [.ref l]) Q E s:=by
 refine callType_codes (Q₁:=fun O t=>O=.ref s.heap.objs.size/\t={s with heap:=s.heap.push {cls:=.type "dict",data:=.dict #[]}}) F.kt_called_dict (F.kt_typeCall_dict_1 _) F.entry_dict_init (kt_code_dict_new _ {rfl,rfl}) ?_;rintro O t ⟨rfl,rfl⟩;have M:l<s.heap.objs.size:=p7 hl;have z0:(s.heap.push {cls:=.type "dict",data:=.dict #[]}).objs.size=s.heap.objs.size+1:=L3 ..;have c:(s.heap.push {cls:=.type "dict",data:=.dict #[]}).DictOf knd s.heap.objs.size []:=A7.DictOf.new s.heap;have m:(s.heap.push {cls:=.type "dict",data:=.dict #[]}).get? l=some {cls:=.type "list",data:=.seq items k}:=e9 _ hl;have N:∀b o,s.heap.get? b=some o->(s.heap.push {cls:=.type "dict",data:=.dict #[]}).get? b=some o:=fun b o e=>e9 _ e;generalize s.heap.push {cls:=.type "dict",data:=.dict #[]}=h0 at z0 c m N ⊢;refine {c.typeIs,F.args_dict_init_2 _ _,?_};unfold E8.«dict.__init__»;refine c6 ?_;unfold E8.Dict.selfAndRest;refine c6 (zj c.typeIs ?_);show i6 _ _ (K0 (s.heap.objs.size,[j9 l])) _ _ _;refine i0 ?_;show i6 _ _ (oy "dict.__init__" s.heap.objs.size (.ref l) [] .none) _ _ _;unfold oy;refine c6 (Y8 (T:="list") {_,m,rfl} ?_);rw[if_pos (by decide)];refine c6 (QZ m (by simpa using hh) fun C Y B=>?_);rw[if_pos (by rfl)];refine c6 (L7 ?_);have H:C.get? l=some {cls:=.type "list",data:=.seq items k}:=B _ _ m;have G:C.DictOf knd s.heap.objs.size []:=by obtain ⟨o,es,Z,g,r⟩:=c;exact {o,es,Z,B _ _ g,r}
 have f:s.heap.objs.size<C.objs.size:=by obtain ⟨o,es,Z,g,r⟩:=G;exact p7 g
 refine c6 (qk {_,H,rfl,k,rfl} ?_);refine i0 {J9 iS _,?_};have q:=QJ (A:=A.in1) (knd:=knd) (s:=s) (R:=wants (fun r P=>r=.none/\Q (.ref s.heap.objs.size) P) E) (I:=C.objs.size) (l:=l) (D:=s.heap.objs.size) (items:=items) (ps:=ps) (by simpa using hh) (u7 (jw M f)) (u7 f) (C3 M) J
  (fun h i v hv kp=>U h i v hv fun b o e=>kp b o e (u7 (jw (p7 e) f)) (u7 (p7 e))) hsz items.size 0 (C.push {cls:=.type "list_iterator",data:=.fields #[.ref l,.int 0 0]}) Y [] rfl (C9 _)
  {_,r9 _ rfl,rfl,rfl} {_,e9 _ H,rfl,k,rfl} (G.push _) (C9 _) (fun b o e _ _=>e9 _ (B _ _ (N _ _ e)))
  fun h' X S W=>{rfl,h h' X (by simpa using S) fun b o e=>W b o e (u7 (jw (p7 e) f)) (u7 (p7 e))}
 exact q
end
end L2
namespace L2
open PySem PyProof.Rows
section
variable {prog:m7}{w:y6}{K:Type}[DecidableEq K]{knd:KeyKind prog w K}{A:A2}{E:c7->f9->Prop}{s:f9}{d:c8}{kvs:List (K×c7)}{k:K}{key dflt:c7}
def CL(c:knd.is k key=true)(M:s.heap.DictOf knd d kvs)(hsz:kvs.length<=n7)(S:∀v,Y9 kvs k=some v->Q v {s with toks:=s.toks+1})(T:Y9 kvs k=none->∀h',h'.DictOf knd d (kvs++[(k,dflt)])->P9 d s.heap h'->Q dflt {s with heap:=h',toks:=s.toks+1}):
  i6 (j3 prog w) A (dictSetDefault d key dflt) Q E s:=by
 obtain ⟨o,g,O,D,X,m,Z,Y⟩:=M.mapOf;obtain ⟨o',R,P,G,W,q,hk,hp,hn⟩:=M;rw[D]at G;cases G;rw[m]at q;cases q;have I:g.size<=n7:=by have N:=hp.length;simp at N;lia
 unfold dictSetDefault;refine D7 (c6 (knd.pyHash c ?_));refine c6 (wpAny_dictFind_of (s:={s with toks:=s.toks+1}) c D m hk ?_);have B:(g.findIdx? fun e=>knd.is k e.key)=kvs.findIdx? fun kv=>decide (kv.1=k):=by rw[←hp.findIdx k];obtain ⟨l⟩:=g;simp
 have f:=Y k;rw[findBy_of_findIdx?]at f;cases hi:g.findIdx? fun e=>knd.is k e.key with
|some i=>
  rw[hi]at f;have J:i<g.size:=(Array.findIdx?_eq_some_iff_findIdx_eq.mp hi).1;have t:g[i]?=some g[i]:=J8 J;refine c6 (wpAny_dictEntries (s:={s with toks:=s.toks+1}) D m ?_);rw[t];refine c6 (L7 (i0 (S _ ?_)));rw[←f];simp[t]
|none=>
  rw[hi]at f;have C:k∉kvs.map (·.1):=not_mem_of_findIdx_none (B▸hi);refine c6 (L7 (c6 (wpAny_updateDictKeys (hz:=I) (s:={s with toks:=s.toks+1}) D m (i0 (T f.symm _ {_,_,O+1,C7 _ D (Obj.isFreed_of_dict (xy m _)),
   W.mapDictKeys _,xy m _,hk.push c _,?_,?_} (E6 ..))))))
  ·have:=hp.append c (knd.hash k) dflt;obtain ⟨l⟩:=g;simpa using this
  ·rw[z9,W3];refine {hn,by simp,fun a U b H=>?_};have H:b=k:=by simpa using H
   subst H;exact fun e=>C (e▸U)
def IS(c:knd.is k key=true)(hs:(d==sysModules)=false)(g:s.heap.DictOf knd d kvs)(hsz:kvs.length<=n7)(m:∀v,Y9 kvs k=some v->Q v {s with toks:=s.toks+1})(o:Y9 kvs k=none->∀h',h'.DictOf knd d (kvs++[(k,dflt)])->P9 d s.heap h'->Q dflt {s with heap:=h',toks:=s.toks+1}):
  i6 (j3 prog w) A (lc (.builtin "dict.setdefault") [.ref d,key,dflt]) Q E s:=by
 refine O7 F.slot_dict_setdefault g.typeIs F.entry_dict_setdefault ?_ (F.args_dict_setdefault_3 _ _ _);unfold E8.«dict.setdefault»;refine c6 ?_;unfold E8.Dict.keyAndDefault;refine c6 (zj g.typeIs ?_);show i6 _ _ (K0 (d,key,some dflt)) _ _ s;refine i0 ?_;show i6 _ _ (if (d==sysModules)=true then _ else _) _ _ s;rw[if_neg (by rw[hs];exact j4)];refine c6 (CL c g hsz (fun v e=>i0 {_,rfl,m v e}) fun e h' f q=>i0 {_,rfl,o e h' f q})
end
end L2
namespace L2
open PySem PyProof.Rows
end L2
namespace L2
open PySem PySem.Spec PyProof.Rows
noncomputable def melt(a:c8)(H:Hp):Hp:=fun b=>if b=a then (match H a with|some (.frz _ u)=>some u|o=>o) else H b
def sT(h:b≠a):melt a H b=H b:=by unfold melt;rw[if_neg h]
def DL(h:H a=some (.frz o u)):melt a H a=some u:=by unfold melt;rw[if_pos rfl,h]
def lO(h:H b=none):melt a H b=none:=by
 unfold melt;split
 ·rename_i e;subst e;rw[h]
 ·exact h
def gZ(hn:∀ob u,o≠.frz ob u)(h:H b=some o):melt a H b=some o:=by
 unfold melt;split
 ·rename_i e;subst e;rw[h];cases o <;> first|rfl|exact absurd rfl (hn _ _)
 ·exact h
def HZ(h:H a=some (.frz o u)):melt a H=upd H a u:=by
 funext b;by_cases c:b=a
 ·subst c;rw[DL h,aC]
 ·rw[sT c,aX c]
section
variable {X:Cx}{ak:List (c8×Obj)}{σ:St}{H:Hp}{s:f9}{a:c8}
def aZ.melt(I:aZ X ak σ H s)(h0:∀o u,X.H₀ a≠some (.frz o u)):aZ X ak σ (L2.melt a H) s:=by
 refine {I.ok,I.os,I.bare,{I.base.keep,I.base.slot,fun b o e n B=>lO (I.base.free b o e n B),I.base.there,fun b A e=>gZ (fun _ _ z=>nomatch z) (I.base.tups b A e),fun b o u e=>?_,fun b C e=>?_},
  I.loc,I.cell,lO I.free,fun x c e=>lO (I.freeC x c e),fun p hp=>?_,fun b u e=>?_,I.len}
 ·have g:b≠a:=fun z=>by subst z;exact h0 _ _ e
  rw[sT g];exact I.base.frzs b o u e
 ·obtain ⟨f,q⟩:=I.base.tbls b C e;exact {f,gZ (fun _ _ z=>nomatch z) q}
 ·obtain ⟨e,n,r⟩:=I.pin p hp;exact {e,lO n,r}
 ·have st:∀{v:HO},cS X.prog X.w H s.heap b v->cS X.prog X.w (L2.melt a H) s.heap b v:=fun {v} x=>
   x.stay (fun _ _ _ q=>q) (fun c q=>gZ (fun _ _ z=>nomatch z) q) fun c A q=>gZ (fun _ _ z=>nomatch z) q
  by_cases g:b=a
  ·subst g;cases q:H b with
  |none=>rw[lO q]at e;cases e
  |some z=>
    have t:=I.hok b z q;by_cases m:∃o v,z=.frz o v
    ·obtain ⟨o,v,rfl⟩:=m;rw[DL q]at e;cases e;exact st t.2
    ·rw[gZ (fun o v w=>m {o,v,w}) q]at e;cases e;exact st t
  ·rw[sT g]at e;exact st (I.hok b u e)
def aZ.freeze(I:aZ X ak σ H s)(h:H a=some (.dK kvs))(B:s.heap.get? a=some o):aZ X ak σ (upd H a (.frz o (.dK kvs))) s:=by
 have D:∀{b:c8}{u:HO},H b=some u->u≠.dK kvs->b≠a:=fun {b u} e z w=>by subst w;rw[h]at e;exact z (j5 e).symm
 have m:∀{b:c8},H b=none->upd H a (.frz o (.dK kvs)) b=none:=fun {b} e=>by rw[aX (fun w=>by subst w;rw[h]at e;cases e)];exact e
 have f:∀{b:c8}{u:HO},H b=some u->u≠.dK kvs->upd H a (.frz o (.dK kvs)) b=some u:=fun {b u} e z=>by rw[aX (D e z)];exact e
 refine {I.ok,I.os,I.bare,{I.base.keep,I.base.slot,fun b o e n C=>m (I.base.free b o e n C),I.base.there,fun b A e=>f (I.base.tups b A e) (fun z=>nomatch z),fun b o u e=>f (I.base.frzs b o u e) (fun z=>nomatch z),fun b E e=>?_},
  I.loc,I.cell,m I.free,fun x c e=>m (I.freeC x c e),fun p hp=>?_,fun b u e=>?_,I.len}
 ·obtain ⟨g,q⟩:=I.base.tbls b E e;exact {g,f q (fun z=>nomatch z)}
 ·obtain ⟨e,n,r⟩:=I.pin p hp;exact {e,m n,r}
 ·have st:∀{v:HO},cS X.prog X.w H s.heap b v->cS X.prog X.w (upd H a (.frz o (.dK kvs))) s.heap b v:=fun {v} x=>
   x.stay (fun _ _ _ q=>q) (fun c q=>f q (fun z=>nomatch z)) fun c A q=>f q (fun z=>nomatch z)
  by_cases t:b=a
  ·subst t;rw[aC]at e;cases e;exact {B,st (I.hok b _ h)}
  ·rw[aX t]at e;exact st (I.hok b u e)
end
def Mb(a:c8)(o:Obj)(kvs:List (aR×V)):It:=
 {fun i H=>H a=some (.frz o (.dK kvs))/\i<kvs.length,fun i H x H'=>H'=H/\∃k v,kvs[i]?=some (k,v)/\x=kV k,fun i H=>H a=some (.frz o (.dK kvs))/\kvs.length<=i}
theorem Gm{c:Type}:∀{kvs:List (c×V)}{vs:List (c×c7)}{i:Nat}{k:c}{v:V},KV kvs vs->kvs[i]?=some (k,v)->∃u,vs[i]?=some (k,u)
|_,_,_,_,_,.nil,e=>by simp at e
|_,_,0,k,v,.cons (b:=q) r _,e=>by
  simp at e;subst e;exact {q.2,by simp;exact Prod.ext r.1.symm rfl}
|_,_,i+1,k,v,.cons _ t,e=>by obtain ⟨u,h⟩:=Gm (i:=i) (k:=k) (v:=v) t (by simpa using e);exact {u,by simpa using h}
def vN(h:(bY P w).is k u=true):bO (kV k) u:=by
 rcases dX h with ⟨i,t,rfl,rfl⟩|⟨x,t,rfl,rfl⟩
 ·exact {t,rfl}
 ·exact {t,rfl}
section
variable {X:Cx}{tg:D6}
def vU(I:aZ X ak σ H s)(h:H a=some (.frz o (.dK kvs))):
  (a==sysModules)=false/\∃vs es ep,KV kvs vs/\o.data=.dict es ep/\s.heap.DictAt (bY X.prog X.w) a vs ep:=by
 obtain ⟨g,m⟩:=I.hok a _ h;obtain ⟨_,f,vs,c,q,es,ep,e,r⟩:=m;rw[g]at e;cases e;exact {f,vs,es,ep,c,r.2.1,o,es,g,r}
def PV{P:m7}{w:y6}{K:v9}(a it:c8)(o:Obj)(kvs:List (aR×V)):SE P w K tg (Mb a o kvs) [it] it (fun i h=>∃es ep,o.data=.dict es ep/\h.IsKeyIter it a i kvs.length ep) where
 mem:=by simp
 obj:=fun i h st b A=>by
  have e:b=it:=by simpa using A
  subst e;obtain ⟨_,_,_,o,e,c,d⟩:=st;exact {o,e,fun v z=>by rw[d]at z;cases z}
 keep:=fun i h D ⟨es,ep,q,st⟩ k=>{es,ep,q,st.at fun o e=>k it (by simp) o e}
 item:=by
  intro X Y hw W hc i t s σ H E I G st hg;subst Y hw W;obtain ⟨Z,J⟩:=hg;obtain ⟨hd,vs,es,ep,m,C,M⟩:=vU I Z;obtain ⟨O,N,f,st⟩:=st;rw[C]at f;cases f;obtain ⟨Q,R,f2,S,T,U⟩:=G it (by simp);obtain ⟨⟨k,v⟩,hx⟩:∃p,kvs[i]?=some p:={_,i3 J}
  obtain ⟨u,hu⟩:=Gm m hx;rw[m.length]at st;refine wpAny_pyNext_dict_item st M hu fun a' D B g sb=>?_;rw[←m.length]at g;have I1:aZ X t σ H {s with heap:=D}:=I.turned (t':=s.toks) (fun b o A e=>(sb.2 b A).trans e) Q R S T U;obtain ⟨oi,e,c,d⟩:=id g;exact {a',rfl,YC (s:={s with heap:=D}) e c d (by decide) {kV k,H,I1,vN B,{rfl,k,v,hx,rfl},{es,ep,C,g},fun b A=>(G b A).1}}
 done:=by intro X Y hw W hc i t s σ H E I G st hg;subst Y hw W;obtain ⟨Z,J⟩:=hg;obtain ⟨hd,vs,es,ep,m,C,M⟩:=vU I Z;obtain ⟨O,N,f,st⟩:=st;rw[C]at f;cases f;obtain ⟨Q,R,f2,S,T,U⟩:=G it (by simp);rw[m.length]at st J;exact wpAny_pyNext_dict_end (I.ok.hd hc) st M (by simpa using J) fun D eb=>{rfl,I.turned (t':=s.toks) (fun b o A e=>eb b o A e) Q R S T U}
 self:=fun _ _ _ _ _ ⟨_,_,_,st⟩ h=>wpAny_pyIter_keyiter st h
def XW(a:c8)(tl:TE):TI:=fun σ H R=>tl σ H fun x H1=>x=.ref a/\∃kvs,H1 a=some (.dK kvs)/\∀o,R (Mb a o kvs) (upd H1 a (.frz o (.dK kvs)))
def OH(a:c8)(G:PE X l tl):PI X tg l (XW a tl):=by
 intro c s M H R I h;refine cZ (G c s M H _ I h) fun v f ⟨x,N,A,K,J⟩=>?_;obtain ⟨e,t,hk,q⟩:=J;subst e;cases K;obtain ⟨_,E,O,w,o,B,C,g,r⟩:=A.hok a _ hk;have m:=A.freeze hk g;refine wpAny_pyIter_dict E {o,B,g,r} ?_;refine {f.heap.objs.size,[f.heap.objs.size],_,_,_,rfl,m.kept (t':=f.toks) fun b o e=>e9 _ e,PV a _ o t,{B,C,r.2.1,?_},fun b D=>?_,q o}
 ·rw[w.length];exact {_,r9 _ rfl,rfl,rfl}
 ·have e:b=f.heap.objs.size:=by simpa using D
  subst e;exact m.fpOk (j8 _) (m.hok.fresh (j8 _))
def Dm(a:c8)(D:fR):fR:={fun σ H=>D.nx σ (melt a H),fun v H=>D.rt v (melt a H),fun σ H=>D.bk σ (melt a H),fun σ H=>D.ct σ (melt a H)}
def nU(H:Hp)(a:c8):Prop:=∀o u,H a≠some (.frz o u)
def Ej(tl:TE)(g:TG)(tb:TS):TS:=fun D σ H=>∃a,nU H a/\Hj (XW a tl) g tb (Dm a D) σ H
def OB(hp:PassesOwn (j3 X.prog X.w) X.A X.env X.xe)(G:X.calm=true)(K:PE X iter tl)(J:PG X tg g)(E:yW X body tb)(hs:∀x,V0 iter X.env x=K0 x:=by intro _;rfl):PS X (.For tg iter body [] pos) (Ej tl g tb):=by
 intro t s N H D I h;obtain ⟨a,M,h⟩:=h;have B:∀o u,X.H₀ a≠some (.frz o u):=fun o u e=>M _ _ (I.base.frzs a o u e);refine cZ (gB hp G (OH a K) J E hs t s N H (Dm a D) I h) fun f O q=>?_;cases f with
|next=>obtain ⟨c,C,m,q⟩:=q;exact {c,_,m.melt B,q}
|brk=>obtain ⟨c,C,m,q⟩:=q;exact {c,_,m.melt B,q}
|cont=>obtain ⟨c,C,m,q⟩:=q;exact {c,_,m.melt B,q}
|ret u=>obtain ⟨v,c,C,m,r,q⟩:=q;exact {v,c,_,m.melt B,r,q}
variable {scope:X1}{tn names:List Str}{is:List Nat}{elt iter:D6}{ifs:List D6}{pos:Pos}{tl te:TE}{tc:Option TT}{g:TG}
def TH(tl:TE)(te:TE)(tc:Option TT)(g:TG)(k:Nat)(is:List Nat):TE:=fun σ H Q=>∃a,nU H a/\FG (XW a tl) te tc g k is σ H fun v H'=>Q v (melt a H')
def HJ(m:rK X scope tn names is)(w:X.calm=true)(D:PE X iter tl)(B:∀C s0 H0 ex,PG (cD X scope (cH X.env names) (tn++names) C s0 H0 ex) tg g)(A:∀C s0 H0 ex,PE (cD X scope (cH X.env names) (tn++names) C s0 H0 ex) elt te)(E:∀C s0 H0 ex,Dx (cD X scope (cH X.env names) (tn++names) C s0 H0 ex) ifs tc)(hs:∀x,V0 iter X.env x=K0 x:=by intro _;rfl):
  PE X (.ListComp elt [{tg,iter,ifs,0}] scope pos) (TH tl te tc g tn.length is):=by
 intro c s J H Q I h;obtain ⟨a,G,h⟩:=h;have t:∀o u,X.H₀ a≠some (.frz o u):=fun o u e=>G _ _ (I.base.frzs a o u e);refine cZ (eJ m w (OH a D) B A E hs c s J H _ I h) fun u M ⟨v,K,f,r,q⟩=>{v,_,f.melt t,r,q}
end
section
variable {X:Cx}{ak:List (c8×Obj)}{σ:St}{H:Hp}{s:f9}
def aZ.dr(I:aZ X ak σ H s)(d:Drawn):aZ X ak σ H {s with drawn:=d}:={I.ok,I.os,I.bare,I.base,I.loc,I.cell,I.free,I.freeC,I.pin,I.hok,I.len}
def Mj(K:v9)(a:c8):It:=
 {fun i H=>∃xs x,cU K H a xs/\xs[i]?=some x,fun i H v H'=>∃T x,v=.ref T/\H T=none/\H'=upd H T (.tup [.int i,x])/\∀xs,cU K H a xs->xs[i]?=some x,fun i H=>∃xs,cU K H a xs/\xs.length<=i}
def PU{P:m7}{w:y6}{K:v9}{D:List D6}{k1:Nat}{U:Pos}(a e it:c8)(O:e≠it):
  SE P w K (.Tuple D k1 U) (Mj K a) [e,it] e (fun i h=>(∃g,IsEnum h e it i g)/\h.IsListIter it a i) where
 mem:=by simp
 obj:=fun i h st b f=>by
  obtain ⟨⟨g,B⟩,o,e1,c,d⟩:=st;rcases w6.mp f with rfl|f
  ·exact {_,B,fun v z=>nomatch z}
  ·have f:b=it:=by simpa using f
   subst f;exact {o,e1,fun v z=>by rw[d]at z;cases z}
 keep:=fun i h h' ⟨⟨g,B⟩,st⟩ k=>{{g,k e (by simp) _ B},st.at fun o q=>k it (by simp) o q}
 item:=by
  intro X hP hw hK A i ak s σ H E I Z st hg;subst hP hw hK;obtain ⟨xs,x,hq,R⟩:=hg;obtain ⟨c',rv,p,hz⟩:=I.list hq;obtain ⟨u,hu,ru⟩:=rv.get R;obtain ⟨⟨g,B⟩,C⟩:=st;obtain ⟨f0,f1,f2,f3,f4,f5⟩:=Z e (by simp);obtain ⟨G,W,g2,g3,g4,g5⟩:=Z it (by simp);refine wpAny_pyNext_enum_item B C p.isList (by simpa using hu) O fun h' ho Q hT e' hk=>?_;refine {_,rfl,wpAny_letOwnedTupleGo_enum (s:={s with heap:=h',toks:=s.toks+1}) ho fun Y b' sb=>?_};have N:H s.heap.objs.size=none:=I.hok.fresh (j8 _);have M:s.heap.objs.size≠e:=C3 (p7 B);have a':s.heap.objs.size≠it:=by obtain ⟨_,q,_⟩:=C;exact C3 (p7 q)
  have S:∀b o,b≠e->b≠it->s.heap.get? b=some o->Y.get? b=some o:=fun b o n1 n2 q=>(sb.2 b n1).trans (hk b o n1 n2 q);have t:aZ X ak σ H {s with heap:=Y,toks:=s.toks+1}:=by
   refine I.step (g':=s.gens) (d':=s.drawn) (t':=s.toks+1) (ch:=[e,it]) (fun b f=>?_) (fun b o _ _ f q _=>S b o (fun z=>f (by simp[z])) (fun z=>f (by simp[z])) q) (fun b o _ _ f q _=>{o.slots,S b o (fun z=>f (by simp[z])) (fun z=>f (by simp[z])) q})
    (fun b o _ _ q=>q) (fun b o f q=>{o,S b o (fun z=>f (by simp[z])) (fun z=>f (by simp[z])) q}) (fun _ _ q=>q) (fun _ _ _ q=>q) (fun _ ps q=>{#[],by simpa using q}) (fun m hm=>?_) ?_ I.bare
   ·rcases w6.mp f with rfl|f
    ·exact {f3,f1,f4,f5}
    ·have f:b=it:=by simpa using f
     subst f;exact {g3,W,g4,g5}
   ·obtain ⟨o,es,ep,q,r⟩:=hm;exact {o,es,ep,S _ _ (q7 f1) (q7 W) q,r}
   ·intro b u q;refine (I.hok b u q).stay (fun c v A r=>S c v ?_ ?_ r) (fun _ q=>q) fun _ _ q=>q
    ·rintro rfl;rcases A with rfl|A
     ·rw[f0]at q;cases q
     ·rw[f0]at A;cases A
    ·rintro rfl;rcases A with rfl|A
     ·rw[G]at q;cases q
     ·rw[G]at A;cases A
  have J:Y.get? s.heap.objs.size=some {cls:=.type "tuple",data:=.seq #[.int i s.toks,u]}:=(sb.2 _ M).trans hT;have I2:aZ X ak σ (upd H s.heap.objs.size (.tup [.int i,x])) {s with heap:=Y,toks:=s.toks+1}:=by
   have nn:∀{b:c8},b<s.heap.objs.size->H b=none->upd H s.heap.objs.size (.tup [.int i,x]) b=none:=fun {b} f e=>by rw[aX (u7 f)];exact e
   have g:∀{b:c8}{o:HO},H b=some o->upd H s.heap.objs.size (.tup [.int i,x]) b=some o:=fun {b o} e=>by rw[aX (aD e N)];exact e
   refine {t.ok,t.os,t.bare,{t.base.keep,t.base.slot,fun b o q n R=>nn ?_ (t.base.free b o q n R),t.base.there,fun b ys q=>g (t.base.tups b ys q),fun b o v q=>g (t.base.frzs b o v q),fun b ps q=>?_},t.loc,t.cell,nn I.lt t.free,fun y c q=>nn ?_ (t.freeC y c q),fun p hp=>?_,fun b o q=>?_,t.len}
   ·exact i7 (p7 q) I.sz
   ·obtain ⟨T,z⟩:=t.base.tbls b ps q;exact {T,g z}
   ·obtain ⟨v,z⟩:=I.cell y c q;exact z.lt
   ·obtain ⟨z1,z2,z3⟩:=t.pin p hp;exact {z1,nn (p7 (I.pin p hp).1) z2,z3}
   ·by_cases f:b=s.heap.objs.size
    ·subst f;rw[aC]at q;cases q;exact {{by rw[y9];simp,_,J,rfl},[.int i s.toks,u],.cons {_,rfl} (.cons ru .nil),_,J,rfl,_,rfl}
    ·rw[aX f]at q;exact (t.hok b o q).stay (fun _ _ _ z=>z) (fun c z=>g z) fun c ys z=>g z
  exact {.ref s.heap.objs.size,_,I2,rfl,{s.heap.objs.size,x,rfl,N,rfl,fun ys hy=>by rw[I.list_inj hy hq];exact R},{{u,by simpa using b'},Q.at fun o q=>(sb.2 it (q7 O)).trans q},fun b f=>by
   rcases w6.mp f with rfl|f
   ·rw[aX (q7 M)];exact f0
   ·have f:b=it:=by simpa using f
    subst f;rw[aX (q7 a')];exact G}
 done:=by intro X hP hw hK A i ak s σ H E I Z st hg;subst hP hw hK;obtain ⟨xs,hq,R⟩:=hg;obtain ⟨c',rv,p,hz⟩:=I.list hq;obtain ⟨⟨g,B⟩,C⟩:=st;obtain ⟨G,W,g2,g3,g4,g5⟩:=Z it (by simp);have hl:=rv.length;exact wpAny_pyNext_enum_end (I.ok.hd A) B C p.isList (by simp;lia) fun h' eb=>{rfl,I.turned (t':=s.toks) (fun b o f e=>eb b o f e) G W g3 g4 g5}
 self:=fun _ _ _ _ _ ⟨⟨_,B⟩,_⟩ h=>wpAny_pyIter_enum B h
def Gr(K:v9)(tl:TA):TI:=fun σ H R=>tl σ H fun vs H1=>∃a,vs=[.ref a]/\(∃xs,cU K H1 a xs)/\R (Mj K a) H1
def OG(C:Gl X "enumerate")(D:X.mg "enumerate"=none)(B:PA X [l] tl)(hs:m9 [l] X.env=[(false,I0 l X.env)]:=by rfl):
  PI X (.Tuple elts k1 tpos) (.Call (.Name "enumerate" p) [l] [] pos) (Gr X.K tl):=by
 intro ak s σ H R I h;refine Call_ (kX I C D EH (E9 (cZ (B pos ak s σ H _ I h) fun Q g ⟨S,o,c,N,M⟩=>?_) hs rfl));obtain ⟨a,e,⟨T,E⟩,q⟩:=M;subst e;cases N with
|cons r O=>
  cases O;cases r;obtain ⟨J,rv,p,P⟩:=c.list E;refine call_enumerate_list p.isList fun A t m G kp=>?_;refine wpAny_pyIter_enum t ?_;have w:aZ X ak σ o {g with heap:=A}:=c.kept (t':=g.toks) kp;refine {_,[g.heap.objs.size+1,g.heap.objs.size],_,_,o,rfl,w,PU a _ _ (C3 (L8 _)),{{_,t},m},fun b f=>?_,q};rcases w6.mp f with rfl|f
  ·exact c.fpOk (U9 _) (c.hok.fresh (U9 _))
  ·have f:b=g.heap.objs.size:=by simpa using f
   subst f;exact c.fpOk (j8 _) (c.hok.fresh (j8 _))
noncomputable def Dv(w:y6)(a:c8)(xs:List Str):HO:=.ext fun h=>kJ w h a xs
theorem zR:∀{xs:List Str}{us:List c7},bU (xs.map V.str) us->lf us xs
|[],_,.nil=>.nil
|x::xs,_,.cons r t=>by obtain ⟨tk,rfl⟩:=r;exact .cons x tk (zR t)
theorem tN:∀{us:List c7}{xs:List Str},lf us xs->bU (xs.map V.str) us
|_,_,.nil=>.nil
|_,_,.cons x t h=>.cons {t,rfl} (tN h)
def Pk(w:y6):List V->Hp->VK->Prop:=fun vs H Q=>∃(p:c8)(xs:List Str),vs=[.ref p]/\H p=some (.lst (xs.map V.str))/\xs.length<=4000/\∀(l:c8)(ys:List Str),H l=none->ys.Nodup->(∀z,z∈ys↔z∈xs)->Q (.ref l) (upd H l (Dv w l ys))
def RV(M:X.calm=true):fO X (.type "set") (Pk X.w):=by
 intro ak s σ H vs us Q I r h;obtain ⟨p,A,rfl,hp,Z,q⟩:=h;obtain ⟨u,rfl,S⟩:=r.one;cases S;obtain ⟨z,f,n,rv,c,e⟩:=I.lstM hp;have O:=zR rv;refine QB (items:=f.toArray) (xs:=A) (I.ok.hd M) {_,e,rfl,n,rfl} (fun i v m=>?_) (by rw[m6,←c,i8]) (by unfold ni;lia) fun K tk E D N kp=>?_
 ·have m:f[i]?=some v:=by simpa using m
  have J:i<A.length:=by have:=(h8.mp m).1;rw[←c,i8]at this;exact this
  obtain ⟨u,G,R⟩:=rv.get (i:=i) (x:=.str A[i]) (by simp[J]);rw[m]at G;cases G;obtain ⟨t,rfl⟩:=R;exact {t,by simp[List.getD,J]}
 ·have C:E.Nodup:=by obtain ⟨_,_,_,_,_,_,P,_⟩:=D;exact P
  have B:∃o,K.get? s.heap.objs.size=some o:=by obtain ⟨U,T,t,g,_⟩:=D;exact {_,g}
  refine {.ref s.heap.objs.size,_,I.laid (o:=Dv X.w s.heap.objs.size E) (fun b o e=>kp b o (p7 e) e) (j8 _) {D,B,fun W Y x k=>x.at k},rfl,q _ E (I.hok.fresh (j8 _)) C N}
abbrev EO(H:Hp):List V->List (aR×V)->Prop:=Paired fun v kv=>∃a,v=.ref a/\H a=some (.tup [kV kv.1,kv.2])
def Jd:List V->Hp->VK->Prop:=fun vs H Q=>∃(p:c8)(ts:List V)(kvs:List (aR×V)),vs=[.ref p]/\H p=some (.lst ts)/\EO H ts kvs/\ts.length<=1000/\∀l:c8,H l=none->Q (.ref l) (upd H l (.dK (iK [] kvs)))
theorem Paired.at{c f:Type}{F:c->f->Prop}:∀{xs:List c}{ys:List f}{i:Nat}{x:c},Paired F xs ys->xs[i]?=some x->∃y,ys[i]?=some y/\F x y
|_,_,_,_,.nil,e=>by simp at e
|_,_,0,_,.cons r _,e=>by simp at e;subst e;exact {_,rfl,r}
|_,_,i+1,x,.cons _ t,e=>by obtain ⟨y,g,m⟩:=Paired.at (i:=i) (x:=x) t (by simpa using e);exact {y,by simpa using g,m}
theorem xL(ok:lS P w H h):∀{m:List V}{kvs:List (aR×V)}{c:List c7},EO H m kvs->bU m c ->
  ∃ps:List (aR×c7),KV kvs ps/\Paired (fun v p=>∃a f,v=j9 a/\h.IsTuple a #[f,p.2]/\(bY P w).is p.1 f=true) c ps
|_,_,_,.nil,.nil=>{[],.nil,.nil}
|_,_,_,.cons (b:=kv) ⟨a,e,g⟩ t,.cons r D=>by
  obtain ⟨ps,o,q⟩:=xL ok t D;subst e;cases r;obtain ⟨_,c,rv,E⟩:=ok a _ g;cases rv with
 |cons B rv=>
   cases rv with
  |cons C rv=>cases rv;rename_i A G;exact {(kv.1,G)::ps,.cons {rfl,C} o,.cons {a,A,rfl,E,oV B} q}
theorem yA:∀{kvs:List (aR×V)}{ps:List (aR×c7)}{m:List (aR×V)}{n:List (aR×c7)},KV kvs ps->KV m n->KV (iK m kvs) (vM n ps)
|_,_,_,_,.nil,r=>r
|_,_,m,n,.cons (a:=p) (b:=q) ⟨e,rv⟩ t,r=>by show KV (iK (eK m p.1 p.2) _) (vM (sq n q.1 q.2) _);refine yA t ?_;rw[←e];exact r.put p.1 rv
def rE(N:X.calm=true):fO X (.type "dict") Jd:=by
 intro ak s σ H Z Y Q I r h;obtain ⟨p,U,c,rfl,hp,m,P,q⟩:=h;obtain ⟨u,rfl,S⟩:=r.one;cases S;obtain ⟨z,A,n,rv,f,e⟩:=I.lstM hp;obtain ⟨C,K,E⟩:=xL I.hok m rv;have t:A.length=C.length:=E.length;refine KZ (knd:=bY X.prog X.w) (ps:=C) (I.ok.hd N) e (by rw[m6];exact t) (fun J i v R kp=>?_) (by rw[←t,←f];exact P) fun J tk O kp=>?_
 ·obtain ⟨y,G,a,B,rfl,T,hk⟩:=Paired.at E (show A[i]?=some v by simpa using R);obtain ⟨o,g,r⟩:=T;exact {a,B,y.1,y.2,rfl,{o,kp _ _ g,r},G,hk}
 ·have D:=yA K (.nil:KV [] []);refine {.ref s.heap.objs.size,_,I.laid (o:=.dK (iK [] c)) kp (j8 _) (yL ?_ (beq_eq_false_iff_ne.mpr (q7 (u7 I.big))) D O),rfl,q _ (I.hok.fresh (j8 _))};have M:=kU c [];have W:U.length=c.length:=m.length;simp at M;rw[y9];lia
end
section
variable {X:Cx}
def NW:V->List V->Hp->VK->Prop:=fun x vs H Q=>∃(a:c8)(kvs:List (aR×V)) (k:aR) (d:V),x=.ref a/\vs=[kV k,d]/\H a=some (.dK kvs)/\kvs.length<=1000/\(∀v,bP kvs k=some v->Q v H)/\(bP kvs k=none->Q d (upd H a (.dK (kvs++[(k,d)]))))
def BC:Uk X "dict.setdefault" NW:=by
 intro A s Y H x W v U Q I O rv h;obtain ⟨a,f,k,d,rfl,rfl,t,S,G,J⟩:=h;cases O;obtain ⟨T,C,rfl,N,B⟩:=bU.two rv;obtain ⟨z,hs,R,m,D⟩:=qH I.hok t;have c:=m.val k;refine IS (oV N) hs D (by rw[←m.length];exact z) (fun w e=>?_) fun e E o P=>?_
 ·rw[e]at c;cases g:bP f k with
 |none=>rw[g]at c;exact c.elim
 |some v=>rw[g]at c;exact {v,H,I.tok _,c,G v g}
 ·rw[e]at c;have g:bP f k=none:=by
   cases g:bP f k with
  |none=>rfl
  |some v=>rw[g]at c;exact c.elim
  have K:∃q,E.get? a=some q:=let ⟨q,_,_,M,_⟩:=o;{q,M};refine {d,_,tF (t':=s.toks+1) I (by rw[t];exact M6) P K (yL ?_ hs (show KV (f++[(k,d)]) (R++[(k,C)]) from ?_) o),B,J g}
  ·rw[q4,jl,y9];lia
  ·have:∀{p:List (aR×V)} {q:List (aR×c7)},KV p q->KV (p++[(k,d)]) (q++[(k,C)]):=fun {p q} r=>by
    induction r with
   |nil=>exact .cons {rfl,B} .nil
   |cons r _ ih=>exact .cons r ih
   exact this m
def Pj:V->Option Int->Option Int->Hp->VK->Prop:=fun x lo hi H Q=>∃z:Str,x=.str z/\z.length<=n7/\Q (.str (fi z lo hi)) H
def OL{v:c7}{lo:Option Int}(h:IsPart v lo):∃l:Option (Int×Tok),l.map (·.1)=lo/\v=partValue l:=by
 cases h with
|none=>exact {none,rfl,rfl}
|int i t=>exact {some (i,t),rfl,rfl}
def UJ:Uj X Pj:=by
 intro f s M H x v J K lo D E Q I C hs A B h;obtain ⟨z,rfl,w,q⟩:=h;obtain ⟨t,rfl⟩:=C;obtain ⟨l,g,rfl⟩:=OL A;obtain ⟨u,m,rfl⟩:=OL B;subst g m;refine {"str",_,F.slot_str_getitem.lookup,typeIs_str _ _ _,wpAny_getItem_str_slice (l:=l) (u:=u) (st:=none) ?_ rfl (post_val_or_str ?_)}
 ·obtain ⟨o,a,b,c⟩:=hs;exact {o,a,b,c}
 ·exact {A5 (ww z _ _) w,fun G k=>{.str _,H,I.tok _,{_,rfl},q}}
end
end L2
namespace L2
section
variable {α:Type}[DecidableEq α]
abbrev jV(α:Type):=α×α×Rat
abbrev nW(α:Type):=Rat×Option (Nat×α)
abbrev AL(α β:Type):=List (α×β)
noncomputable def bG{β:Type}(l:AL α β)(k:α):Option β:=(l.find? fun kv=>decide (kv.1=k)).map (·.2)
noncomputable def eS{β:Type}(l:AL α β)(k:α)(v:β):AL α β:=if (l.any fun kv=>decide (kv.1=k)) then l.map (fun kv=>if kv.1=k then (kv.1,v) else kv) else l++[(k,v)]
noncomputable def jS{β:Type}(l:AL α β)(k:α):AL α β:=l.filter fun kv=>decide (kv.1≠k)
def cQ{m:Type}{l:AL α m}{k:α}{v:m}(h:bG l k=some v):(k,v)∈l:=by unfold bG at h;rw[A8]at h;obtain ⟨kv,f,g⟩:=h;have c:=List.find?_some f;have o:=List.mem_of_find?_eq_some f;simp at c;obtain ⟨a,b⟩:=kv;simp at g c;subst g c;exact o
def iM{f:Type}{l:AL α f}{k:α}(h:bG l k=none):∀v,(k,v)∉l:=by intro v c;unfold bG at h;rw[Option.map_eq_none_iff,List.find?_eq_none]at h;have:=h _ c;simp at this
def eC{o:Type}{l:AL α o}{k:α}{v:o}(f:(l.map (·.1)).Nodup)(h:(k,v)∈l):bG l k=some v:=by
 cases e:bG l k with
|none=>exact absurd h (iM e v)
|some u=>
  have m:=cQ e
  induction l with
 |nil=>cases h
 |cons x r ih=>
   rw[J6,V4]at f;rcases w6.mp h with rfl|g
   ·rcases w6.mp m with c|c
    ·cases c;rfl
    ·exact absurd (u8.mpr {_,c,rfl}) f.1
   ·rcases w6.mp m with c|c
    ·subst c;exact absurd (u8.mpr {_,g,rfl}) f.1
    ·have q:bG r k=some u:=by
      unfold bG at e⊢;rw[P6]at e;have:(decide (x.1=k))=false:=by apply decide_eq_false;intro z;subst z;exact f.1 (u8.mpr {_,g,rfl})
      rw[this]at e;exact e
     exact ih f.2 g q c
def fU{g:Type}{l:AL α g}{k:α}{v:g}{x:α}{y:g}(h:(x,y)∈eS l k v):(x=k/\y=v)∨(x≠k/\(x,y)∈l):=by
 unfold eS at h;split at h
 ·rw[u8]at h;obtain ⟨kv,c,f⟩:=h;split at f
  ·rename_i e;cases f;exact .inl {e,rfl}
  ·rename_i e;subst f;exact .inr {e,c}
 ·rename_i e;rcases w8.mp h with c|c
  ·refine .inr {?_,c};rintro rfl;apply e;rw[Y0];exact {_,c,by simp}
  ·rw[i4]at c;cases c;exact .inl {rfl,rfl}
def IU{c:Type}{l:AL α c}{k:α}{v:c}:(k,v)∈eS l k v:=by
 unfold eS;split
 ·rename_i e;rw[Y0]at e;obtain ⟨kv,f,g⟩:=e;rw[u8];refine {kv,f,?_};have:=of_decide_eq_true g;rw[if_pos this,this]
 ·exact u9 _ (i4.mpr rfl)
def YY{c:Type}{l:AL α c}{k:α}{v:c}{x:α}{y:c}(f:x≠k)(h:(x,y)∈l):(x,y)∈eS l k v:=by
 unfold eS;split
 ·rw[u8];exact {_,h,by rw[if_neg f]}
 ·exact D2 _ h
def tI{c:Type}{l:AL α c}{k:α}{v:c}(m:(l.map (·.1)).Nodup):((eS l k v).map (·.1)).Nodup:=by
 unfold eS;split
 ·rw[W4];have:((fun x=>x.1) ∘ fun(kv:α×c)=>if kv.1=k then (kv.1,v) else kv)=fun kv=>kv.1:=by
   funext kv;simp only[Function.comp];split <;> rfl
  rw[this];exact m
 ·rename_i e;rw[z9,W3];refine {m,by simp,?_};intro a f b g;simp at g;subst g;rintro rfl;apply e;rw[u8]at f;obtain ⟨kv,o,q⟩:=f;rw[Y0];exact {kv,o,by simp[q]}
def SA{c:Type}{l:AL α c}{k:α}{v:c}{x:α}(h:x∈(eS l k v).map (·.1)):x=k∨x∈l.map (·.1):=by
 rw[u8]at h;obtain ⟨⟨a,b⟩,f,rfl⟩:=h;rcases fU f with ⟨e,_⟩|⟨_,e⟩
 ·exact .inl e
 ·exact .inr (u8.mpr {_,e,rfl})
def lN{c:Type}{l:AL α c}{k:α}{x:α×c}:x∈jS l k↔x∈l/\x.1≠k:=by unfold jS;rw[V5];simp
def ZA{f:Type}{l:AL α f}{k:α}(c:(l.map (·.1)).Nodup):((jS l k).map (·.1)).Nodup:=by unfold jS;exact c.sublist (List.filter_sublist.map _)
def lR{g:Type}(l:AL α g)(k j:α)(v:g):bG (eS l k v) j=if j=k then some v else bG l j:=by
 by_cases e:j=k
 ·subst e;rw[if_pos rfl];unfold bG eS;split
  ·rename_i h
   induction l with
  |nil=>simp at h
  |cons x r ih=>
    rw[J6,P6];by_cases c:x.1=j
    ·simp[c]
    ·rw[if_neg c];simp only[c,decide_false];apply ih;rw[eh]at h;simpa[c] using h
  ·rename_i h
   induction l with
  |nil=>simp
  |cons x r ih=>rw[eh]at h;have c:¬x.1=j:=fun z=>h (by simp[z]);rw[ec,P6];simp only[c,decide_false];exact ih (by simpa[c] using h)
 ·rw[if_neg e];unfold bG eS;split
  ·rename_i h;clear h
   induction l with
  |nil=>rfl
  |cons x r ih=>
    rw[J6,P6,P6];by_cases c:x.1=k
    ·rw[if_pos c];have:¬x.1=j:=fun z=>e (z.symm.trans c);simp only[this,decide_false];exact ih
    ·rw[if_neg c];by_cases f:x.1=j
     ·simp[f]
     ·simp only[f,decide_false];exact ih
  ·rename_i h;rw[List.find?_append];have:List.find? (fun kv=>decide (kv.1=j)) [(k,v)]=none:=by
    simp[q7 e]
   rw[this,Option.or_none]
def Jn(r:jV α)(q p:α):Prop:=(r.1=q/\r.2.1=p)∨(r.2.1=q/\r.1=p)
def eN(tk:Nat->Option Rat)(k:Nat)(t:Rat):Prop:=∀u,tk k=some u->t<=u
def eN.le(h:eN tk k t)(l:s<=t):eN tk k s:=fun u e=>ei l (h u e)
variable (net:List (jV α))(push:α->Option Rat)(tk:Nat->Option Rat)
inductive Ec:α->Rat->Prop
|push {p t}:push p=some t->Ec p t
|run {q s p k r}:Ec q s->net[k]?=some r->Jn r q p->eN tk k (s+r.2.2)->Ec p (s+r.2.2)
structure pE(m:α->Option Rat):Prop where
 arr:∀p t,m p=some t->Ec net push tk p t
 le:∀p t,Ec net push tk p t->∃u,m p=some u/\u<=t
variable {net push tk}
def pE.uniq(h:pE net push tk m)(h':pE net push tk g):m=g:=by
 have c:∀{m g:α->Option Rat},pE net push tk m->pE net push tk g->∀p t,m p=some t->∃u,g p=some u/\u<=t:=fun h h' p t e=>h'.le p t (h.arr p t e);funext p;cases e:m p with
|none=>
  cases e':g p with
 |none=>rfl
 |some u=>
   obtain ⟨w,f,_⟩:=c h' h p u e';rw[e]at f;cases f
|some t=>obtain ⟨u,o,q⟩:=c h h' p t e;obtain ⟨w,f,s⟩:=c h' h p u o;rw[e]at f;cases f;rw[o];exact congrArg some (Rat.le_antisymm s q)
def Gu(net:List (jV α))(push:α->Option Rat)(tk:Nat->Option Rat)(F:AL α (nW α))(p:α):nW α->Prop
|(t,none)=>push p=some t
|(t,some (k,q))=>∃r e,net[k]?=some r/\Jn r q p/\(q,e)∈F/\t=e.1+r.2.2/\eN tk k t
def Gu.mono(h:Gu net push tk F p e)(s:∀x∈F,x∈F'):Gu net push tk F' p e:=by
 obtain ⟨t,o⟩:=e;cases o with
|none=>exact h
|some f=>obtain ⟨r,e,a,b,c,d⟩:=h;exact {r,e,a,b,s _ c,d}
def Ml(W F:AL α (nW α))(p:α)(t:Rat):Prop:=∃e,((p,e)∈W∨(p,e)∈F)/\e.1<=t
structure lU(net:List (jV α))(push:α->Option Rat)(tk:Nat->Option Rat)(C:α->Nat->α->Prop)(W F:AL α (nW α)):Prop where
 ndW:(W.map (·.1)).Nodup
 ndF:(F.map (·.1)).Nodup
 dis:∀p,p∈W.map (·.1)->p∉F.map (·.1)
 sup:∀p e,(p,e)∈W->Gu net push tk F p e
 ord:∀i p e,F[i]?=some (p,e)->Gu net push tk (F.take i) p e
 mono:∀f∈F,∀w∈W,f.2.1<=w.2.1
 psh:∀p t,push p=some t->Ml W F p t
 clo:∀q e,(q,e)∈F->∀k r p,net[k]?=some r->Jn r q p->C q k p->eN tk k (e.1+r.2.2)->Ml W F p (e.1+r.2.2)
def lU.start(s:(W.map (·.1)).Nodup)(h:∀p e,(p,e)∈W->e.2=none/\push p=some e.1)(g:∀p t,push p=some t->(p,(t,none))∈W):lU net push tk C W []:=by refine {s,by simp,fun _ _=>by simp,fun p e c=>?_,fun i p e c=>by simp at c,fun f m=>by simp at m,fun p t e=>{_,.inl (g p t e),gx},fun q e c=>by simp at c};obtain ⟨t,o⟩:=e;obtain ⟨rfl,z⟩:=h p _ c;exact z
def lU.pop(I:lU net push tk (fun _ _ _=>True) W F)(hp:(p,e)∈W)(Q:∀w∈W,e.1<=w.2.1)(O:∀q k x,C q k x->q≠p):lU net push tk C (jS W p) (F++[(p,e)]):=by
 have J:p∉F.map (·.1):=I.dis p (u8.mpr {_,hp,rfl});have D:∀ {x t},Ml W F x t->Ml (jS W p) (F++[(p,e)]) x t:=fun {x t} ⟨u,c,B⟩=>by
  rcases c with c|c
  ·by_cases m:x=p
   ·subst m;have:u=e:=j5 ((eC I.ndW c).symm.trans (eC I.ndW hp));subst this;exact {u,.inr (by simp),B}
   ·exact {u,.inl (lN.mpr {c,m}),B}
  ·exact {u,.inr (D2 _ c),B}
 refine {ZA I.ndW,?_,fun x m=>?_,fun x u R=>?_,fun i x u g=>?_,fun f o w G=>?_,fun x t m=>D (I.psh x t m),fun q u s k r x c B M N=>?_}
 ·rw[z9,W3];refine {I.ndF,by simp,fun a P b K=>?_};simp at K;subst K;rintro rfl;exact J P
 ·rw[u8]at m;obtain ⟨y,A,rfl⟩:=m;have A:=lN.mp A;rw[z9,w8];rintro (z|z)
  ·exact I.dis _ (u8.mpr {_,A.1,rfl}) z
  ·simp at z;exact A.2 z
 ·exact (I.sup x u (lN.mp R).1).mono fun y A=>D2 _ A
 ·by_cases E:i<F.length
  ·rw[P0 E]at g;rw[List.take_append_of_le_length (V6 E)];exact I.ord i x u g
  ·rw[L5 (by lia)]at g;have:i-F.length=0:=by
    cases e2:i-F.length with
   |zero=>rfl
   |succ n=>rw[e2]at g;simp at g
   have H:i=F.length:=by lia
   subst H;simp at g;obtain ⟨rfl,rfl⟩:=g;rw[List.take_left];exact I.sup _ _ hp
 ·have G:=lN.mp G;rcases w8.mp o with o|o
  ·exact I.mono f o w G.1
  ·simp at o;subst o;exact Q w G.1
 ·rcases w8.mp s with s|s
  ·exact D (I.clo q u s k r x c B trivial N)
  ·simp at s;exact absurd s.1 (O _ _ _ M)
def lU.turn(I:lU net push tk C W F)(hp:(p,e)∈F)(H:net[k]?=some r)(Q:Jn r p x)(A:∀w∈F,w.2.1<=e.1)(h0:0<r.2.2)(M:∀q j y,C' q j y->C q j y∨(q=p/\j=k/\y=x))
  (P:(W'=W/\(x∈F.map (·.1)∨¬eN tk k (e.1+r.2.2)∨∃u,(x,u)∈W/\u.1<=e.1+r.2.2)) ∨
   (x∉F.map (·.1)/\eN tk k (e.1+r.2.2)/\(∀u,(x,u)∈W->e.1+r.2.2<=u.1)/\W'=eS W x (e.1+r.2.2,some (k,p)))):lU net push tk C' W' F:=by
 rcases P with ⟨rfl,h⟩|⟨J,G,R,rfl⟩
 ·refine {I.ndW,I.ndF,I.dis,I.sup,I.ord,I.mono,I.psh,fun q u B j K y c m o D=>?_};rcases M q j y o with o|⟨rfl,rfl,rfl⟩
  ·exact I.clo q u B j K y c m o D
  ·rw[H]at c;cases c;have:u=e:=j5 ((eC I.ndF B).symm.trans (eC I.ndF hp));subst this;rcases h with h|h|⟨w,E,O⟩
   ·rw[u8]at h;obtain ⟨⟨a,b⟩,E,rfl⟩:=h;refine {b,.inr E,?_};have:=A _ E;simp only at this;grind
   ·exact absurd D h
   ·exact {w,.inl E,O}
 ·have s:∀ {y t},Ml W F y t->Ml (eS W x (e.1+r.2.2,some (k,p))) F y t:=fun {y t} ⟨u,c,m⟩=>by
   rcases c with c|c
   ·by_cases g:y=x
    ·subst g;exact {_,.inl IU,ei (R u c) m}
    ·exact {u,.inl (YY g c),m}
   ·exact {u,.inr c,m}
  refine {tI I.ndW,I.ndF,fun y g=>?_,fun y u g=>?_,I.ord,fun f N w S=>?_,fun y t g=>s (I.psh y t g),fun q u B j K y c m o D=>?_}
  ·rcases SA g with rfl|g
   ·exact J
   ·exact I.dis y g
  ·rcases fU g with ⟨rfl,rfl⟩|⟨_,g⟩
   ·exact {r,e,H,Q,hp,rfl,G}
   ·exact I.sup y u g
  ·obtain ⟨y,u⟩:=w;rcases fU S with ⟨rfl,rfl⟩|⟨_,g⟩
   ·have:=A f N;show f.2.1<=e.1+r.2.2;grind
   ·exact I.mono f N _ g
  ·rcases M q j y o with o|⟨rfl,rfl,rfl⟩
   ·exact s (I.clo q u B j K y c m o D)
   ·rw[H]at c;cases c;have:u=e:=j5 ((eC I.ndF B).symm.trans (eC I.ndF hp));subst this;exact {_,.inl IU,gx}
structure IY(net:List (jV α))(push:α->Option Rat)(tk:Nat->Option Rat)(F:AL α (nW α)):Prop where
 nd:(F.map (·.1)).Nodup
 ord:∀i p e,F[i]?=some (p,e)->Gu net push tk (F.take i) p e
 psh:∀p t,push p=some t->∃e,(p,e)∈F/\e.1<=t
 clo:∀q e,(q,e)∈F->∀k r p,net[k]?=some r->Jn r q p->eN tk k (e.1+r.2.2)->∃u,(p,u)∈F/\u.1<=e.1+r.2.2
def lU.done(I:lU net push tk (fun _ _ _=>True) [] F):IY net push tk F:=by
 refine {I.ndF,I.ord,fun p t h=>?_,fun q e s k r p c f g=>?_}
 ·obtain ⟨e,c,f⟩:=I.psh p t h;exact {e,c.resolve_left (by simp),f}
 ·obtain ⟨u,m,o⟩:=I.clo q e s k r p c f trivial g;exact {u,m.resolve_left (by simp),o}
def gY(F:AL α (nW α))(p:α):Option Rat:=(bG F p).map (·.1)
def IY.arr(O:IY net push tk F):∀(i:Nat)(p:α)(e:nW α),F[i]?=some (p,e)->Ec net push tk p e.1:=by
 intro i
 induction i using Nat.strongRecOn with
|ind i ih=>
  intro p e B;have h:=O.ord i p e B;obtain ⟨t,o⟩:=e;cases o with
 |none=>exact .push h
 |some C=>
   obtain ⟨k,q⟩:=C;obtain ⟨r,e,g,m,s,w,A⟩:=h;obtain ⟨j,c⟩:=wz.mp s;rw[List.getElem?_take]at c;split at c
   ·rename_i f;subst w;exact .run (ih j f q e c) g m A
   ·cases c
def IY.falls(O:IY net push tk F):pE net push tk (gY F):=by
 refine {fun p t h=>?_,fun p t h=>?_}
 ·unfold gY at h;rw[A8]at h;obtain ⟨e,f,rfl⟩:=h;obtain ⟨i,D⟩:=wz.mp (cQ f);exact O.arr i p e D
 ·induction h with
 |push h=>
   obtain ⟨e,f,g⟩:=O.psh _ _ h;exact {e.1,by unfold gY;rw[eC O.nd f];rfl,g}
 |run f g o w ih=>
   obtain ⟨u,m,E⟩:=ih;unfold gY at m;rw[A8]at m;obtain ⟨e,A,rfl⟩:=m;rename_i q s p k r;have c:e.1+r.2.2<=s+r.2.2:=by grind
   obtain ⟨u,B,C⟩:=O.clo q e (cQ A) k r p g o (w.le c);exact {u.1,by unfold gY;rw[eC O.nd B];rfl,ei C c}
end
end L2
namespace L2
section
variable {α:Type}[DecidableEq α]{net:List (jV α)}{push:α->Option Rat}{tk:Nat->Option Rat}
def Rx(f:α->Option Rat)(p:α)(t:Rat):Prop:=∃u,f p=some u/\u<=t
def Ui(net:List (jV α))(push:α->Option Rat)(tk:Nat->Option Rat)(f:α->Option Rat):Prop:=∀p t,f p=some t->Ec net push tk p t
end
end L2
namespace L2
section
variable {κ:Type}[DecidableEq κ]
def iA(m:AL κ Rat)(x:κ×Rat):AL κ Rat:=match bG m x.1 with
|none=>eS m x.1 x.2
|some r=>if x.2<r then eS m x.1 x.2 else m
def lst(l:List (κ×Rat)):AL κ Rat:=l.foldl iA []
def sU(l:List (κ×Rat))(x:κ×Rat):lst (l++[x])=iA (lst l) x:=by unfold lst;rw[List.foldl_append];rfl
def XE{m:AL κ Rat}{x:κ×Rat}(h:(m.map (·.1)).Nodup):((iA m x).map (·.1)).Nodup:=by
 unfold iA;split
 ·exact tI h
 ·split
  ·exact tI h
  ·exact h
def QR{m:AL κ Rat}{x:κ×Rat}{k:κ}{q:Rat}(h:(k,q)∈iA m x):(k,q)∈m∨(k,q)=x:=by
 unfold iA at h;split at h
 ·rcases fU h with ⟨rfl,rfl⟩|⟨_,h⟩
  ·exact .inr rfl
  ·exact .inl h
 ·split at h
  ·rcases fU h with ⟨rfl,rfl⟩|⟨_,h⟩
   ·exact .inr rfl
   ·exact .inl h
  ·exact .inl h
def OP(P:AL κ Rat->Prop)(l:List (κ×Rat))(h0:P [])(hs:∀m x,x∈l->P m->P (iA m x)):P (lst l):=by
 unfold lst;have:∀(c:List (κ×Rat)) (m:AL κ Rat),(∀x∈c,x∈l)->P m->P (c.foldl iA m):=by
  intro c
  induction c with
 |nil=>intro m _ h;exact h
 |cons x r ih=>intro m f h;exact ih _ (fun y g=>f y (B4 _ g)) (hs m x (f x J1) h)
 exact this l [] (fun x h=>h) h0
def KM(l:List (κ×Rat)):((lst l).map (·.1)).Nodup:=OP (fun m=>(m.map (·.1)).Nodup) l (by simp) fun m x _ h=>XE h
def mS{l:List (κ×Rat)}{x:κ×Rat}(h:x∈lst l):x∈l:=by
 refine OP (fun m=>∀y∈m,y∈l) l (by simp) (fun m x c ih y f=>?_) x h;obtain ⟨k,q⟩:=y;rcases QR f with h|h
 ·exact ih _ h
 ·rw[h];exact c
def QS{m:AL κ Rat}{x:κ×Rat}:(iA m x).length<=m.length+1:=by
 have:∀v,(eS m x.1 v).length<=m.length+1:=fun v=>by unfold eS;split <;> simp
 unfold iA;split
 ·exact this _
 ·split
  ·exact this _
  ·lia
end
end L2
namespace L2
def OQ{f:Type}[DecidableEq f](l:List (f×Rat)):(lst l).length<=l.length:=by
 have:∀(c:List (f×Rat)) (m:AL f Rat),(c.foldl iA m).length<=m.length+c.length:=by
  intro c
  induction c with
 |nil=>intro m;simp
 |cons x r ih=>intro m;have g:=ih (iA m x);have o:=QS (m:=m) (x:=x);rw[List.foldl_cons,J2];lia
 have:=this l [];unfold lst;simpa using this
end L2
namespace L2
open PySem PySem.Spec PyProof.Rows
section
variable {X:Cx}{a b:D6}{ta tb td ty tv:TE}{pos:Pos}{dE:List D6}{σ:St}{H H':Hp}{Q:VK}{D:fR}{K:v9}{v x:V}
def Na(K:v9)(ta tb:TE):TE:=fun σ H Q=>ta σ H fun x H1=>∃k,yV K x H1 k/\if k=true then Q x H1 else tb σ H1 Q
def Jl(E:PE X a ta)(G:PE X (.BoolOp .Or (b::dE) pos) tb):PE X (.BoolOp .Or (a::b::dE) pos) (Na X.K ta tb):=by
 intro c s σ H Q I h;refine BoolOp_or (cZ (E c s σ H _ I h) fun v J ⟨x,o,A,t,k,N,g⟩=>?_);refine cZ (SV c J σ o x v (fun m f=>f=o/\m=k) A t {k,N,rfl,rfl}) fun m M ⟨f,q,B,C⟩=>?_;subst B C;cases m with
|true=>exact {x,f,q,t,by rw[if_pos rfl]at g;exact g}
|false=>exact G c M σ f Q q (by rw[if_neg j4]at g;exact g)
def Oh(k:ta σ H fun x H1=>∃k,yV K x H1 k/\if k=true then Q x H1 else tb σ H1 Q):Na K ta tb σ H Q:=k
def Mu(K:v9)(ta:TE):TT:=fun σ H R=>ta σ H fun x H'=>∃k,yV K x H' k/\R k H'
def Je(c:PE X a ta)(f:∀whole,isTrue a X.env whole=(do let v ←whole;ko a.pos;ja [v] (truthy v)):=by intro _;rfl):PT X a (Mu X.K ta):=VT c f
def Ob(k:ta σ H fun x H'=>∃k,yV K x H' k/\R k H'):Mu K ta σ H R:=k
def Hg{R:Bool->Hp->Prop}(h:H p=some (.dK kvs))(k:R (!kvs.isEmpty) H):∃k,yV K (.ref p) H k/\R k H:={_,.inr (.inr {kvs,h,rfl}),k}
def Hf{R:Bool->Hp->Prop}(h:H p=some (.lst xs))(k:R (!xs.isEmpty) H):∃k,yV K (.ref p) H k/\R k H:={_,.inl {xs,cU.of h,rfl},k}
def He{R:Bool->Hp->Prop}(k:R false H):∃k,yV K .non H k/\R k H:={false,rfl,k}
def oJ(k:∀p,H p=none->Q (.ref p) (upd H p (.dK []))):SZ σ H Q:=k
def dG(x y:V)(H:Hp)(Q:VK):Prop:=∃a v,x=.ref a/\pG H a y (some v)/\Q v H
def Ip(k:td σ H fun x H1=>ty σ H1 fun y H2=>dG x y H2 Q):Em td ty σ H Q:=k
def bS(h:Rd H p (.dK kvs))(e:bP kvs (c9 s)=some v)(k:Q v H):dG (.ref p) (.str s) H Q:={p,v,rfl,.inl {kvs,c9 s,h,rfl,e.symm},k}
def xH(h:Rd H p (.dK kvs))(e:bP kvs (i5 i)=some v)(k:Q v H):dG (.ref p) (.int i) H Q:={p,v,rfl,.inl {kvs,i5 i,h,rfl,e.symm},k}
def dI(y x:V)(H:Hp)(Q:VK):Prop:=∃a o,x=.ref a/\pG H a y o/\Q (.bl o.isSome) H
def dN(y x:V)(H:Hp)(Q:VK):Prop:=∃a o,x=.ref a/\pG H a y o/\Q (.bl (!o.isSome)) H
def Oz(k:ty σ H fun y H1=>td σ H1 fun x H2=>dI y x H2 Q):Nf ty td σ H Q:=k
def Io(k:ty σ H fun y H1=>td σ H1 fun x H2=>dN y x H2 Q):LW ty td σ H Q:=k
def Pa(h:Rd H p (.dK kvs))(k:Q (.bl (bP kvs (c9 s)).isSome) H):dI (.str s) (.ref p) H Q:={p,_,rfl,.inl {kvs,c9 s,h,rfl,rfl},k}
def Ft(h:Rd H p (.dK kvs))(k:Q (.bl (bP kvs (i5 i)).isSome) H):dI (.int i) (.ref p) H Q:={p,_,rfl,.inl {kvs,i5 i,h,rfl,rfl},k}
def sJ(h:Rd H p (.dK kvs))(e:bP kvs c=some v)(k:Q v H):dG (.ref p) (kV c) H Q:={p,v,rfl,.inl {kvs,c,h,rfl,e.symm},k}
def Pb(h:Rd H p (.dK kvs))(k:Q (.bl (bP kvs c).isSome) H):dI (kV c) (.ref p) H Q:={p,_,rfl,.inl {kvs,c,h,rfl,rfl},k}
def VI(h:Rd H p (.dK kvs))(k:Q (.bl (!(bP kvs c).isSome)) H):dN (kV c) (.ref p) H Q:={p,_,rfl,.inl {kvs,c,h,rfl,rfl},k}
def dP(D:fR)(σ:St)(v x y:V)(H:Hp):Prop:=∃a H4,x=.ref a/\SL H a y v H4/\D.nx σ H4
def Im(k:tv σ H fun v H1=>td σ H1 fun x H2=>ty σ H2 fun y H3=>dP D σ v x y H3):Fj td ty tv D σ H:=k
def lF(h:H p=some (.dK kvs))(f:kvs.length<=1000)(k:D.nx σ (upd H p (.dK (eK kvs c v)))):dP D σ v (.ref p) (kV c) H:={p,_,rfl,SL.k h (eE f),k}
def dG1(ty:TE)(σ:St)(Q:VK)(x:V)(H1:Hp):Prop:=∃a,x=.ref a/\Mc H1 a/\ty σ H1 fun y H2=>∃o,pG H2 a y o/\Q (o.getD .non) H2
def Ay(k:td σ H (dG1 ty σ Q)):TD td ty σ H Q:=k
def dG2(ty tx:TE)(σ:St)(Q:VK)(x:V)(H1:Hp):Prop:=∃a,x=.ref a/\Mc H1 a/\ty σ H1 fun y H2=>tx σ H2 fun z H3=>∃o,pG H3 a y o/\Q (o.getD z) H3
def Ax(k:td σ H (dG2 ty tx σ Q)):TC td ty tx σ H Q:=k
def dpK(ty:TE)(σ:St)(Q:VK)(x:V)(H1:Hp):Prop:=∃a,x=.ref a/\Mc H1 a/\ty σ H1 fun y H2=>∃kvs k v,H2 a=some (.dK kvs)/\y=kV k/\bP kvs k=some v/\Q v (upd H2 a (.dK (eP kvs k)))
def Av(k:td σ H (dpK ty σ Q)):SY td ty σ H Q:=k
def VG{g:TG}{f:TE}{c:TS}(a:c8)(m:nU H a)(k:f σ H fun x H1=>x=.ref a/\∃kvs,H1 a=some (.dK kvs)/\∀o,IC g c (Dm a D) σ (Mb a o kvs) (upd H1 a (.frz o (.dK kvs)))):Ej f g c D σ H:={a,m,k}
def NU{a:c8}{o:Obj}{kvs:List (aR×V)}{g:TG}{t:TS}{D:fR}(c:Nat->St->Hp->Prop)(h0:c 0 σ H)(s:∀i σ H,i<=kvs.length->c i σ H->H a=some (.frz o (.dK kvs)))(hs:∀i k v σ H,kvs[i]?=some (k,v)->c i σ H->g (kV k) σ H fun σ2 H2=>t {c (i+1),D.rt,D.nx,c (i+1)} σ2 H2)(A:∀σ H,c kvs.length σ H->D.nx σ H):IC g t D σ (Mb a o kvs) H:=by
 refine {fun i m σ H=>m=kvs.length-i/\i<=kvs.length/\c i σ H,{_,rfl,C9 _,h0},?_};rintro i m σ H ⟨rfl,B,p⟩;by_cases f:i<kvs.length
 ·refine .inr {{s i σ H B p,f},c (i+1),fun C H' q=>{kvs.length-(i+1),by lia,rfl,f,q},fun x H' y=>?_};obtain ⟨rfl,k,v,e,rfl⟩:=y;exact hs i k v σ _ e p
 ·have:i=kvs.length:=by lia
  subst this;exact .inl {{s _ σ H (j8 _) p,j8 _},A σ H p}
def VF{a:c8}{xs:List V}{g:TG}{o:TS}(c:Nat->St->Hp->Prop)(h0:c 0 σ H)(B:∀i σ H,i<=xs.length->c i σ H->cU K H a xs)(hs:∀i x T σ H,xs[i]?=some x->H T=none->c i σ H->g (.ref T) σ (upd H T (.tup [.int i,x])) fun σ2 H2=>o {c (i+1),D.rt,D.nx,c (i+1)} σ2 H2)(t:∀σ H,c xs.length σ H->D.nx σ H):IC g o D σ (Mj K a) H:=by
 refine {fun i m σ H=>m=xs.length-i/\i<=xs.length/\c i σ H,{_,rfl,C9 _,h0},?_};rintro i m σ H ⟨rfl,A,p⟩;have q:=B i σ H A p;by_cases f:i<xs.length
 ·refine .inr {{xs,xs[i],q,by simp[f]},c (i+1),fun E H' q=>{xs.length-(i+1),by lia,rfl,f,q},fun x H' y=>?_};obtain ⟨T,C,rfl,s,rfl,e⟩:=y;exact hs i C T σ H (e xs q) s p
 ·have:i=xs.length:=by lia
  subst this;exact .inl {{xs,q,j8 _},t σ H p}
def Ar(k:tl σ H fun vs H1=>∃a,vs=[.ref a]/\(∃xs,cU K H1 a xs)/\R (Mj K a) H1):Gr K tl σ H R:=k
def e_K{a:c8}{xs:List V}{R:It->Hp->Prop}(h:H a=some (.lst xs))(k:R (Mj K a) H):∃c,[V.ref a]=[.ref c]/\(∃xs,cU K H c xs)/\R (Mj K c) H:={a,rfl,{xs,cU.of h},k}
def CU(h:H p=some (.tup [x,y]))(k:t [x,y] σ H R):KU K 2 t (.ref p) σ H R:={p,_,rfl,EN.of h,rfl,k}
def NS(h:H p=some (.tup [x,y,z]))(k:t [x,y,z] σ H R):KU K 3 t (.ref p) σ H R:={p,_,rfl,EN.of h,rfl,k}
def Ij(k:R σ H):YF [] σ H R:={rfl,k}
def Au(k:t v σ H fun σ' H'=>u r σ' H' R):sX t u (v::r) σ H R:={v,r,rfl,k}
end
def TK(H H':Hp):Prop:=∀p xs,H p=some (.tup xs)->H' p=some (.tup xs)
def TK.trans(a:TK H H1)(b:TK H1 H2):TK H H2:=fun p c h=>b p c (a p c h)
def aJ.tk(s:aJ H H'):TK H H':=fun p c h=>s _ _ h
def TK.new(h:H q=none):TK H (upd H q o):=(aJ.new h).tk
def TK.lst(h:H q=some (.lst ys)):TK H (upd H q o):=fun p c e=>by rw[aX (gX e h (by intro z;cases z))];exact e
def TK.dic(h:H q=some (.dK ys)):TK H (upd H q o):=fun p c e=>by rw[aX (gX e h (by intro z;cases z))];exact e
def TK.melt:TK H (melt a H):=fun p c e=>gZ (fun _ _ z=>nomatch z) e
def cI(H:Hp)(v:V)(q:Rat):Prop:=∃p,v=.ref p/\H p=some (.tup [.int q.num,.int q.den])
def cI.tk(h:cI H v q)(t:TK H H'):cI H' v q:=let ⟨p,e,h⟩:=h;{p,e,t _ _ h}
def vY(H:Hp)(v:V)(x:aR×Rat):Prop:=∃p u,v=.ref p/\H p=some (.tup [kV x.1,u])/\cI H u x.2
def vY.tk(h:vY H v x)(t:TK H H'):vY H' v x:=let ⟨p,u,e,h,f⟩:=h;{p,u,e,t _ _ h,f.tk t}
def nE(H:Hp)(v:V)(r:aR×aR×Rat):Prop:=∃p u,v=.ref p/\H p=some (.tup [kV r.1,kV r.2.1,u])/\cI H u r.2.2
def nE.tk(h:nE H v r)(t:TK H H'):nE H' v r:=let ⟨p,u,e,h,f⟩:=h;{p,u,e,t _ _ h,f.tk t}
def jW(H:Hp)(v:V)(e:Rat×Option (Nat×aR)):Prop:=∃p u,v=.ref p/\H p=some (.tup [u,(match e.2 with|none=>.non|some kq=>.int kq.1),(match e.2 with|none=>.non|some kq=>kV kq.2)])/\cI H u e.1
def jW.tk(h:jW H v e)(t:TK H H'):jW H' v e:=let ⟨p,u,a,h,f⟩:=h;{p,u,a,t _ _ h,f.tk t}
def LL(H:Hp)(v:V)(x:Nat×aR):Prop:=∃p,v=.ref p/\H p=some (.tup [.int x.1,kV x.2])
def LL.tk(h:LL H v x)(t:TK H H'):LL H' v x:=let ⟨p,e,h⟩:=h;{p,e,t _ _ h}
section
variable {α β:Type}{F G:α->β->Prop}
theorem Pd.imp:∀{l:List α}{m:List β},Paired F l m->(∀a b,F a b->G a b)->Paired G l m
|_,_,.nil,_=>.nil
|_,_,.cons r t,f=>.cons (f _ _ r) (Pd.imp t f)
theorem Pd.snoc:∀{l:List α}{m:List β}{a:α}{b:β},Paired F l m->F a b->Paired F (l++[a]) (m++[b])
|_,_,_,_,.nil,r=>.cons r .nil
|_,_,_,_,.cons q t,r=>.cons q (Pd.snoc t r)
theorem Pd.get:∀{l:List α}{m:List β}{i:Nat}{b:β},Paired F l m->m[i]?=some b->∃a,l[i]?=some a/\F a b
|_,_,_,_,.nil,e=>by simp at e
|_,_,0,_,.cons r _,e=>by simp at e;subst e;exact {_,rfl,r}
|_,_,i+1,b,.cons _ t,e=>by obtain ⟨y,c,f⟩:=Pd.get (i:=i) (b:=b) t (by simpa using e);exact {y,by simpa using c,f}
end
def LQ{β:Type}(R:Hp->V->β->Prop)(H:Hp)(l:c8)(ds:List β):Prop:=∃vs,H l=some (.lst vs)/\Paired (R H) vs ds
def KQ{β:Type}(R:Hp->V->β->Prop)(H:Hp)(kvs:List (aR×V))(m:List (aR×β)):Prop:=Paired (fun kv ab=>kv.1=ab.1/\R H kv.2 ab.2) kvs m
def DQ{β:Type}(R:Hp->V->β->Prop)(H:Hp)(d:c8)(m:List (aR×β)):Prop:=∃kvs,H d=some (.dK kvs)/\KQ R H kvs m
section
variable {β:Type}{R:Hp->V->β->Prop}{H H':Hp}{l:c8}{ds:List β}{m:List (aR×β)}{kvs:List (aR×V)}
def LQ.same(h:LQ R H l ds)(c:∀v b,R H v b->R H' v b)(s:aJ H H'):LQ R H' l ds:=let ⟨f,a,b⟩:=h;{f,s _ _ a,Pd.imp b c}
def KQ.imp(h:KQ R H kvs m)(c:∀v b,R H v b->R' H' v b):KQ R' H' kvs m:=Pd.imp h fun _ _ q=>{q.1,c _ _ q.2}
theorem KQ.keys:∀{kvs:List (aR×V)}{m:List (aR×β)},KQ R H kvs m->kvs.map (·.1)=m.map (·.1)
|_,_,.nil=>rfl
|_,_,.cons r t=>by rw[J6,J6,r.1,KQ.keys t]
def KQ.len(h:KQ R H kvs m):kvs.length=m.length:=Paired.length h
theorem KQ.val:∀{kvs:List (aR×V)}{m:List (aR×β)}{k:aR},KQ R H kvs m->(bP kvs k=none/\bG m k=none)∨∃v b,bP kvs k=some v/\bG m k=some b/\R H v b
|_,_,_,.nil=>.inl {rfl,rfl}
|_,_,k,.cons (a:=p) (b:=q) (l₁:=as) (l₂:=bs) r t=>by
  by_cases e:p.1=k
  ·refine .inr {p.2,q.2,gG e,?_,r.2};have c:q.1=k:=r.1▸e;simp[bG,P6,c]
  ·have c:¬q.1=k:=fun z=>e (r.1.trans z);have f:bP (p::as) k=bP as k:=fS e;rw[f];have g:bG (q::bs) k=bG bs k:=by simp[bG,P6,c]
   rw[g];exact KQ.val t
theorem KQ.repl(c:R H v b):∀{kvs:List (aR×V)}{m:List (aR×β)},KQ R H kvs m->KQ R H (kvs.map fun kv=>if kv.1=k then (kv.1,v) else kv) (m.map fun kv=>if kv.1=k then (kv.1,b) else kv)
|_,_,.nil=>.nil
|_,_,.cons (a:=p) (b:=q) r t=>by
  refine .cons ?_ (KQ.repl c t);dsimp only;by_cases e:p.1=k
  ·rw[if_pos e,if_pos (r.1▸e)];exact {r.1,c}
  ·rw[if_neg e,if_neg (fun z=>e (r.1.trans z))];exact r
theorem KQ.any:∀{kvs:List (aR×V)}{m:List (aR×β)},KQ R H kvs m->(kvs.any fun kv=>decide (kv.1=k))=m.any fun kv=>decide (kv.1=k)
|_,_,.nil=>rfl
|_,_,.cons r t=>by rw[eh,eh,r.1,KQ.any t]
def KQ.put(h:KQ R H kvs m)(c:R H v b):KQ R H (eK kvs k v) (eS m k b):=by
 unfold eK eS;rw[KQ.any h];split
 ·exact KQ.repl c h
 ·exact Pd.snoc h {rfl,c}
theorem KQ.drop:∀{kvs:List (aR×V)}{m:List (aR×β)},KQ R H kvs m->KQ R H (eP kvs k) (jS m k)
|_,_,.nil=>.nil
|_,_,.cons (a:=p) (b:=q) (l₁:=as) (l₂:=bs) r t=>by
  have ih:=KQ.drop (k:=k) t;by_cases e:p.1=k
  ·have c:eP (p::as) k=eP as k:=RO e;rw[c];have f:jS (q::bs) k=jS bs k:=by unfold jS;rw[X9];simp[show q.1=k from r.1▸e]
   rw[f];exact ih
  ·have c:eP (p::as) k=p::eP as k:=RP e;rw[c];have f:jS (q::bs) k=q::jS bs k:=by unfold jS;rw[X9];simp[show ¬q.1=k from fun z=>e (r.1.trans z)]
   rw[f];exact .cons r ih
end
def Th{c:Type}{A B:Prop}(k:B):if (none:Option c).isSome=true then A else B:=k
def Tg{c:Type}{b:c}{A B:Prop}(k:A):if (some b).isSome=true then A else B:=k
def ST(h:H a=some o):upd H a o=H:=by
 funext b;by_cases e:b=a
 ·subst e;rw[aC,h]
 ·rw[aX e]
def Ol{D:fR}{c:St}{H:Hp}(k:D.nx c H):D.nx c H:=k
def Oc{D:fR}{v:V}{H:Hp}(k:D.rt v H):D.rt v H:=k
def Pc{D:fR}{c:St}{H:Hp}(k:D.ct c H):D.ct c H:=k
def VH(k:D.nx σ (melt a H)):(Dm a D).nx σ H:=k
def eR.u1(r:eR k A):A.units+1<L9:=by have:=r.units;lia
section
variable {X:Cx}{σ:St}{H H':Hp}{Q:VK}{K:v9}{v x y:V}
def aY(n:b≠q)(h:H b=some u):upd H q o b=some u:=by rw[aX n];exact h
def Bi:R2:=fun x y H Q=>y=.non/\Q (.bl (decide (x=.non))) H
def VQ:R2:=fun x y H Q=>y=.non/\Q (.bl (!decide (x=.non))) H
def kD:kK X (E4 .Is) Bi:=Jt
def lK:kK X (E4 .IsNot) VQ:=Bt
def Ie(k:Q (.bl false) H):Bi (.ref p) .non H Q:={rfl,k}
def Ig(k:Q (.bl true) H):Bi .non .non H Q:={rfl,k}
def Ih(k:Q (.bl false) H):Bi (kV c) .non H Q:={rfl,by cases c <;> exact k}
def Hw(k:Q (.bl true) H):VQ (.ref p) .non H Q:={rfl,k}
def Hx(k:Q (.bl false) H):VQ .non .non H Q:={rfl,k}
def Tl(K:v9)(T:String)(r:V->List V->Hp->VK->Prop)(t:TA)(σ:St)(Q:VK):VK:=fun x H1=>Sc K T x H1/\t σ H1 fun xs H2=>r x xs H2 Q
def Sq(k:to σ H (Tl K T r t σ Q)):Uc K T r to t σ H Q:=k
def VO(h:H l=some (.lst xs))(k:t σ H fun vs H2=>r (.ref l) vs H2 Q):Tl K "list" r t σ Q (.ref l) H:={.inl {rfl,xs,cU.of h},k}
def Pe(h:H l=some (.dK xs))(k:t σ H fun vs H2=>r (.ref l) vs H2 Q):Tl K "dict" r t σ Q (.ref l) H:={.inr (.inr (.inl {rfl,.inl {xs,h}})),k}
def gK(h:H l=some (.lst xs))(c:xs.length<=1000)(k:Q .non (upd H l (.lst (xs++[y])))):NZ (.ref l) [y] H Q:={l,xs,y,rfl,rfl,h,eE c,k}
def xF(h:H a=some (.dK kvs))(f:kvs.length<=1000)(k1:∀u,bP kvs c=some u->Q u H)(k2:bP kvs c=none->Q v (upd H a (.dK (kvs++[(c,v)])))):NW (.ref a) [kV c,v] H Q:={a,kvs,c,v,rfl,rfl,h,f,k1,k2}
def NV(a:c8)(c:nU H a)(h:tl σ H fun x H1=>x=.ref a/\∃kvs,H1 a=some (.dK kvs)/\∀o',kI te o g (B6 k none) (pS σ is) (fun v H'=>Q v (melt a H')) (Mb a o' kvs) (upd H1 a (.frz o' (.dK kvs)))):TH tl te o g k is σ H Q:={a,c,h}
def nU.dK(h:H a=some (.dK kvs)):nU H a:=fun o u e=>by rw[h]at e;cases e
end
def lV{kvs:List (aR×V)}{p q:aR}{v:V}(h:bP kvs p=none):bP (kvs++[(p,v)]) q=if q=p then some v else bP kvs q:=by
 by_cases e:q=p
 ·subst e;rw[if_pos rfl]
  induction kvs with
 |nil=>exact gG rfl
 |cons kv r ih=>
   by_cases z:kv.1=q
   ·rw[gG z]at h;cases h
   ·rw[fS z]at h;rw[ec,fS z];exact ih h
 ·rw[if_neg e];clear h
  induction kvs with
 |nil=>exact fS (fun z=>e z.symm)
 |cons kv r ih=>
   by_cases z:kv.1=q
   ·rw[ec,gG z,gG z]
   ·rw[ec,fS z,fS z];exact ih
structure BI(H H1:Hp)(d:c8)(f:aR->List (Nat×aR))(n:Nat):Prop where
 same:aJ H H1
 dn:H d=none
 ex:∃kvs,H1 d=some (.dK kvs)/\kvs.length<=n/\(∀p,bP kvs p=none->f p=[])/\(∀p v,bP kvs p=some v->∃l,v=.ref l/\H l=none/\LQ LL H1 l (f p))/\∀p q l,bP kvs p=some (.ref l)->bP kvs q=some (.ref l)->p=q
noncomputable def ZQ(f:aR->List (Nat×aR))(p:aR)(x:Nat×aR):aR->List (Nat×aR):=fun q=>if q=p then f q++[x] else f q
def BI.start(h:H d=none):BI H (upd H d (.dK [])) d (fun _=>[]) 0:=
 {aJ.new h,h,[],aC,j8 _,fun _ _=>rfl,fun p v e=>(by cases e),fun p q l e=>(by cases e)}
def LL.imp(t:TK H H'):∀v b,LL H v b->LL H' v b:=fun v b h=>h.tk t
def BI.alloc(B:BI H H1 d f n)(h:H1 q=none):BI H (upd H1 q o) d f n:=by obtain ⟨m,a,b,c,e,g⟩:=B.ex;refine {B.same.trans (aJ.new h),B.dn,m,aO h a,b,c,fun p v z=>?_,g};obtain ⟨l,rfl,s,q⟩:=e p v z;exact {l,rfl,s,q.same (LL.imp (TK.new h)) (aJ.new h)}
def BI.old(B:BI H H1 d f n)(D:H1 d=some (.dK kvs))(C:bP kvs p=some (.ref l))(E:H1 l=some (.lst xs))(M:H1 t=some (.tup [.int x.1,kV x.2])):
  BI H (upd H1 l (.lst (xs++[.ref t]))) d (ZQ f p x) n:=by
 obtain ⟨I,a,b,c,e,g⟩:=B.ex;rw[D]at a;cases a;have tk:TK H1 (upd H1 l (.lst (xs++[.ref t]))):=TK.lst E;obtain ⟨R,J,s,S,G,O⟩:=e p _ C;cases J;rw[E]at G;cases G;refine {fun b o h=>?_,B.dn,kvs,?_,b,fun q z=>?_,fun q v z=>?_,g}
 ·rw[aX (aD h s)];exact B.same _ _ h
 ·rw[aX (gX D E (by intro z;cases z))];exact D
 ·have A:q≠p:=fun w=>by subst w;rw[C]at z;cases z
  show (if q=p then _ else _)=_;rw[if_neg A];exact c q z
 ·obtain ⟨m,rfl,K,Q,N,P⟩:=e q v z;by_cases A:q=p
  ·subst A;rw[C]at z;cases z;refine {l,rfl,s,xs++[.ref t],aC,?_};show Paired _ _ (if q=q then _ else _);rw[if_pos rfl];exact Pd.snoc (Pd.imp O (LL.imp tk)) {t,rfl,tk _ _ M}
  ·refine {m,rfl,K,Q,?_,?_}
   ·have:m≠l:=fun w=>by subst w;exact A (g _ _ _ z C)
    rw[aX this];exact N
   ·show Paired _ _ (if q=p then _ else _);rw[if_neg A];exact Pd.imp P (LL.imp tk)
def BI.key(B:BI H H1 d f n)(D:H1 d=some (.dK kvs))(E:bP kvs p=none)(I:H1 l=some (.lst []))(hn:H l=none)(G:∀q,bP kvs q≠some (.ref l)):
  BI H (upd H1 d (.dK (kvs++[(p,.ref l)]))) d f (n+1):=by
 obtain ⟨K,a,b,c,e,g⟩:=B.ex;rw[D]at a;cases a;have tk:TK H1 (upd H1 d (.dK (kvs++[(p,.ref l)]))):=TK.dic D;refine {fun b o h=>?_,B.dn,kvs++[(p,.ref l)],aC,by simp;exact b,fun q z=>?_,fun q v z=>?_,fun q r m s t=>?_}
 ·rw[aX (aD h B.dn)];exact B.same _ _ h
 ·rw[lV E]at z;by_cases w:q=p
  ·rw[if_pos w]at z;cases z
  ·rw[if_neg w]at z;exact c q z
 ·rw[lV E]at z;by_cases w:q=p
  ·rw[if_pos w]at z;cases z;subst w;refine {l,rfl,hn,[],?_,?_}
   ·rw[aX (gX I D (by intro z;cases z))];exact I
   ·rw[c q E];exact .nil
  ·rw[if_neg w]at z;obtain ⟨m,rfl,M,O,J,N⟩:=e q v z;refine {m,rfl,M,O,?_,Pd.imp N (LL.imp tk)};rw[aX (gX J D (by intro z;cases z))];exact J
 ·rw[lV E]at s t;by_cases A:q=p <;> by_cases C:r=p
  ·rw[A,C]
  ·rw[if_pos A]at s;rw[if_neg C]at t;cases s;exact absurd t (G r)
  ·rw[if_neg A]at s;rw[if_pos C]at t;cases t;exact absurd s (G q)
  ·rw[if_neg A]at s;rw[if_neg C]at t;exact g q r m s t
def BI.mono(B:BI H H1 d f m)(h:m<=n):BI H H1 d f n:=by obtain ⟨g,a,b,c⟩:=B.ex;exact {B.same,B.dn,g,a,A5 b h,c}
def BI.non(B:BI H H1 d f n)(h:H1 l=none):H l=none:=by
 cases e:H l with
|none=>rfl
|some o=>rw[B.same _ _ e]at h;cases h
def BI.more(B:BI H H1 d f n)(m:H1 d=some (.dK kvs))(s:bP kvs p=some (.ref l))(o:H1 l=some (.lst xs))(c:H1 q=none)(g:upd H1 q (.lst []) t=none):
  BI H (upd (upd (upd H1 q (.lst [])) t (.tup [.int x.1,kV x.2])) l (.lst (xs++[.ref t]))) d (ZQ f p x) (n+1):=
 (((B.alloc c).alloc g).old (aO g (aO c m)) s (aO g (aO c o)) aC).mono (U9 _)
def BI.new(B:BI H H1 d f n)(g:H1 d=some (.dK kvs))(A:bP kvs p=none)(c:H1 l=none)(w:upd (upd H1 l (.lst [])) d (.dK (kvs++[(p,.ref l)])) t=none):
  BI H (upd (upd (upd (upd H1 l (.lst [])) d (.dK (kvs++[(p,.ref l)]))) t (.tup [.int x.1,kV x.2])) l (.lst ([]++[.ref t]))) d (ZQ f p x) (n+1):=by
 have s:l≠d:=fun z=>by subst z;rw[c]at g;cases g
 have E:=(B.alloc (o:=.lst []) c).key (l:=l) (aO c g) A aC (B.non c) (fun q z=>by
  obtain ⟨D,a,_,_,e,_⟩:=B.ex;rw[g]at a;cases a;obtain ⟨m,G,_,I,C,_⟩:=e q _ z;cases G;rw[c]at C;cases C)
 exact (E.alloc w).old (aO w aC) (by rw[lV A,if_pos rfl]) (aO w (by rw[aX s];exact aC)) aC
def EW(net:List (jV aR))(i:Nat)(f:aR->List (Nat×aR)):Prop:=∀q k x,(k,x)∈f q↔k<i/\∃r,net[k]?=some r/\Jn r q x
def EW.zero:EW net 0 (fun _=>[]):=fun q k x=>{fun h=>by simp at h,fun h=>absurd h.1 (X8 _)}
def EW.next(h:EW net i f)(g:net[i]?=some r):EW net (i+1) (ZQ (ZQ f r.1 (i,r.2.1)) r.2.1 (i,r.1)):=by
 intro q k x;have m:(k,x)∈ZQ (ZQ f r.1 (i,r.2.1)) r.2.1 (i,r.1) q↔(k,x)∈f q∨(q=r.1/\k=i/\x=r.2.1)∨(q=r.2.1/\k=i/\x=r.1):=by unfold ZQ;split <;> split <;> simp_all
 rw[m,h q k x];constructor
 ·rintro (⟨s,c⟩|⟨rfl,rfl,rfl⟩|⟨rfl,rfl,rfl⟩)
  ·exact {by lia,c}
  ·exact {by lia,r,g,.inl {rfl,rfl}}
  ·exact {by lia,r,g,.inr {rfl,rfl}}
 ·rintro ⟨s,t,c,o⟩;by_cases hk:k=i
  ·subst hk;rw[g]at c;cases c;rcases o with ⟨rfl,rfl⟩|⟨rfl,rfl⟩
   ·exact .inr (.inl {rfl,rfl,rfl})
   ·exact .inr (.inr {rfl,rfl,rfl})
  ·exact .inl {by lia,t,c,o}
def iU(h:∀q,(f q).length<=n)(q:aR):(ZQ f p x q).length<=n+1:=by
 unfold ZQ;have:=h q;split
 ·rw[q4];simp;exact this
 ·lia
def Eb(H:Hp)(d:c8)(net:List (jV aR)):Prop:=∃kvs f,H d=some (.dK kvs)/\EW net net.length f/\(∀q,(f q).length<=2*net.length)/\(∀p,bP kvs p=none->f p=[])/\∀p v,bP kvs p=some v->∃l,v=.ref l/\LQ LL H l (f p)
def BI.bes(B:BI H H1 d f n)(h:EW net net.length f)(o:∀q,(f q).length<=2*net.length):Eb H1 d net:=by obtain ⟨m,a,b,c,e,g⟩:=B.ex;exact {m,f,a,h,o,c,fun p v z=>let ⟨l,a,b,c⟩:=e p v z;{l,a,c}}
theorem kR{q:Type}[DecidableEq q]:∀{l m:List q},l.Nodup->(∀x∈l,x∈m)->l.length<=m.length
|[],_,_,_=>C9 _
|a::l,m,f,h=>by
  rw[V4]at f;have g:=h a (by simp);have:=kR (l:=l) (m:=m.erase a) f.2 fun x o=>by have c:x≠a:=fun z=>f.1 (by rw[←z];exact o);exact (List.mem_erase_of_ne c).mpr (h x (by simp[o]))
  have s:=List.length_erase_of_mem g;have t:0<m.length:=vw g;rw[J2];lia
def QF{kvs:List (aR×V)}{k:aR}{v:V}(h:k∉kvs.map (·.1)):eK kvs k v=kvs++[(k,v)]:=by unfold eK;rw[if_neg];intro z;obtain ⟨x,c,e⟩:=Y0.mp z;exact h (u8.mpr {x,c,of_decide_eq_true e})
def RZ{c:Type}{m:AL aR c}{k:aR}{v:c}(h:k∉m.map (·.1)):eS m k v=m++[(k,v)]:=by unfold eS;rw[if_neg];intro z;obtain ⟨x,f,e⟩:=Y0.mp z;exact h (u8.mpr {x,f,of_decide_eq_true e})
theorem lM:∀{c kvs:List (aR×V)},((kvs++c).map (·.1)).Nodup->iK kvs c=kvs++c
|[],kvs,_=>by simp[iK]
|kv::r,kvs,f=>by
  have g:kv.1∉kvs.map (·.1):=by rw[z9,W3]at f;intro z;exact f.2.2 _ z kv.1 (by simp) rfl
  show iK (eK kvs kv.1 kv.2) r=_;rw[QF g,lM (by simpa using f)];simp
section
variable {te:TE}{Q:VK}{H:Hp}{az:St}
def VM(hn:kvs.length<=1000)(s:c8->Nat->List V->Hp->Prop)(h0:∀c,H c=none->s c 0 [] (upd H c (.lst [])))(w:∀c i ys g,H c=none->i<=kvs.length->s c i ys g->g a=some (.frz o (.dK kvs)))(hs:∀c i ys g k v,H c=none->kvs[i]?=some (k,v)->ys.length=i->g c=some (.lst ys)->s c i ys g->te (some (kV k)::az) g (yP kvs.length c (s c) ys i))(C:∀c ys g,H c=none->g c=some (.lst ys)->ys.length=kvs.length->s c kvs.length ys g->Q (.ref c) g):kI te none (hX 0) (B6 1 none) az Q (Mb a o kvs) H:=by
 intro c f;refine {cW kvs.length c (s c),{kvs.length,by simp,C9 _,rfl,aC,h0 c f},?_};rintro i m ys g ⟨rfl,D,B,t,p⟩;have q:=w c i ys g f D p;refine {t,?_};by_cases A:i<kvs.length
 ·refine .inr {eE (by lia),{q,A},fun I x G E y=>?_};obtain ⟨rfl,k,v,e,rfl⟩:=y;obtain ⟨o,rfl⟩:=QW E;exact {{[some (kV k)],rfl,rfl},hs c i ys _ k v f e B t p}
 ·have e:i=kvs.length:=by lia
  subst e;exact .inl {{q,j8 _},C c ys g f t B p}
end
def pU(a b:c8)(H H':Hp):Prop:=∀c o,c≠a->c≠b->H c=some o->H' c=some o
def pU.refl(H:Hp):pU a b H H:=fun _ _ _ _ h=>h
def pU.trans(x:pU a b H H1)(y:pU a b H1 H2):pU a b H H2:=fun c o f g h=>y c o f g (x c o f g h)
def aJ.kp2(s:aJ H H'):pU a b H H':=fun c o _ _ h=>s _ _ h
def pU.l:pU a b H (upd H a o):=fun c u f _ h=>by rw[aX f];exact h
def pU.r:pU a b H (upd H b o):=fun c u _ f h=>by rw[aX f];exact h
def pU.tk(k:pU a b H H')(c:H a=some (.dK x))(f:H b=some (.dK y)):TK H H':=fun p g h=>k p _ (gX h c (by intro z;cases z)) (gX h f (by intro z;cases z)) h
def pU.lst(k:pU a b H H')(c:H a=some (.dK x))(f:H b=some (.dK y))(h:H p=some (.lst xs)):H' p=some (.lst xs):=k p _ (gX h c (by intro z;cases z)) (gX h f (by intro z;cases z)) h
def pU.same(k:pU a b H H')(s:aJ H0 H)(f:H0 a=none)(g:H0 b=none):aJ H0 H':=fun c o h=>k c o (aD h f) (aD h g) (s _ _ h)
structure tJ(H:Hp)(l:c8)(net:List (jV aR))(D M:Nat):Prop where
 lq:LQ nE H l net
 len:net.length<=120
 bd:∀r∈net,Bd D M r.2.2
 pos:∀r∈net,0<r.2.2
structure SI(H:Hp)(l:c8)(ps:List (aR×Rat))(D M:Nat):Prop where
 lq:LQ vY H l ps
 len:ps.length<=100
 bd:∀r∈ps,Bd D M r.2
structure SH(H:Hp)(v:V)(ts:List (aR×Rat)):Prop where
 lq:(v=.non/\ts=[])∨∃l,v=.ref l/\LQ vY H l ts
 len:ts.length<=100
 sz:∀r∈ts,Sz 8000 r.2
structure IX(D M:Nat):Prop where
 ne:D≠0
 d:D<2^8000
 m:M*1000*D<2^8000
def IX.sz(R:IX D M)(h:Bd D N q)(hn:N<=M*1000):Sz 8000 q:=h.sz R.ne R.d (E3 (lh _ hn) R.m)
def LQ.sm{c:Type}{R:Hp->V->c->Prop}{H H':Hp}{l:c8}{ds:List c}(h:LQ R H l ds)(f:∀ {H H' v b},R H v b->TK H H'->R H' v b)(s:aJ H H'):LQ R H' l ds:=h.same (fun v b q=>f q s.tk) s
def DQ.sm{c:Type}{R:Hp->V->c->Prop}{H H':Hp}{l:c8}{ds:List (aR×c)}(h:DQ R H l ds)(f:∀ {H H' v b},R H v b->TK H H'->R H' v b)(s:aJ H H'):DQ R H' l ds:=let ⟨k,a,b⟩:=h;{k,s _ _ a,b.imp fun v b q=>f q s.tk}
def tJ.sm(h:tJ H l net D M)(s:aJ H H'):tJ H' l net D M:={h.lq.sm nE.tk s,h.len,h.bd,h.pos}
def SI.sm(h:SI H l ps D M)(s:aJ H H'):SI H' l ps D M:={h.lq.sm vY.tk s,h.len,h.bd}
def SH.sm(h:SH H v ts)(s:aJ H H'):SH H' v ts:={h.lq.imp id fun ⟨l,e,q⟩=>{l,e,q.sm vY.tk s},h.len,h.sz}
def Eb.k2(h:Eb H d net)(k:pU a b H H')(g:H a=some (.dK x))(m:H b=some (.dK y))(o:d≠a)(q:d≠b):Eb H' d net:=by obtain ⟨c,f,A,B,C,D,E⟩:=h;refine {c,f,k _ _ o q A,B,C,D,fun p v e=>?_};obtain ⟨l,rfl,w,s,t⟩:=E p v e;exact {l,rfl,w,k.lst g m s,Pd.imp t (LL.imp (k.tk g m))}
def Eb.sm(h:Eb H d net)(s:aJ H H'):Eb H' d net:=by obtain ⟨c,f,g,m,o,t,w⟩:=h;exact {c,f,s _ _ g,m,o,t,fun p v e=>let ⟨l,a,q⟩:=w p v e;{l,a,q.sm LL.tk s}}
section
variable {σ:St}{H:Hp}{Q:VK}{K:v9}
def Oi(h:SH H vt ts)(k:∀lt H1,aJ H H1->LQ vY H1 lt ts->Q (.ref lt) H1):∃b,yV K vt H b/\if b=true then Q vt H else PY CD σ H Q:=by
 have hn:ts=[]->PY CD σ H Q:=fun e=>by subst e;exact Fp (Fo (cE fun p hp=>k p _ (aJ.new hp) {[],aC,.nil}))
 rcases h.lq with ⟨rfl,e⟩|⟨l,rfl,q⟩
 ·exact He (R:=fun b H=>if b=true then Q .non H else PY CD σ H Q) (hn e)
 ·obtain ⟨g,c,f⟩:=q;refine Hf (R:=fun b H=>if b=true then Q (.ref l) H else PY CD σ H Q) c ?_;cases f with
 |nil=>exact hn rfl
 |cons a b=>exact k l H (aJ.refl _) {_,c,.cons a b}
def Iw(B:Eb H d net)(hz:H z=some (.lst []))(k:∀l L,LQ LL H l L->L.length<=2*net.length->(∀j x,(j,x)∈L↔∃r,net[j]?=some r/\Jn r c x)->Q (.ref l) H):∃o,pG H d (kV c) o/\Q (o.getD (.ref z)) H:=by
 obtain ⟨g,f,t,w,s,A,C⟩:=B;refine {bP g c,.inl {g,c,.inl t,rfl,rfl},?_};have m:∀j x,(j,x)∈f c↔∃r,net[j]?=some r/\Jn r c x:=fun j x=>by rw[w c j x];exact {fun h=>h.2,fun h=>{let ⟨r,e,_⟩:=h;(h8.mp e).1,h}}
 cases e:bP g c with
|none=>exact k z (f c) (by rw[A c e];exact {[],hz,.nil}) (s c) m
|some v=>obtain ⟨l,rfl,q⟩:=C c v e;exact k l (f c) q (s c) m
end
def LI{f:Type}{m:AL aR f}{k:aR}(h:bG m k=none):k∉m.map (·.1):=fun z=>by obtain ⟨y,c,rfl⟩:=u8.mp z;exact iM h y.2 c
def Ab{K:v9}{H:Hp}{p:c8}{kvs:List (aR×V)}{A B:Prop}(h:H p=some (.dK kvs))(k1:kvs≠[]->A)(k2:kvs=[]->B):∃k,yV K (.ref p) H k/\if k=true then A else B:=by
 refine Hg (R:=fun k _=>if k=true then A else B) h ?_;cases kvs with
|nil=>exact k2 rfl
|cons a b=>exact k1 (by simp)
def lU.imp(I:lU net push tk C W F)(h:∀q k x r,net[k]?=some r->Jn r q x->C' q k x->C q k x):lU net push tk C' W F:=
 {I.ndW,I.ndF,I.dis,I.sup,I.ord,I.mono,I.psh,fun q e o k r p c f g m=>I.clo q e o k r p c f (h q k p r c f g) m}
noncomputable def univ(net:List (jV aR))(ps:List (aR×Rat)):List aR:=ps.map (·.1)++(net.map (·.1)++net.map (·.2.1))
theorem Gu.univ(h:Gu net (bG (lst ps)) tk F p e):p∈univ net ps:=by
 obtain ⟨t,o⟩:=e;cases o with
|none=>
  have:=mS (cQ (show bG (lst ps) p=some t from h));exact D2 _ (u8.mpr {_,this,rfl})
|some m=>
  obtain ⟨r,e,f,g,_⟩:=h;have c:=o0 f;refine u9 _ ?_;rcases g with ⟨_,rfl⟩|⟨_,rfl⟩
  ·exact u9 _ (u8.mpr {r,c,rfl})
  ·exact D2 _ (u8.mpr {r,c,rfl})
def lU.lens{tk:Nat->Option Rat}{C:aR->Nat->aR->Prop}(I:lU net (bG (lst ps)) tk C W F):W.length<=ps.length+2*net.length/\F.length<=ps.length+2*net.length:=by
 have o:(univ net ps).length=ps.length+2*net.length:=by simp[univ];lia
 rw[←o];constructor
 ·have:=kR (m:=univ net ps) I.ndW fun x c=>by
   obtain ⟨y,f,rfl⟩:=u8.mp c;exact (I.sup y.1 y.2 f).univ
  rwa[i8]at this
 ·have:=kR (m:=univ net ps) I.ndF fun x c=>by
   obtain ⟨y,f,rfl⟩:=u8.mp c;obtain ⟨i,g⟩:=P8 f;exact (I.ord i y.1 y.2 g).univ
  rwa[i8]at this
theorem sQ{c:Type}{R:Hp->V->c->Prop}{H:Hp}:∀{ys:List V}{m:List (aR×c)},Paired (fun v (x:aR×c)=>∃a u,v=.ref a/\H a=some (.tup [kV x.1,u])/\R H u x.2) ys m->∃kvs,EO H ys kvs/\KQ R H kvs m
|_,_,.nil=>{[],.nil,.nil}
|_,_,.cons (b:=b) r t=>by obtain ⟨a,u,rfl,f,g⟩:=r;obtain ⟨kvs,p,q⟩:=sQ t;exact {(b.1,u)::kvs,.cons {a,rfl,f} p,.cons {rfl,g} q}
def jB:ZG (cD X scope az N C s0 H0 ex) (AV X.K):=aS
abbrev eO:=Str×Str×Rat
noncomputable def kn(n:List eO):List (jV aR):=n.map fun r=>(c9 r.1,c9 r.2.1,r.2.2)
noncomputable def names(n:List eO):List Str:=n.map (·.1)++n.map (·.2.1)
def XR{i:Nat}(h:(kn n)[i]?=some r):∃s,n[i]?=some s/\r=(c9 s.1,c9 s.2.1,s.2.2):=by
 unfold kn at h;rw[m5]at h;cases e:n[i]? with
|none=>rw[e]at h;cases h
|some s=>rw[e]at h;exact {s,rfl,(j5 h).symm}
def fM(H:Hp)(v:V)(o:Option Rat):Prop:=match o with|none=>v=.non|some q=>cI H v q
def fM.tk(h:fM H v o)(t:TK H H'):fM H' v o:=by
 cases o with
|none=>exact h
|some q=>exact cI.tk h t
def pN(c:b≠0):(j7 t b).num=eY t b/\((j7 t b).den:Int)=fB t b:=VB c (sW c) (Cq c) (uB c)
def cI.low(c:b≠0)(h:H p=some (.tup [.int (eY t b),.int (fB t b)])):cI H (.ref p) (j7 t b):={p,rfl,by rw[h,(pN c).1,(pN c).2]}
def Cp(f:0<t)(c:0<b):0<j7 t b:=by
 rw[Rat.lt_iff,(pN (t:=t) (b:=b) (by lia)).1];show (0:Int)*_<eY t b*1;rw[Int.zero_mul,xz];have e:=uB (t:=t) (b:=b) (by lia);have hp:=sW (t:=t) (b:=b) (by lia);have:0<eY t b*b:=by rw[e];exact ij f hp
 exact vy this c
noncomputable abbrev Lv:Str:=J7 "abcdefghijklmnopqrstuvwxyz"
def PL:Lv.length=26:=by k_is
def EM:∀j:Nat,j<26->vD Lv.cps.toList (j:Int)=some (97+j):=by k_is
section
variable {H:Hp}{Q:VK}{K:v9}
def NQ(hz:z.length<=100000)(e:vD z.cps.toList i=some c)(k:Q (.str ⟨#[c]⟩) H):AV K (.str z) (.int i) H Q:=.inr (.inr {z,i,c,rfl,rfl,by rw[y9];lia,e,k})
def oK(h:a.length+b.length<=100000)(k:Q (.str (a++b)) H):HD K (.str a) (.str b) H Q:=.inr (.inr (.inr {a,b,rfl,rfl,by rw[y9];lia,k}))
end
def vK(a b:Str):(a++b).length=a.length+b.length:=by show (a.cps++b.cps).size=_;simp[Str.length]
theorem BQ:∀c:List Str,jH H (c.map Dt.str) (c.map V.str)
|[]=>rfl
|z::r=>{_,_,rfl,rfl,BQ r}
def YM{H:Hp}{p:c8}{c:List Str}(h:H p=some (.lst (c.map V.str))):nY H (.lst (c.map Dt.str)) (.ref p):={p,_,rfl,h,BQ c}
theorem IJ:∀c:List Str,iL (c.map Dt.str)<=50
|[]=>by decide
|z::r=>by show max 0 (iL (r.map Dt.str))<=50;have:=IJ r;lia
def Kp.sm(k:Kp p H1 H2)(s:aJ H H1)(hp:H p=none):aJ H H2:=fun b o h=>k _ _ (aD h hp) (s _ _ h)
def Kd(m:LQ nE H l (kn n))(g:n.length<=120)(f:∀r∈n,Bd D M r.2.2)(hp:∀r∈n,0<r.2.2):tJ H l (kn n) D M:=by
 refine {m,by simpa[kn] using g,fun r c=>?_,fun r c=>?_}
 ·obtain ⟨s,hs,rfl⟩:=u8.mp c;exact f s hs
 ·obtain ⟨s,hs,rfl⟩:=u8.mp c;exact hp s hs
noncomputable def Dl(q:Rat):Dt:=.tup [.int q.num,.int q.den]
def uG(h:cI H v q):nY H (Dl q) v:=let ⟨p,e,h⟩:=h;e▸Tj h
noncomputable abbrev sA:Str:=J7 "a"
noncomputable abbrev sB:Str:=J7 "b"
def n0:List eO:=[(sA,sB,j7 1 2)]
def Rq:List (aR×Rat):=[(c9 sB,j7 1 3)]
def XH(f:0<t)(c:0<b):0<eY t b:=by
 have e:=uB (t:=t) (b:=b) (by lia);have hp:=sW (t:=t) (b:=b) (by lia);have:0<eY t b*b:=by rw[e];exact ij f hp
 exact vy this c
def Ao(k:Q (.int 1000000000000) H):rI ZL (fun i j=>.int (i^j.toNat)) (.int 10) (.int 12) H Q:=Fu {by decide,by decide,by decide} k
end L2
namespace L2
open PySem PySem.Spec PySem.W PySem.Calls PyProof.Rows PySem.Builtin PySem.Builtin.ObjectAttr PySem.Builtin.Getset_descriptor
structure uH(K:v9)(C:c8):Prop where
 ga:findIn K (.ref C) "__getattribute__"=some (some (.builtin "BaseException.__getattribute__"))
 gt:findIn K (.ref C) "__getattr__"=some none
 ca:findIn K (.ref C) "__class__"=some (some (.builtin "object.__class__"))
 ob:subIn K (.ref C) (.type "object")=some true
 be:subIn K (.ref C) (.type "BaseException")=some true
 ic:(clsIn K C).isSome=true
def uH.obj{K:v9}{C:c8}(Z:uH K C):∃c d f g,K.lookup C=some {c,d,.cls f,g}:=by
 have q:=Z.ic;unfold clsIn at q;split at q
 ·exact {_,_,_,_,by assumption}
 ·cases q
def zN(a C:c8)(h:A7):Prop:=∃o,h.get? a=some o/\o.cls=.ref C
def zN.ty(M:Model)(p:zN a C h):Looks M h (typeOf (.ref a)) (.ref C):=by obtain ⟨o,c,g⟩:=p;have q:=(Looks.ld (M:=M) (part:=some headPart) c).andThen (f:=fun o=>K0 o.cls) .now;rw[g]at q;exact q
section
variable {prog:m7}{w:y6}{A:A2}{E:c7->f9->Prop}{s:f9}{K:v9}{x C:c8}
def FA(Z:uH K C)(X:K.In s.heap)(p:zN x C s.heap)(h:R (.ok (.ret (.ref C))) s):
  T5 (j3 prog w) A (.call (.builtin "getset_descriptor.__get__") {[.builtin "object.__class__",.ref x,tp],[]}) R s:=by
 obtain ⟨o,m,g,t,q⟩:=s;have c:=p.ty (j3 prog w);have f:=looks_subIn (M:=j3 prog w) X Z.ob;refine mr (h:=KF.slot_gs.check _ _ _ _ _ _ _ _ KF.type_class (KF.args_gs _ _ _) ?_) KF.slot_gs.plain KF.entry_gs;unfold E8.«getset_descriptor.__get__»;unfold descrGet;rw[dga_obj];refine c6 (i0 ?_);unfold descrGetter descrCheckInstance;unfold descrNameAndClass pj;simp only[KF.owner_class]
 repeat lk
 refine {No.quiet_builtin _ (by k_is),?_};refine C1 KF.entry_class ?_;unfold E8.«object.__class__»;unfold shownTypeOf
 repeat lk
 exact h
def ZU(Z:uH K C)(X:K.In s.heap)(p:zN x C s.heap)(h:Q () s):i6 (j3 prog w) A (sy "BaseException.__getattribute__" {[.ref x,nameV],[]}) Q E s:=by
 obtain ⟨t,q,o,G,D⟩:=s;have c:builtinKind "BaseException.__getattribute__"=some .slot:=by k_is
 have f:splitId "BaseException.__getattribute__"=some ("BaseException","__getattribute__"):=by k_is
 have g:=p.ty (j3 prog w);have m:=looks_subIn (M:=j3 prog w) X Z.be;have B:=F.args_bexc_ga (.ref x) nameV;simp only[sy,c,f];refine c6 ?_
 ·unfold pj
  repeat (first|lk|wp_step)
  exact h
def ZT(Z:uH K C)(X:K.In s.heap)(p:zN x C s.heap)(h:Q (.done (.ret (.ref C))) s):
  i6 (j3 prog w) A (E8.«object.__getattribute__» {[.ref x,.str "__class__" tk],[]}) Q E s:=by
 obtain ⟨B,t,q,J,I⟩:=s;have m:=p.ty (j3 prog w);have c:=looks_findIn (M:=j3 prog w) X Z.ca;have D:=F.typeOf_object_class;have G:=F.slot_gs_get.lookup;have H:=F.slot_gs_set.lookup;obtain ⟨o,g,f⟩:=id p
 repeat (any_goals (first|assumption|(with_reducible refine wpAny_loadPart_at g ?_;rw[f])|with_reducible refine c.here ?_|wp_step))
 refine FA Z X p ?_
 repeat any_goals (first|assumption|wp_step)
def Gx(Z:uH K C)(X:K.In s.heap)(p:zN x C s.heap)(h:R (.ok (.ret (.ref C))) s):
  T5 (j3 prog w) A (.call (.builtin "BaseException.__getattribute__") {[.ref x,.str "__class__" tk],[]}) R s:=
 mr F.attr_ValueError.ga.plain F.entry_bexc_ga (ZU Z X p (ZT Z X p h))
def Sb(Z:uH K C)(X:K.In s.heap)(p:zN x C s.heap)(h:Q (.ref C) s):
  i6 (j3 prog w) A (getAttrBy (.ref x) (.str "__class__" tk) false) Q E s:=by
 obtain ⟨G,D,t,J,I⟩:=s;have q:=p.ty (j3 prog w);have c:=looks_findIn (M:=j3 prog w) X Z.ga;have f:=looks_findIn (M:=j3 prog w) X Z.gt;have B:=F.attr_ValueError.ga.bind (.ref x);have n2:(Y5 "BaseException.__getattribute__"==Y5 "object.__getattribute__")=false:=by k_is
 have H:(onTheHeap (j9 C)&&Y5 "BaseException.__getattribute__"==Y5 "object.__getattribute__")=false:=by rw[n2];rfl
 have n0:(false&&onTheHeap (Y5 "BaseException.__getattribute__"))=false:=rfl;obtain ⟨o,m,g⟩:=id p
 repeat (any_goals (first|assumption|(with_reducible refine wpAny_loadPart_at m ?_;rw[g])|with_reducible refine c.here ?_|with_reducible refine f.here ?_|wp_step))
 refine Gx Z X p ?_
 repeat any_goals (first|assumption|wp_step)
def Mp(Z:uH K C)(X:K.In s.heap)(p:zN x C s.heap)(h:Q (some (.ref C)) {s with toks:=s.toks+1}):i6 (j3 prog w) A (HL (.ref x) "__class__") Q E s:=by obtain ⟨g,f,c,o,m⟩:=s;unfold HL getAttrBy?;exact c6 (wpAny_mkText (c6 (U5 (Sb (s:={g,f,c,o+1,m}) Z X p (i0 h)))))
end
def XS{K:v9}{a C:c8}(Z:uH K C):KitX K (.ref a) (.ref C) (zN a C) where
 ty:=fun M h _ p=>p.ty M
 it:=fun M h X _=>by obtain ⟨c,d,m,o,f⟩:=Z.obj;intro s w t A k q;unfold isType loadHead;exact c6 (wpAny_loadPart (k C _ (X C _ f)) (i0 q))
 ne:=fun h b _ _ _ _ X g=>by
  obtain ⟨c,d,m,o,f⟩:=Z.obj;refine Bool.eq_false_iff.mpr ?_;intro q;obtain rfl:C=b:=j9.inj (beq_iff_eq.mp q);rw[X C _ f]at g;cases g
 ca:=fun X p k=>Mp Z X p k
end L2
namespace L2
open PySem PySem.Spec PyProof.Rows
structure pD(fs xs:List c8)(h h':A7):Prop where
 keep:∀b o,h.get? b=some o->b∉fs->b∉xs->h'.get? b=some o
 slot:∀b o,h.get? b=some o->b∈fs->b∉xs->∃sl,h'.get? b=some {o with slots:=sl}
section
variable {fs xs:List c8}{h h0 h':A7}{H H':Hp}{P:m7}{w:y6}
def pD.there(k:pD fs xs h h')(e:h.get? b=some o)(n:b∉xs):∃f,h'.get? b=some {o with slots:=f}:=by
 by_cases c:b∈fs
 ·exact k.slot b o e c n
 ·exact {o.slots,k.keep b o e c n}
def pD.mv(k:pD (L::fs) xs h h'):pD fs (L::xs) h h' where
 keep:=fun b o e n m=>k.keep b o e (fun z=>(w6.mp z).elim (fun q=>m (q▸J1)) n) fun z=>m (B4 _ z)
 slot:=fun b o e n m=>k.slot b o e (B4 _ n) fun z=>m (B4 _ z)
def cS.at(x:cS P w H h a o):∃g,h.get? a=some g:=by
 cases o with
|lst xs=>obtain ⟨_,_,_,_,e⟩:=x;exact {_,e}
|tup xs=>obtain ⟨_,_,_,⟨o,e,_⟩⟩:=x;exact {_,e}
|dK c=>obtain ⟨_,_,_,_,o,_,_,e,_⟩:=x;exact {_,e}
|dT c=>obtain ⟨_,_,_,_,o,_,_,e,_⟩:=x;exact {_,e}
|set S n=>obtain ⟨o,_,_,_,e,_⟩:=x;exact {_,e}
|ins C m fs=>obtain ⟨_,_,_,e,_⟩:=x;exact {_,e}
|own y=>obtain ⟨_,e⟩:=x;exact {_,e}
|xd fs=>obtain ⟨_,⟨_,_,_,e,_⟩,_⟩:=x;exact {_,e}
|rng lo q=>obtain ⟨_,_,_,e⟩:=x;exact {_,e}
|frz g u=>obtain ⟨e,_⟩:=x;exact {_,e}
|tbl s=>exact {_,(show h.get? a=some _ from x)}
|met f y=>exact {_,(show h.get? a=some _ from x)}
|ext t=>obtain ⟨_,⟨_,e⟩,_⟩:=x;exact {_,e}
def lS.none_of(x:lS P w H h)(e:h.get? a=none):H a=none:=by
 cases q:H a with
|none=>rfl
|some o=>
  obtain ⟨c,z⟩:=(x a o q).at;rw[e]at z;cases z
def lS.kpt(ok:lS P w H h)(k:pD fs xs h h')(g:∀b∈fs,H b=none)(m:∀b∈xs,H b=none):lS P w H h':=fun a o e=>by
 have c:∀b u,H b=some u->b∉fs/\b∉xs:=fun b u q=>{fun z=>(by rw[g b z]at q;cases q),fun z=>(by rw[m b z]at q;cases q)}
 refine (ok a o e).stay (fun b u f q=>?_) (fun _ q=>q) fun _ _ q=>q;rcases f with rfl|f
 ·exact k.keep b u q (c b o e).1 (c b o e).2
 ·exact k.keep b u q (c b _ f).1 (c b _ f).2
def lS.track(ok:lS P w H h)(hn:H a=none)(new:cS P w (upd H a o) h a o):lS P w (upd H a o) h:=fun b u q=>by
 by_cases f:b=a
 ·subst f;rw[aC]at q;cases q;exact new
 ·rw[aX f]at q;exact (ok b u q).stay (fun _ _ _ z=>z) (fun c r=>by rw[aX (aD r hn)];exact r) fun c xs r=>by rw[aX (aD r hn)];exact r
def Un.kpt(u:Un fs [] H H' h0 h)(k:pD fs xs h h')(t:∀b∈xs,h0.get? b=none):Un fs [] H H' h0 h':=by
 have g:∀b o,h0.get? b=some o->b∉xs:=fun b o e z=>by rw[t b z]at e;cases e
 refine {fun b o e n c f=>k.keep b o (u.keep b o e n c f) c (g b o e),fun b o e n c f=>?_,u.free,fun b o e f=>?_,u.tups,u.frzs,u.tbls}
 ·obtain ⟨A,q⟩:=u.slot b o e n c f;obtain ⟨s,m⟩:=k.slot b _ q c (g b o e);exact {s,m}
 ·obtain ⟨B,q⟩:=u.there b o e f;obtain ⟨A,m⟩:=k.there q (g b o e);exact {_,m}
def Un.track(u:Un fs ex H H' h h')(hn:H' a=none)(f:h.get? a=none):Un fs ex H (upd H' a o) h h' where
 keep:=u.keep
 slot:=u.slot
 free:=fun b c e n g=>by rw[aX (fun z=>by rw[z,f]at e;cases e)];exact u.free b c e n g
 there:=u.there
 tups:=fun b xs q=>by rw[aX (aD (u.tups b xs q) hn)];exact u.tups b xs q
 frzs:=fun b c xs q=>by rw[aX (aD (u.frzs b c xs q) hn)];exact u.frzs b c xs q
 tbls:=fun b s q=>by obtain ⟨m,e⟩:=u.tbls b s q;exact {m,by rw[aX (aD e hn)];exact e}
def Un.was(u:Un fs [] H H' h h')(e:h'.get? a=none):h.get? a=none:=by
 cases q:h.get? a with
|none=>rfl
|some o=>
  obtain ⟨c,z⟩:=u.there a o q (by simp);rw[e]at z;cases z
end
def LO(x T C:c8)(fl:c7)(h:A7):Prop:=∃oe vs oT ts,h.get? x=some oe/\oe.cls=.ref C/\oe.data=.fields vs/\vs[1]?=some (.ref T)/\vs[2]?=some .none/\T≠x/\h.get? T=some oT/\oT.data=.fields ts/\ts[3]?=some fl
abbrev ZI(x T C:c8)(h:A7):Prop:=LO x T C .none h
def Rm(x C:c8)(h:A7):Prop:=∃o vs,h.get? x=some o/\o.cls=.ref C/\o.data=.fields vs/\vs[2]?=some .none
def Rm.kitR(f:Rm x C h):zN x C h:=by obtain ⟨g,_,e,c,_⟩:=f;exact {g,e,c}
def LO.exR(f:LO x T C fl h):Rm x C h:=by obtain ⟨g,m,_,_,e,c,d,_,z,_⟩:=f;exact {g,m,e,c,d,z}
def pD.refl:pD fs xs h h:={fun _ _ e _ _=>e,fun _ o e _ _=>{o.slots,e}}
def pD.upd(k:pD fs xs h h1)(f:Obj->Obj)(g:a∈xs∨h.get? a=none):pD fs xs h (h1.update a f):=by
 have c:∀b o,h.get? b=some o->b∉xs->a≠b:=fun b o e n z=>by
  rcases g with q|q
  ·exact n (z▸q)
  ·rw[z,e]at q;cases q
 exact {fun b o e n m=>(A9 _ _ (c b o e m)).trans (k.keep b o e n m),fun b o e n m=>(k.slot b o e n m).imp fun s q=>(A9 _ _ (c b o e m)).trans q}
def pD.push(k:pD fs xs h h1)(o:Obj):pD fs xs h (h1.push o):=
 {fun b u e n m=>e9 _ (k.keep b u e n m),fun b u e n m=>(k.slot b u e n m).imp fun c q=>e9 _ q}
section
variable {M:Model}{A:A2}{E:c7->f9->Prop}{s:f9}{base:A7}{env:Env}{outer l:List Env}{L x T C:c8}{Q:Unit->f9->Prop}
noncomputable def Ci(env:Env)(L x:c8)(head:c7)(b:Bool):Sem Unit:=frameOf env >>= fun a=>entryPlaceOf L b >>= fun pl=>um head a .none (C5 L) .none pl >>= fun v=>M8 (.ref x) 1 v
def IE(q:A.frames=some (env::outer))(W:env.frame=some L)(K:s.heap.FunFrames base (env::outer))(J:s.heap.get? x=some oe)(U:oe.cls=.ref C)(f:oe.data=.fields vs)(I:1<vs.size)(S:vs[2]?=some .none)(k:∀h' T',LO x T' C (C5 L) h'->s.heap.get? T'=none->pD (nV (env::outer)) [x] s.heap h'->Q () {s with heap:=h'}):i6 M A (Ci env L x head b) Q E s:=by
 have B:x∉nV (env::outer):=fun X=>by obtain ⟨_,o,N,hn⟩:=K.mem X;rw[J]at N;cases N;exact hn vs f
 refine c6 (wpAny_frameOf_fun q K W fun g c=>c6 (wpAny_entryPlaceOf fun P t=>c6 ?_));unfold um newFields;refine K3 ?_ (t.sizeOk5 _ _ _ _ _);generalize w:([head,j9 L,C6,C5 L,C6]++(if P.isEmpty then B6 6 C6 else P)).toArray=R;have G:g.get? x=some oe:=(c.2.1 x B).trans J;have O:g.objs.size≠x:=C3 (p7 G);have H:=e9 (h:=g) {cls:=.type "traceback",dict:=none,data:=.fields R} G;refine P4 H f I (k _ g.objs.size ?_ ?_ ?_)
 ·have D:=J3 f (·.setIfInBounds 1 (j9 g.objs.size));refine {_,_,_,R,C7 _ H (Y7 D),(gy _ _).trans U,D,by simp[I],?_,O,(A9 _ _ (q7 O)).trans (r9 g rfl),rfl,by rw[←w];simp};rw[Array.getElem?_setIfInBounds_ne (by decide)];exact S
 ·exact gh (io c.1.symm)
 ·refine pD.upd (pD.push {fun b o e n m=>(c.2.1 b n).trans e,fun b o e n m=>c.2.2 b o e} _) _ (.inl (by simp))
def vR(f:LO x T C fl s.heap)(k0:pD fs [x,T] h0 s.heap∨(pD fs [x] h0 s.heap/\h0.get? T=none))(k:∀h',ZI x T C h'->(pD fs [x,T] h0 h')->(h0.get? T=none->pD fs [x] h0 s.heap->pD fs [x] h0 h')->Q () {s with heap:=h'}):i6 M A (ya (.ref x) none) Q E s:=by
 obtain ⟨N,P,R,O,g,I,t,w,J,B,D,G,K⟩:=f;have H:3<O.size:=(U4.mp K).1;unfold ya;refine c6 (R4 g t w ?_);rw[if_pos (by simp)];have c:=J3 G (·.setIfInBounds 3 ((none:Option c8).elim C6 fun f=>C5 f));refine P4 D G H (k _ {N,P,_,_,(A9 _ _ B).trans g,I,t,w,J,B,C7 _ D (Y7 c),c,by simp[H]} ?_ fun q z=>z.upd _ (.inr q));rcases k0 with z|⟨z,q⟩
 ·exact z.upd _ (.inl (by simp))
 ·exact pD.upd {fun b o e n m=>z.keep b o e n fun y=>m (by simp at y;simp[y]),fun b o e n m=>z.slot b o e n fun y=>m (by simp at y;simp[y])} _ (.inl (by simp))
def YI(c:A.frames=some (env::outer))(o:env.frame=some L)(w:s.heap.FunFrames base (env::outer))(m:s.heap.get? x=some oe)(t:oe.cls=.ref C)(g:oe.data=.fields vs)(f:vs[1]?=some .none)(q:vs[2]?=some .none)(k:∀h' T',LO x T' C (C5 L) h'->s.heap.get? T'=none->pD (nV (env::outer)) [x] s.heap h'->Q () {s with heap:=h'}):i6 M A (nk (.ref x) env) Q E s:=by unfold nk;simp only[o];refine c6 (R4 m g f ?_);rw[if_neg (by decide)];exact IE c o w m t g (U4.mp f).1 q k
def ID(D:A.frames=some (env::outer))(N:env.frame=some L)(Y:s.heap.FunFrames base (env::outer))(f:ZI x T C s.heap)(k:∀h' g,LO x g C (C5 L) h'->s.heap.get? g=none->pD (nV (env::outer)) [x,T] s.heap h'->Q () {s with heap:=h'}):i6 M A (nk (.ref x) env) Q E s:=by
 obtain ⟨oe,vs,oT,Z,H,S,I,J,U,W,w,B,K⟩:=f;unfold nk;simp only[N];refine c6 (R4 H I J ?_);rw[if_pos (by simp)];refine c6 (R4 w B K ?_);rw[if_neg (by simp[C5])];refine c6 (P4 w B (U4.mp K).1 ?_);have c:∀b,b≠T->(s.heap.update T (iq (·.setIfInBounds 3 C6))).get? b=s.heap.get? b:=fun b t=>A9 _ _ (q7 t);have G:(s.heap.update T (iq (·.setIfInBounds 3 C6))).FunFrames base (env::outer):=Y.of_keeps fun b o t hn=>{o,(c b fun z=>by rw[z,w]at t;cases t;exact hn Z B).trans t,rfl}
 refine IE (s:={s with heap:=s.heap.update T (iq (·.setIfInBounds 3 C6))}) D N G ((c x (q7 W)).trans H) S I (U4.mp J).1 U fun h' g X P O=>k h' g X ?_ ?_
 ·cases z:s.heap.get? g with
 |none=>rfl
 |some o=>
   exfalso;by_cases q:g=T
   ·have R:=J3 B (·.setIfInBounds 3 C6);have:=C7 (iq (·.setIfInBounds 3 C6)) w (Y7 R);rw[←q,show A7.get? (s.heap.update g _) g=none from q▸P]at this;cases this
   ·have:=(c g q).trans z;rw[show A7.get? (s.heap.update T _) g=none from P]at this;cases this
 ·refine {fun b o e n m=>O.keep b o ((c b fun z=>m (by simp[z])).trans e) n fun y=>m (by simp at y;simp[y]),fun b o e n m=>O.slot b o ((c b fun z=>m (by simp[z])).trans e) n fun y=>m (by simp at y;simp[y])}
def RI(c:A.frames=some (env::outer))(K:env.frame=some L)(N:s.heap.FunFrames base (env::outer))(f:ZI x T C s.heap)(k:∀h' T',ZI x T' C h'->(T'=T∨s.heap.get? T'=none)->pD (nV (env::outer)) [x,T] s.heap h'->Q () {s with heap:=h'}):i6 M A (yu env (.ref x)) Q E s:=by
 unfold yu;refine c6 (ID c K N f fun t g H D w=>?_);refine vR (s:={s with heap:=t}) (h0:=t) (fs:=[]) H (.inl .refl) fun J I B _=>k J g I (.inr D) ?_;have G:∀b o,s.heap.get? b=some o->b∉[x,T]->b∉[x,g]:=fun b o e m z=>by
  rcases w6.mp z with z|z
  ·exact m (by simp[z])
  ·rw[i4.mp z,D]at e;cases e
 exact {fun b o e n m=>B.keep b o (w.keep b o e n m) (by simp) (G b o e m),fun b o e n m=>(w.slot b o e n m).imp fun O q=>B.keep b _ q (by simp) (G b o e m)}
def YH(g:A.frames=some (env::outer))(N:env.frame=some L)(O:s.heap.FunFrames base (env::outer))(f:ZI x T C s.heap)(k:∀h' T',ZI x T' C h'->(T'=T∨s.heap.get? T'=none)->pD (nV (env::outer)) [x,T] s.heap h'->Q () {s with heap:=h'}):
  i6 M A (nk (.ref x) env) (fun _ c=>i6 M A (ya (.ref x) none) Q E c) E s:=by
 refine ID g N O f fun w t I G B=>?_;refine vR (s:={s with heap:=w}) (h0:=w) (fs:=[]) I (.inl .refl) fun K J D _=>k K t J (.inr G) ?_;have H:∀b o,s.heap.get? b=some o->b∉[x,T]->b∉[x,t]:=fun b o e m z=>by
  rcases w6.mp z with z|z
  ·exact m (by simp[z])
  ·rw[i4.mp z,G]at e;cases e
 exact {fun b o e n m=>D.keep b o (B.keep b o e n m) (by simp) (H b o e m),fun b o e n m=>(B.slot b o e n m).imp fun P q=>D.keep b _ q (by simp) (H b o e m)}
def RK(f:ZI x T C s.heap)(k:∀h',ZI x T C h'->pD (nV l) [x,T] s.heap h'->Q () {s with heap:=h'}):i6 M A (ya (.ref x) none) Q E s:=
 vR f (.inl (pD.refl (fs:=nV l))) fun h' c g _=>k h' c g
def RJ(f:A.frames=some (env::outer))(I:env.frame=some L)(J:s.heap.FunFrames base (env::outer))(H:s.heap.get? x=some oe)(D:oe.cls=.ref C)(G:oe.data=.fields vs)(B:vs[1]?=some .none)(c:vs[2]?=some .none)(k:∀h' T',ZI x T' C h'->s.heap.get? T'=none->pD (nV (env::outer)) [x] s.heap h'->Q () {s with heap:=h'}):i6 M A (yu env (.ref x)) Q E s:=by unfold yu;refine c6 (YI f I J H D G B c fun g q t m o=>?_);exact vR (s:={s with heap:=g}) t (.inr {o,m}) fun c w _ K=>k c q w m (K m o)
end
noncomputable def IF(x C:c8):HO:=.ext (Rm x C)
def Db(k:Rm x C h):cS P w H h x (IF x C):=
 {k,(let ⟨o,_,e,_⟩:=k;{o,e}),fun _ _ ⟨o,f,e,c⟩ kp=>{o,f,kp o e,c}}
def EU(P:m7)(w:y6):BZ:=fun outer H s E e s'=>∃x T C H',e=j9 x/\s'.os=s.os/\jd s'.gens/\Un (nV outer) [] H H' s.heap s'.heap/\lS P w H' s'.heap /\
 s.heap.get? x=none/\s.heap.get? T=none/\H' x=none/\H' T=none/\ZI x T C s'.heap/\E (.ref C) none H'
section
variable {P:m7}{w:y6}{K:v9}{mg:Str->Option c7}{base:A7}{N:List Str}{qual:Str}{scope:X1}{f:c8}{cd:c7}{A:A2}{outer:List Env}{s:f9}{H:Hp}{E:XK}
def wA(I:aZ (oZ (EU P w) P w K mg base N qual scope f cd A outer s H E) ak σ H1 s1)(m:A7.MadeExcOf s1.heap h' x (.ref C) args)(q:E (.ref C) none H1):(oZ (EU P w) P w K mg base N qual scope f cd A outer s H E).xe (.ref x) {s1 with heap:=h'}:=by
 obtain ⟨t,J,M,O⟩:=m.there;have fr:=I.stack;refine RJ (s:={s1 with heap:=h'}) I.ok.frames rfl (fr.of_keeps fun b o z _=>{o,m.keeps b o z,rfl}) J rfl rfl rfl rfl fun G T D n k=>?_;have B:pD (s.heap.objs.size::nV outer) [x] h' G:=k;have u:Un (nV outer) [] H H1 s.heap s1.heap:=I.base;have hn:∀b,s1.heap.get? b=none->s.heap.get? b=none:=fun b z=>u.was z;have g:s1.heap.get? T=none:=by
  cases z:s1.heap.get? T with
 |none=>rfl
 |some o=>
   have:=m.keeps T o z;rw[show h'.get? T=none from n]at this;cases this
 refine {x,T,C,H1,rfl,I.os,I.bare,((u.trans (Un.kept m.keeps)).kpt B.mv fun b c=>?_),(I.hok.kept m.keeps).kpt B (fun b c=>I.stkFree b c) (fun b c=>?_),hn x m.new,hn T g,I.hok.none_of m.new,I.hok.none_of g,D,q}
 ·rcases w6.mp c with z|z
  ·rw[z];exact gh (j8 _)
  ·rw[i4.mp z];exact hn x m.new
 ·rw[i4.mp c];exact I.hok.none_of m.new
def Gf:iN (EU P w) (oZ (EU P w) P w K mg base N qual scope f cd A outer s H E) E:=by
 intro S σ X s1 e U I t;obtain ⟨x,T,C,D,rfl,ho,hg,un,c,R,Q,t,M,Y,q⟩:=t;have g:=I.call' (ch:=[]) ho un c hg (fun b z=>absurd z (by simp));have B:Un (nV outer) [] H X s.heap s1.heap:=I.base;have W:Un (nV outer) [] H D s.heap U.heap:=g.base;refine RI g.ok.frames rfl g.stack Y fun Z G J n2 k=>?_;have O:pD (s.heap.objs.size::nV outer) [x,T] U.heap Z:=k;have m:s.heap.get? G=none/\D G=none:=by
  rcases n2 with z|z
  ·rw[z];exact {B.was Q,M}
  ·exact {W.was z,c.none_of z}
 refine {x,G,C,D,rfl,g.os,g.bare,W.kpt O.mv fun b o=>?_,c.kpt O (fun b o=>g.stkFree b o) (fun b o=>?_),B.was R,m.1,t,m.2,J,q}
 ·rcases w6.mp o with z|z
  ·rw[z];exact gh (j8 _)
  ·rcases w6.mp z with z|z
   ·rw[z];exact B.was R
   ·rw[i4.mp z];exact B.was Q
 ·rcases w6.mp o with z|z
  ·rw[z];exact t
  ·rw[i4.mp z];exact M
def OK:iN (EU P w) X E0:=fun _ _ _ _ _ _ _ h=>by obtain ⟨_,_,_,_,_,_,_,_,_,_,_,_,_,_,q⟩:=h;exact q.elim
end
def YV:List c7:=[.type "ValueError",.type "Exception",.type "BaseException",.type "object"]
def Da{K:v9}{h:A7}{C:c8}{f:List c7}{c:String}(X:K.In h)(q:excIn K C f c=true):
  ∃nm J N bs g hdct sn sub ab col dd k0 k1 k2 k3 k5 mN,h.get? C=some (excClassObj nm J C N bs g hdct sn sub ab col dd k0 k1 k2 k3 k5 c)/\h.Ns N mN/\mN "__init__"=none/\OwnTail h f g:=by
 unfold excIn at q;split at q
 case h_2=>cases q
 rename_i dd D M E;split at q
 case h_2=>cases q
 rename_i w g k0 k1 k2 k3 n k5 o hs;simp only[iu,beq_iff_eq,Bool.not_eq_true']at q;obtain ⟨⟨⟨⟨⟨G,H⟩,s⟩,I⟩,m⟩,t⟩:=q;subst G H;obtain ⟨O,P,Q,R,S,T,U,Y,Z,A,B⟩:=D;dsimp only at o s m t;subst o s;obtain ⟨l⟩:=M;have e:l=[k0,k1,k2,k3,some (.builtin n),k5]:=hs;subst e;exact {_,_,_,_,_,_,_,_,_,_,_,_,_,_,_,_,_,X w _ E,.of_isNs (PySem.W.isNs_of_in X m),PySem.W.nsMap_none_of_in X m t,PySem.W.tail_of_in X I}
def JG(C:c8)(E:XK)(t:TA):TS:=fun _ σ H=>t σ H fun vs H1=>vs.length<=n7/\E (.ref C) none H1
def Am(k:t σ H fun vs H1=>vs.length<=n7/\E (.ref C) none H1):JG C E t D σ H:=k
def ZD(X:Cx)(E:XK):Prop:=∀(ak:List (c8×Obj)) (σ:St) (H1:Hp) (s1:f9) (h':A7) (x C:c8) (args:List c7),aZ X ak σ H1 s1->A7.MadeExcOf s1.heap h' x (.ref C) args->E (.ref C) none H1->X.xe (.ref x) {s1 with heap:=h'}
def VX(hr:ZD X E)(hc:X.calm=true)(hg:Gl X n)(hm:X.mg n=some (.ref C))(hx:excIn X.K C YV newId=true)(Fn:ExcBaseFacts Bn newId inN bmN)(B:YV.contains (.type Bn)=true)(ha:PA X (e::es) t)(hd:(n==("__debug__":Str))=false:=by decide)(R:m9 (e::es) X.env=(false,I0 e X.env)::m9 es X.env:=by rfl)(J:(K9 bw (m9 es X.env)).any (·.1)=false:=by rfl):
  PS X (.Raise (some (.Call (.Name n np) (e::es) [] bw)) none pos) (JG C E t):=by
 intro f s σ H D I h;obtain ⟨nm,qn,N,P,bm,c,sn,w,O,g,Q,S,T,U,W,Y,Z,hC,hN,G,M⟩:=Da I.mod.kin hx;have o:(K9 bw (m9 (e::es) X.env)).any (·.1)=false:=by rw[R];exact J
 refine wpAny_Raise_call_subU (C:=C) (nm:=nm) (q:=qn) (N:=N) (bs:=P) (hdct:=c) (sn:=sn) (sub:=w) (ab:=O) (col:=g) (dd:=Q) (k0:=S) (k1:=T) (k2:=U) (k3:=W) (k5:=Y)
  Fn B zd (M.hasType (by decide)) (I.ok.hd hc) o G (mN:=Z) (pO I hg hm {rfl,?_} hd)
 have hs:=ha bw f s σ H _ I h;rw[R]at hs ⊢;refine U2 (cZ hs fun us s1 ⟨vs,H1,A,r,q1,q2⟩=>?_);exact {rfl,by rw[←r.length];exact q1,A.bk C _ hC,hN.keeps A.bk,M.keeps A.bk,fun h' x m=>hr f σ H1 s1 h' x C us A m q2}
structure LN(X:Cx)(ak:List (c8×Obj))(H:Hp)(a:c8):Prop where
 h:H a=none
 s:X.s₀.heap.get? a=none
 l:a≠X.env.locals
 c:∀n c,X.env.cells.lookup n=some c->c≠a
 p:∀p∈X.pn++ak,p.1≠a
def aZ.kpt(I:aZ X ak σ H s)(k:pD (nV X.stack) xs s.heap h')(g:∀b∈xs,LN X ak H b):aZ X ak σ H {s with heap:=h'}:=by
 have C:∀b o,X.s₀.heap.get? b=some o->b≠X.env.locals:=fun b o e=>u7 (i7 (p7 e) I.ok.above);have B:∀b o,X.s₀.heap.get? b=some o->b∉xs:=fun b o e z=>by rw[(g b z).s]at e;cases e
 have E:∀b,b≠X.env.locals->b∉X.fs->b∉nV X.stack:=fun b S T z=>(w6.mp (I.stkSub b z)).elim S T;have Z:X.env.locals∉xs:=fun z=>(g _ z).l rfl;have M:∀n c,X.env.cells.lookup n=some c->c∉xs:=fun n c e z=>(g _ z).c n c e rfl;have f:∀x c,X.env.cells.lookup x=some c->∀v,s.heap.IsCell c v->h'.IsCell c v:=fun x c e v ⟨o,A,U⟩=>by obtain ⟨K,q⟩:=k.there A (M x c e);exact {_,q,U}
 refine {I.ok,I.os,I.bare,{fun b o e n t g=>?_,fun b o e n t g=>?_,I.base.free,fun b o e g=>?_,I.base.tups,I.base.frzs,I.base.tbls},?_,fun x c e=>?_,I.free,I.freeC,fun p hp=>?_,I.hok.kpt k (fun b t=>I.stkFree b t) fun b t=>(g b t).h,I.len}
 ·exact k.keep b o (I.base.keep b o e n t g) (E b (C b o e) t) (B b o e)
 ·obtain ⟨K,q⟩:=I.base.slot b o e n t g;obtain ⟨w,D⟩:=k.there q (B b o e);exact {w,D}
 ·obtain ⟨o',q⟩:=I.base.there b o e g;obtain ⟨w,D⟩:=k.there q (B b o e);exact {_,D}
 ·obtain ⟨m,⟨o,R,Q,A,r⟩,W⟩:=I.loc;obtain ⟨K,q⟩:=k.there A Z;refine {m,{_,R,Q,q,r},fun i x v N O P=>?_};obtain ⟨u,rv,l⟩:=W i x v N O P;refine {u,rv,?_};rcases l with l|⟨Y,c,e,z⟩
  ·exact .inl l
  ·exact .inr {Y,c,e,f x c e _ z}
 ·obtain ⟨v,z⟩:=I.cell x c e;exact {v,f x c e v z}
 ·obtain ⟨e,n,G,J,d⟩:=I.pin p hp;exact {k.keep p.1 p.2 e (E _ G J) (fun z=>(g _ z).p p hp rfl),n,G,J,d}
def aZ.frsh(I:aZ X ak σ H s)(g:X.ex=[])(e:s.heap.get? a=none)(h:H' a=none):LN X ak H' a where
 h:=h
 s:=by have u:Un X.fs [] X.H₀ H X.s₀.heap s.heap:=g▸I.base;exact u.was e
 l:=fun z=>by
  obtain ⟨m,⟨o,w,t,f,r⟩,_⟩:=I.loc;rw[←z,e]at f;cases f
 c:=fun n c q z=>by
  obtain ⟨v,o,f,A⟩:=I.cell n c q;rw[z,e]at f;cases f
 p:=fun p hp z=>by
  obtain ⟨q,_⟩:=I.pin p hp;rw[z,e]at q;cases q
def ED(X:Cx)(ak:List (c8×Obj))(σ:St)(E:XK)(e:c7)(s':f9):Prop:=∃x T C H',e=.ref x/\aZ X ak σ H' s'/\ZI x T C s'.heap/\LN X ak H' x/\LN X ak H' T/\E (.ref C) none H'
def RU(c:X.ex=[])(I:aZ X ak σ H s)(h:EU X.prog X.w X.stack H s E e s'):ED X ak σ E e s':=by obtain ⟨x,T,C,g,rfl,A,t,J,f,G,D,B,o,m,q⟩:=h;exact {x,T,C,g,rfl,I.call' (ch:=[]) A J f t (fun b z=>absurd z (by simp)),m,I.frsh c G B,I.frsh c D o,q}
abbrev Rc:=St->Hp->VK->XK->Prop
abbrev TX:=fR->XK->St->Hp->Prop
def Tu(X:Cx)(e:D6)(t:Rc):Prop:=
 ∀(ak:List (c8×Obj)) (s:f9) (σ:St) (H:Hp) (Q:VK) (E:XK),aZ X ak σ H s->t σ H Q E->i6 (j3 X.prog X.w) X.A (I0 e X.env) (EP X ak σ Q) (ED X ak σ E) s
def PX(X:Cx)(st:D4)(t:TX):Prop:=
 ∀(ak:List (c8×Obj)) (s:f9) (σ:St) (H:Hp) (D:fR) (E:XK),aZ X ak σ H s->t D E σ H->i6 (j3 X.prog X.w) X.A (exec st X.env) (SP X ak D) (ED X ak σ E) s
section
variable {X:Cx}{e:D6}{te:Rc}{pos:Pos}
def Ed(te:Rc):TX:=fun D E σ H=>te σ H (fun _ H1=>D.nx σ H1) E
def vJ(o:Tu X e te)(hs:ju e none pos.line X.env=K0 false:=by rfl):PX X (.Expr e pos) (Ed te):=by intro c s f H D E I h;exact wpAny_Expr_any (cZ (o c s f H _ E I h) fun v w ⟨x,g,m,t,q⟩=>{f,g,m,q}) I.quiet hs
def Tx(c:TT)(t u:TX):TX:=fun D E σ H=>c σ H fun b H1=>if b=true then t D E σ H1 else u D E σ H1
def VS(K:∀e s,X.xe e s->False)(O:PT X c tc)(M:PX X a t)(N:PX X b u):PX X (.If c [a] [b] pos) (Tx tc t u):=by
 intro g s C H D E I h;have o:∀{st:D4}{t:TX}{B:f9}{m:Hp},PX X st t->aZ X g C m B->t D E C m->i6 (j3 X.prog X.w) X.A (execs [st] X.env) (SP X g D) (ED X g C E) B:=fun {st t B m} hp G J=>by
  refine jp (cZ (hp g B C m D E G J) fun f P q=>?_);cases f with
 |next=>exact U1 q
 |ret v=>exact q
 |brk=>exact q
 |cont=>exact q
 refine wpAny_If (C4 (O g s C H _ I h) (fun d B ⟨m,G,J⟩=>?_) fun e s z=>(K e s z).elim);cases d with
|true=>exact o M G J
|false=>exact o N G J
end
noncomputable abbrev Cx.hld(X:Cx)(x:c8):Cx:={X with A:=X.A.mark (some (.ref x)),calm:=false,xe:=fun _ _=>False}
section
variable {X:Cx}{ak:List (c8×Obj)}{σ:St}{H:Hp}{s:f9}{x:c8}
def aZ.hld(I:aZ X ak σ H s)(x:c8):aZ (X.hld x) ak σ H s:=
 {{I.ok.mod,I.ok.kind,I.ok.glob,I.ok.blt,I.ok.above,I.ok.inj,I.ok.has,I.ok.cab,(fun z=>nomatch z),I.ok.frames,I.ok.stk,I.ok.exf,I.ok.bs,I.ok.bsz,I.ok.noex,I.ok.exfs,I.ok.funs,I.ok.frf},I.os,I.bare,I.base,I.loc,I.cell,I.free,I.freeC,I.pin,I.hok,I.len}
def aZ.unhld(c:X.calm=true->X.A.handled=none)(I:aZ (X.hld x) ak σ H s):aZ X ak σ H s:=
 {{I.ok.mod,I.ok.kind,I.ok.glob,I.ok.blt,I.ok.above,I.ok.inj,I.ok.has,I.ok.cab,c,I.ok.frames,I.ok.stk,I.ok.exf,I.ok.bs,I.ok.bsz,I.ok.noex,I.ok.exfs,I.ok.funs,I.ok.frf},I.os,I.bare,I.base,I.loc,I.cell,I.free,I.freeC,I.pin,I.hok,I.len}
def vP(I:aZ X ak σ H s)(T:X.N.Nodup)(U:X.N[i]?=some n)(W:X.env.scope.names.lookup n=some .local)(h:∀s',aZ X ak (σ.set i none) H s'->Q () s'):i6 M A (do wq X.env n .none;unbindBehindTheSuite X.env n pos) Q E s:=by
 obtain ⟨m,hn,Y⟩:=id I.loc;have w:(X.env.scope.kind==.class||(X.env.scope.kind==.module&&X.env.locals !=X.env.globals))=false:=by rw[I.ok.kind];rfl
 refine wpAny_nameGoes_keeps W hn w fun h' v J hs=>h _ ?_;have g:∀b o,X.s₀.heap.get? b=some o->b≠X.env.locals:=fun b o e=>u7 (i7 (p7 e) I.ok.above);refine {I.ok,I.os,I.bare,{fun b o e n D B=>(hs.2 b (g b o e)).trans (I.base.keep b o e n D B),fun b o e n D B=>?_,I.base.free,fun b o e B=>?_,I.base.tups,I.base.frzs,I.base.tbls},{_,J,fun j y v' t f S=>?_},fun y c e=>?_,I.free,I.freeC,fun p hp=>?_,?_,by simpa using I.len}
 ·obtain ⟨sl,t⟩:=I.base.slot b o e n D B;exact {sl,(hs.2 b (g b o e)).trans t}
 ·obtain ⟨o',t⟩:=I.base.there b o e B;exact {o',(hs.2 b (g b o e)).trans t}
 ·have K:j≠i:=fun z=>by
   rw[z]at f;by_cases G:i<σ.length
   ·rw[jb G]at f;cases f
   ·rw[Y4 (by rw[List.length_set];lia)]at f;cases f
  rw[kh (q7 K)]at f;obtain ⟨P,r',q⟩:=Y j y v' t f S;refine {P,r',?_};rcases q with ⟨k,e⟩|⟨k,c,e,z⟩
  ·refine .inl {k,?_};have:y≠n:=fun e=>K (xU T t (e▸U));show (if y=n then v else m y)=some P;rw[if_neg this];exact e
  ·exact .inr {k,c,e,z.sameBut hs (I.cne y c e)}
 ·obtain ⟨R,z⟩:=I.cell y c e;exact {R,z.sameBut hs (I.cne y c e)}
 ·obtain ⟨e,n,O,Z,d⟩:=I.pin p hp;exact {(hs.2 p.1 O).trans e,n,O,Z,d}
 ·intro b ob e;refine (I.hok b ob e).stay (fun c R C q=>(hs.2 c ?_).trans q) (fun _ q=>q) fun _ _ q=>q;rintro rfl;rcases C with rfl|C
  ·rw[I.free]at e;cases e
  ·rw[I.free]at C;cases C
def aZ.track(I:aZ X ak σ H s)(fr:LN X ak H a)(new:cS X.prog X.w (upd H a o) s.heap a o):aZ X ak σ (upd H a o) s:=by
 refine {I.ok,I.os,I.bare,I.base.track fr.h fr.s,I.loc,I.cell,?_,fun x c e=>?_,fun p hp=>?_,I.hok.track fr.h new,I.len}
 ·rw[aX (q7 fr.l)];exact I.free
 ·rw[aX (fr.c x c e)];exact I.freeC x c e
 ·obtain ⟨e,n,r⟩:=I.pin p hp;exact {e,by rw[aX (fr.p p hp)];exact n,r}
end
def Mt(K:v9)(CT:c8)(i:Nat)(tb:TX)(ts:c8->TS):TS:=fun D σ H=>tb D (fun cv _ H'=>∃C,cv=.ref C/\exmOne K (.ref C) (.ref CT)=some true /\
 ∀x,H' x=none->ts x {fun σ' H2=>D.nx (σ'.set i none) H2,D.rt,fun σ' H2=>D.bk (σ'.set i none) H2,fun σ' H2=>D.ct (σ'.set i none) H2} (σ.set i (some (.ref x))) (upd H' x (IF x C))) σ H
section
variable {X:Cx}
def Jg{CT:c8}{nc n:Str}{i:Nat}{st s0:D4}{m:List D4}{tb:TX}{ts:c8->TS}{np hp pos:Pos}(d':X.ex=[])(B:X.stack=X.env::X.outer)(e':X.env.frame=some X.env.locals)(hg:Gl X nc)(hm:X.mg nc=some (.ref CT))(P:X.N.Nodup)(R:X.N[i]?=some n)(G:X.env.scope.names.lookup n=some .local)(hb:PX X st tb)(hs:∀x,yW (X.hld x) (s0::m) (ts x))(hd:(nc==("__debug__":Str))=false:=by decide):
  PS X (.Try [st] [.ExceptHandler (some (.Name nc np)) (some n) (s0::m) hp] [] [] pos) (Mt X.K CT i tb ts):=by
 intro c s σ H D I h;refine wpAny_Try_except (jp (C4 (hb c s σ H D _ I h) (fun f s1 q=>?_) fun e s1 q=>?_))
 ·cases f with
 |next=>exact U1 (U1 q)
 |ret v=>exact q
 |brk=>exact q
 |cont=>exact q
 ·obtain ⟨x,T,C,Y,rfl,I1,fl,fx,fT,C',hC,f',q⟩:=q;cases hC;have S:∀{U:f9}{h2:A7}{Z M:c8},aZ X c σ Y U->LN X c Y Z->(M=Z∨U.heap.get? M=none)->pD (nV X.stack) [x,Z] U.heap h2->aZ X c σ Y {U with heap:=h2}/\LN X c Y M:=fun {U h2 Z M} J f1 z k=>by
   refine {J.kpt k fun b hb=>?_,?_}
   ·rcases w6.mp hb with e|e
    ·rw[e];exact fx
    ·rw[i4.mp e];exact f1
   ·rcases z with z|z
    ·rw[z];exact f1
    ·exact J.frsh d' z (J.hok.none_of z)
  have Q:X.A.frames=some (X.env::X.outer):=B▸I1.ok.frames;have c':s1.heap.FunFrames X.base (X.env::X.outer):=B▸I1.stack;refine YH Q e' c' fl fun h2 M O z2 k2=>?_;obtain ⟨I2,a'⟩:=S I1 fT z2 (B▸k2);refine wpAny_handleBy_cons (codeAny_handlers_test (pO (I2.hld x) hg hm ?_ hd)) (by intro q;cases q);refine (PySem.W.exm_one I2.kIn (O.exR.kitR.ty _) f').here ?_;refine codeAny_handlers_suite_as ?_;refine RK (l:=X.stack) O fun h3 b' k3=>?_;obtain ⟨I3,_⟩:=S I2 a' (.inl rfl) k3;have I4:=I3.track fx (Db (C:=C) b'.exR);refine nZ (v:=.ref x) I4 P R (.inl G) rfl (fun s5 I5=>?_) (.inr G);refine C4 (hs x c s5 _ _ _ (I5.hld x) (q x fx.h)) (fun f s6 g=>?_) fun _ _ z=>z.elim;cases f with
 |next=>
   obtain ⟨E,o,t,g⟩:=g;exact vP (t.unhld I.ok.hd) P R G fun s7 w=>{_,o,w,g}
 |brk=>
   obtain ⟨E,o,t,g⟩:=g;exact vP (t.unhld I.ok.hd) P R G fun s7 w=>{_,o,w,g}
 |cont=>
   obtain ⟨E,o,t,g⟩:=g;exact vP (t.unhld I.ok.hd) P R G fun s7 w=>{_,o,w,g}
 |ret u=>obtain ⟨v,E,o,t,r,g⟩:=g;exact vP (t.unhld I.ok.hd) P R G fun s7 w=>{v,_,o,w,r,g}
end
abbrev Hok(y:c8):Cx->Prop:=fun X=>X.A.handled=some (.ref y)
section
variable {X:Cx}{tg:D6}{y:c8}
def PIH(y:c8)(X:Cx)(tg iter:D6)(wi:TI):Prop:=
 ∀(ak:List (c8×Obj)) (s:f9) (σ:St) (H:Hp) (R:It->Hp->Prop),aZ X ak σ H s->wi σ H R ->
  i6 (j3 X.prog X.w) X.A (I0 iter X.env) (fun v s1=>i6 (j3 X.prog X.w) X.A (su v) (Lz (Hok y) X ak σ tg R) X.xe s1) X.xe s
variable {iter:D6}{wi:TI}
end
structure pB(k:Nat)(A:A2):Prop where
 dp:A.depth+3*k+5<im
 un:A.units+16*k+200<L9
def eR.h(r:eR k A)(v:Option c7):pB k (A.mark v):={r.dp,r.un}
def pB.mono(r:pB k A)(h:j<=k):pB j A:={by have:=r.dp;lia,by have:=r.un;lia}
def pB.deeper(r:pB (k+1) A)(env:Env):pB k (A.deeper env):=
 {by have:=r.dp;show A.depth+1+3*k+5<_;lia,by have:=r.un;show A.units+3+16*k+200<_;lia}
structure Ul(P:m7)(w:y6)(K:v9)(mg:Str->Option c7)(base:A7)(k:Nat)(f:c8)(fd:K6)(ps:List Str)(sp:c8->Sp):Prop where
 len:∀y vs H Q E,sp y vs H Q E->vs.length=ps.length
 run:∀ (y:c8) (A:A2) (outer:List Env)(s:f9)(H:Hp)(args:Args)(us:List c7)(vs:List V)(Q:VK),pB k A->A.handled=some (.ref y)->ET P w K mg base A outer s H->W6 s fd args (ps.zip us)->bU vs us->sp y vs H Q E0 ->
  T5 (j3 P w) A (.call (.ref f) args) (CR rL outer P w H s Q E0) s
abbrev Qv(P:m7)(w:y6)(K:v9)(mg:Str->Option c7)(base:A7)(N:List Str)(qual:Str)(scope:X1)(f:c8)(cd:c7)(A:A2)(outer:List Env)(s:f9)(H:Hp):Cx:=
 {oZ rL P w K mg base N qual scope f cd A outer s H E0 with calm:=false,xe:=fun _ _=>False}
def Qh{P:m7}{w:y6}{K:v9}{C:Str->Option c7}{o:A7}{N:List Str}{m:Str}{c:X1}{f:c8}{t:c7}{A:A2}{g:List Env}{s:f9}{H B:Hp}{q:List (c8×Obj)}{E:St}{D:f9}(fr:(A.deeper (W7 m c s.heap.objs.size f t)).frames=some (W7 m c s.heap.objs.size f t::g))(I:aZ (oZ rL P w K C o N m c f t {A with handled:=none} g s H E0) q E B D):aZ (Qv P w K C o N m c f t A g s H) q E B D:=
 {{I.ok.mod,I.ok.kind,I.ok.glob,I.ok.blt,I.ok.above,I.ok.inj,I.ok.has,I.ok.cab,(fun z=>nomatch z),fr,I.ok.stk,I.ok.exf,I.ok.bs,I.ok.bsz,I.ok.noex,I.ok.exfs,I.ok.funs,I.ok.frf},I.os,I.bare,I.base,I.loc,I.cell,I.free,I.freeC,I.pin,I.hok,I.len}
def Ld{P:m7}{w:y6}{K:v9}{mg:Str->Option c7}{B:A7}{k:Nat}{f:c8}{name m:Str}{D:yf}{M:List D4}{c:X1}{dV kV U pm C ct oc:c7}{an od:Option c8}{d':Array (Option c7)}{N ps:List Str}{sp:c8->Sp}(lk:K.lookup f=some {oc,od,.func (gr name m D M c dV kV U pm an C ct),d'})(b':D8 K C m=true)(S:aM N ps c)(Z:∀y vs H Q E,sp y vs H Q E->vs.length=ps.length)
  (R:∀ (y:c8)(A:A2)(g:List Env)(s:f9)(H:Hp)(vs:List V)(Q:VK),pB k (A.deeper (W7 m c s.heap.objs.size f C))->A.handled=some (.ref y)->sp y vs H Q E0 ->
   ∃t,yW (Qv P w K mg B N m c f C A g s H) M t/\t {nx:=fun _ H'=>Q .non H',rt:=Q} (start N vs) H) :
  Ul P w K mg B (k+1) f (gr name m D M c dV kV U pm an C ct) ps sp:=by
 refine {Z,fun y A g s H e' us vs Q hr hh G hb r Y=>?_};have hl:=Z _ _ _ _ _ Y;have KX:K.In s.heap:=G.mod.kin.keeps fun b o e=>(G.bs b o e).1;have c':s.heap.NoLimit:=G.mod.nolimit.keeps fun b o e=>(G.bs b o e).1;have T:∀y∈ps.zip us,c.names.lookup y.1=some .local∨(c.names.lookup y.1=some .cell/\((yc (s.heap.objs.size+1) c.names []).lookup y.1).isSome=true):=fun ⟨n,v⟩ hy=>by
  rcases S.par n (wl hy).1 with q|q
  ·exact .inl q
  ·exact .inr {q,wo _ _ _ (.inl q)}
 refine zl (by have:=hr.dp;lia) (KX _ _ lk) rfl S.co S.gen rfl (codeRec_of KX b') (hb _ _ _ _ ?_);refine we S.kind T fun f' he s1 x=>?_;subst he;refine {c'.keeps x.toInCall.keep,codeAny_func ?_};obtain ⟨t,ht,hq⟩:=R y A g s H vs Q (hr.deeper _) hh Y;have a':ET P w K mg B {A with handled:=none} g s H:={G.frames,G.mod,G.bs,G.bsz,G.funs,G.frf,G.hok,G.bare}
 have I:aZ (Qv P w K mg B N m c f C A g s H) [] (start N vs) H s1:=Qh (wb G.frames) (BJ S rfl a' hl r x);refine C4 (ht [] s1 (start N vs) H _ I hq) (fun fl s' hs=>?_) fun e s' hs=>hs.elim;have X:∀{O:St}{H':Hp}{v:V}{u:c7},aZ (Qv P w K mg B N m c f C A g s H) [] O H' s'->bO v u->Q v H'->CE g P w H s Q u s':=
  fun {O H' v u} J rv q=>{v,H',J.os,J.bare,J.base,J.hok,rv,q}
 cases fl with
|ret u=>
  obtain ⟨v,O,H',J,rv,q⟩:=hs;exact X J rv q
|next=>
  obtain ⟨O,H',J,q⟩:=hs;exact X (v:=V.non) (u:=C6) J rfl q
|brk=>
  obtain ⟨_,_,_,q⟩:=hs;exact D9 q
|cont=>obtain ⟨_,_,_,q⟩:=hs;exact D9 q
structure EQ(P:m7)(w:y6)(K:v9)(mg:Str->Option c7)(base:A7)(k:Nat)(x:Str)(ps:List Str)(sp:c8->Sp):Prop where
 ex:∃(f:c8)(fd:K6),mg x=some (.ref f)/\B3 K (.ref f)=true/\iC K fd ps []/\Ul P w K mg base k f fd ps sp
def EQ.mono{P:m7}{w:y6}{K:v9}{t:Str->Option c7}{g:A7}{j k:Nat}{x:Str}{ps:List Str}{sp:c8->Sp}(o:EQ P w K t g j x ps sp)(h:j<=k):EQ P w K t g k x ps sp:=
 let ⟨f,B,a,b,c,d⟩:=o.ex;{f,B,a,b,c,d.len,fun y A m s H q D E Q C=>d.run y A m s H q D E Q (C.mono h)}
def EQ.of{P:m7}{w:y6}{K:v9}{D:Str->Option c7}{m:A7}{k:Nat}{x:Str}{st:D4}{N ps:List Str}{sp:c8->Sp}(d:Df K D x st ps)(S:aM N ps (aG st))(C:∀y vs H Q E,sp y vs H Q E->vs.length=ps.length)
  (o:∀ (y f:c8) (g:c7)(A:A2)(c:List Env)(s:f9)(H:Hp)(vs:List V)(Q:VK),pB k (A.deeper (W7 x (aG st) s.heap.objs.size f g))->A.handled=some (.ref y)->sp y vs H Q E0 ->
   ∃t,yW (Qv P w K D m N x (aG st) f g A c s H) (bV st) t/\t {nx:=fun _ H'=>Q .non H',rt:=Q} (start N vs) H):EQ P w K D m (k+1) x ps sp:=by
 obtain ⟨f,W,⟨X,Y,U,kV,G,Z,R,g,T,O,rfl,M,q⟩,kp,a,b⟩:=d.ex;exact {f,_,a,kp,b,Ld M q S C fun y A c s H vs Q J I B=>o y f g A c s H vs Q J I B}
def TL(sp:Sp)(t:TA):TE:=fun σ H Q=>t σ H fun vs H1=>sp vs H1 Q E0
def Bb(k:t σ H fun vs H1=>sp vs H1 Q E0):TL sp t σ H Q:=k
section
variable {X:Cx}{k:Nat}{x:Str}{ps:List Str}{sp:c8->Sp}{p pos:Pos}{e:D6}{es:List D6}{t:TA}{y:c8}
def WG(o:EQ X.prog X.w X.K X.mg X.base k x ps sp)(Y:pB k X.A)(S:X.A.handled=some (.ref y))(R:Gl X x)(N:PA X (e::es) t)(D:(x==("__debug__":Str))=false:=by decide)(P:m9 (e::es) X.env=(false,I0 e X.env)::m9 es X.env:=by rfl)(E:(K9 pos (m9 es X.env)).any (·.1)=false:=by rfl):
  PE X (.Call (.Name x p) (e::es) [] pos) (TL (sp y) t):=by
 obtain ⟨f,fd,U,hk,O,F⟩:=o.ex;intro m s σ H Q I h;refine P5 (pO I R U ?_ D);refine Z9 (h₀:=X.base) I.ok.mod.kin hk (cZ (N pos m s σ H _ I h) fun C G ⟨Z,J,B,r,q⟩=>{B.kIn,?_}) P E;have T:C.length=ps.length:=by rw[←r.length];exact F.len _ _ _ _ _ q
 have c:=O G C B.kIn (by rw[L0];exact T);rw[L0]at c;refine ki (W5 (F.run y X.A X.stack G J {C,[]} C Z Q Y S B.env0 c r q) fun r s' g=>?_);cases r with
|error e=>exact D9 g
|ok M=>
  cases M with
 |ret u=>exact B.after g
 |next=>exact D9 g
 |brk=>exact D9 g
 |cont=>exact D9 g
end
def Ru(K:v9)(C:c8):Prop:=∃(newId Bn inN:String)(bmN:List c7),excIn K C YV newId=true/\ExcBaseFacts Bn newId inN bmN/\YV.contains (.type Bn)=true
def Ru.ve{K:v9}{C:c8}(h:excIn K C YV "ValueError.__new__"=true):Ru K C:={_,_,_,_,h,zd,by decide}
structure Xm(mg:Str->Option c7)(xt x0 x1 x2 x3 x4 x5 x6 x7 x8 x9 x10 x11:c8):Prop where
 t:mg "TileError"=some (.ref xt)
 m_NoNumber:mg "NoNumber"=some (.ref x0)
 m_NoNet:mg "NoNet"=some (.ref x1)
 m_NoBell:mg "NoBell"=some (.ref x2)
 m_NoSum:mg "NoSum"=some (.ref x3)
 m_TooMany:mg "TooMany"=some (.ref x4)
 m_NoText:mg "NoText"=some (.ref x5)
 m_NoPost:mg "NoPost"=some (.ref x6)
 m_Fallen:mg "Fallen"=some (.ref x7)
 m_NoRun:mg "NoRun"=some (.ref x8)
 m_Gone:mg "Gone"=some (.ref x9)
 m_NoRow:mg "NoRow"=some (.ref x10)
 m_NoWish:mg "NoWish"=some (.ref x11)
 zV:mg "ValueError"=none
structure Xr(K:v9)(xt x0 x1 x2 x3 x4 x5 x6 x7 x8 x9 x10 x11 C:c8)(i:Nat):Prop where
 x:uH K C
 e:Ru K C
 v:i9 K (.ref C) (.type "ValueError")=some true
 t:exmOne K (.ref C) (.ref xt)=some true
 k0:i9 K (.ref C) (.ref x0)=some (B0 0 i)
 k1:i9 K (.ref C) (.ref x1)=some (B0 1 i)
 k2:i9 K (.ref C) (.ref x2)=some (B0 2 i)
 k3:i9 K (.ref C) (.ref x3)=some (B0 3 i)
 k4:i9 K (.ref C) (.ref x4)=some (B0 4 i)
 k5:i9 K (.ref C) (.ref x5)=some (B0 5 i)
 k6:i9 K (.ref C) (.ref x6)=some (B0 6 i)
 k7:i9 K (.ref C) (.ref x7)=some (B0 7 i)
 k8:i9 K (.ref C) (.ref x8)=some (B0 8 i)
 k9:i9 K (.ref C) (.ref x9)=some (B0 9 i)
 k10:i9 K (.ref C) (.ref x10)=some (B0 10 i)
 k11:i9 K (.ref C) (.ref x11)=some (B0 11 i)
def zM:B9 "ValueError"=some (.type "ValueError"):=by k_is
section
variable {X:Cx}
def lH(H:ZD X E)(w:X.calm=true)(D:Gl X n)(G:X.mg n=some (.ref C))(I:Ru X.K C)(s:PA X (e::es) t)(A:(n==("__debug__":Str))=false:=by decide)(B:m9 (e::es) X.env=(false,I0 e X.env)::m9 es X.env:=by rfl)(c:(K9 bw (m9 es X.env)).any (·.1)=false:=by rfl):
  PS X (.Raise (some (.Call (.Name n np) (e::es) [] bw)) none pos) (JG C E t):=by
 obtain ⟨f,M,J,g,m,o,q⟩:=I;exact VX H w D G m o q s A B c
def Jc(K:v9):List V->Hp->VK->Prop:=fun xs H Q=>∃y C v c b,xs=[.ref y,v]/\H y=some (IF y C)/\uH K C/\bO v c/\i9 K (.ref C) c=some b/\Q (.bl b) H
def eQ:fO X (.builtin "isinstance") (Jc X.K):=by
 intro g s E H D B Q I r h;obtain ⟨y,C,v,c,b,rfl,o,z,f,e,q⟩:=h;obtain ⟨u,A,rfl,w,rv⟩:=bU.two r;obtain rfl:u=j9 y:=w;have m:A=c:=by
  cases v with
 |ref a=>exact rv.trans f.symm
 |ty n=>exact rv.trans f.symm
 |non=>exact rv.trans f.symm
 |bl a=>exact rv.trans f.symm
 |int _=>obtain ⟨t,rfl⟩:=f;simp[i9,kitCls]at e
 |str _=>obtain ⟨t,rfl⟩:=f;simp[i9,kitCls]at e
 |byt _=>obtain ⟨t,rfl⟩:=f;simp[i9,kitCls]at e
 |flt _=>obtain ⟨t,rfl⟩:=f;simp[i9,kitCls]at e
 subst m;exact dh (XS z) I.kIn (I.hok y _ o).1.kitR e (by intro q;cases q) fun tk=>{.bl b,H,I.tok tk,rfl,q}
end
section
variable {K:v9}{σ:St}{H:Hp}{Q:VK}{D:fR}{E:XK}
def iZ(f:H y=some (IF y C))(z:uH K C)(e:i9 K (.ref C) (.ref c)=some b)(k:Q (.bl b) H):Jc K [.ref y,.ref c] H Q:={y,C,_,_,b,rfl,f,z,rfl,e,k}
def Ic(c:H y=some (IF y C))(z:uH K C)(e:i9 K (.ref C) (.type T)=some b)(k:Q (.bl b) H):Jc K [.ref y,.ty T] H Q:={y,C,_,_,b,rfl,c,z,rfl,e,k}
def Mq(K:v9)(CT:c8)(i:Nat)(ts:c8->TS)(D:fR)(σ:St):XK:=fun cv _ H'=>∃C,cv=.ref C/\exmOne K (.ref C) (.ref CT)=some true /\
 ∀x,H' x=none->ts x {fun σ' H2=>D.nx (σ'.set i none) H2,D.rt,fun σ' H2=>D.bk (σ'.set i none) H2,fun σ' H2=>D.ct (σ'.set i none) H2} (σ.set i (some (.ref x))) (upd H' x (IF x C))
def Oa(k:tb D (Mq K CT i ts D σ) σ H):Mt K CT i tb ts D σ H:=k
def qL(e:exmOne K (.ref C) (.ref CT)=some true)(k:∀x,H x=none->ts x {fun σ' H2=>D.nx (σ'.set i none) H2,D.rt,fun σ' H2=>D.bk (σ'.set i none) H2,fun σ' H2=>D.ct (σ'.set i none) H2} (σ.set i (some (.ref x))) (upd H x (IF x C))):Mq K CT i ts D σ (.ref C) o H:={C,rfl,e,k}
def Al(k:te σ H (fun _ H1=>D.nx σ H1) E):Ed te D E σ H:=k
end
theorem Lh:∀bs:List Bool,jH H (bs.map Dt.bl) (bs.map V.bl)
|[]=>rfl
|b::bs=>{_,_,rfl,rfl,Lh bs}
theorem Qr:∀bs:List Bool,tD (bs.map Dt.bl) (bs.map Dt.bl)=true
|[]=>rfl
|b::bs=>by show (b==b&&tD (bs.map Dt.bl) (bs.map Dt.bl))=true;rw[beq_self_eq_true,Qr bs];rfl
theorem Qs:∀bs:List Bool,iL (bs.map Dt.bl)<=0
|[]=>j8 _
|b::bs=>by show max 0 (iL (bs.map Dt.bl))<=0;have:=Qs bs;lia
end L2
namespace L2
open PySem PySem.Spec PyProof.Rows PySem.W
structure rJ(K:v9)(C:c8)(st:D4)(m qual:Str)(ps:List Str):Prop where
 ex:∃(f:c8)(fd:K6),(∃(oc:c7)(od:Option c8)(dV kV doc pm:c7)(an:Option c8)(bz ct:c7)(osl:Array (Option c7)),
  fd=gr m qual (cY st) (bV st) (aG st) dV kV doc pm an bz ct/\K.lookup f=some {oc,od,.func fd,osl}/\codeIn K bz qual=true)/\ZF K C m f/\iC K fd ps []
def dfc2_mk{K:v9}{C f:c8}{st:D4}{m g:Str}{ps:List Str}{D:c7}{E t:Option c8}{s:Array (Option c7)}{A kV q B o w:c7}(a:findIn K (.ref C) m=some (some (.ref f)))(l:K.lookup f=some {D,E,.func (gr m g (cY st) (bV st) (aG st) A kV q B t o w),s})(c:codeIn K o g=true)(G:isFn K (.ref f)=true)(kp:keepIn K (.ref f)=true)(b:∀us:List c7,us.length=ps.length->wt (gr m g (cY st) (bV st) (aG st) A kV q B t o w) {us,[]}=K0 (ps.zip us)):rJ K C st m g ps:=
 {f,_,{D,E,A,kV,q,B,t,o,w,s,rfl,l,c},{a,G,kp},.all b}
structure jG(CX:BZ)(P:m7)(w:y6)(K:v9)(mg:Str->Option c7)(base:A7)(k:Nat)(C:c8)(m:Str)(ps:List Str)(sp:Sp):Prop where
 ex:∃(f:c8)(fd:K6),ZF K C m f/\iC K fd ps []/\nG P w K mg base CX k f fd ps sp
section
variable {CX:BZ}{P:m7}{w:y6}{K:v9}{mg:Str->Option c7}{base:A7}{j k:Nat}{C:c8}{st:D4}{m qual:Str}{N ps:List Str}{sp:Sp}
def jG.mono(o:jG CX P w K mg base j C m ps sp)(h:j<=k):jG CX P w K mg base k C m ps sp:=let ⟨f,g,a,b,c⟩:=o.ex;{f,g,a,b,c.mono h}
def jG.of(d:rJ K C st m qual ps)(S:aM N ps (aG st))(G:∀vs H Q E,sp vs H Q E->vs.length=ps.length)
  (o:∀ (f:c8) (g:c7) (A:A2)(c:List Env)(s:f9)(H:Hp)(vs:List V)(Q:VK)(E:XK),eR k (A.deeper (W7 qual (aG st) s.heap.objs.size f g))->sp vs H Q E ->
   ∃t,yW (oZ rL P w K mg base N qual (aG st) f g A c s H E).nox (bV st) t/\t {nx:=fun _ H'=>Q .non H',rt:=Q} (start N vs) H):jG rL P w K mg base (k+1) C m ps sp:=by
 obtain ⟨f,X,⟨Y,Z,W,kV,I,pm,T,g,U,R,rfl,M,B⟩,O,b⟩:=d.ex;refine {f,_,O,b,BM M B S G fun A c s H vs Q E J D=>?_};obtain ⟨t,h,q⟩:=o f g A c s H vs Q E J D;exact {t,h.nox,q}
def jG.ofX(d:rJ K C st m qual ps)(S:aM N ps (aG st))(D:∀vs H Q E,sp vs H Q E->vs.length=ps.length)
  (o:∀ (f:c8) (g:c7) (A:A2)(c:List Env)(s:f9)(H:Hp)(vs:List V)(Q:VK)(E:XK),eR k (A.deeper (W7 qual (aG st) s.heap.objs.size f g))->sp vs H Q E ->
   ∃t,yW (oZ (EU P w) P w K mg base N qual (aG st) f g A c s H E) (bV st) t/\t {nx:=fun _ H'=>Q .non H',rt:=Q} (start N vs) H):jG (EU P w) P w K mg base (k+1) C m ps sp:=by
 obtain ⟨f,W,⟨X,Y,U,kV,G,Z,R,g,T,O,rfl,J,q⟩,M,b⟩:=d.ex;exact {f,_,M,b,BM J q S D fun A c s H vs Q E I B=>o f g A c s H vs Q E I B}
end
section
variable {X:Cx}{CX:BZ}{k:Nat}{C:c8}{ps:List Str}{sp:Sp}{E:XK}{x m:Str}{p pos a7:Pos}{e o:D6}{es:List D6}{ta:TE}{t:TA}{pl:Sem Bool}
def sO(J:jG CX X.prog X.w X.K X.mg X.base k C m ps sp)(c:BY X.K C)(D:eR k X.A)(H:iN CX X E)(B:PE X o ta)(s:PA X (e::es) t)(q:m9 (e::es) X.env=(false,I0 e X.env)::m9 es X.env:=by rfl)(g:(K9 pos (m9 es X.env)).any (·.1)=false:=by rfl)
  (G:I0 (.Call (.Attribute o m a7) (e::es) [] pos) X.env=(do
   let ov ←I0 o X.env
   ko a7.atName
   let (f,first) ←ja [ov] (jx ov m pl)
   rc pos f first (K9 pos (m9 (e::es) X.env)) (ip pos (V7 [] X.env))):=by rfl) :
  PE X (.Call (.Attribute o m a7) (e::es) [] pos) (FF C m sp [] E ta t):=by
 obtain ⟨f,M,I,b,F⟩:=J.ex;exact Bp B c I F D b .nil H s q g G
def qR(G:jG CX X.prog X.w X.K X.mg X.base k C m ps sp)(c:BY X.K C)(q:eR k X.A)(B:iN CX X E)(g:PE X o ta)
  (s:I0 (.Call (.Attribute o m a7) [] [] pos) X.env=(do
   let ov ←I0 o X.env
   ko a7.atName
   let (f,first) ←ja [ov] (jx ov m pl)
   rc pos f first (K9 pos (m9 [] X.env)) (ip pos (V7 [] X.env))):=by rfl) :
  PE X (.Call (.Attribute o m a7) [] [] pos) (FF C m sp [] E ta CD):=by
 obtain ⟨f,H,D,b,F⟩:=G.ex;exact WD g c D F q b .nil B s
def Pr(M:jG CX X.prog X.w X.K X.mg X.base k C "__init__" ps sp)(g:makesIn X.K C=true)(kp:keepIn X.K (.ref C)=true)(I:eR (k+1) X.A)(J:iN CX X E)(G:Gl X x)(H:X.mg x=some (.ref C))(D:PA X (e::es) t)(c:(x==("__debug__":Str))=false:=by decide)(s:m9 (e::es) X.env=(false,I0 e X.env)::m9 es X.env:=by rfl)(q:(K9 pos (m9 es X.env)).any (·.1)=false:=by rfl):
  PE X (.Call (.Name x p) (e::es) [] pos) (LV C sp [] E t):=by
 obtain ⟨f,N,B,b,F⟩:=M.ex;exact Bq {g,B.at_,B.fn,kp} F I G H b .nil J D c s q
end
def SX(C:c8)(m:Str)(sp:Sp)(ta:TE)(t:TA):Rc:=fun σ H Q E=>ta σ H fun x H1=>∃a dx fs,x=.ref a/\H1 a=some (.ins C dx fs)/\fs.lookup m=none/\t σ H1 fun vs H2=>sp (x::vs) H2 Q E
def CV(om:jG (EU X.prog X.w) X.prog X.w X.K X.mg X.base k C m ps sp)(c:BY X.K C)(N:X.ex=[])(J:∀e s,X.xe e s->False)(hr:eR k X.A)(he:PE X o ta)(ha:PA X (e::es) t)(P:m9 (e::es) X.env=(false,I0 e X.env)::m9 es X.env:=by rfl)(O:(K9 pos (m9 es X.env)).any (·.1)=false:=by rfl)
  (ht:I0 (.Call (.Attribute o m a7) (e::es) [] pos) X.env=(do
   let ov ←I0 o X.env
   ko a7.atName
   let (f,first) ←ja [ov] (jx ov m pl)
   rc pos f first (K9 pos (m9 (e::es) X.env)) (ip pos (V7 [] X.env))):=by rfl) :
  Tu X (.Call (.Attribute o m a7) (e::es) [] pos) (SX C m sp ta t):=by
 obtain ⟨f,fd,S,b,F⟩:=om.ex;intro g s Z H Q E I h;refine methodCall_KW (pl:=pl) (C4 (he g s Z H _ I h) (fun u s1 ⟨x,H1,R,rx,a,dx,fs,ex,ea,l,q⟩=>?_) fun e s z=>(J e s z).elim) ht;subst ex;obtain rfl:u=j9 a:=rx;refine qY R ea c S l ?_;refine callWith_K (first:=[.ref a]) (h₀:=X.base) I.ok.mod.kin S.kp (C4 (ha pos g s1 Z H1 _ R q) (fun M W ⟨Y,H2,B,r,T⟩=>{B.kIn,?_}) fun e s z=>(J e s z).elim) P O;have U:bU (V.ref a::Y) (j9 a::M):=.cons rfl r;have hl:((j9 a::M)++([]:List c7)).length=ps.length:=by rw[L0,←U.length];exact F.len _ _ _ _ T
 have D:=b W (j9 a::M) B.kIn hl;rw[L0]at D;refine ki (W5 (F.run X.A X.stack W H2 {j9 a::M,[]} (j9 a::M) (V.ref a::Y) Q E hr B.env0 D U T) fun r' s' G=>?_);cases r' with
|error e=>exact RU N B G
|ok fl=>
  cases fl with
 |ret u=>exact B.after G
 |next=>exact D9 G
 |brk=>exact D9 G
 |cont=>exact D9 G
structure SJ(CX:BZ)(P:m7)(w:y6)(K:v9)(mg:Str->Option c7)(base:A7)(k:Nat)(C:c8)(ps:List Str)(sp:Sp):Prop where
 ex:∃j,j+1<=k/\jG CX P w K mg base j C "__init__" ps sp
def SJ.mono{CX:BZ}{P:m7}{w:y6}{K:v9}{f:Str->Option c7}{c:A7}{j k:Nat}{C:c8}{ps:List Str}{sp:Sp}(o:SJ CX P w K f c j C ps sp)(h:j<=k):SJ CX P w K f c k C ps sp:=let ⟨i,a,b⟩:=o.ex;{i,A5 a h,b}
def jG.toMk{CX:BZ}{P:m7}{w:y6}{K:v9}{f:Str->Option c7}{c:A7}{k:Nat}{C:c8}{ps:List Str}{sp:Sp}(o:jG CX P w K f c k C "__init__" ps sp):SJ CX P w K f c (k+1) C ps sp:={k,j8 _,o}
def Jm(I:SJ CX X.prog X.w X.K X.mg X.base k C ps sp)(f:makesIn X.K C=true)(kp:keepIn X.K (.ref C)=true)(G:eR k X.A)(H:iN CX X E)(s:Gl X x)(D:X.mg x=some (.ref C))(q:PA X (e::es) t)(c:(x==("__debug__":Str))=false:=by decide)(m:m9 (e::es) X.env=(false,I0 e X.env)::m9 es X.env:=by rfl)(g:(K9 pos (m9 es X.env)).any (·.1)=false:=by rfl):
  PE X (.Call (.Name x p) (e::es) [] pos) (LV C sp [] E t):=by
 obtain ⟨j,B,o⟩:=I.ex;exact Pr o f kp (G.mono B) H s D q c m g
section
variable {C:c8}{m:Str}{sp:Sp}{E:XK}{ta:TE}{t:TA}{σ:St}{H:Hp}{Q:VK}{D:fR}{K:v9}{f:Str}{tv:TE}
def Sl(k:ta σ H fun x H1=>∃a dx fs,x=.ref a/\H1 a=some (.ins C dx fs)/\fs.lookup m=none/\t σ H1 fun vs H2=>sp (x::(vs++[])) H2 Q E):FF C m sp [] E ta t σ H Q:=k
def Oo(k:ta σ H fun x H1=>∃a dx fs,x=.ref a/\H1 a=some (.ins C dx fs)/\fs.lookup m=none/\t σ H1 fun vs H2=>sp (x::vs) H2 Q E):SX C m sp ta t σ H Q E:=k
def Ox(k:ta σ H fun x H1=>∃a C dx fs v,x=.ref a/\H1 a=some (.ins C dx fs)/\BY K C/\fI K C f/\fs.lookup f=some v/\Q v H1):Hk K ta f σ H Q:=k
def Hn(k:tv σ H fun y H1=>ta σ H1 fun x H2=>∃a C dx fs,x=.ref a/\H2 a=some (.ins C dx fs)/\BY K C/\fI K C f/\fs.length<1000/\D.nx σ (upd H2 a (.ins C dx (gN f y fs)))):Nw K ta tv f D σ H:=k
def Op(k:t σ H fun vs H1=>∀x dx,H1 x=none->H1 dx=none->dx≠x->sp (.ref x::(vs++[])) (upd (upd H1 dx (.own x)) x (.ins C dx [])) (fun v H2=>v=.non/\Q (.ref x) H2) E):LV C sp [] E t σ H Q:=k
end
section
variable {C:c8}{m f:Str}{K:v9}{H:Hp}{a dx:c8}{fs:List (Str×V)}{v:V}
def Tc(h:H a=some (.ins C dx fs))(l:fs.lookup m=none)(k:R):∃g c fs',V.ref a=.ref g/\H g=some (.ins C c fs')/\fs'.lookup m=none/\R:={a,dx,fs,rfl,h,l,k}
def Ti{Q:V->Prop}(h:H a=some (.ins C dx fs))(c:BY K C)(n:fI K C f)(l:fs.lookup f=some v)(k:Q v):∃q g o fs' s,V.ref a=.ref q/\H q=some (.ins g o fs')/\BY K g/\fI K g f/\fs'.lookup f=some s/\Q s:={a,C,dx,fs,v,rfl,h,c,n,l,k}
def Se{N:c8->c8->c8->List (Str×V)->Prop}(h:H a=some (.ins C dx fs))(c:BY K C)(n:fI K C f)(s:fs.length<1000)(k:N a C dx fs):∃q o g fs',V.ref a=.ref q/\H q=some (.ins o g fs')/\BY K o/\fI K o f/\fs'.length<1000/\N q o g fs':={a,C,dx,fs,rfl,h,c,n,s,k}
end
def jT(L:List c8)(H H':Hp):Prop:=∀b o,b∉L->H b=some o->H' b=some o
section
variable {L:List c8}{H H1 H2:Hp}
def jT.trans(a:jT L H H1)(b:jT L H1 H2):jT L H H2:=fun c o n h=>b c o n (a c o n h)
def aJ.kpL(s:aJ H H1):jT L H H1:=fun c o _ h=>s c o h
def jT.upd(h:p∈L):jT L H (L2.upd H p o):=fun c u n e=>by rw[aX (fun z:c=p=>n (z▸h))];exact e
def jT.mono(s:∀x∈L,x∈L')(k:jT L H H1):jT L' H H1:=fun c o n e=>k c o (fun z=>n (s c z)) e
def jT.tk(k:jT L H H1)(h:∀p∈L,∀xs,H p≠some (.tup xs)):TK H H1:=fun p xs e=>k p _ (fun z=>h p z xs e) e
end
noncomputable def cF(ln lp lt:c8)(vm:V)(dm:c8):List (Str×V):=[("net",.ref ln),("pushes",.ref lp),("takings",.ref lt),("moment",vm),("moments",.ref dm)]
noncomputable def IM(m:Rat)(o:Option Rat):Bool:=match o with|none=>false|some q=>!decide (m<q)
def wC(h:H a=some (.ins C dx fs)):TK H (L2.upd H a o):=fun p c e=>by rw[aX (gX e h (by intro z;cases z))];exact e
def DQ.mv{c:Type}{R:Hp->V->c->Prop}{H H':Hp}{l:c8}{ds:List (aR×c)}(h:DQ R H l ds)(f:∀ {H H' v b},R H v b->TK H H'->R H' v b)(e:∀o,H l=some o->H' l=some o)(t:TK H H'):DQ R H' l ds:=let ⟨k,a,b⟩:=h;{k,e _ a,b.imp fun v b q=>f q t}
def LQ.mv{c:Type}{R:Hp->V->c->Prop}{H H':Hp}{l:c8}{ds:List c}(h:LQ R H l ds)(f:∀ {H H' v b},R H v b->TK H H'->R H' v b)(e:∀o,H l=some o->H' l=some o)(t:TK H H'):LQ R H' l ds:=let ⟨k,a,b⟩:=h;{k,e _ a,Pd.imp b fun v b q=>f q t}
def CG(f:G q=none)(g:G h=some (.ins C dx fs)):∃c,L2.upd (L2.upd G q o) h (.ins C dx fs')=c/\jT [h] G c/\c q=some o/\c h=some (.ins C dx fs')/\q≠h:=by
 have n:q≠h:=fun z=>by rw[z,g]at f;cases f
 exact {_,rfl,(aJ.kpL (aJ.new f)).trans (.upd (.head _)),aY n aC,aC,n}
def jT.app1(k:jT [h] H H')(n:b≠h)(e:H b=some o):H' b=some o:=k _ _ (fun z=>n (i4.mp z)) e
def jT.fr(k:jT L H H')(n:b∉L)(e:H' b=none):H b=none:=by
 cases z:H b with
|none=>rfl
|some o=>rw[k _ _ n z]at e;cases e
def Dz(K:v9)(H:Hp)(x:V):Prop:=∃t,nD K H x t/\kitOne K t (.type "str")=some false
def dO:Q4 (.Name x p) f env (I0 (.Name x p) env)=I0 (.Name x p) env:=rfl
def OI(g:PE (cD X scope az N C s0 H0 ex) e ta)(c:Q4 e f (cD X scope az N C s0 H0 ex).env (I0 e (cD X scope az N C s0 H0 ex).env)=I0 e (cD X scope az N C s0 H0 ex).env):PE (cD X scope az N C s0 H0 ex) (.Attribute e f pos) (Hk X.K ta f):=dQ g c
end L2
namespace L2
open PySem PySem.Spec PyProof.Rows
noncomputable abbrev sC:Str:=J7 "c"
def n2:List eO:=[(sA,sB,j7 1 2),(sB,sC,j7 1 3)]
def XU{i:Int}{ys:List Int}:Qi (.int i) (ys.map V.int)=decide (i∈ys):=by
 unfold Qi
 induction ys with
|nil=>rfl
|cons y r ih=>
  rw[J6,eh,ih];show ((y==i)||_)=_;by_cases h:i=y
  ·subst h;simp
  ·by_cases c:i∈r
   ·simp[c]
   ·simp[c,h,q7 h]
theorem BN:∀ys:List Int,(ys.map V.int).all nQ=true
|[]=>rfl
|y::r=>by rw[J6,LA,BN r];rfl
def Fs{K:v9}{H:Hp}{Q:VK}{p:c8}{ys:List Int}{i:Int}(h:H p=some (.lst (ys.map V.int)))(k:Q (.bl (decide (i∈ys))) H):Sw K false (.int i) (.ref p) H Q:={p,_,rfl,.inl (cU.of h),rfl,BN _,by rw[XU];exact k}
theorem BP:∀c:List Int,iL (c.map Dt.int)<=0
|[]=>j8 _
|z::c=>by show max 0 (iL (c.map Dt.int))<=0;have:=BP c;lia
theorem BR:∀c:List Int,jH H (c.map Dt.int) (c.map V.int)
|[]=>rfl
|z::c=>{_,_,rfl,rfl,BR c}
def sK{s:TS}{c:St}{H:Hp}(J:St->Hp->Prop)(f:∀c H,J c H->D.nx c H)(k:∀NX:St->Hp->Prop,(∀c H,J c H->NX c H)->s {NX,D.rt,D.bk,D.ct} c H):s D c H:=k D.nx f
def n3:List eO:=[(sA,sB,j7 1 2),(sB,sC,j7 1 1)]
noncomputable def ts3:List (aR×Rat):=[(i5 0,j7 1 2),(i5 1,j7 1 1)]
def ZM:Nat->Option Rat:=fun k=>bG (lst ts3) (i5 (k:Int))
open Classical in
def dst(n:List eO)(a:aR)(m:Rat):aR->Option Rat:=if h:∃f,pE (kn n) (bG (lst [(a,m)])) (fun _=>none) f then Classical.choose h else fun _=>none
def gd(n:List eO)(s z:Str):Option Rat:=if z∈names n then dst n (c9 s) (j7 0 1) (c9 z) else none
noncomputable def Rr(ys:List Str):List (Str×Str):=ys.flatMap fun y=>ys.map fun z=>(y,z)
def fW(n:Nat)(cc:c8)(Pv:Nat->List V->Hp->Prop):Nat->Nat->List V->Hp->Prop:=fun i m ys H1=>m=n-i/\i<=n/\ys.length<=i/\H1 cc=some (.lst ys)/\Pv i ys H1
def BO(n:Nat)(cc:c8)(Pv:Nat->List V->Hp->Prop)(ys:List V)(i:Nat):VK:=fun y H3=>H3 cc=some (.lst ys)/\∃m',m'<n-i/\fW n cc Pv (i+1) m' (ys++[y]) (upd H3 cc (.lst (ys++[y])))
def yI(n:Nat)(cc:c8)(Pv:Nat->List V->Hp->Prop)(ys:List V)(i:Nat)(H3:Hp):Prop:=∃m',m'<n-i/\fW n cc Pv (i+1) m' ys H3
def kZ(c:i<n)(g:ys.length<=i)(f:H3 cc=some (.lst ys))(p:Pv (i+1) (ys++[y]) (upd H3 cc (.lst (ys++[y])))):BO n cc Pv ys i y H3:=
 {f,n-(i+1),by lia,rfl,c,by rw[q4];simp;exact g,aC,p}
def jR(c:i<n)(g:ys.length<=i)(f:H3 cc=some (.lst ys))(p:Pv (i+1) ys H3):yI n cc Pv ys i H3:=
 {n-(i+1),by lia,rfl,c,by lia,f,p}
section
variable {te:TE}{Q:VK}{H:Hp}{az:St}{K:v9}
def sL(hn:xs.length<=1000)(t:c8->Nat->List V->Hp->Prop)(h0:∀f,H f=none->t f 0 [] (upd H f (.lst [])))(A:∀f i ys s,H f=none->i<=xs.length->t f i ys s->cU K s a xs)(hs:∀f i ys s x,H f=none->xs[i]?=some x->ys.length<=i->s f=some (.lst ys)->t f i ys s->c (some x::az) s fun b H3=>if b=true then te (some x::az) H3 (BO xs.length f (t f) ys i) else yI xs.length f (t f) ys i H3)(D:∀f ys s,H f=none->s f=some (.lst ys)->ys.length<=xs.length->t f xs.length ys s->Q (.ref f) s):kI te (some c) (hX 0) (B6 1 none) az Q (SK K a) H:=by
 intro f g;refine {fW xs.length f (t f),{xs.length,by simp,C9 _,j8 _,aC,h0 f g},?_};rintro i m ys s ⟨rfl,E,C,w,p⟩;have q:=A f i ys s g E p;refine {w,?_};by_cases B:i<xs.length
 ·refine .inr {eE (by lia),{xs,xs[i],q,by simp[B]},fun J x I G y=>?_};obtain ⟨e,y⟩:=y;subst e;obtain ⟨o,rfl⟩:=QW G;exact {{[some x],rfl,rfl},hs f i ys _ x g (y xs q) C w p}
 ·have e:i=xs.length:=by lia
  subst e;exact .inl {{xs,q,j8 _},D f ys s g w C p}
end
noncomputable def xE(n:Nat):List V:=(E7 n).map fun(i:Nat)=>V.int (i:Int)
def Ei(ta:TA):TE:=fun σ H Q=>ta σ H fun vs H1=>∃n:Nat,vs=[.int n]/\n<=1000/\∀p,H1 p=none->Q (.ref p) (upd H1 p (.lst (xE n)))
def Ia(k:ta σ H fun vs H1=>∃n:Nat,vs=[.int n]/\n<=1000/\∀p,H1 p=none->Q (.ref p) (upd H1 p (.lst (xE n)))):Ei ta σ H Q:=k
def UZ(h:ItemsOf (fun i x=>∃t,x=dk (0+(i:Nat)*1) t) cc n):bU (xE n) cc.toList:=by
 have f:∀(l:List c7)(k:Nat),(∀j v,l[j]?=some v->∃t,v=dk ((k+j:Nat):Int) t)->bU ((List.range' k l.length).map fun(i:Nat)=>V.int (i:Int)) l:=by
  intro l
  induction l with
 |nil=>exact fun k _=>.nil
 |cons u r ih=>
   intro k hk;rw[J2,List.range'_succ,J6];refine .cons ?_ (ih (k+1) fun j v e=>?_)
   ·obtain ⟨t,e⟩:=hk 0 u rfl;exact {t,e}
   ·obtain ⟨t,c⟩:=hk (j+1) v e;exact {t,by rw[c,show k+(j+1)=k+1+j by lia]}
 have:=f cc.toList 0 fun j v e=>by obtain ⟨t,c⟩:=h.2 j v (by rw[←Y2];exact e);exact {t,by rw[c];simp}
 rw[C0,h.1,←List.range_eq_range']at this;exact this
def Br(J:X.calm=true)(g:Gl X "list")(m:X.mg "list"=none)(K:Gl X "range")(M:X.mg "range"=none)(G:PA X [a] ta)(C:m9 [.Call (.Name "range" p2) [a] [] pos2] X.env=[(false,I0 (.Call (.Name "range" p2) [a] [] pos2) X.env)]:=by rfl)(hs:m9 [a] X.env=[(false,I0 a X.env)]:=by rfl):
  PE X (.Call (.Name "list" p) [.Call (.Name "range" p2) [a] [] pos2] [] pos) (Ei ta):=by
 intro f s S H Q I h;refine P5 (kX I g m PJ ?_ (by decide) (by decide));refine E9 ?_ C rfl;rw[C];show i6 _ _ (yl ((false,I0 (.Call (.Name "range" p2) [a] [] pos2) X.env)::K9 pos [])) _ _ s;refine O5 ?_;refine Call_ (kX I K M boot_range (E9 (cZ (G pos2 f s S H _ I h) fun W w ⟨Y,T,A,P,O⟩=>?_) hs rfl));obtain ⟨n,e,hn,q⟩:=O;subst e;cases P with
|cons r R=>
  cases R;obtain ⟨t,rfl⟩:=r;refine call_range_1 ?_;refine S0 ?_;refine call_list_range (I.ok.hd J) (IsRange.new ..) (small_one (by decide) (by decide) (by lia) (by lia)) (n:=n) (by rw[rangeSize_one];split <;> lia) (by lia) fun U tk B D hk E c=>?_;have N:=UZ c;refine {.ref _,_,A.laid (t':=tk) (a:=(w.heap.push {cls:=.type "range",data:=.fields #[.int 0 w.toks,.int n t,.int 1 (w.toks+1)]}).objs.size) (o:=.lst (xE n)) (fun b o e=>hk b o (e9 _ e)) (by rw[L3];exact U9 _) ?_,rfl,q _ (A.hok.fresh (by rw[L3];exact U9 _))};refine {?_,_,D,N,?_}
  ·have:(xE n).length=n:=by simp[xE]
   rw[this,y9];lia
  ·rw[xj];exact E
def n4:List eO:=[(sA,sB,j7 1 1),(sB,sA,j7 1 1)]
def VD{H:Hp}{Q:VK}{z:Str}{lo c:Option Int}(hz:z.length<=100000)(k:Q (.str (fi z lo c)) H):Pj (.str z) lo c H Q:={z,rfl,by rw[y9];lia,k}
def WL:kK (cD X scope az N C s0 H0 ex) (R3 .Add) (HD X.K):=bH
def n5:List eO:=[(sA,sB,j7 1 1)]
section
variable {X:Cx}{a:D6}{ta:TE}
def Mw(ta:TE):TE:=fun σ H Q=>ta σ H fun x H1=>∃l xs,x=.ref l/\H1 l=some (.lst xs)/\∀p,H1 p=none->Q (.ref p) (upd H1 p (.lst xs.reverse))
def Od(k:ta σ H fun x H1=>∃l xs,x=.ref l/\H1 l=some (.lst xs)/\∀p,H1 p=none->Q (.ref p) (upd H1 p (.lst xs.reverse))):Mw ta σ H Q:=k
def Jk(M:PE X a ta):PE X (.Subscript a (.Slice none none (some (.UnaryOp .USub (.Constant (.int 1) j p1) p2)) p3) pos) (Mw ta):=by intro c s A H Q I h;refine qe (cZ (M c s A H _ I h) fun v T ⟨x,B,E,R,l,U,e,N,q⟩=>?_);subst e;cases R;refine wpAny_Slice ?_;rw[xu,evalPart_some];refine i0 (i0 ?_);refine cZ ((AX (pos:=p2) tM (aE (X:=X) (i:=1) (j:=j) (pos:=p1))) c T A B (fun y g=>y=.int (-1)/\g=B) E {1,rfl,rfl,rfl}) fun st f ⟨y,g,G,S,J,K⟩=>?_;subst J K;obtain ⟨t,rfl⟩:=S;have m:aZ X c A g {f with heap:=f.heap.push {cls:=.type "slice",data:=.fields #[.none,.none,.int (-1) t]}}:=G.kept (t':=f.toks) fun b P q=>e9 _ q;obtain ⟨w,r,D,O⟩:=m.list (cU.of N);have C:=r.length;refine tail_any (ops:=[.ref l,.ref f.heap.objs.size]) D.isList.typeIs slot_list_getitem.lookup ?_ (by with_unfolding_all rfl);refine wpAny_getItem_list_slice D.isList (A7.IsSliceOf.new ..) .none .none (.int (-1) t) (by decide) ?_ (by rw[m6] <;> lia);rw[PySem.W.krv_pick];refine {.ref _,_,m.laid (t':=f.toks) (o:=.lst U.reverse) (fun b P q=>e9 _ q) (j8 _) ?_,rfl,q _ (m.hok.fresh (j8 _))};exact {by rw[List.length_reverse];exact O,w.reverse,0,r.reverse,r9 _ rfl}
end
section
variable {te:TE}{Q:VK}{H:Hp}{az:St}
def xI{c:TT}{lo:Int}{n:Nat}(hn:n<=1000)(s:c8->Nat->List V->Hp->Prop)(h0:∀f,H f=none->s f 0 [] (upd H f (.lst [])))(hs:∀f i ys q,H f=none->i<n->ys.length<=i->q f=some (.lst ys)->s f i ys q->c (some (.int (lo+i))::az) q fun b H3=>if b=true then te (some (.int (lo+i))::az) H3 (BO n f (s f) ys i) else yI n f (s f) ys i H3)(B:∀f ys q,H f=none->q f=some (.lst ys)->ys.length<=n->s f n ys q->Q (.ref f) q):kI te (some c) (hX 0) (B6 1 none) az Q (LM lo n) H:=by
 intro f g;refine {fW n f (s f),{n,by simp,C9 _,j8 _,aC,h0 f g},?_};rintro i m ys q ⟨rfl,E,A,w,p⟩;refine {w,?_};by_cases t:i<n
 ·refine .inr {eE (by lia),t,fun G x D C y=>?_};obtain ⟨e,y⟩:=y;subst e y;obtain ⟨o,rfl⟩:=QW C;exact {{[some (.int (lo+i))],rfl,rfl},hs f i ys _ g t A w p}
 ·have e:i=n:=by lia
  subst e;exact .inl {j8 _,B f ys q g w A p}
end
def HB(k:ta σ H fun x H1=>tb σ H1 fun y H2=>r x y H2 fun z H3=>∃k,z=.bl k/\(if k=true then tc σ H3 fun w' H4=>r' y w' H4 Q else Q (.bl false) H3)):TJ r r' ta tb tc σ H Q:=k
theorem CB:∀{kvs:List (aR×V)}{i:Nat}{k:aR}{v:V},(kvs.map (·.1)).Nodup->kvs[i]?=some (k,v)->bP kvs k=some v
|[],i,k,v,_,h=>by simp at h
|p::r,0,k,v,_,h=>by
  cases (j5 h:p=(k,v));exact gG rfl
|p::r,i+1,k,v,c,h=>by rw[J6,V4]at c;have h':r[i]?=some (k,v):=h;rw[fS fun e=>c.1 (u8.mpr {_,o0 h',e.symm})];exact CB c.2 h'
section
variable {σ:St}{H:Hp}{D:fR}{K:v9}
def rZ{lo:Int}{n:Nat}{g:TG}{f:TS}(c:Nat->St->Hp->Prop)(h0:c 0 σ H)(hs:∀(P':Nat->St->Hp->Prop)(rt:VK)(bk:St->Hp->Prop),(∀i σ H,c i σ H->P' i σ H)->∀i σ H,i<n->c i σ H->g (.int (lo+i)) σ H fun σ2 H2=>f {P' (i+1),rt,bk,P' (i+1)} σ2 H2)(m:∀σ H,c n σ H->D.nx σ H):IC g f D σ (LM lo n) H:=Ik c h0 (hs c D.rt D.nx fun _ _ _ h=>h) m
def sI(c:Nat->St->Hp->Prop)(h0:c 0 σ H)(m:∀i σ H,i<=xs.length->c i σ H->cU K H a xs)(hs:∀(P':Nat->St->Hp->Prop)(rt:VK)(bk:St->Hp->Prop),(∀i σ H,c i σ H->P' i σ H)->∀i x σ H,xs[i]?=some x->c i σ H->g x σ H fun σ2 H2=>tb {P' (i+1),rt,bk,P' (i+1)} σ2 H2)(f:∀σ H,c xs.length σ H->D.nx σ H):IC g tb D σ (SK K a) H:=JR c h0 m (hs c D.rt D.nx fun _ _ _ h=>h) f
end
def Qd{us:St}(h:us.length=2):∃o p,us=[o,p]:=by
 cases us with
|nil=>cases h
|cons o us=>cases us with
 |nil=>cases h
 |cons p us=>cases us with
  |nil=>exact {o,p,rfl}
  |cons q us=>cases h
section
variable {te:TE}{Q:VK}{H:Hp}{az:St}{K:v9}
def VJ(hn:xs.length<=1000)(s:c8->Nat->List V->Hp->Prop)(h0:∀f,H f=none->s f 0 [] (upd H f (.lst [])))(B:∀f i ys g,H f=none->i<=xs.length->s f i ys g->cU K g a xs)(hs:∀f i ys g x,H f=none->xs[i]?=some x->ys.length<=i->g f=some (.lst ys)->s f i ys g->∃p u v,x=.ref p/\g p=some (.tup [u,v])/\c (some u::some v::az) g fun b H3=>if b=true then te (some u::some v::az) H3 (BO xs.length f (s f) ys i) else yI xs.length f (s f) ys i H3)(J:∀f ys g,H f=none->g f=some (.lst ys)->ys.length<=xs.length->s f xs.length ys g->Q (.ref f) g):kI te (some c) (KU K 2 (sX (hX 0) (sX (hX 1) YF))) (B6 2 none) az Q (SK K a) H:=by
 intro f o;refine {fW xs.length f (s f),{xs.length,by simp,C9 _,j8 _,aC,h0 f o},fun i m ys g G=>?_};obtain ⟨rfl,D,A,t,p⟩:=G;have q:=B f i ys g o D p;refine {t,?_};rcases mm i xs.length with C|w
 ·refine .inr {eE (A5 A (by lia)),{xs,xs[i],q,by simp[C]},fun P x E M z=>?_};obtain ⟨rfl,z⟩:=z;obtain ⟨N,O,rfl⟩:=Qd M;obtain ⟨b,u,v,rfl,I,k⟩:=hs f i ys E x o (z xs q) A t p;exact CU I {u,[v],rfl,v,[],rfl,rfl,{[some u,some v],rfl,rfl},k}
 ·cases (uu D w:i=xs.length);exact .inl {{xs,q,j8 _},J f ys g o t A p}
end
def mK(f:(cD X scope az N C s0 H0 ex).calm=true)(h:Mh (cD X scope az N C s0 H0 ex) es t)(hn:(Z8 es (cD X scope az N C s0 H0 ex).env).length=n:=by rfl)(c:(Z8 es (cD X scope az N C s0 H0 ex).env).findIdx? (·.1)=none:=by rfl):PG (cD X scope az N C s0 H0 ex) (.Tuple es k pos) (KU X.K n t):=jO f h hn c
def xM:kK (cD X scope az N C s0 H0 ex) (E4 .In) (Sw X.K false):=AZ
def Cl(q r:Rat):j7 (q.num*r.num) ((q.den:Int)*r.den)=q*r:=by rw[←T6,C8,C8]
def Dj(q r:Rat):j7 (q.num*r.den) ((q.den:Int)*r.num)=q/r:=by rw[lg,←T6,C8];congr 1;rw[←Rat.inv_divInt,C8]
noncomputable def GN(o:Option Rat)(T m:Rat):Rat:=match o with|none=>0|some f=>if m<f then 0 else (m-f)/T
noncomputable def OT(tk:Option Rat)(m:Rat):Bool:=match tk with|none=>false|some u=>!decide (m<u)
def CF(oa ob tk:Option Rat)(T m:Rat):Option (Rat×Rat):=
 if OT tk m=true then none else if GN oa T m<1-GN ob T m then some (GN oa T m,1-GN ob T m) else none
inductive rF where
|stands|swept (p:Str) (t:Rat)|met (t s:Rat)|taken (t:Rat)
noncomputable def Nj(o:Option Rat)(T:Rat)(p:Option Rat):Bool:=match o with|none=>false|some f=>match p with|none=>true|some g=>!decide (g<f+T)
def zK(a b:Str)(oa ob:Option Rat)(T:Rat):rF:=
 if oa=none/\ob=none then .stands else if Nj oa T ob=true then .swept a (oa.getD 0+T) else if Nj ob T oa=true then .swept b (ob.getD 0+T) else .met ((oa.getD 0+ob.getD 0+T)*(1/2)) (((oa.getD 0+ob.getD 0+T)*(1/2)-oa.getD 0)/T)
noncomputable def yJ:rF->Option Rat
|.stands=>none
|.swept _ t=>some t
|.met t _=>some t
|.taken t=>some t
noncomputable def BL(u:Rat)(o:Option Rat):Bool:=match o with|none=>true|some t=>decide (u<t)
def Dh(e:rF)(tk:Option Rat):rF:=match tk with|none=>e|some u=>if BL u (yJ e)=true then .taken u else e
def ZK(H:Hp)(v:V):rF->Prop
|.stands=>∃p,v=.ref p/\H p=some (.tup [.str "stands"])
|.swept s t=>∃p u,v=.ref p/\H p=some (.tup [.str "swept",.str s,u])/\cI H u t
|.met t s=>∃p u w,v=.ref p/\H p=some (.tup [.str "met",u,w])/\cI H u t/\cI H w s
|.taken t=>∃p u,v=.ref p/\H p=some (.tup [.str "taken",u])/\cI H u t
def iY(H:Hp)(v:V):Option (Rat×Rat)->Prop
|none=>v=.non
|some x=>∃p u w,v=.ref p/\H p=some (.tup [u,w])/\cI H u x.1/\cI H w x.2
def iY.tk(h:iY H v o)(t:TK H H'):iY H' v o:=by
 cases o with
|none=>exact h
|some x=>obtain ⟨p,u,w,e,h,f,g⟩:=h;exact {p,u,w,e,t _ _ h,f.tk t,g.tk t}
def XJ(h:H p=some (.tup [u,w]))(f:cI H u q)(g:cI H w r):nY H (.tup [Dl q,Dl r]) (.ref p):={p,_,rfl,h,_,_,rfl,uG f,_,_,rfl,uG g,rfl}
section
variable {H:Hp}{Q:VK}
def rY(k:Q (.int 1000000000000000000000000000000) H):rI ZL (fun i j=>.int (i^j.toNat)) (.int 10) (.int 30) H Q:=Fu {by decide,by decide,by decide} k
def An(k:Q (.int 1000000000000000000000000000000000000000000000000000000000) H):rI ZL (fun i j=>.int (i^j.toNat)) (.int 10) (.int 57) H Q:=Fu {by decide,by decide,by decide} k
end
def Te{us:St}(h:us.length=3):∃o p q,us=[o,p,q]:=by
 cases us with
|nil=>cases h
|cons o us=>cases us with
 |nil=>cases h
 |cons p us=>cases us with
  |nil=>cases h
  |cons q us=>cases us with
   |nil=>exact {o,p,q,rfl}
   |cons r us=>cases h
def sM{E:TE}{Q:VK}{H:Hp}{o:St}{K:v9}{a:c8}{xs:List V}(hn:xs.length<=1000)(s:c8->Nat->List V->Hp->Prop)(h0:∀c,H c=none->s c 0 [] (upd H c (.lst [])))(A:∀c i ys f,H c=none->i<=xs.length->s c i ys f->cU K f a xs)(hs:∀c i ys f x,H c=none->xs[i]?=some x->ys.length=i->f c=some (.lst ys)->s c i ys f->∃p u v z,x=.ref p/\f p=some (.tup [u,v,z])/\E (some u::some v::some z::o) f (yP xs.length c (s c) ys i))(M:∀c ys f,H c=none->f c=some (.lst ys)->ys.length=xs.length->s c xs.length ys f->Q (.ref c) f):kI E none (KU K 3 (sX (hX 0) (sX (hX 1) (sX (hX 2) YF)))) (B6 3 none) o Q (SK K a) H:=by
 intro c g;refine {cW xs.length c (s c),{xs.length,by simp,C9 _,rfl,aC,h0 c g},fun i m ys f I=>?_};obtain ⟨rfl,C,D,t,p⟩:=I;have q:=A c i ys f g C p;refine {t,?_};rcases mm i xs.length with B|w
 ·refine .inr {eE (by lia),{xs,xs[i],q,by simp[B]},fun S x G N z=>?_};obtain ⟨rfl,z⟩:=z;obtain ⟨O,P,R,rfl⟩:=Te N;obtain ⟨b,u,v,y,rfl,J,k⟩:=hs c i ys G x g (z xs q) D t p;exact NS J {u,[v,y],rfl,v,[y],rfl,y,[],rfl,rfl,{[some u,some v,some y],rfl,rfl},k}
 ·cases (uu C w:i=xs.length);exact .inl {{xs,q,j8 _},M c ys f g t D p}
def jU(H:Hp)(v:V)(r:Int×Int×Int):Prop:=∃p,v=.ref p/\H p=some (.tup [.int r.1,.int r.2.1,.int r.2.2])
def jU.tk(h:jU H v r)(t:TK H H'):jU H' v r:=let ⟨p,e,h⟩:=h;{p,e,t _ _ h}
def fQ(H:Hp)(v:V)(r:Int×Int):Prop:=∃p,v=.ref p/\H p=some (.tup [.int r.1,.int r.2])
def fQ.tk(h:fQ H v r)(t:TK H H'):fQ H' v r:=let ⟨p,e,h⟩:=h;{p,e,t _ _ h}
def cP(ln:c8)(u:Int)(lr lp lt:c8)(nw:List (aR×V):=[]):List (aR×V):=(c9 "names",.ref ln)::(c9 "unit",.int u)::(c9 "runs",.ref lr)::(c9 "pushes",.ref lp)::(c9 "takings",.ref lt)::nw
section
variable {ln lr lp lt:c8}{u:Int}{nw:List (aR×V)}
def fG:bP (cP ln u lr lp lt nw) (c9 "names")=some (.ref ln):=by with_unfolding_all rfl
def uF:bP (cP ln u lr lp lt nw) (c9 "unit")=some (.int u):=by with_unfolding_all rfl
def cB:bP (cP ln u lr lp lt nw) (c9 "runs")=some (.ref lr):=by with_unfolding_all rfl
def oX:bP (cP ln u lr lp lt nw) (c9 "pushes")=some (.ref lp):=by with_unfolding_all rfl
def mY:bP (cP ln u lr lp lt nw) (c9 "takings")=some (.ref lt):=by with_unfolding_all rfl
end
structure Rl(U:List Str)(u:Int)(rs:List (Int×Int×Int))(ps ts:List (Int×Int))(m:Nat):Prop where
 u0:0<u
 u1:u<=10^12
 n2:2<=U.length
 n8:U.length<=8
 rok:∀r∈rs,0<=r.1/\r.1<U.length/\0<=r.2.1/\r.2.1<U.length/\1<=r.2.2/\r.2.2<=10^31
 pok:∀r∈ps,0<=r.1/\r.1<U.length/\0<=r.2/\r.2<=10^105
 tok:∀r∈ts,0<=r.1/\0<=r.2/\r.2<=10^105
 len:rs.length+ps.length+ts.length<=m
structure fN(H:Hp)(dd:c8)(U:List Str)(u:Int)(rs:List (Int×Int×Int))(ps ts:List (Int×Int))(ln lr lp lt:c8):Prop where
 e:∃nw,H dd=some (.dK (cP ln u lr lp lt nw))
 nm:H ln=some (.lst (U.map V.str))
 rq:LQ jU H lr rs
 pq:LQ fQ H lp ps
 tq:LQ fQ H lt ts
def fN.d(h:fN H dd U u rs ps ts ln lr lp lt):H dd=some (.dK (cP ln u lr lp lt (Classical.choose h.e))):=Classical.choose_spec h.e
def fN.sm(h:fN H dd U u rs ps ts ln lr lp lt)(s:aJ H H'):fN H' dd U u rs ps ts ln lr lp lt:={{_,s _ _ h.d},s _ _ h.nm,h.rq.sm jU.tk s,h.pq.sm fQ.tk s,h.tq.sm fQ.tk s}
theorem IK:∀{f:List V}{c:List (Int×Int×Int)},Paired (jU H) f c->jH H (c.map fun r=>.tup [.int r.1,.int r.2.1,.int r.2.2]) f
|_,_,.nil=>rfl
|_,_,.cons ⟨p,e,h⟩ t=>{_,_,rfl,{p,_,e,h,_,_,rfl,rfl,_,_,rfl,rfl,_,_,rfl,rfl,rfl},IK t}
theorem II:∀rs:List (Int×Int×Int),iL (rs.map fun r=>Dt.tup [.int r.1,.int r.2.1,.int r.2.2])<=10
|[]=>by decide
|u::r=>by
  have:=II r;show max (uW (Dt.tup [.int u.1,.int u.2.1,.int u.2.2])) (iL (r.map fun r=>Dt.tup [.int r.1,.int r.2.1,.int r.2.2]))<=10;have e:uW (Dt.tup [.int u.1,.int u.2.1,.int u.2.2])<=10:=by simp[uW,iL]
  lia
def Lf(f:H l=some (.lst zs))(m:Paired (jU H) zs c)(g:H p=some (.lst []))(k:Q (.bl (decide (c=[]))) H):VR (.ref l) (.ref p) H Q:=by
 refine Qn (es:=[]) {l,_,rfl,f,IK m} {p,_,rfl,g,rfl} (A5 (II c) (by decide)) ?_;cases c with
|nil=>rw[decide_eq_true rfl]at k;exact k
|cons r c=>rw[decide_eq_false (List.cons_ne_nil _ _)]at k;exact k
def Qq(p:c8)(Q:VK)(x1 y1 x2 y2 x3 y3 x4 y4 x5 y5:V)(H4:Hp):Prop:=H4 p=some (.dK [])/\∃kvs:List (aR×V),[(x1,y1),(x2,y2),(x3,y3),(x4,y4),(x5,y5)]=kvs.map (fun kv=>(kV kv.1,kv.2))/\kvs.length<=15/\Q (.ref p) (upd H4 p (.dK (iK [] kvs)))
def Aw(k:∀p,H p=none->k1 σ (upd H p (.dK [])) fun x1 H1=>v1 σ H1 fun y1 H2=>k2 σ H2 fun x2 H3=>v2 σ H3 fun y2 H4=>k3 σ H4 fun x3 H5=>v3 σ H5 fun y3 H6=>k4 σ H6 fun x4 H7=>v4 σ H7 fun y4 H8=>k5 σ H8 fun x5 H9=>v5 σ H9 fun y5 H10=>Qq p Q x1 y1 x2 y2 x3 y3 x4 y4 x5 y5 H10):El [(k1,v1),(k2,v2),(k3,v3),(k4,v4),(k5,v5)] σ H Q:=k
def RN(h:H p=some (.dK []))(k:Q (.ref p) (upd H p (.dK (cP ln u lr lp lt)))):Qq p Q (.str "names") (.ref ln) (.str "unit") (.int u) (.str "runs") (.ref lr) (.str "pushes") (.ref lp) (.str "takings") (.ref lt) H:=
 {h,cP ln u lr lp lt,rfl,A3 rfl,by
  rw[lM (by rw[Q3];show (([c9 "names",c9 "unit",c9 "runs",c9 "pushes",c9 "takings"]:List aR)).Nodup;decide +kernel),Q3];exact k}
theorem uE:∀{xs:List Int}{us:List c7},bU (xs.map V.int) us->O6 us xs
|[],_,.nil=>.nil
|x::xs,_,.cons ⟨t,e⟩ r=>by subst e;exact .cons x t (uE r)
noncomputable abbrev gal:Bool->Keyed->Array Keyed->Nat->Nat->Nat->StateT SortSt Sem (Option Nat):=sortPriv% PySem.Builtin.gallop
noncomputable abbrev mgL:Array Keyed->Array Keyed->StateT SortSt Sem (Array Keyed):=sortPriv% PySem.Builtin.mergeLo
abbrev mgH:Array Keyed->Array Keyed->StateT SortSt Sem (Array Keyed):=sortPriv% PySem.Builtin.mergeHi
def ZH(a₀ x:Array D5):Prop:=∀p∈x.toList,p∈a₀.toList
structure SB(a₀:Array D5)(st:B2):Prop where
 perm:(arrOf st).Perm a₀
 kind:kindOf st=Z3
 ok:failedOf st=none
def rG(prog:m7)(w:y6)(a₀:Array D5):Prop:=∀{A:A2}{E:c7->f9->Prop}{s:f9}{st:B2}{x y:D5}{Q:Option Bool->B2->Prop},kindOf st=Z3->x∈a₀.toList->y∈a₀.toList->(∀b,Q (some b) st)->wpS (j3 prog w) A E s (lt' x y) Q st
def Td{prog:m7}{w:y6}{c:Array D5}{f:PyProof.Rows.KeyKind}(g:f.OneLt)(h:KeysOf f c):rG prog w c:=by intro A E s st x y Q hk t B q;obtain ⟨a,m⟩:=h _ t;obtain ⟨b,o⟩:=h _ B;rw[lt'_eq];refine j0 (W0 ?_);rw[hk,wm];refine j0 (ik (U5 (g prog w A _ s x.1 y.1 a b m o {rfl,?_})));exact j6 (q _)
def ZH.at(h:ZH a₀ x)(c:i<x.size):x[i]∈a₀.toList:=h _ (by simp)
def ZH.ext(h:ZH a₀ x)(i j:Nat):ZH a₀ (x.extract i j):=fun p hp=>h p (by
 rw[Z5]at hp;exact kf (fz hp))
section
variable {prog:m7}{w:y6}{A:A2}{E:c7->f9->Prop}{s:f9}{a₀:Array D5}{M:Model}
def bJ{st:B2}{arr:Array D5}{i:Nat}{Q:D5->B2->Prop}(h:i<arr.size)(q:Q arr[i] st):wpS M A E s (elem' arr i) Q st:=by rw[elem'_eq,getElem?_pos arr i h];exact j6 q
def SB.in{st:B2}(h:SB a₀ st):ZH a₀ (arrOf st):=fun p hp=>(U3.mp h.perm).mem_iff.mp hp
def SB.sz{st:B2}(h:SB a₀ st):(arrOf st).size=a₀.size:=h.perm.size_eq
def SB.set{st:B2}(h:SB a₀ st){xs:Array D5}(hp:xs.Perm (arrOf st)):SB a₀ (setArr st xs):={hp.trans h.perm,h.kind,h.ok}
def pI(m:rG prog w a₀){st:B2}{i j:Nat}{Q:Option Bool->B2->Prop}(c:SB a₀ st)(o:i<a₀.size)(q:j<a₀.size)(h:∀b,Q (some b) st):wpS (j3 prog w) A E s (ltAt' i j) Q st:=by
 rw[ltAt'_eq];have f:i<(arrOf st).size:=by rw[c.sz];exact o
 have g:j<(arrOf st).size:=by rw[c.sz];exact q
 refine j0 (W0 ?_);exact j0 (bJ f (j0 (bJ g (m c.kind (c.in.at f) (c.in.at g) h))))
def jX(N:rG prog w a₀){st:B2}{left:Bool}{B:D5}{arr:Array D5}{m n t:Nat}{Q:Option Nat->B2->Prop}(hk:kindOf st=Z3)(D:B∈a₀.toList)(C:ZH a₀ arr)(P:m+n<=arr.size)(O:t<n)(h:∀k,k<=n->Q (some k) st):wpS (j3 prog w) A E s (gal left B arr m n t) Q st:=by
 have G:∀i,i<n->∀Q:Option Bool->B2->Prop,(∀b,Q (some b) st)->wpS (j3 prog w) A E s (do
   let x ←elem' arr (m+i)
   if left=true then lt' x B else do
    let l ←lt' B x
    K0 (Option.map (fun x=>!x) l)) Q st:=by
  intro i R Q q;have H:m+i<arr.size:=by lia
  refine j0 (bJ H ?_);split
  ·exact N hk (C.at H) D q
  ·exact j0 (N hk D (C.at H) fun b=>j6 (q _))
 refine j0 (G t O _ fun right=>?_);dsimp only;cases right
 all_goals
  simp only[if_true,K5,if_false];refine j0 (P1 (G8 (I:=fun _ c g=>g=st/\∃l o,c=(none,l,o)) (Q:=fun c g=>g=st/\∃l o,c=(none,l,o)) ?_ (fun _ _ h=>h) {rfl,0,1,rfl}) ?_)
  ·rintro x c g _ _ ⟨rfl,l,o,rfl⟩;dsimp only;split
   ·exact j6 {rfl,l,o,rfl}
   ·refine j0 (G _ (by lia) _ fun J=>?_);dsimp only;split <;> exact j6 {rfl,_,_,rfl}
  ·rintro c g ⟨rfl,l,o,rfl⟩;dsimp only;refine j0 (P1 (G8 (I:=fun _ c f=>f=g/\∃l o,c=(none,l,o)/\o<=n) (Q:=fun c f=>f=g/\∃l o,c=(none,l,o)/\o<=n) ?_ (fun _ _ h=>h) {rfl,_,_,rfl,by lia}) ?_)
   ·rintro x c f _ _ ⟨rfl,l,o,rfl,K⟩;dsimp only;split
    ·exact j6 {rfl,l,o,rfl,K}
    ·refine j0 (G _ (by lia) _ fun J=>?_);dsimp only;split
     ·exact j6 {rfl,_,_,rfl,K}
     ·exact j6 {rfl,_,_,rfl,by lia}
   ·rintro c f ⟨rfl,l,o,rfl,K⟩;exact j6 (h _ K)
structure SG(st st':B2):Prop where
 kind:kindOf st'=kindOf st
 arr:arrOf st'=arrOf st
 pend:pendingOf st'=pendingOf st
 ok:failedOf st'=failedOf st
def SG.refl(st:B2):SG st st:={rfl,rfl,rfl,rfl}
def SG.gal{st c:B2}(h:SG st c)(g:Nat):SG st (dl (kindOf c) (arrOf c) (pendingOf c) g (failedOf c)):={h.1,h.2,h.3,h.4}
def jY(a:Array D5)(i:Nat):(a.extract i a.size).toList=a.toList.drop i:=by rw[Z5];exact iy (by simp)
def qJ(a:Array D5)(i k:Nat):(a.extract i (i+k)).toList=(a.toList.drop i).take k:=by rw[Z5];show (a.toList.drop i).take (i+k-i)=_;rw[Nat.add_sub_cancel_left]
def MI(a b out:Array D5)(ia ib:Nat):Prop:=out.toList.Perm (a.toList.take ia++b.toList.take ib)
def DA{o X Y Z:List D5}(h:o.Perm (X++Y)):(o++Z).Perm ((X++Z)++Y):=by refine (h.append_right Z).trans ?_;rw[E1,E1];exact W2.append_left X
def CZ{o X Y Z:List D5}(h:o.Perm (X++Y)):(o++Z).Perm (X++(Y++Z)):=by rw[←E1];exact h.append_right Z
def MI.xa(h:MI a b out ia ib)(k:Nat):MI a b (out++a.extract ia (ia+k)) (ia+k) ib:=by unfold MI;rw[D3,qJ,take_add];exact DA h
def MI.xb(h:MI a b out ia ib)(k:Nat):MI a b (out++b.extract ib (ib+k)) ia (ib+k):=by unfold MI;rw[D3,qJ,take_add];exact CZ h
def wD{a:Array D5}{i:Nat}(c:i<a.size):a.toList.take (i+1)=a.toList.take i++[a[i]]:=by rw[B5 (by simpa using c)];rfl
def MI.pa(h:MI a b out ia ib)(c:ia<a.size):MI a b (out.push a[ia]) (ia+1) ib:=by unfold MI;rw[L4,wD c];exact DA h
def MI.pb(h:MI a b out ia ib)(c:ib<b.size):MI a b (out.push b[ib]) ia (ib+1):=by unfold MI;rw[L4,wD c];exact CZ h
def MI.done(h:MI a b out ia ib):(out++a.extract ia a.size++b.extract ib b.size).toList.Perm (a.toList++b.toList):=by rw[D3,D3,jY,jY];have:=CZ (Z:=b.toList.drop ib) (DA (Z:=a.toList.drop ia) h);rwa[O8,O8]at this
def MI.last(h:MI a b out ia ib):(out++b.extract ib b.size++a.extract ia a.size).toList.Perm (a.toList++b.toList):=by rw[D3,D3,jY,jY];have:=DA (Z:=a.toList.drop ia) (CZ (Z:=b.toList.drop ib) h);rwa[O8,O8]at this
def bX{f:Type}{st:B2}{c:Prop}{i:Decidable c}{p q:StateT B2 Sem f}{Q:f->B2->Prop}(g:c->wpS M A E s p Q st)(m:¬c->wpS M A E s q Q st):wpS M A E s (if c then p else q) Q st:=by
 split
 ·exact g ‹_›
 ·exact m ‹_›
def bR{c:Type}{st:B2}{x y:Nat}{i:Decidable ((x==y)=true)}{p q:StateT B2 Sem c}{Q:c->B2->Prop}(f:x=y->wpS M A E s p Q st)(g:x≠y->wpS M A E s q Q st):wpS M A E s (if (x==y)=true then p else q) Q st:=by
 split
 ·exact f (eq_of_beq ‹(x==y)=true›)
 ·exact g (fun e=>‹¬(x==y)=true› (by rw[e];exact beq_self_eq_true y))
def Um{f:Type}{st:B2}{c:Prop}{i:Decidable c}{p q:StateT B2 Sem f}{Q:f->B2->Prop}(h:wpS M A E s (if c then p else q) Q st):wpS M A E s (if c then p else q) Q st:=h
def Up{f g:Type}{st:B2}{c:Prop}{i:Decidable c}{F:g->StateT B2 Sem f}{x y:g}{Q:f->B2->Prop}(T:∀x,wpS M A E s (F x) Q st):wpS M A E s (if c then F x else F y) Q st:=bX (fun _=>T _) fun _=>T _
def Uo{c f g:Type}{st:B2}{p:StateT B2 Sem c}{Q:c->B2->Prop}(F:Unit->f->g->StateT B2 Sem c)(I:f->g->Prop)(h:(∀x y,I x y->wpS M A E s (F () x y) Q st)->wpS M A E s p Q st)(T:∀x y,I x y->wpS M A E s (F () x y) Q st):wpS M A E s p Q st:=h T
inductive Uq {β:Type} (a b:Array D5) (st:B2) (n:Nat):Option (Array D5)×Array D5×Nat×Nat×β->B2->Prop
|mk {out i j x st'} (g:SG st st') (m:MI a b out i j) (p:i+1<a.size) (q:j<b.size) (r:n<=i+j):Uq a b st n (none,out,i,j,x) st'
inductive Us {β:Type} (a b:Array D5) (st:B2) (n:Nat):Option (Array D5)×Array D5×Nat×Nat×β->B2->Prop
|r {r x st'} (g:SG st st') (h:r.toList.Perm (a.toList++b.toList)):Us a b st n (some r,x) st'
|n {m c st'} (z:Uq a b st m c st') (h:n<=m):Us a b st n c st'
def ZW(D:rG prog w a₀){st:B2}{a b:Array D5}{Q:Array D5->B2->Prop}(hk:kindOf st=Z3)(G:ZH a₀ a)(H:ZH a₀ b)(U:0<a.size)(N:0<b.size)(h:∀r f,SG st f->r.toList.Perm (a.toList++b.toList)->Q r f):wpS (j3 prog w) A E s (mgL a b) Q st:=by
 have K:MI a b #[b[0]] 0 1:=by unfold MI;rw[wD N];exact fb.refl _
 refine j0 (ik (L7 {rfl,j0 (bJ N (bR (fun _=>j6 (h _ _ (SG.refl _) K.done)) fun Y=>bR (fun _=>j6 (h _ _ (SG.refl _) K.last)) fun n2=>j0 (W0 (j0 (P1 (G8 (I:=fun j=>Uq a b st (j+1)) (Q:=Us a b st (a.size+b.size+1)) ?_ (fun c f z=>.n z (by lia)) {SG.refl _,K,by lia,by lia,by lia}) ?_)))))}))
 rotate_left
 ·rintro c f (⟨g,C⟩|⟨⟨g,m,p,q,r⟩,z⟩)
  ·exact j6 (h _ _ g C)
  ·lia
 rintro j c P _ X ⟨g,m,p,q,r⟩;refine j0 (P1 (G8 (I:=fun i=>Uq a b st (j+1+i)) (Q:=Us a b st (j+2)) ?_ (fun c f z=>.n z (by lia)) {g,m,p,q,r}) ?_)
 ·rintro i c f _ W ⟨g,m,p,q,r⟩;have t:=W9 p;refine j0 (bJ q (j0 (bJ t (j0 (D (g.kind.trans hk) (H.at q) (G.at t) fun S=>bX (fun _=>j0 (bJ q (bR (fun _=>j6 (.r g (m.pb q).done)) fun _=>?_))) fun _=>j0 (bJ t (bR (fun _=>j6 (.r g (m.pa t).last)) fun _=>?_)))))))
  ·have z:∀x:Nat×Nat,Uq a b st (j+1+(i+1)) (none,_,_,_,x) _:=fun _=>{g,m.pb q,p,by o_law,by lia}
   exact bX (fun _=>j6 (.n (z _) (by lia))) fun _=>j6 (z _)
  ·have z:∀x:Nat×Nat,Uq a b st (j+1+(i+1)) (none,_,_,_,x) _:=fun _=>{g,m.pa t,by o_law,q,by lia}
   exact bX (fun _=>j6 (.n (z _) (by lia))) fun _=>j6 (z _)
 rintro c f (⟨g,C⟩|⟨⟨g,m,p,q,r⟩,z⟩)
 ·exact j6 (.r g C)
 refine j0 (ik (L7 {rfl,j0 (P1 (G8 (I:=fun _=>Uq a b st (j+2)) (Q:=Us a b st (j+2)) ?_ (fun c f z=>.n z (j8 _)) {g,m,p,q,A5 z r}) ?_)}))
 rotate_left
 ·rintro c f (⟨g,C⟩|⟨⟨g,m,p,q,r⟩,z⟩)
  ·exact j6 (.r g C)
  ·exact j0 (P3 (j6 {g.gal _,m,p,q,A5 z r}))
 rintro i c R _ _ ⟨g,m,p,q,r⟩;refine Um ?_;generalize B:(fun(_:Unit)(_:Nat)=>_)=F;refine Up ?_;subst B;intro O;refine j0 (P3 (j0 (bJ q (j0 (jX D (g.kind.trans hk) (H.at q) G (by o_law) (by o_law) fun k J=>Um ?_)))));generalize B:(fun(_:Unit)(_:Array D5)(_:Nat)=>_)=F;refine Uo F (fun o i=>MI a b o i _/\i+1<a.size/\j+2<=i+_) (fun T=>bX (fun _=>bR (fun _=>j6 (.r (g.gal _) (m.xa k).last)) fun _=>bR (fun _=>j6 (.r (g.gal _) (m.xa k).done)) fun _=>T _ _ {m.xa k,by o_law,by o_law}) fun _=>T _ _ {m,p,r}) ?_;subst B;clear m p r;rintro o i ⟨m,p,r⟩;have t:=W9 p;refine j0 (bJ q (bR (fun _=>j6 (.r (g.gal _) (m.pb q).done)) fun _=>j0 (bJ t (j0 (jX D (g.kind.trans hk) (G.at t) H (by o_law) (by o_law) fun k J=>Um ?_)))));generalize B:(fun(_:Unit)(_:Array D5)(_:Nat)=>_)=F;refine Uo F (fun o l=>MI a b o i l/\l<b.size/\j+2<=i+l) (fun T=>bX (fun _=>bR (fun _=>j6 (.r (g.gal _) ((m.pb q).xb k).done)) fun _=>T _ _ {(m.pb q).xb k,by o_law,by o_law}) fun _=>T _ _ {m.pb q,by o_law,by o_law}) ?_;subst B;clear m q r;rintro o l ⟨m,q,r⟩;refine j0 (bJ t (bR (fun _=>j6 (.r (g.gal _) (m.pa t).last)) fun _=>?_));have z:∀x:Nat×Nat×Nat,Uq a b st (j+2) (none,_,_,_,x) _:=fun _=>{g.gal O,m.pa t,by o_law,q,by o_law}
 exact bX (fun _=>j6 (.n (z _) (j8 _))) fun _=>j6 (z _)
def MH(a b out:Array D5)(na nb:Nat):Prop:=out.toList.Perm (a.toList.drop na++b.toList.drop nb)
def CY{o X Y Z:List D5}(h:o.Perm (X++Y)):(o++Z).Perm ((Z++X)++Y):=by rw[E1];exact W2.trans (h.append_left Z)
def JV{o X Y Z:List D5}(h:o.Perm (X++Y)):(o++Z).Perm (X++(Z++Y)):=by rw[←E1];exact (CY h).trans (W2.append_right Y)
def zS(a:Array D5)(n:Nat):(a.extract 0 n).toList=a.toList.take n:=by rw[Z5];show (a.toList.drop 0).take (n-0)=_;rw[Nat.sub_zero,List.drop_zero]
def sZ(a:Array D5)(h:i<=n):a.toList.drop i=(a.extract i n).toList++a.toList.drop n:=by
 obtain ⟨k,rfl⟩:∃k,n=i+k:={n-i,by lia}
 rw[qJ,←List.drop_drop,O8]
def yK{a:Array D5}{i:Nat}(c:i<a.size):a.toList.drop i=[a[i]]++a.toList.drop (i+1):=by rw[ui (by simpa using c)];rfl
def MH.xa(h:MH a b out na nb)(hk:k<=na):MH a b (out++(a.extract k na).reverse) k nb:=by unfold MH;rw[D3,kc,sZ a hk];exact ((yn _).append_left _).trans (CY h)
def MH.xb(h:MH a b out na nb)(hk:k<=nb):MH a b (out++(b.extract k nb).reverse) na k:=by unfold MH;rw[D3,kc,sZ b hk];exact ((yn _).append_left _).trans (JV h)
def MH.pa(h:MH a b out na nb)(h0:0<na)(c:na-1<a.size):MH a b (out.push a[na-1]) (na-1) nb:=by unfold MH;rw[L4,yK c,mz h0];exact CY h
def MH.pb(h:MH a b out na nb)(h0:0<nb)(c:nb-1<b.size):MH a b (out.push b[nb-1]) na (nb-1):=by unfold MH;rw[L4,yK c,mz h0];exact JV h
def MH.done(h:MH a b out na nb):(a.extract 0 na++b.extract 0 nb++out.reverse).toList.Perm (a.toList++b.toList):=by rw[D3,D3,zS,zS,kc];have:=CY (Z:=a.toList.take na) (JV (Z:=b.toList.take nb) h);rw[O8,O8]at this;refine fb.trans ?_ this;refine ((yn _).append_left _).trans (W2.trans ?_);rw[E1];exact W2.append_left _
def MH.first(h:MH a b out na nb):(b.extract 0 nb++a.extract 0 na++out.reverse).toList.Perm (a.toList++b.toList):=by refine fb.trans ?_ h.done;simp only[D3];exact W2.append_right _
inductive Ur {β:Type} (a b:Array D5) (st:B2) (n:Nat):Option (Array D5)×Nat×Nat×Array D5×β->B2->Prop
|mk {out i j x st'} (g:SG st st') (m:MH a b out i j) (o:0<i) (p:i<=a.size) (t:1<j) (q:j<=b.size) (r:i+j+n<=a.size+b.size):Ur a b st n (none,i,j,out,x) st'
inductive Ut {β:Type} (a b:Array D5) (st:B2) (n:Nat):Option (Array D5)×Nat×Nat×Array D5×β->B2->Prop
|r {r x st'} (g:SG st st') (h:r.toList.Perm (a.toList++b.toList)):Ut a b st n (some r,x) st'
|n {m c st'} (z:Ur a b st m c st') (h:n<=m):Ut a b st n c st'
def ZX(K:rG prog w a₀){st:B2}{a b:Array D5}{Q:Array D5->B2->Prop}(hk:kindOf st=Z3)(N:ZH a₀ a)(O:ZH a₀ b)(R:0<a.size)(Z:0<b.size)(h:∀r f,SG st f->r.toList.Perm (a.toList++b.toList)->Q r f):wpS (j3 prog w) A E s (mgH a b) Q st:=by
 have S:=sub_lt R yp;have P:MH a b #[a[a.size-1]] (a.size-1) b.size:=by unfold MH;rw[yK S,mz R,jc (by simp),jc (by simp)];exact fb.refl _
 refine j0 (ik (L7 {rfl,j0 (bJ S (bR (fun _=>j6 (h _ _ (SG.refl _) P.done)) fun n1=>bR (fun _=>j6 (h _ _ (SG.refl _) P.first)) fun n2=>j0 (W0 (j0 (P1 (G8 (I:=fun j=>Ur a b st (j+1)) (Q:=Ut a b st (a.size+b.size+1)) ?_ (fun c f z=>.n z (by lia)) {SG.refl _,P,by lia,by lia,by lia,by lia,by lia}) ?_)))))}))
 rotate_left
 ·rintro c f (⟨g,J⟩|⟨⟨g,m,o,p,t,q,r⟩,z⟩)
  ·exact j6 (h _ _ g J)
  ·lia
 rintro j c W _ hj ⟨g,m,o,p,t,q,r⟩;refine j0 (P1 (G8 (I:=fun i=>Ur a b st (j+1+i)) (Q:=Ut a b st (j+2)) ?_ (fun c f z=>.n z (by lia)) {g,m,o,p,t,q,r}) ?_)
 ·rintro i c f _ hi ⟨g,m,o,p,t,q,r⟩;have D:=i7 (sub_lt o yp) p;have G:=i7 (sub_lt (W9 t) yp) q;refine j0 (bJ G (j0 (bJ D (j0 (K (g.kind.trans hk) (O.at G) (N.at D) fun Y=>bX (fun _=>j0 (bJ D (bR (fun _=>j6 (.r g (m.pa o D).done)) fun _=>?_))) fun _=>j0 (bJ G (bR (fun _=>j6 (.r g (m.pb (W9 t) G).first)) fun _=>?_)))))))
  ·have z:∀x:Nat×Nat,Ur a b st (j+1+(i+1)) (none,_,_,_,x) _:=fun _=>{g,m.pa o D,by o_law,by o_law,t,q,by o_law}
   exact bX (fun _=>j6 (.n (z _) (by lia))) fun _=>j6 (z _)
  ·have z:∀x:Nat×Nat,Ur a b st (j+1+(i+1)) (none,_,_,_,x) _:=fun _=>{g,m.pb (W9 t) G,o,p,by o_law,by o_law,by o_law}
   exact bX (fun _=>j6 (.n (z _) (by lia))) fun _=>j6 (z _)
 rintro c f (⟨g,J⟩|⟨⟨g,m,o,p,t,q,r⟩,z⟩)
 ·exact j6 (.r g J)
 refine j0 (ik (L7 {rfl,j0 (P1 (G8 (I:=fun _=>Ur a b st (j+2)) (Q:=Ut a b st (j+2)) ?_ (fun c f z=>.n z (j8 _)) {g,m,o,p,t,q,by o_law}) ?_)}))
 rotate_left
 ·rintro c f (⟨g,J⟩|⟨⟨g,m,o,p,t,q,r⟩,z⟩)
  ·exact j6 (.r g J)
  ·exact j0 (P3 (j6 {g.gal _,m,o,p,t,q,by o_law}))
 rintro i c X _ _ ⟨g,m,o,p,t,q,r⟩;refine Um ?_;generalize H:(fun(_:Unit)(_:Nat)=>_)=F;refine Up ?_;subst H;intro U;have G:=i7 (sub_lt (W9 t) yp) q;refine j0 (P3 (j0 (bJ G (j0 (jX K (g.kind.trans hk) (O.at G) N (by o_law) (by o_law) fun k B=>Um ?_)))));generalize H:(fun(_:Unit)(_:Nat)(_:Array D5)=>_)=F;refine Uo F (fun i C=>MH a b C i _/\0<i/\i<=a.size/\i+_+(j+2)<=a.size+b.size) (fun T=>bX (fun _=>bR (fun _=>j6 (.r (g.gal _) (m.xa B).done)) fun _=>T _ _ {m.xa B,by o_law,by o_law,by o_law}) fun _=>T _ _ {m,o,p,r}) ?_;subst H;clear m o p r;rintro i C ⟨m,o,p,r⟩;have m:=m.pb (W9 t) G;have D:=i7 (sub_lt o yp) p;refine j0 (bJ G (bR (fun _=>j6 (.r (g.gal _) m.first)) fun _=>j0 (bJ D (j0 (jX K (g.kind.trans hk) (N.at D) O (by o_law) (by o_law) fun k B=>Um ?_)))));generalize H:(fun(_:Unit)(_:Nat)(_:Array D5)=>_)=F;refine Uo F (fun l C=>MH a b C i l/\1<l/\l<=b.size/\i+l+(j+2)<=a.size+b.size) (fun T=>bX (fun _=>bR (fun _=>j6 (.r (g.gal _) (m.xb B).first)) fun _=>bR (fun _=>j6 (.r (g.gal _) (m.xb B).done)) fun _=>T _ _ {m.xb B,by o_law,by o_law,by o_law}) fun _=>T _ _ {m,by o_law,by o_law,by o_law}) ?_;subst H;clear m t q r;rintro l C ⟨m,t,q,r⟩;refine j0 (bJ D (bR (fun _=>j6 (.r (g.gal _) (m.pa o D).done)) fun _=>?_));have z:∀x:Nat×Nat×Nat,Ur a b st (j+2) (none,_,_,_,x) _:=fun _=>{g.gal U,m.pa o D,by o_law,by o_law,t,q,by o_law}
 exact bX (fun _=>j6 (.n (z _) (j8 _))) fun _=>j6 (z _)
def ZV{c:Type}{x st:c}{Q:PUnit->c->Prop}(h:Q ⟨⟩ x):wpS M A E s (set x:StateT c Sem PUnit) Q st:=by unfold wpS;rw[StateT.run_set];exact i0 {rfl,h}
abbrev Pn:=Nat×Nat×Nat
def qI:List Pn->Nat->Nat->Prop
|[],b,e=>b=e
|x::r,b,e=>x.1=b/\0<x.2.1/\qI r (b+x.2.1) e
theorem qI.le:∀{l:List Pn}{b e:Nat},qI l b e->b<=e
|[],_,_,h=>io h
|_::_,_,_,⟨_,_,h⟩=>by have:=h.le;lia
theorem qI.add:∀{l:List Pn}{b e n q:Nat},qI l b e->0<n->qI (l++[(e,n,q)]) b (e+n)
|[],b,e,n,q,h,hn=>by
  cases h;exact {rfl,hn,rfl}
|_::_,_,_,_,_,⟨c,f,h⟩,hn=>{c,f,h.add hn}
theorem qI.at:∀{l:List Pn}{b e i:Nat}{x y:Pn},qI l b e->l[i]?=some x->l[i+1]?=some y->y.1=x.1+x.2.1/\0<x.2.1/\0<y.2.1/\y.1+y.2.1<=e/\qI ((l.set i (x.1,x.2.1+y.2.1,x.2.2)).eraseIdx (i+1)) b e
|[],_,_,_,_,_,_,c,_=>by simp at c
|[_],_,_,0,_,_,_,_,f=>by simp at f
|u::v::r,b,e,0,x,y,⟨m,g,G,D,h⟩,c,f=>by
  simp only[Q1,Q7]at c;simp only[Q2,Q1,Q7]at f;subst c f;have:=h.le;refine {by lia,g,D,by lia,m,Nat.add_pos_left g _,?_};show qI r _ e;rw[←Nat.add_assoc];exact h
|u::r,b,e,i+1,x,y,⟨m,g,h⟩,c,f=>by rw[Q2]at c f;obtain ⟨o,q,t,B,C⟩:=h.at c f;exact {o,q,t,B,m,g,C}
theorem qI.mod:∀{l:List Pn}{b e:Nat}(i c:Nat),qI l b e->qI (l.modify i fun x=>(x.1,x.2.1,c)) b e
|[],_,_,0,_,h=>h
|[],_,_,_+1,_,h=>h
|_::_,_,_,0,_,h=>h
|_::_,_,_,i+1,c,⟨f,g,h⟩=>{f,g,h.mod i c}
def QC{l:List D5}{i:Nat}(h:i<l.length)(y:D5):l.set i y=l.take i++y::l.drop (i+1):=by rw[List.set_eq_take_append_cons_drop,if_pos h]
theorem Ql:∀(ys:List D5)(arr:Array D5)(b k:Nat),b+k+ys.length<=arr.size->((ys.zipIdx k).foldl (fun a x=>match x with|(p,j)=>a.setIfInBounds (b+j) p) arr).toList=arr.toList.take (b+k)++ys++arr.toList.drop (b+k+ys.length)
|[],arr,b,k,_=>by simp
|y::ys,arr,b,k,h=>by
  rw[J2]at h;rw[List.zipIdx_cons,List.foldl_cons];refine (Ql ys (arr.setIfInBounds (b+k) y) b (k+1) (by rw[Array.size_setIfInBounds];lia)).trans ?_;have m:b+k<arr.toList.length:=by rw[C0];lia
  have c:(arr.toList.take (b+k)).length=b+k:=by rw[dy];lia
  have f:(arr.toList.take (b+k)++y::arr.toList.drop (b+k+1)).take (b+(k+1))=arr.toList.take (b+k)++[y]:=by rw[List.take_append,c,iy (by lia),show b+(k+1)-(b+k)=1 by lia];rfl
  have g:(arr.toList.take (b+k)++y::arr.toList.drop (b+k+1)).drop (b+(k+1)+ys.length)=arr.toList.drop (b+k+(ys.length+1)):=by rw[List.drop_append,c,jc (by lia),show b+(k+1)+ys.length-(b+k)=ys.length+1 by lia,List.drop_succ_cons,List.drop_drop,Q3];congr 1;lia
  rw[rh,QC m,f,g,J2,E1,E1,E1];rfl
def RL{arr m:Array D5}{i j k:Nat}(f:i<=j)(g:j<=k)(q:k<=arr.size)(hp:m.toList.Perm ((arr.extract i j).toList++(arr.extract j k).toList)):(m.toList.zipIdx.foldl (fun a x=>match x with|(p,l)=>a.setIfInBounds (i+l) p) arr).Perm arr:=by
 rw[U3];have o:m.toList.length=k-i:=by rw[hp.length_eq,q4];simp only[C0,md];lia
 have e:=Ql m.toList arr i 0 (by lia);rw[show m.toList.zipIdx=m.toList.zipIdx 0 from rfl,e,Nat.add_zero,o,show i+(k-i)=k by lia,E1];have c:arr.toList=arr.toList.take i++(((arr.extract i j).toList++(arr.extract j k).toList)++arr.toList.drop k):=by rw[E1,←sZ arr g,←sZ arr f,O8]
 conv=>rhs;rw[c]
 exact (hp.append_right _).append_left _
def CA(B:rG prog w a₀){st:B2}{i e:Nat}{Q:Bool->B2->Prop}(f:SB a₀ st)(hc:qI (pendingOf st).toList 0 e)(he:e<=a₀.size)(hi:i+1<(pendingOf st).size)(h:∀c,SB a₀ c->qI (pendingOf c).toList 0 e->Q true c):wpS (j3 prog w) A E s (mergeAt' i) Q st:=by
 obtain ⟨⟨o,H,R⟩,K⟩:∃x,(pendingOf st)[i]?=some x:={_,getElem?_pos _ i (by lia)}
 obtain ⟨⟨m,P,pv⟩,N⟩:∃x,(pendingOf st)[i+1]?=some x:={_,getElem?_pos _ (i+1) hi}
 obtain ⟨X,I,Y,Z,J⟩:=hc.at (i:=i) (by rw[Y2];exact K) (by rw[Y2];exact N);dsimp only at X I Y Z J;have b':=f.sz;refine j0 (W0 ?_);simp only[K,N];refine j0 (ZV ?_);have C:qI (((pendingOf st).setIfInBounds i (o,H+P,R)).eraseIdxIfInBounds (i+1)).toList 0 e:=by rw[Array.toList_eraseIdxIfInBounds,rh];exact J
 have S:m<(arrOf st).size:=by lia
 refine j0 (bJ S ?_);refine j0 (jX (arr:=arrOf st) B f.kind (f.in.at S) f.in (by lia) I fun k hk=>?_);dsimp only;refine bR (fun _=>j6 (h _ {f.perm,f.kind,f.ok} C)) fun _=>?_;have T:o+k+(H-k)-1<(arrOf st).size:=by lia
 refine j0 (bJ T ?_);refine j0 (jX (arr:=arrOf st) B f.kind (f.in.at T) f.in (by lia) (by lia) fun O a'=>?_);dsimp only;refine bR (fun _=>j6 (h _ {f.perm,f.kind,f.ok} C)) fun _=>?_;have t:∀(r:Array D5)(c:B2),SG (dl (kindOf st) (arrOf st) (((pendingOf st).setIfInBounds i (o,H+P,R)).eraseIdxIfInBounds (i+1)) (gallopOf st) (failedOf st)) c->r.toList.Perm (((arrOf st).extract (o+k) m).toList++((arrOf st).extract m (m+O)).toList)->SB a₀ (dl (kindOf c) (r.toList.zipIdx.foldl (fun a x=>match x with|(p,l)=>a.setIfInBounds (o+k+l) p) (arrOf c)) (pendingOf c) (gallopOf c) (failedOf c))/\qI (pendingOf c).toList 0 e:=by
  intro r c g hp;refine {{?_,g.kind.trans f.kind,g.ok.trans f.ok},?_}
  ·have D:arrOf c=arrOf st:=g.arr;show (List.foldl _ (arrOf c) _).Perm a₀;rw[D];exact (RL (by lia) (by lia) (by lia) hp).trans f.perm
  ·have D:pendingOf c=_:=g.pend;rw[D];exact C
 have U:0<((arrOf st).extract (o+k) m).size:=by rw[md];lia
 have W:0<((arrOf st).extract m (m+O)).size:=by rw[md];lia
 refine bX (fun _=>?_) fun _=>?_
 ·refine j0 (ZW B f.kind (f.in.ext _ _) (f.in.ext _ _) U W fun r c g hp=>?_);obtain ⟨q,G⟩:=t r c g hp;refine j0 (P3 (j0 (W0 (j6 ?_))));have:=h _ q G;rw[←show (failedOf c).isNone=true by rw[show failedOf c=none from q.ok];rfl]at this;exact this
 ·refine j0 (ZX B f.kind (f.in.ext _ _) (f.in.ext _ _) U W fun r c g hp=>?_);obtain ⟨q,G⟩:=t r c g hp;refine j0 (P3 (j0 (W0 (j6 ?_))));have:=h _ q G;rw[←show (failedOf c).isNone=true by rw[show failedOf c=none from q.ok];rfl]at this;exact this
def ZY(G:rG prog w a₀){st:B2}{lo nrem:Nat}{Q:Option Nat->B2->Prop}(D:SB a₀ st)(hn:lo+nrem<=a₀.size)(S:1<=nrem)(h:∀m f,SB a₀ f->pendingOf f=pendingOf st->1<=m->m<=nrem->Q (some m) f):wpS (j3 prog w) A E s (countRun' lo nrem) Q st:=by
 refine j0 (P1 (G8 (I:=fun x c f=>f=st/\c=(none,x)) (Q:=fun c f=>f=st/\∃x,c=(none,x)/\1<=x/\x<=nrem) ?_ ?_ {rfl,rfl}) ?_)
 ·rintro x c f H J ⟨rfl,rfl⟩;refine j0 (pI G D (by o_law) (by o_law) fun b=>?_);refine bX (fun _=>?_) fun _=>?_
  ·exact j6 {rfl,x,rfl,H,by lia}
  ·exact j6 {rfl,rfl}
 ·rintro c f ⟨rfl,rfl⟩;exact {rfl,_,rfl,by lia,by lia}
 ·rintro c f ⟨rfl,n,rfl,H,J⟩;refine bR (fun _=>j6 (h _ _ D rfl H J)) fun O=>?_;dsimp only at O;have B:∀{g:B2}(i j:Nat),SB a₀ g/\pendingOf g=pendingOf f->SB a₀ (setArr g (mirror (arrOf g) i j ((j-i)/2)))/\pendingOf (setArr g (mirror (arrOf g) i j ((j-i)/2)))=pendingOf f:=fun i j q=>{q.1.set (mirror_perm _ _ _ _),q.2}
  refine bX (fun _=>?_) fun _=>?_
  rotate_right
  all_goals
   try
    refine j0 (pI G D (by o_law) (by o_law) fun b=>?_);refine bX (fun _=>j6 (h _ _ D rfl H J)) fun _=>?_;refine j0 (uo ?_)
   refine j0 (ik (L7 {rfl,?_}));refine j0 (P1 (G8 (I:=fun x c g=>(SB a₀ g/\pendingOf g=pendingOf f)/\∃q,c=(none,x,q)) (Q:=fun c g=>(SB a₀ g/\pendingOf g=pendingOf f)/\∃x q,c=(none,x,q)/\1<=x/\x<=nrem) ?_ ?_ {by first|exact B _ _ {D,rfl}|exact {D,rfl},_,rfl}) ?_)
   ·rintro x c g P R ⟨t,q,rfl⟩;refine j0 (pI G t.1 (by o_law) (by o_law) fun b=>?_);refine bX (fun _=>?_) fun _=>?_
    ·refine bX (fun _=>?_) fun _=>?_
     ·exact j0 (uo (j6 {B _ _ t,_,rfl}))
     ·exact j6 {t,_,rfl}
    ·refine j0 (pI G t.1 (by o_law) (by o_law) fun b=>?_);refine bX (fun _=>?_) fun _=>?_
     ·exact j6 {t,x,_,rfl,by o_law,by lia}
     ·exact j6 {t,_,rfl}
   ·rintro c g ⟨t,q,rfl⟩;exact {t,_,_,rfl,by o_law,by o_law}
   ·rintro c g ⟨t,x,q,rfl,P,R⟩;refine bX (fun _=>?_) fun _=>?_
    rotate_right
    all_goals
     refine j0 (uo ?_)
     try refine j0 (uo ?_)
     refine j0 (P1 (G8 (I:=fun x c o=>(SB a₀ o/\pendingOf o=pendingOf f)/\c=(none,x)) (Q:=fun c o=>(SB a₀ o/\pendingOf o=pendingOf f)/\∃x,c=(none,x)/\1<=x/\x<=nrem) ?_ ?_ {by first|exact B _ _ (B _ _ t)|exact B _ _ t,rfl}) ?_)
     ·rintro y c o K N ⟨C,rfl⟩;refine j0 (pI G C.1 (by o_law) (by o_law) fun b=>?_);refine bX (fun _=>?_) fun _=>?_
      ·exact j6 {C,_,rfl,by o_law,by lia}
      ·exact j6 {C,rfl}
     ·rintro c o ⟨C,rfl⟩;exact {C,_,rfl,by o_law,by o_law}
     ·rintro c o ⟨C,y,rfl,K,N⟩;exact j6 (h _ _ C.1 C.2 K N)
def ZZ(t:rG prog w a₀){st:B2}{lo n ok:Nat}{Q:Bool->B2->Prop}(B:SB a₀ st)(hn:lo+n<=a₀.size)(h:∀f,SB a₀ f->pendingOf f=pendingOf st->Q true f):wpS (j3 prog w) A E s (binarySort' lo n ok) Q st:=by
 refine j0 (P1 (G8 (I:=fun k c f=>c=(none,())/\SB a₀ f/\pendingOf f=pendingOf st) (Q:=fun c f=>c=(none,())/\SB a₀ f/\pendingOf f=pendingOf st) ?_ (fun _ _ h=>h) {rfl,B,rfl}) ?_)
 ·rintro k c m D G ⟨rfl,o,q⟩;refine j0 (P1 (G8 (I:=fun x c g=>g=m/\∃l r,c=(none,l,r)/\r<=k) (Q:=fun c g=>g=m/\∃l r,c=(none,l,r)) ?_ ?_ {rfl,_,_,rfl,j8 _}) ?_)
  ·rintro x c g _ _ ⟨rfl,l,r,rfl,C⟩;refine bX (fun _=>j6 {rfl,_,_,rfl}) fun _=>?_;refine j0 (pI t o (by o_law) (by o_law) fun b=>?_);refine bX (fun _=>?_) fun _=>?_
   ·exact j6 {rfl,_,_,rfl,by o_law}
   ·exact j6 {rfl,_,_,rfl,C}
  ·rintro c g ⟨rfl,l,r,rfl,_⟩;exact {rfl,l,r,rfl}
  ·rintro c g ⟨rfl,l,r,rfl⟩;exact j0 (P3 (j6 {rfl,o.set (bubble_perm _ _ _),q}))
 ·rintro c m ⟨rfl,o,q⟩;exact j6 (h _ o q)
def Kx{c:Prop}{i:Decidable c}{n:Nat}(h:1<n):(if c then n-2-1 else n-2)+1<n:=by split <;> lia
def LR(R:rG prog w a₀){st:B2}{Q:Unit->B2->Prop}(hB:SB a₀ st)(hp:pendingOf st=#[])(h:∀f,SB a₀ f->Q () f):wpS (j3 prog w) A E s sortRuns' Q st:=by
 refine j0 (W0 ?_);have e':=hB.sz;refine j0 (P1 (G8 (I:=fun x c f=>∃lo,c=(none,lo)/\SB a₀ f/\qI (pendingOf f).toList 0 lo/\lo<=a₀.size) (Q:=fun c f=>∃lo,c=(none,lo)/\SB a₀ f/\qI (pendingOf f).toList 0 lo/\lo<=a₀.size) ?_ (fun _ _ h=>h) {_,rfl,hB,by rw[hp];rfl,C9 _}) ?_)
 ·rintro x c a' _ _ ⟨lo,rfl,S,T,U⟩;have c':=S.sz;refine bX (fun _=>j6 {lo,rfl,S,T,U}) fun h1=>?_;have d':lo<(arrOf st).size:=Nat.lt_of_not_le h1;refine j0 (ZY R S (lo:=lo) (nrem:=(arrOf st).size-lo) (by lia) (by lia) fun m G J O g6 g7=>?_);have H:∀(n:Nat)(o:B2),SB a₀ o->qI (pendingOf o).toList 0 lo->0<n->lo+n<=a₀.size->∃K,((none:Option Unit),lo+n)=(none,K)/\SB a₀ (setPending o ((pendingOf o).push (lo,n,0)))/\qI (pendingOf (setPending o ((pendingOf o).push (lo,n,0)))).toList 0 K/\K<=a₀.size:=by
   intro n o B C W X;refine {lo+n,rfl,{B.perm,B.kind,B.ok},?_,X};show qI ((pendingOf o).push (lo,n,0)).toList 0 (lo+n);rw[L4];exact C.add W
  refine bX (fun Z=>?_) fun Z=>?_
  ·refine j0 (ik (L7 {rfl,?_}));have P:lo+min ((arrOf st).size-lo) (minRun' (arrOf st).size (arrOf st).size 0)<=a₀.size:=by lia
   have Y:0<min ((arrOf st).size-lo) (minRun' (arrOf st).size (arrOf st).size 0):=by have:m<minRun' (arrOf st).size (arrOf st).size 0:=Z;lia
   refine j0 (ZZ R J P fun o g8 g9=>?_);refine bX (fun q=>nomatch q) fun _=>?_;have D:qI (pendingOf o).toList 0 lo:=by rw[g9,O];exact T
   refine j0 (W0 ?_);dsimp only;cases hb:(pendingOf o).back? with
  |none=>exact j0 (P3 (j6 (H _ _ g8 D Y P)))
  |some t=>
    obtain ⟨s1,n1,q⟩:=t;dsimp only;refine j0 (P1 (G8 (I:=fun _ c f=>c=(none,())/\SB a₀ f/\qI (pendingOf f).toList 0 lo) (Q:=fun c f=>c=(none,())/\SB a₀ f/\qI (pendingOf f).toList 0 lo) ?_ (fun _ _ h=>h) {rfl,g8,D}) ?_)
    ·rintro y c g _ _ ⟨rfl,B,C⟩;refine j0 (W0 ?_)
     try dsimp only
     by_cases hs:(pendingOf g).size>1
     ·obtain ⟨⟨s2,n2,N⟩,e⟩:∃x,(pendingOf g)[(pendingOf g).size-2]?=some x:={_,getElem?_pos _ _ (by lia)}
      rw[if_pos hs,e];dsimp only;refine bX (fun _=>j6 {rfl,B,C}) fun _=>?_;refine j0 (CA R B C U (by show (pendingOf g).size-2+1<(pendingOf g).size;lia) fun b' W X=>?_);exact j6 {rfl,W,X}
     ·rw[if_neg hs];exact j6 {rfl,B,C}
    ·rintro c g ⟨rfl,B,C⟩;dsimp only;refine j0 (P3 (j0 (P3 (j6 (H _ _ {B.perm,B.kind,B.ok} ?_ Y P)))));show qI ((pendingOf g).modify ((pendingOf g).size-1) _).toList 0 lo;rw[xn];exact C.mod _ _
  ·have D:qI (pendingOf G).toList 0 lo:=by
    rw[O];exact T
   have Y:0<m:=by lia
   have P:lo+m<=a₀.size:=by lia
   refine j0 (W0 ?_);dsimp only;cases hb:(pendingOf G).back? with
  |none=>exact j0 (P3 (j6 (H _ _ J D Y P)))
  |some t=>
    obtain ⟨s1,n1,q⟩:=t;dsimp only;refine j0 (P1 (G8 (I:=fun _ c f=>c=(none,())/\SB a₀ f/\qI (pendingOf f).toList 0 lo) (Q:=fun c f=>c=(none,())/\SB a₀ f/\qI (pendingOf f).toList 0 lo) ?_ (fun _ _ h=>h) {rfl,J,D}) ?_)
    ·rintro y c g _ _ ⟨rfl,B,C⟩;refine j0 (W0 ?_)
     try dsimp only
     by_cases hs:(pendingOf g).size>1
     ·obtain ⟨⟨s2,n2,N⟩,e⟩:∃x,(pendingOf g)[(pendingOf g).size-2]?=some x:={_,getElem?_pos _ _ (by lia)}
      rw[if_pos hs,e];dsimp only;refine bX (fun _=>j6 {rfl,B,C}) fun _=>?_;refine j0 (CA R B C U (by show (pendingOf g).size-2+1<(pendingOf g).size;lia) fun b' W X=>?_);exact j6 {rfl,W,X}
     ·rw[if_neg hs];exact j6 {rfl,B,C}
    ·rintro c g ⟨rfl,B,C⟩;dsimp only;refine j0 (P3 (j0 (P3 (j6 (H _ _ {B.perm,B.kind,B.ok} ?_ Y P)))));show qI ((pendingOf g).modify ((pendingOf g).size-1) _).toList 0 lo;rw[xn];exact C.mod _ _
 ·rintro c a' ⟨lo,rfl,S,T,U⟩;refine j0 (P1 (G8 (I:=fun x c f=>c=(none,())/\SB a₀ f/\qI (pendingOf f).toList 0 lo) (Q:=fun c f=>c=(none,())/\SB a₀ f/\qI (pendingOf f).toList 0 lo) ?_ (fun _ _ h=>h) {rfl,S,T}) ?_)
  ·rintro x c G _ _ ⟨rfl,J,O⟩;refine j0 (W0 ?_);refine bX (fun _=>j6 {rfl,J,O}) fun h1=>?_;refine j0 (CA R J O U ?_ fun o g6 g7=>?_)
   ·have Z:1<(pendingOf G).size:=Nat.lt_of_not_le h1;exact Kx Z
   ·exact j6 {rfl,g6,g7}
  ·rintro c G ⟨rfl,J,O⟩;exact j6 (h _ J)
def zA(o:s.heap.get? a=some (seqObj "list" vs.toArray n))(G:rG prog w (kx vs))(B:∀v₁ c dE,vs=v₁::c::dE->Do (v₁::c::dE).toArray=K0 Z3)(J:vs.length<=100000)(h:∀f:B2,(arrOf f).Perm (kx vs)->P (.done (.ret .none)) {s with heap:=sortedHeap s.heap a vs ((arrOf f).map (·.2))}):
  i6 (j3 prog w) A (E8.«list.sort» {[.ref a],[]}) P E s:=by
 rw[list_sort_plain];have D:vs.toArray.size=vs.length:=by simp
 have H:vs.toArray.size<=n7:=by rw[D,y9];lia
 have I:a<s.heap.objs.size:=p7 o;refine c6 (yt o rfl ?_);refine c6 (X0 o rfl ?_ H (by simp));obtain ⟨t,C⟩:∃t,(s.heap.update a (y8 fun _=>#[])).get? a=some (seqObj "list" #[] t):={_,lu o (fun _=>#[])}
 refine c6 (ml C rfl ?_);refine c6 (wc ?_ (by rw[y9];simpa using (by lia:vs.length<=_)));refine c6 (pf ?_);refine D7 ?_;have m:(((s.heap.update a (y8 fun _=>#[])).push (seqObj "tuple" vs.toArray 0)).push (seqObj "list" #[] 0)).get? a=some (seqObj "list" #[] t):=
  e9 _ (e9 _ C)
 show i6 (j3 prog w) A _ P E {s with heap:=((s.heap.update a (y8 fun _=>#[])).push (seqObj "tuple" vs.toArray 0)).push (seqObj "list" #[] 0)};dsimp only;by_cases g:vs.toArray.size<2
 ·rw[if_pos g,if_pos g];refine c6 (i0 ?_);rw[StateT.run_pure];refine c6 (i0 ?_);dsimp only;refine c6 (ml m rfl ?_);refine c6 (X0 m rfl ?_ (hsz2:=by rw[ri];show (kx vs).size<=_;rw[pairsOf_size,y9];lia));simp only[bne_self_eq_false,K5,if_false];exact i0 (h (dl general' (vs.toArray.zip vs.toArray) #[] 7 none) (gu _))
 ·rw[if_neg g,if_neg g];obtain ⟨v₁,c,dE,rfl⟩:∃v₁ c dE,vs=v₁::c::dE:=by
   match vs,D,g with
  |[],_,g=>simp at g
  |[_],_,g=>simp at g
  |v₁::c::dE,_,_=>exact {v₁,c,dE,rfl}
  rw[B _ _ _ rfl];refine c6 (i0 ?_);refine c6 (C4 (LR G (st:=dl Z3 ((v₁::c::dE).toArray.zip (v₁::c::dE).toArray) #[] 7 none)
   (Q:=fun _ f=>SB (kx (v₁::c::dE)) f) {gu _,rfl,rfl} rfl fun f q=>q) ?_ fun _ _ e=>e)
  rintro ⟨⟨⟩,f⟩ K ⟨rfl,hp⟩;dsimp only at hp⊢;refine c6 (ml m rfl ?_);refine c6 (X0 m rfl ?_ (hsz2:=by refine A5 (io ((ri ..).trans (hp.perm.size_eq.trans (pairsOf_size _)))) ?_;rw[y9];lia));rw[show failedOf f=none from hp.ok];simp only[bne_self_eq_false,K5,if_false];exact i0 (h f hp.perm)
def WI{vs:List c7}{xs:Array D5}(hp:xs.Perm (kx vs)):(xs.map (·.2)).toList.Perm vs:=by have:=(U3.mp hp).map (·.2);rw[pairsOf_toList,zz (j8 _)]at this;rw[Array.toList_map];exact this
def lW{P:List c7->Prop}{Q:c7->f9->Prop}(D:∀vs,P vs->rG prog w (kx vs)/\(∀v₁ v₂ dE,vs=v₁::v₂::dE->Do (v₁::v₂::dE).toArray=K0 Z3)/\vs.length<=100000)(G:∀(A':A2)(Q':List c7->f9->Prop),A'.handled=A.handled->(∀vs h' d tk,P vs->(∀b o,s.heap.get? b=some o->h'.get? b=some o)->s.heap.objs.size<=h'.objs.size->Q' vs {s with heap:=h',drawn:=d,toks:=tk})->i6 (j3 prog w) A' (qy (.ref a)) Q' E s)(h:∀h' d tk L vs (its:List c7) n,P vs->its.Perm vs->s.heap.objs.size<=L->h'.get? L=some (seqObj "list" its.toArray n)->(∀b o,s.heap.get? b=some o->h'.get? b=some o)->Q (.ref L) {s with heap:=h',drawn:=d,toks:=tk}):
  i6 (j3 prog w) A (lc (.builtin "sorted") [.ref a]) Q E s:=by
 refine Calls.call_function_entry kind_sorted plain_sorted entry_sorted (args_sorted1 _) ?_;unfold E8.«sorted»;refine c6 (m:=checkCount "sorted" 1 1 _) (i0 ?_);refine c6 (G _ _ (by simp) fun vs f d tk pv kp q=>?_);obtain ⟨I,J,K⟩:=D vs pv;refine c6 (pf ?_ (by rw[y9];lia));have g:(f.push (seqObj "list" vs.toArray 0)).get? f.objs.size=some (seqObj "list" vs.toArray 0):=r9 _ rfl;show i6 _ _ _ _ _ {s with heap:=f.push (seqObj "list" vs.toArray 0),drawn:=d,toks:=tk};refine c6 (D7 (O7 slot_list_sort {_,g,rfl} entry_list_sort (zA g I J K fun t C=>{_,rfl,?_}) (args_list_sort _)));refine i0 {_,rfl,?_};obtain ⟨e,H⟩:=sortedHeap_at (vs:=vs) (out:=(arrOf t).map (·.2)) g;refine h _ d tk f.objs.size vs _ e pv (WI C) q (by rw[xj];exact H) fun b o B=>?_;have c:=p7 (kp b o B);rw[sortedHeap_old (u7 c) (by rw[size_push'];exact B7 c)];exact e9 _ (kp b o B)
def Qc{vs:List c7}{ns:List Int}(c:O6 vs ns):rG prog w (kx vs):=by intro A E s st x y Q hk o B q;obtain ⟨n,t,f⟩:=c.intKeys _ o;obtain ⟨m,u,g⟩:=c.intKeys _ B;rw[lt'_eq];refine j0 (W0 ?_);rw[hk,wm,f,g];refine j0 (ik (U5 (oneLt_int {rfl,?_})));exact j6 (q _)
def zU(c:lf vs ss)(hp:its.Perm vs):∃ys,lf its ys/\ys.Perm ss:=
 {its.map strOf,strsAre_map its fun v f=>c.all v (hp.mem_iff.mp f),by rw[←c.strs];exact hp.map _}
def BK(c:O6 vs ss)(hp:its.Perm vs):∃ys,O6 its ys/\ys.Perm ss:=
 {its.map numOf,intsAre_map its fun v f=>c.all v (hp.mem_iff.mp f),by rw[←c.nums];exact hp.map _}
end
section
variable {X:Cx}
def LX(h:∃g,lf vs g/\g.length<=100000):rG prog w (kx vs)/\(∀v₁ c dE,vs=v₁::c::dE->Do (v₁::c::dE).toArray=K0 Z3)/\vs.length<=100000:=by obtain ⟨g,f,m⟩:=h;refine {Td strKind_oneLt f.keysOf,fun v₁ c dE e=>keyKind_strs (by rw[←e];exact f),?_};rw[←f.strs,i8]at m;exact m
def OV(h:∃g,O6 vs g/\g.length<=100000):rG prog w (kx vs)/\(∀v₁ c dE,vs=v₁::c::dE->Do (v₁::c::dE).toArray=K0 Z3)/\vs.length<=100000:=by obtain ⟨g,f,m⟩:=h;refine {Qc f,fun v₁ c dE e=>keyKind_ints (by rw[←e];exact f),?_};rw[←f.nums,i8]at m;exact m
theorem OW:∀(us:List c7)(ys:List Int),ys.length=us.length->(∀(i:Nat)(v:c7),us[i]?=some v->∃x t,ys[i]?=some x/\v=.int x t)->O6 us ys
|[],ys,c,_=>by
  have:ys=[]:=N8.mp c;subst this;exact .nil
|u::us,[],c,_=>by cases c
|u::us,y::ys,c,f=>by obtain ⟨x,t,g,rfl⟩:=f 0 u rfl;cases g;exact .cons y t (OW us ys (by simpa using c) fun i v e=>by simpa using f (i+1) v (by simpa using e))
def VP(w:y6):List V->Hp->VK->Prop:=fun vs H Q=>∃p:c8,vs=[.ref p] /\
  ((∃xs:List Str,H p=some (Dv w p xs)/\xs.length<=4000/\∀(l:c8)(ys:List Str),H l=none->ys.Perm xs->Q (.ref l) (upd H l (.lst (ys.map V.str)))) ∨
   (∃(kvs:List (aR×V)) (xs:List Int),H p=some (.dK kvs)/\kvs.map (·.1)=xs.map i5/\xs.length<=4000/\∀(l:c8)(ys:List Int),H l=none->ys.Perm xs->Q (.ref l) (upd H l (.lst (ys.map V.int)))))
def yO(hc:X.calm=true):fO X (.builtin "sorted") (VP X.w):=by
 intro c' s σ H c us Q I r h;obtain ⟨p,rfl,h⟩:=h;obtain ⟨u,rfl,ru⟩:=r.one;cases ru;rcases h with ⟨D,hp,hl,q⟩|⟨e',D,hp,hk,hl,q⟩
 ·refine lW (P:=fun c=>∃K,lf c K/\K.Perm D) (fun c ⟨K,S,h2⟩=>LX {K,S,by rw[h2.length_eq];lia}) (fun A' Q' T k=>?_) fun f d tk L c B n ⟨K,U,hP⟩ A G g kp=>?_
  ·obtain ⟨es,ep,t,g,W,a',d',Y,hf,ht⟩:=(show kJ X.w s.heap p D from (I.hok p _ hp).1)
   refine IP (T.trans (I.ok.hd hc)) g hf ht (qw Y) fun c f d tk hp kp m=>k c f d tk {_,wE fun v Z=>?_,?_} kp m
   ·obtain ⟨e,he,rfl⟩:=u8.mp (hp.mem_iff.mp Z);obtain ⟨y,u,rfl⟩:=W e he;exact {y,u,rfl}
   ·have:=hp.map FE;rw[W4]at this;rw[←a'];exact this
  ·obtain ⟨M,y1,N⟩:=zU U A;have J:=N.trans hP;have O:=(I.dr d).laid (h':=f) (a:=L) (o:=.lst (M.map V.str)) (t':=tk) kp G {by
    have:=J.length_eq;rw[i8,y9];lia,B,n,tN y1,g}
   exact {.ref L,_,O,rfl,q L M (I.hok.fresh G) J}
 ·refine lW (P:=fun c=>O6 c D) (fun c S=>OV {D,S,by lia}) (fun A' Q' T k=>?_) fun f d tk L c B n U A G g kp=>?_
  ·obtain ⟨z,hd,b',C,R⟩:=qH I.hok hp;obtain ⟨ep,R⟩:=R.dictAt;refine tG (T.trans (I.ok.hd hc)) hd R (by rw[←C.length];exact z) fun c f tk hn Z kp m=>?_;refine k c f s.drawn tk (OW c D ?_ fun i v e=>?_) kp m
   ·have:=congrArg Z6 hk;rw[i8,i8]at this;rw[hn,←C.length,this]
   ·obtain ⟨k',x',e1,e2⟩:=Z i v e;have E:(b'.map (·.1))[i]?=some k':=by rw[m5,e1];rfl
    rw[←C.keys,hk,m5]at E;cases e4:D[i]? with
   |none=>rw[e4]at E;cases E
   |some y=>rw[e4]at E;have e5:i5 y=k':=j5 E;subst e5;obtain ⟨t,rfl⟩:=vN e2;exact {y,t,rfl,rfl}
  ·obtain ⟨M,y1,N⟩:=BK U A;have O:=(I.dr d).laid (h':=f) (a:=L) (o:=.lst (M.map V.int)) (t':=tk) kp G {by
    have:=N.length_eq;rw[i8,y9];lia,B,n,pJ y1,g}
   exact {.ref L,_,O,rfl,q L M (I.hok.fresh G) N}
def VC(hp:H p=some (.dK kvs))(hk:kvs.map (·.1)=xs.map i5)(g:xs.length<=4000)(k:∀(l:c8)(ys:List Int)(G:Hp),H l=none->aJ H G->G l=some (.lst (ys.map V.int))->ys.Perm xs->Q (.ref l) G):VP w [.ref p] H Q:=
 {p,rfl,.inr {kvs,xs,hp,hk,g,fun l ys c f=>k l ys _ c (aJ.new c) aC f}}
end
def ut(u z:Int):Rat:=j7 z u
section
variable {u:Int}
def nH(u z:Int):ut u z=(z:Rat)/(u:Rat):=Rat.divInt_eq_div z u
def up(c:0<u):(0:Rat)<(u:Rat):=by have:=wx.mpr c;simpa using this
def iV(c:0<u){a b:Int}:ut u a<ut u b↔a<b:=by rw[nH,nH];have h:=up c;rw[Rat.div_lt_iff h,Rat.div_mul_cancel (nz h)];exact wx
def FD(c:0<u){a b:Int}:ut u a<=ut u b↔a<=b:=by rw[←ug,iV c,Int.not_lt]
def tK(u a b:Int):ut u a+ut u b=ut u (a+b):=by rw[nH,nH,nH,Rat.intCast_add,lg,lg,lg,Rat.add_mul]
def SR(u a b:Int):ut u a-ut u b=ut u (a-b):=by rw[nH,nH,nH,Rat.intCast_sub];grind
def Gz(f:0<u){a b:Int}(c:0<b):ut u a/ut u b=ut b a:=by rw[nH,nH,nH];have g:=up f;have m:=up c;grind
def Gy(c:0<u):ut u u=1:=Rat.divInt_self' (by lia)
def CC(u:Int):ut u 0=0:=by unfold ut;exact Rat.zero_divInt u
end
def IQ(_:Hp)(v:V)(z:Int):Prop:=v=.int z
def IQ.tk{H H':Hp}{v:V}{z:Int}(h:IQ H v z)(_:TK H H'):IQ H' v z:=h
noncomputable def fE(U:List Str)(i:Int):Str:=U.getD i.toNat ""
def eM(U:List Str)(u:Int)(rs:List (Int×Int×Int)):List eO:=rs.map fun r=>(fE U r.1,fE U r.2.1,ut u r.2.2)
def oM(U:List Str)(u:Int)(ps:List (Int×Int)):List (aR×Rat):=ps.map fun x=>(c9 (fE U x.1),ut u x.2)
noncomputable def jE(u:Int)(ts:List (Int×Int)):List (aR×Rat):=ts.map fun x=>(i5 x.1,ut u x.2)
def mT(U:List Str)(u:Int)(D:AL aR Int):aR->Option Rat
|.inl _=>none
|.inr s=>(bG D (i5 ((U.idxOf s:Nat):Int))).map (ut u)
def mQ{U:List Str}{i:Int}(h0:0<=i)(c:i<U.length):∃h:i.toNat<U.length,fE U i=U[i.toNat]:={by lia,by
 unfold fE;rw[List.getD_eq_getElem?_getD,i3 (by lia)];rfl}
def DY{U:List Str}(f:U.Nodup){i:Int}(h0:0<=i)(c:i<U.length):((U.idxOf (fE U i):Nat):Int)=i:=by obtain ⟨h,e⟩:=mQ h0 c;rw[e,f.idxOf_getElem];lia
def oQ{U:List Str}(f:U.Nodup){u:Int}{D:AL aR Int}{i:Int}(h0:0<=i)(c:i<U.length):mT U u D (c9 (fE U i))=(bG D (i5 i)).map (ut u):=by show (bG D (i5 ((U.idxOf (fE U i):Nat):Int))).map (ut u)=_;rw[DY f h0 c]
def KL{U:List Str}(o:U.Nodup){u:Int}{D:AL aR Int}{b:Int}(h0:0<=b)(f:b<U.length)(c:Int):mT U u (eS D (i5 b) c)=fun p=>if p=c9 (fE U b) then some (ut u c) else mT U u D p:=by
 funext p;cases p with
|inl i=>rfl
|inr s=>
  show (bG (eS D (i5 b) c) (i5 ((U.idxOf s:Nat):Int))).map (ut u)=_;rw[lR];by_cases e:s=fE U b
  ·subst e;rw[DY o h0 f,if_pos rfl];simp
  ·rw[if_neg,if_neg (fun z=>e (fj z))]
   ·rfl
   ·intro z;have t:((U.idxOf s:Nat):Int)=b:=uz z;obtain ⟨q,g⟩:=mQ h0 f;have m:U.idxOf s<U.length:=by lia
    refine e ?_;rw[g];have:U[U.idxOf s]=s:=List.getElem_idxOf m;rw[←this];congr 1;lia
def Cm{U:List Str}{u:Int}{p:aR}:mT U u [] p=none:=by
 cases p with
|inl i=>rfl
|inr s=>rfl
def BD(m:AL aR Rat)(x:aR×Rat)(p:aR):bG (iA m x) p=if p=x.1 then some (match bG m x.1 with|none=>x.2|some q=>if x.2<q then x.2 else q) else bG m p:=by
 unfold iA;cases e:bG m x.1 with
|none=>
  dsimp only;rw[lR]
|some q=>
  dsimp only;by_cases h:x.2<q
  ·rw[if_pos h,lR,if_pos h]
  ·rw[if_neg h,if_neg h];by_cases hp:p=x.1
   ·rw[if_pos hp,hp,e]
   ·rw[if_neg hp]
def XF(D:AL aR Int)(x:Int×Int):AL aR Int:=eS D (i5 x.1) (match bG D (i5 x.1) with|none=>x.2|some v=>if v<x.2 then v else x.2)
def Kg{U:List Str}(m:U.Nodup){u:Int}(c:0<u){D:AL aR Int}{o:List (aR×Rat)}{x:Int×Int}(h0:0<=x.1)(f:x.1<U.length)(h:mT U u D=bG (lst o)):mT U u (XF D x)=bG (lst (o++[(c9 (fE U x.1),ut u x.2)])):=by
 rw[sU];unfold XF;rw[KL m h0 f];funext p;rw[BD];dsimp only;by_cases hp:p=c9 (fE U x.1)
 ·rw[if_pos hp,if_pos hp,←h,oQ m h0 f];cases bG D (i5 x.1) with
 |none=>rfl
 |some v=>
   dsimp only[Option.map];by_cases g:v<x.2
   ·rw[if_pos g,if_neg (by rw[iV c];lia)]
   ·rw[if_neg g];by_cases q:x.2<v
    ·rw[if_pos (by rw[iV c];lia)]
    ·rw[if_neg (by rw[iV c];lia),show x.2=v by lia]
 ·rw[if_neg hp,if_neg hp,h]
def Lx(u:Int)(D:AL aR Int)(zs:List (aR×Rat)):Prop:=∀k:Int,(bG D (i5 k)).map (ut u)=bG (lst zs) (i5 k)
def Lx.step{u:Int}(c:0<u){D:AL aR Int}{g:List (aR×Rat)}{x:Int×Int}(h:Lx u D g):Lx u (XF D x) (g++[(i5 x.1,ut u x.2)]):=by
 intro k;rw[sU,BD];unfold XF;rw[lR];by_cases hp:(i5 k:aR)=i5 x.1
 ·rw[if_pos hp,if_pos hp,←h];cases bG D (i5 x.1) with
 |none=>rfl
 |some v=>
   dsimp only[Option.map];by_cases f:v<x.2
   ·rw[if_pos f,if_neg (by rw[iV c];lia)]
   ·rw[if_neg f];by_cases m:x.2<v
    ·rw[if_pos (by rw[iV c];lia)]
    ·rw[if_neg (by rw[iV c];lia),show x.2=v by lia]
 ·rw[if_neg hp,if_neg hp,h]
section
variable {α:Type}{net:List (jV α)}{push:α->Option Rat}{tk:Nat->Option Rat}{m:α->Option Rat}
def DZ(sn:Ui net push tk m)(E:∀p t,push p=some t->Rx m p t)(cl:∀k r a b s,net[k]?=some r->Jn r a b->m a=some s->eN tk k (s+r.2.2)->Rx m b (s+r.2.2)):pE net push tk m:=by
 refine {sn,fun p t h=>?_}
 induction h with
|push e=>exact E _ _ e
|run _ B A hn ih=>obtain ⟨w,g,C⟩:=ih;rename_i q G I H f _;have c:w+f.2.2<=G+f.2.2:=Rat.add_le_add_right.mpr C;obtain ⟨z,o,D⟩:=cl _ _ _ _ w B A g (hn.le c);exact {z,o,ei D c}
end
def Ta(D:AL aR Int)(i:Nat):Nat:=match bG D (i5 (i:Int)) with|none=>10^108|some v=>v.toNat
def mu(n:Nat)(D:AL aR Int):Nat:=((E7 n).map (Ta D)).sum
theorem TQ{f g:Nat->Nat}:∀n,(∀i<n,g i<=f i)->((E7 n).map g).sum<=((E7 n).map f).sum
|0,_=>j8 _
|n+1,h=>by rw[wk,z9,z9,wj,wj];have m:=TQ n fun i c=>h i (B7 c);have o:=h n (L8 n);simp only[J6,vq,sum_cons,sum_nil];lia
theorem TN{f g:Nat->Nat}{j:Nat}:∀n,(∀i<n,g i<=f i)->j<n->g j<f j->((E7 n).map g).sum<((E7 n).map f).sum
|0,_,m,_=>absurd m (X8 _)
|n+1,h,m,q=>by
  rw[wk,z9,z9,wj,wj];have s:=h n (L8 n);simp only[J6,vq,sum_cons,sum_nil];by_cases e:j=n
  ·subst e;have o:=TQ j fun i c=>h i (B7 c);lia
  ·have o:=TN n (fun i c=>h i (B7 c)) (by lia) q;lia
structure zO(U:List Str)(u:Int)(rs:List (Int×Int×Int))(qs:List (aR×Rat))(tk:Nat->Option Rat)(D:AL aR Int):Prop where
 nd:(D.map (·.1)).Nodup
 ky:∀x∈D,∃i:Nat,x.1=i5 (i:Int)/\i<U.length
 bd:∀x∈D,0<=x.2/\x.2<=10^105*D.length
 sn:Ui (kn (eM U u rs)) (bG (lst qs)) tk (mT U u D)
 pu:∀p t,bG (lst qs) p=some t->Rx (mT U u D) p t
section
variable {U:List Str}{u:Int}{rs:List (Int×Int×Int)}{qs:List (aR×Rat)}{tk:Nat->Option Rat}{D:AL aR Int}
def zO.len(h:zO U u rs qs tk D):D.length<=U.length:=by
 have c:(D.map (·.1)) ⊆ (E7 U.length).map fun(i:Nat)=>(i5 (i:Int):aR):=by intro k hk;obtain ⟨x,g,rfl⟩:=u8.mp hk;obtain ⟨i,e,f⟩:=h.ky x g;rw[e];exact u8.mpr {i,nr.mpr f,rfl}
 have:=kR h.nd c;simpa using this
def zO.val(h:zO U u rs qs tk D){i v:Int}(e:bG D (i5 i)=some v):0<=v/\v<=10^105*D.length/\0<=i/\i<U.length:=by have c:=cQ e;obtain ⟨j,m,q⟩:=h.ky _ c;have o:i=(j:Int):=uz m;obtain ⟨f,g⟩:=h.bd _ c;exact {f,g,by lia,by lia}
def IV{c:Type}{l:AL aR c}{k:aR}{v:c}(h:bG l k=none):(eS l k v).length=l.length+1:=by
 unfold eS;rw[if_neg,q4]
 ·rfl
 ·intro z;rw[Y0]at z;obtain ⟨x,g,e⟩:=z;have f:x.1=k:=of_decide_eq_true e;exact iM h x.2 (by rw[←f];exact g)
def BW{c:Type}{l:AL aR c}{k:aR}{v w:c}(h:bG l k=some w):(eS l k v).length=l.length:=by unfold eS;rw[if_pos,i8];rw[Y0];exact {_,cQ h,decide_eq_true rfl}
def zO.go(o:U.Nodup)(O:0<u)(h:zO U u rs qs tk D)(R:U.length<=200){k:Nat}{r:Int×Int×Int}(N:rs[k]?=some r)(ok:0<=r.1/\r.1<U.length/\0<=r.2.1/\r.2.1<U.length/\1<=r.2.2/\r.2.2<=10^31){a b v:Int}(s:(r.1=a/\r.2.1=b)∨(r.2.1=a/\r.1=b))(I:bG D (i5 a)=some v)(hn:eN tk k (ut u (v+r.2.2)))(q:∀w,bG D (i5 b)=some w->v+r.2.2<w):
  zO U u rs qs tk (eS D (i5 b) (v+r.2.2))/\mu U.length (eS D (i5 b) (v+r.2.2))<mu U.length D:=by
 obtain ⟨W,X,K,M⟩:=h.val I;have T:=h.len;have g:0<=b:=by rcases s with ⟨_,e⟩|⟨_,e⟩ <;> lia
 have m:b<U.length:=by rcases s with ⟨_,e⟩|⟨_,e⟩ <;> lia
 have Q:D.length<=(eS D (i5 b) (v+r.2.2)).length/\v+r.2.2<=10^105*(eS D (i5 b) (v+r.2.2)).length:=by
  cases e:bG D (i5 b) with
 |none=>
   rw[IV e];lia
 |some w=>rw[BW e];have:=q w e;obtain ⟨_,Z,_⟩:=h.val e;lia
 have H:bG D (i5 b)=none∨∃w,bG D (i5 b)=some w/\v+r.2.2<w:=by
  cases e:bG D (i5 b) with
 |none=>exact .inl rfl
 |some w=>exact .inr {w,rfl,q w e}
 have E:mT U u D (c9 (fE U a))=some (ut u v):=by rw[oQ o K M,I];rfl
 have B:(kn (eM U u rs))[k]?=some (c9 (fE U r.1),c9 (fE U r.2.1),ut u r.2.2):=by unfold kn eM;rw[m5,m5,N];rfl
 have A:Jn ((c9 (fE U r.1),c9 (fE U r.2.1),ut u r.2.2):jV aR) (c9 (fE U a)) (c9 (fE U b)):=by
  rcases s with ⟨f,c⟩|⟨f,c⟩
  ·exact .inl {by rw[f],by rw[c]}
  ·exact .inr {by rw[f],by rw[c]}
 refine {{tI h.nd,fun x G=>?_,fun x G=>?_,?_,?_},?_}
 ·rcases fU (x:=x.1) (y:=x.2) G with ⟨e,_⟩|⟨_,C⟩
  ·exact {b.toNat,by rw[e];congr 1;lia,by lia}
  ·exact h.ky x C
 ·rcases fU (x:=x.1) (y:=x.2) G with ⟨_,e⟩|⟨_,C⟩
  ·rw[e];lia
  ·have:=h.bd x C;lia
 ·intro p t e;rw[KL o g m]at e;dsimp only at e;by_cases hp:p=c9 (fE U b)
  ·rw[if_pos hp]at e;cases e;subst hp;have:=Ec.run (h.sn _ _ E) B A (by rw[tK];exact hn);rw[tK]at this;exact this
  ·rw[if_neg hp]at e;exact h.sn _ _ e
 ·intro p t e;obtain ⟨w,f,J⟩:=h.pu p t e;rw[KL o g m];show ∃w,(if p=c9 (fE U b) then some (ut u (v+r.2.2)) else mT U u D p)=some w/\w<=t;by_cases hp:p=c9 (fE U b)
  ·refine {_,if_pos hp,?_};rw[hp,oQ o g m]at f;cases c:bG D (i5 b) with
  |none=>rw[c]at f;cases f
  |some z=>rw[c]at f;cases f;have:=q z c;exact ei ((FD O).mpr (by lia)) J
  ·exact {w,by rw[if_neg hp];exact f,J}
 ·unfold mu;refine TN (j:=b.toNat) _ (fun i S=>?_) (by lia) ?_
  ·unfold Ta;rw[lR];by_cases e:(i5 (i:Int):aR)=i5 b
   ·rw[if_pos e,e];rcases H with c|⟨w,c,P⟩
    ·rw[c];dsimp only;lia
    ·rw[c];dsimp only;lia
   ·rw[if_neg e];exact j8 _
  ·unfold Ta;have e:(i5 ((b.toNat:Nat):Int):aR)=i5 b:=by congr 1;lia
   rw[e,lR,if_pos rfl];rcases H with c|⟨w,c,P⟩
   ·rw[c];dsimp only;lia
   ·rw[c];obtain ⟨Y,_⟩:=h.val c;dsimp only;lia
def Ea(tk:Nat->Option Rat)(u:Int)(k:Nat)(T a b:Int)(D:AL aR Int):Prop:=∀v,bG D (i5 a)=some v->eN tk k (ut u (v+T))->∃w,bG D (i5 b)=some w/\w<=v+T
def Mn(tk:Nat->Option Rat)(u:Int)(rs:List (Int×Int×Int))(k:Nat)(D:AL aR Int):Prop:=∀r,rs[k]?=some r->Ea tk u k r.2.2 r.1 r.2.1 D/\Ea tk u k r.2.2 r.2.1 r.1 D
def zO.falls(t:U.Nodup)(J:0<u)(h:zO U u rs qs tk D)(ok:∀r∈rs,0<=r.1/\r.1<U.length/\0<=r.2.1/\r.2.1<U.length/\1<=r.2.2/\r.2.2<=10^31)(cl:∀k,Mn tk u rs k D):pE (kn (eM U u rs)) (bG (lst qs)) tk (mT U u D):=by
 refine DZ h.sn h.pu fun k r a b s m I hs hn=>?_;unfold kn eM at m;rw[m5,m5]at m;cases e:rs[k]? with
|none=>rw[e]at m;cases m
|some q=>
  rw[e]at m;cases m;obtain ⟨A,B,C,E,P,Q⟩:=ok q (o0 e);obtain ⟨G,H⟩:=cl k q e;have go:∀x y:Int,0<=x->x<U.length->0<=y->y<U.length->Ea tk u k q.2.2 x y D->mT U u D (c9 (fE U x))=some s->eN tk k (s+ut u q.2.2)->Rx (mT U u D) (c9 (fE U y)) (s+ut u q.2.2):=by
   intro x y K M N O c o hn;rw[oQ t K M]at o;cases f:bG D (i5 x) with
  |none=>rw[f]at o;cases o
  |some v=>rw[f]at o;cases o;rw[tK]at hn ⊢;obtain ⟨w,g,l⟩:=c v f hn;exact {ut u w,by rw[oQ t N O,g];rfl,(FD J).mpr l}
  rcases I with ⟨f,g⟩|⟨f,g⟩
  ·dsimp only at f g;subst f g;exact go _ _ A B C E G hs hn
  ·dsimp only at f g;subst f g;exact go _ _ C E A B H hs hn
end
abbrev cl(x:Str):List Nat:=x.cps.toList
def yM(a b:Str):cl (a++b)=cl a++cl b:=by show (a.cps++b.cps).toList=_;rw[D3]
def LC(x:Str):(cl x).length=x.length:=by show x.cps.toList.length=x.cps.size;simp
def Nr{z:Str}{i:Int}(h0:0<=i)(c:i<=z.length):cl (fi z none (some i))=(cl z).take i.toNat:=by have:=slice_to_min_closes (x:=z) (n:=i) h0 rfl;rw[beq_iff_eq.mp this,if_neg (by lia)];show ((cl z).drop 0).take (i-0).toNat=_;rw[Int.sub_zero,List.drop_zero]
def Af{z:Str}{i:Int}(h0:0<=i)(c:i<=z.length):cl (fi z (some i) none)=(cl z).drop i.toNat:=by rw[slice_from_eq h0 c rfl];show ((cl z).drop i.toNat).take ((z.length:Int)-i).toNat=_;refine iy ?_;rw[At,LC];lia
noncomputable def KR(k:Nat):Str:=⟨#[113,46,113,46,97+k/26,46,97+k%26]⟩
def Nq(x:Str):Prop:=(cl x).length≠7∨(cl x)[1]?≠some 46
def La(k:Nat):¬Nq (KR k):=by
 rintro (h|h)
 ·exact h rfl
 ·exact h rfl
def Cu{j k:Nat}(e:KR j=KR k):j=k:=by
 have c:cl (KR j)=cl (KR k):=by rw[e]
 unfold KR at c;dsimp only[cl]at c;simp only[List.cons.injEq,and_true,true_and]at c;lia
def Mi(l:List Nat):Prop:=∀c∈l,97<=c/\c<=122
def Py{f g t:List Nat}{c:Nat}{x:Str}(e:cl x=f++c::(g++t))(m:Mi f)(q:97<=c/\c<=122)(o:Mi g)(s:t.length=0∨t.length=2∨t.length=5∨t.length=13):Nq x:=by
 unfold Nq;rw[e];cases f with
|nil=>
  cases g with
 |nil=>
   refine .inl ?_;simp only[Q3,J2];lia
 |cons a r=>
   refine .inr ?_;have:=o a (J1 ..);simp only[Q3,ec,Q2,Q1,ne_eq,Q7];lia
|cons a r=>
  refine .inr ?_;cases r with
 |nil=>
   simp only[ec,Q3,Q2,Q1,ne_eq,Q7];lia
 |cons b r=>have:=m b (B4 _ (J1 ..));simp only[ec,Q2,Q1,ne_eq,Q7];lia
def Mm(Y:List Nat)(n:Int)(U:List Str):Prop:=∀(k:Nat)(x:Str),U[k]?=some x->∃r,cl x=Y++(97+((n+3*(k:Int))%26).toNat)::r
def Mm.nodup{Y:List Nat}{n:Int}{U:List Str}(h:Mm Y n U)(q:U.length<=8):U.Nodup:=by rw[List.nodup_iff_pairwise_ne,gj];intro i j g o m e;obtain ⟨s,c⟩:=h i _ (i3 g);obtain ⟨t,f⟩:=h j _ (i3 o);rw[e,f]at c;have:=(jn (List.append_cancel_left c)).1;lia
def Mm.snoc{Y:List Nat}{n:Int}{U:List Str}(h:Mm Y n U){x:Str}{r:List Nat}(e:cl x=Y++(97+((n+3*(U.length:Int))%26).toNat)::r):Mm Y n (U++[x]):=by
 intro k y c;rcases mm k U.length with hk|hk
 ·rw[P0 hk]at c;exact h k y c
 ·rw[L5 hk]at c;have:k-U.length=0:=by
   have:=(h8.mp c).1;simp at this;lia
  rw[this]at c;cases c;have:k=U.length:=by lia
  subst this;exact {r,e}
def grown(U:List Str)(i:Nat):List Str:=U++(E7 i).map KR
def YB{U:List Str}(m:U.Nodup)(g:∀x∈U,Nq x)(i:Nat):(grown U i).Nodup:=by
 unfold grown;rw[W3];refine {m,?_,?_}
 ·exact gn.mpr (List.nodup_range.imp fun h e=>h (Cu e))
 ·intro a c b f e;obtain ⟨k,_,rfl⟩:=u8.mp f;exact La k (e▸g a c)
def KP(U:List Str)(i:Nat):grown U (i+1)=grown U i++[KR i]:=by unfold grown;rw[wk,z9,E1];rfl
def jJ(U:List Str)(i:Nat):(grown U i).length=U.length+i:=by unfold grown;rw[q4,i8,List.length_range]
def Dy(x:Str):Prop:=(cl x).count 46<=3/\x≠""/\x≠"aaaaaaaaa"/\x≠"A"/\x≠"a..b"/\(cl x).length<=30
def Tp(t:List Nat):Prop:=t=[]∨(46∈t/\t.count 46<=3/\t.getLast?≠some 98)
def XD{l:List Nat}(h:Mi l):46∉l:=fun m=>by have:=h _ m;lia
def Kc{f g t:List Nat}{c:Nat}{x:Str}(e:cl x=f++c::(g++t))(D:Mi f)(H:97<=c/\c<=122)(E:Mi g)(I:f.length+g.length<=7)(q:Tp t)(G:t.length<=20):Dy x:=by
 have w:=XD D;have n2:=XD E;have A:=List.count_eq_zero.mpr w;have B:=List.count_eq_zero.mpr n2;have C:(cl x).count 46=t.count 46:=by rw[e,yw,List.count_cons,yw,A,B,if_neg (by simp;lia)];lia
 refine {?_,fun z=>?_,fun z=>?_,fun z=>?_,fun z=>?_,by rw[e];simp only[q4,J2];lia}
 ·rw[C];rcases q with rfl|⟨_,h,_⟩
  ·exact C9 _
  ·exact h
 ·rw[z,show cl ""=[] by k_is]at e;have:=congrArg Z6 e;simp at this
 ·rw[z,show cl "aaaaaaaaa"=[97,97,97,97,97,97,97,97,97] by k_is]at e;rcases q with rfl|⟨h,_⟩
  ·have:=congrArg Z6 e;simp only[q4,J2,L0,length_nil]at this;lia
  ·have:46∈f++c::(g++t):=u9 _ (B4 _ (u9 _ h));rw[←e]at this;simp at this
 ·rw[z,show cl "A"=[65] by k_is]at e;have:c∈f++c::(g++t):=u9 _ (J1 ..);rw[←e,i4]at this;lia
 ·rw[z,show cl "a..b"=[97,46,46,98] by k_is]at e;rcases q with rfl|⟨h,_,s⟩
  ·have:46∈f++c::(g++[]):=by rw[←e];simp
   rw[L0]at this;rcases w8.mp this with m|m
   ·exact w m
   ·rcases w6.mp m with m|m
    ·lia
    ·exact n2 m
  ·have o:=congrArg List.getLast? e;rw[show f++c::(g++t)=(f++c::g)++t by simp,List.getLast?_append]at o;cases et:t.getLast? with
  |none=>
    rw[List.getLast?_eq_none_iff]at et;rw[et]at h;cases h
  |some z=>rw[et]at o s;simp at o;exact s (by rw[o])
def Ch(k:Nat):Dy (KR k):=by
 have e:cl (KR k)=[113,46,113,46,97+k/26,46,97+k%26]:=rfl;have c:∀y:Str,(cl y).length≠7->KR k≠y:=fun y h z=>h (by rw[←z];rfl);refine {?_,c _ (by k_is),c _ (by k_is),c _ (by k_is),c _ (by k_is),by rw[e];exact A3 rfl};rw[e];have f:(97+k/26==46)=false:=by rw[beq_eq_false_iff_ne];lia
 have g:(97+k%26==46)=false:=by rw[beq_eq_false_iff_ne];lia
 simp only[List.count_cons,List.count_nil,f,g];decide
def QP{U:List Str}(h:∀x∈U,Dy x)(i:Nat):∀x∈grown U i,Dy x:=fun x f=>by
 rcases w8.mp f with c|c
 ·exact h x c
 ·obtain ⟨k,_,rfl⟩:=u8.mp c;exact Ch k
def WW{U:List Str}(h:∀x∈U,Dy x)(z:Str):z++".x.x.x.x"∉U:=fun m=>by have:=(h _ m).1;rw[yM,yw,show (cl ".x.x.x.x").count 46=4 by k_is]at this;lia
noncomputable def EX(z:Int):Int:=if z>0 then z else 0
def Fe{u T:Int}(c:0<u)(g:0<T)(o:Option Int)(m:Int):GN (o.map (ut u)) (ut u T) (ut u m)=ut T (EX (m-o.getD m)):=by
 cases o with
|none=>
  show (0:Rat)=ut T (EX (m-m));rw[Int.sub_self];exact (CC T).symm
|some v=>
  show (if ut u m<ut u v then (0:Rat) else (ut u m-ut u v)/ut u T)=ut T (EX (m-v));unfold EX;by_cases h:m<v
  ·rw[if_pos ((iV c).mpr h),if_neg (by lia),CC]
  ·rw[if_neg (by rw[iV c];exact h),SR,Gz c g];by_cases f:m-v>0
   ·rw[if_pos f]
   ·rw[if_neg f,show m-v=0 by lia]
def Km{u:Int}(c:0<u)(tk:Option Int)(m:Int):OT (tk.map (ut u)) (ut u m)=decide (tk.getD (m+1)<=m):=by
 cases tk with
|none=>
  show false=decide (m+1<=m);rw[decide_eq_false (by lia)]
|some w=>
  show (!decide (ut u m<ut u w))=decide (w<=m);by_cases h:m<w
  ·rw[decide_eq_true ((iV c).mpr h),decide_eq_false (by lia)];rfl
  ·rw[decide_eq_false (by rw[iV c];exact h),decide_eq_true (by lia)];rfl
def Nk{u T:Int}(o:0<u)(c:0<T)(f g tk:Option Int)(m:Int):CF (f.map (ut u)) (g.map (ut u)) (tk.map (ut u)) (ut u T) (ut u m)=if tk.getD (m+1)<=m then none else if T<=EX (m-f.getD m)+EX (m-g.getD m) then none else some (ut T (EX (m-f.getD m)),ut T (T-EX (m-g.getD m))):=by
 unfold CF;rw[Km o,Fe o c,Fe o c];generalize EX (m-f.getD m)=x;generalize EX (m-g.getD m)=y;by_cases h:tk.getD (m+1)<=m
 ·rw[decide_eq_true h,if_pos rfl,if_pos h]
 ·rw[decide_eq_false h,if_neg (by decide),if_neg h];have e:(1:Rat)-ut T y=ut T (T-y):=by rw[←Gy c,SR]
  rw[e];by_cases q:T<=x+y
  ·rw[if_pos q,if_neg (by rw[iV c];lia)]
  ·rw[if_neg q,if_pos (by rw[iV c];lia)]
def Kq(a b:c8)(H G:Hp):Prop:=∀p o,p≠a->p≠b->H p=some o->G p=some o
def OF{U:List Str}{i:Int}(h0:0<=i)(c:i<U.length):vD (U.map V.str) i=some (.str (fE U i)):=by
 obtain ⟨h,e⟩:=mQ h0 c;have f:(U.map V.str)[i.toNat]?=some (.str (fE U i)):=by rw[m5,i3 h,e];rfl
 have:=fZ f;rwa[dv h0]at this
def jZ{c:Type}{l:List c}{i:Nat}{x:c}(h:l[i]?=some x):l.take (i+1)=l.take i++[x]:=by have f:=(h8.mp h).1;rw[B5 f];have:=(h8.mp h).2;rw[this]
def Cj{U:List Str}{u:Int}{c:List (Int×Int×Int)}{i:Nat}{r:Int×Int×Int}(h:c[i]?=some r):kn (eM U u (c.take (i+1)))=kn (eM U u (c.take i))++[(c9 (fE U r.1),c9 (fE U r.2.1),ut u r.2.2)]:=by rw[jZ h];simp[kn,eM]
def Ji{U:List Str}{u:Int}{ps:List (Int×Int)}{i:Nat}{r:Int×Int}(h:ps[i]?=some r):oM U u (ps.take (i+1))=oM U u (ps.take i)++[(c9 (fE U r.1),ut u r.2)]:=by rw[jZ h];simp[oM]
def Hc{u:Int}{ps:List (Int×Int)}{i:Nat}{r:Int×Int}(h:ps[i]?=some r):jE u (ps.take (i+1))=jE u (ps.take i)++[(i5 r.1,ut u r.2)]:=by rw[jZ h];simp[jE]
noncomputable def lB(rs:List (Int×Int×Int)):List Int:=rs.map (·.1)++rs.map (·.2.1)
def iH(rs:List (Int×Int×Int))(ps:List (Int×Int)):List (Int×Int):=ps.filter fun x=>decide (x.1∈lB rs)
def Bj{f:List (Int×Int×Int)}{ps:List (Int×Int)}{i:Nat}{r:Int×Int}(h:ps[i]?=some r)(c:r.1∈lB f):iH f (ps.take (i+1))=iH f (ps.take i)++[r]:=by rw[jZ h];unfold iH;rw[ph,vg (by simpa using c),wn]
def Jf{f:List (Int×Int×Int)}{ps:List (Int×Int)}{i:Nat}{r:Int×Int}(h:ps[i]?=some r)(c:¬r.1∈lB f):iH f (ps.take (i+1))=iH f (ps.take i):=by rw[jZ h];unfold iH;rw[ph,vh (by simpa using c),wn,L0]
def Bk{c:List (Int×Int×Int)}{ps:List (Int×Int)}{x:Int×Int}(h:x∈iH c ps):x∈ps:=(V5.mp h).1
def Bm(c:List (Int×Int×Int))(ps:List (Int×Int)):(iH c ps).length<=ps.length:=jm _ _
structure kL(U:List Str)(u:Int)(rs:List (Int×Int×Int))(ps ts:List (Int×Int)):Prop where
 u0:0<u
 u1:u<=10^12
 nd:U.Nodup
 n2:2<=U.length
 n98:U.length<=98
 rok:∀r∈rs,0<=r.1/\r.1<U.length/\0<=r.2.1/\r.2.1<U.length/\1<=r.2.2/\r.2.2<=10^31
 pok:∀r∈ps,0<=r.1/\r.1<U.length/\0<=r.2/\r.2<=10^105
 tok:∀r∈ts,0<=r.1/\0<=r.2/\r.2<=10^105
 r1:1<=rs.length
 rl:rs.length<=110
 pl:ps.length<=20
 tl:ts.length<=20
 ns:∀x∈U,Dy x
section
variable {G:Hp}{dd:c8}{U:List Str}{u:Int}{rs:List (Int×Int×Int)}{ps ts:List (Int×Int)}{ln lr lp lt:c8}
def XG{c:Type}{R:Hp->V->c->Prop}{l:c8}{vs:List V}{ds:List c}{v:V}{b:c}(g:∀ {H H' v b},R H v b->TK H H'->R H' v b)(h:G l=some (.lst vs))(p:Paired (R G) vs ds)(r:R G v b):LQ R (upd G l (.lst (vs++[v]))) l (ds++[b]):=
 {_,aC,Pd.snoc (Pd.imp p fun v b f=>g f (TK.lst h)) (g r (TK.lst h))}
def sV{g:Type}{R:Hp->V->g->Prop}{l k:c8}{vs xs:List V}{ds:List g}(m:∀ {H H' v b},R H v b->TK H H'->R H' v b)(h:G k=some (.lst vs))(c:l≠k)(q:LQ R G l ds):LQ R (upd G k (.lst xs)) l ds:=
 let ⟨o,e,p⟩:=q;{o,aY c e,Pd.imp p fun v b f=>m f (TK.lst h)}
def xV{p q:c8}{kv:List (aR×V)}{xs:List V}(c:G p=some (.dK kv))(f:G q=some (.lst xs)):p≠q:=fun e=>by rw[e,f]at c;cases c
def fN.nam(h:fN G dd U u rs ps ts ln lr lp lt)(c:ln≠lr)(n2:ln≠lp)(n3:ln≠lt)(x:Str):fN (upd G ln (.lst (U.map V.str++[.str x]))) dd (U++[x]) u rs ps ts ln lr lp lt:=
 {{_,aY (xV h.d h.nm) h.d},by rw[z9];exact aC,sV jU.tk h.nm (q7 c) h.rq,sV fQ.tk h.nm (q7 n2) h.pq,sV fQ.tk h.nm (q7 n3) h.tq}
def fN.rnn{vs:List V}{p:c8}{x:Int×Int×Int}(h:fN G dd U u rs ps ts ln lr lp lt)(c:G lr=some (.lst vs))(pv:Paired (jU G) vs rs)(f:jU G (.ref p) x)(g:ln≠lr)(n2:lr≠lp)(n3:lr≠lt):fN (upd G lr (.lst (vs++[.ref p]))) dd U u (rs++[x]) ps ts ln lr lp lt:=
 {{_,aY (xV h.d c) h.d},aY g h.nm,XG jU.tk c pv f,sV fQ.tk c (q7 n2) h.pq,sV fQ.tk c (q7 n3) h.tq}
end
def oY{H:Hp}{kvs:List (aR×V)}{D:AL aR Int}(m:KQ IQ H kvs D)(k:aR)(z:Int):(bP kvs k).getD (.int z)=.int ((bG D k).getD z):=by
 rcases m.val (k:=k) with ⟨c,f⟩|⟨v,b,c,f,g⟩
 ·rw[c,f];rfl
 ·rw[c,f];exact g
def Gi(D:AL aR Int)(x:Int×Int):(if (bG D (i5 x.1)).getD x.2<x.2 then (bG D (i5 x.1)).getD x.2 else x.2)=(match bG D (i5 x.1) with|none=>x.2|some v=>if v<x.2 then v else x.2):=by
 cases bG D (i5 x.1) with
|none=>
  show (if x.2<x.2 then x.2 else x.2)=x.2;split <;> rfl
|some v=>rfl
def yS{c:Type}(l:AL aR c)(k:aR)(v:c):(eS l k v).length<=l.length+1:=by
 cases e:bG l k with
|none=>rw[IV e];exact j8 _
|some w=>rw[BW e];exact U9 _
def OR{D:AL aR Int}{x:Int×Int}{P:Int->Prop}(h:∀y∈D,P y.2)(c:P x.2):∀y∈XF D x,P y.2:=by
 intro y f;unfold XF at f;rcases fU (x:=y.1) (y:=y.2) f with ⟨_,e⟩|⟨_,g⟩
 ·rw[e];cases e2:bG D (i5 x.1) with
 |none=>exact c
 |some v=>
   dsimp only;split
   ·exact h _ (cQ e2)
   ·exact c
 ·exact h y g
def Co{D:AL aR Int}{x:Int×Int}{P:aR->Prop}(h:∀y∈D,P y.1)(g:P (i5 x.1)):∀y∈XF D x,P y.1:=by
 intro y c;unfold XF at c;rcases fU (x:=y.1) (y:=y.2) c with ⟨e,_⟩|⟨_,f⟩
 ·rw[e];exact g
 ·exact h y f
def zO.start{U:List Str}{u:Int}{q:List (Int×Int×Int)}{f:List (aR×Rat)}{tk:Nat->Option Rat}{D:AL aR Int}(o:(D.map (·.1)).Nodup)(m:∀x∈D,∃i:Nat,x.1=i5 (i:Int)/\i<U.length)(g:∀x∈D,0<=x.2/\x.2<=10^105)(h:mT U u D=bG (lst f)):zO U u q f tk D:=by
 refine {o,m,fun x c=>?_,fun p t e=>?_,fun p t e=>?_}
 ·have:=g x c;have s:0<D.length:=vw c;lia
 ·rw[h]at e;exact .push e
 ·rw[h];exact {t,e,gx}
def Kh{D:AL aR Int}{x:Int×Int}(c:(D.map (·.1)).Nodup):((XF D x).map (·.1)).Nodup:=tI c
def Ll{tk:Nat->Option Rat}{u:Int}{k:Nat}{T a b:Int}{D:AL aR Int}(h:bG D (i5 a)=none):Ea tk u k T a b D:=fun v e=>by rw[h]at e;cases e
def Lm{tk:Nat->Option Rat}{u:Int}{k:Nat}{T a b v:Int}{D:AL aR Int}(h:bG D (i5 a)=some v)(hn:¬eN tk k (ut u (v+T))):Ea tk u k T a b D:=fun c e n=>by rw[h]at e;cases e;exact absurd n hn
theorem Qw{tk:Nat->Option Rat}{u:Int}{k:Nat}{T a b v:Int}{D:AL aR Int}(h:bG D (i5 a)=some v)(hn:¬v+T<(bG D (i5 b)).getD (v+T+1)):Ea tk u k T a b D:=fun c e n=>by
 rw[h]at e;cases e;cases e2:bG D (i5 b) with
|none=>
  rw[e2]at hn;exact absurd (show v+T<v+T+1 by lia) hn
|some w=>rw[e2]at hn;exact {w,rfl,Int.not_lt.mp hn}
structure Ly(U:List Str)(u:Int)(rs:List (Int×Int×Int))(qs:List (aR×Rat))(tk:Nat->Option Rat)(D0 D:AL aR Int)(c:Bool)(Z:Prop):Prop where
 d:zO U u rs qs tk D
 le:mu U.length D<=mu U.length D0
 ch:c=true->mu U.length D<mu U.length D0
 st:c=false->D=D0/\Z
def Ly.imp{U:List Str}{u:Int}{o:List (Int×Int×Int)}{m:List (aR×Rat)}{tk:Nat->Option Rat}{f D:AL aR Int}{c:Bool}{Z g:Prop}(h:Ly U u o m tk f D c Z)(k:D=f->Z->g):Ly U u o m tk f D c g:={h.d,h.le,h.ch,fun e=>{(h.st e).1,k (h.st e).1 (h.st e).2}}
def Nx{c:TT}{o:TS}{D:fR}{f:St}{H:Hp}(g:Nat->St->Hp->Prop){q:Nat}(h0:g q f H)(hs:∀m f H,g m f H->c f H fun b H1=>if b=true then ∃N:St->Hp->Prop,(∀σ' H',N σ' H'->∃m',m'<m/\g m' σ' H')/\o {D with nx:=N,ct:=N,bk:=D.nx} f H1 else D.nx f H1):JF c o D f H:={g,{_,h0},hs}
def GJ{z:Int}(h:z.natAbs<=10^115):Sm 8000 z:=E3 h (by decide)
def XA(z:Int):0<=EX z:=by unfold EX;split <;> lia
def XB{z b:Int}(h:z<=b)(h0:0<=b):EX z<=b:=by unfold EX;split <;> lia
theorem BF:∀{D:AL aR Int}{n:Nat},(∀x∈D,∃i:Nat,x.1=i5 (i:Int)/\i<n)->∃xs:List Int,D.map (·.1)=xs.map i5
|[],_,_=>{[],rfl}
|x::D,_,h=>by obtain ⟨i,e,_⟩:=h x (J1 ..);obtain ⟨xs,c⟩:=BF fun y f=>h y (B4 _ f);exact {(i:Int)::xs,by rw[J6,J6,e,c]}
def Cr{D:AL aR Int}{xs:List Int}{y:Int}(h:D.map (·.1)=xs.map i5)(g:y∈xs):∃v,bG D (i5 y)=some v:=by
 cases e:bG D (i5 y) with
|some v=>exact {v,rfl}
|none=>
  have:(i5 y:aR)∈D.map (·.1):=by rw[h];exact u8.mpr {y,g,rfl}
  obtain ⟨x,f,c⟩:=u8.mp this;exact absurd (by rw[←c];exact f) (iM e x.2)
def VZ{S:List Int}{i:Int}(h0:0<=i)(f:i<S.length):∃m∈S,vD (S.map V.int) i=some (.int m):=by
 have c:i.toNat<S.length:=by lia
 refine {S[i.toNat],K7 c,?_};have:(S.map V.int)[i.toNat]?=some (.int S[i.toNat]):=by rw[m5,i3 c];rfl
 have:=fZ this;rwa[dv h0]at this
def Ni{u z:Int}(g:0<u)(m:u<=10^13)(h:z.natAbs<=10^115):Sz 400 (ut u z):=by
 have c:u≠0:=by lia
 have e:=pN (t:=z) c;have o:=DN (t:=z) c;have f:=oR (t:=z) c;have q:=sW (t:=z) c;refine {?_,?_}
 ·show ((j7 z u).num).natAbs<2^400;rw[e.1];exact E3 (show (eY z u).natAbs<=10^115 by lia) (by decide)
 ·show (((j7 z u).den:Int)).natAbs<2^400;rw[e.2];have:fB z u∣u:={_,f.symm}
  have s:=mh g this;exact E3 (show (fB z u).natAbs<=10^13 by lia) (by decide)
section
open Sem (wp)
end
def aZ.turnL(ch:List c8)(I:aZ X ak σ H s)(g:∀b∈ch,vG X ak H b)(k:∀b o,b∉ch->s.heap.get? b=some o->h'.get? b=some o):aZ X ak σ H {s with heap:=h',toks:=t'}:=by
 refine I.step (g':=s.gens) (d':=s.drawn) (ch:=ch) (fun b E=>?_) (fun b o _ _ f e _=>k b o f e) (fun b o _ _ f e _=>{o.slots,k b o f e}) (fun _ _ _ _ n=>n)
  (fun b o f e=>{o,k b o f e}) (fun _ _ e=>e) (fun _ _ _ e=>e) (fun b N e=>{#[],by rw[e];simp}) (fun m G=>?_) (fun b u e=>?_) I.bare
 ·obtain ⟨K,A,M,B,C,D⟩:=g b E;exact {B,A,C,D}
 ·obtain ⟨o,w,t,J,r⟩:=G;exact {o,w,t,k _ o (fun z=>(g _ z).2.1 rfl) J,r}
 ·refine (I.hok b u e).stay (fun c v f q=>k c v ?_ q) (fun _ q=>q) fun _ _ q=>q;intro z;have:=(g c z).1;rcases f with rfl|f
  ·rw[this]at e;cases e
  ·rw[this]at f;cases f
theorem XQ{c:Type}:∀{kvs:List (c×V)}{vs:List (c×c7)}{i:Nat}{k:c}{v:V},KV kvs vs->kvs[i]?=some (k,v)->∃u,vs[i]?=some (k,u)/\bO v u
|_,_,_,_,_,.nil,e=>by simp at e
|_,_,0,k,v,.cons (b:=q) r _,e=>by
  simp at e;subst e;exact {q.2,by simp;exact Prod.ext r.1.symm rfl,r.2}
|_,_,i+1,k,v,.cons _ t,e=>by obtain ⟨u,h,r⟩:=XQ (i:=i) (k:=k) (v:=v) t (by simpa using e);exact {u,by simpa using h,r}
def aZ.pairAt(I:aZ X ak σ H s)(f:aZ X ak σ H {s with heap:=h2,toks:=s.toks})(J:bO x u)(C:bO y u2)(m:h2.get? s.heap.objs.size=some {cls:=.type "tuple",data:=.seq #[u,u2]}):aZ X ak σ (upd H s.heap.objs.size (.tup [x,y])) {s with heap:=h2,toks:=s.toks}:=by
 have B:H s.heap.objs.size=none:=I.hok.fresh (j8 _);have A:∀{b:c8},b<s.heap.objs.size->H b=none->upd H s.heap.objs.size (.tup [x,y]) b=none:=fun {b} w e=>by rw[aX (u7 w)];exact e
 have g:∀{b:c8}{o:HO},H b=some o->upd H s.heap.objs.size (.tup [x,y]) b=some o:=fun {b o} e=>by rw[aX (aD e B)];exact e
 refine {f.ok,f.os,f.bare,{f.base.keep,f.base.slot,fun b o q n E=>A ?_ (f.base.free b o q n E),f.base.there,fun b D q=>g (f.base.tups b D q),fun b o v q=>g (f.base.frzs b o v q),fun b G q=>?_},f.loc,f.cell,A I.lt f.free,fun y c q=>A ?_ (f.freeC y c q),fun p hp=>?_,fun b o q=>?_,f.len}
 ·exact i7 (p7 q) I.sz
 ·obtain ⟨t,z⟩:=f.base.tbls b G q;exact {t,g z}
 ·obtain ⟨v,z⟩:=I.cell y c q;exact z.lt
 ·obtain ⟨K,M,N⟩:=f.pin p hp;exact {K,A (p7 (I.pin p hp).1) M,N}
 ·by_cases w:b=s.heap.objs.size
  ·subst w;rw[aC]at q;cases q;exact {{by rw[y9];simp,_,m,rfl},[u,u2],.cons J (.cons C .nil),_,m,rfl,_,rfl}
  ·rw[aX w]at q;exact (f.hok b o q).stay (fun _ _ _ z=>z) (fun c z=>g z) fun c D z=>g z
def Ry(a:c8)(o:Obj)(kvs:List (aR×V)):It:=
 {fun i H=>H a=some (.frz o (.dK kvs))/\i<kvs.length,fun i H x H'=>∃T k v,x=.ref T/\H T=none/\H'=upd H T (.tup [kV k,v])/\kvs[i]?=some (k,v),fun i H=>H a=some (.frz o (.dK kvs))/\kvs.length<=i}
def JE{P:m7}{w:y6}{K:v9}{B:List D6}{k1:Nat}{O:Pos}(a it:c8)(o:Obj)(kvs:List (aR×V)):
  SE P w K (.Tuple B k1 O) (Ry a o kvs) [it] it (fun i h=>∃es ep ok N,o.data=.dict es ep/\IsItemIter h it a i kvs.length ep ok N) where
 mem:=by simp
 obj:=fun i h st b hb=>by
  have e:b=it:=by simpa using hb
  subst e;obtain ⟨_,_,_,_,_,e⟩:=st;exact {_,e,fun v z=>nomatch z}
 keep:=fun i h Z ⟨es,ep,ok,N,q,st⟩ k=>{es,ep,ok,N,q,k it (by simp) _ st}
 item:=by
  intro X hP hw hK D i t s σ H E I R st hg;subst hP hw hK;obtain ⟨ha,S⟩:=hg;obtain ⟨hd,vs,es,ep,m,Q,T⟩:=vU I ha;obtain ⟨Y,U,ok,N,g,st⟩:=st;rw[Q]at g;cases g;obtain ⟨⟨k,v⟩,hx⟩:∃p,kvs[i]?=some p:={_,i3 S}
  obtain ⟨u,hu,ru⟩:=XQ m hx;have f:=m.length;rw[f]at st;have b':=p7 st;refine wpAny_pyNext_items_item st T hu fun M Z J G hT c' kp=>?_;refine {_,rfl,wpAny_letOwnedTupleGo_items (s:={s with heap:=Z}) G fun h2 b1 sb=>?_};have C:s.heap.objs.size≠it:=C3 b';have k2:∀c o,c∉[it]->s.heap.get? c=some o->h2.get? c=some o:=fun c o n q=>by have n':c≠it:=fun z=>n (by simp[z]);exact (sb.2 c n').trans (kp c o n' q)
  have I1:aZ X t σ H {s with heap:=h2,toks:=s.toks}:=I.turnL [it] R k2;have a':h2.get? s.heap.objs.size=some {cls:=.type "tuple",data:=.seq #[M,u]}:=(sb.2 _ C).trans hT;have I2:=I.pairAt I1 (vN J) ru a';refine {.ref s.heap.objs.size,_,I2,rfl,{s.heap.objs.size,k,v,rfl,I.hok.fresh (j8 _),rfl,hx},{es,ep,M,u,Q,by rw[f];exact b1},fun c D=>?_};have e:c=it:=by simpa using D
  subst e;rw[aX (q7 C)];exact (R c D).1
 done:=by
  intro X hP hw hK D i t s σ H E I R st hg;subst hP hw hK;obtain ⟨ha,S⟩:=hg;obtain ⟨hd,vs,es,ep,m,Q,T⟩:=vU I ha;obtain ⟨Y,U,ok,N,g,st⟩:=st;rw[Q]at g;cases g;have f:=m.length;rw[f]at st S;refine wpAny_pyNext_items_end (show X.A.in1.handled=none from I.ok.hd D) st T (by simpa using S) fun Z eb=>{rfl,?_}
  exact I.turnL (t':=s.toks) [it] R fun c o n q=>eb c o (fun z=>n (by simp[z])) q
 self:=fun _ _ _ _ _ ⟨_,_,_,_,_,st⟩ h=>PySem.W.kcp_self st h
section
variable {X:Cx}
def XV(C:c8->Prop)(tl:TE):TI:=fun σ H R=>tl σ H fun x H1=>∃a,C a/\x=.ref a/\∃kvs,H1 a=some (.dK kvs)/\∀o,R (Ry a o kvs) (upd H1 a (.frz o (.dK kvs)))
def WC(C:c8->Prop)(S:PE X l tl)(c:Q4 l "items" X.env (I0 l X.env)=I0 l X.env:=by rfl)(f:(a7.endLine==pos.line)=true:=by rfl):PI X (.Tuple elts k1 tpos) (.Call (.Attribute l "items" a7) [] [] pos) (XV C tl):=by
 intro A s Y H R I h;refine ix (T:="dict") (id:="dict.items") c rfl f X3 ro PySem.F.type_dict_items (cZ (S A s Y H _ I h) fun v m ⟨x,Z,M,W,U⟩=>?_);obtain ⟨a,_,e,t,hk,q⟩:=U;subst e;cases W;obtain ⟨_,Q,K,J,o,O,B,g,r⟩:=M.hok a _ hk;have N:m.heap.DictAt (bY X.prog X.w) a K B:={o,O,g,r}
 have D:=N.dictOf;have E:=M.freeze hk g;refine {D.typeIs,D.mapOf.noDict,?_};show i6 _ _ (rc pos (.builtin "dict.items") [.ref a] [] []) _ _ m;refine method_meetsIn ro PySem.F.entry_dict_items rfl (PySem.evalArgs_none {rfl,D.typeIs,PySem.F.args_dict_items_1 _,_,meets_dict_items (bY X.prog X.w) a Q,{K,D},?_});refine wpAny_pyIter_items (knd:=bY X.prog X.w) (d:=a) (kvs:=K) (ep:=B) {_,r9 _ rfl,rfl,rfl} (N.push _) ?_;have G:(m.heap.push {cls:=.type "dict_items",data:=.fields #[.ref a]}).objs.size=m.heap.objs.size+1:=L3 ..;refine {_,[_],_,_,_,rfl,(E.kept (t':=m.toks) fun b o e=>e9 _ (e9 _ e)),JE a _ o t,{O,B,.none,.none,r.2.1,?_},fun b P=>?_,q o}
 ·rw[J.length];exact r9 _ rfl
 ·have e:b=(m.heap.push {cls:=.type "dict_items",data:=.fields #[.ref a]}).objs.size:=by simpa using P
  rw[G]at e;subst e;exact E.fpOk (U9 _) (E.hok.fresh (U9 _))
variable {scope:X1}{tn names:List Str}{is:List Nat}{elt l:D6}{elts:List D6}{k1:Nat}{tpos a7 bw:Pos}{ifs:List D6}{pos:Pos}{tl te:TE}{tc:Option TT}{g:TG}
def TF(tl:TE)(te:TE)(tc:Option TT)(g:TG)(k:Nat)(is:List Nat):TE:=fun σ H Q=>∃a,nU H a/\FG (XV (·=a) tl) te tc g k is σ H fun v H'=>Q v (melt a H')
def WF(w:rK X scope tn names is)(B:X.calm=true)(G:PE X l tl)(E:∀C s0 H0 ex,PG (cD X scope (cH X.env names) (tn++names) C s0 H0 ex) (.Tuple elts k1 tpos) g)(D:∀C s0 H0 ex,PE (cD X scope (cH X.env names) (tn++names) C s0 H0 ex) elt te)(J:∀C s0 H0 ex,Dx (cD X scope (cH X.env names) (tn++names) C s0 H0 ex) ifs tc)(c:Q4 l "items" X.env (I0 l X.env)=I0 l X.env:=by rfl)(f:(a7.endLine==bw.line)=true:=by rfl)(hs:∀x,V0 (.Call (.Attribute l "items" a7) [] [] bw) X.env x=K0 x:=by intro _;rfl):
  PE X (.ListComp elt [{.Tuple elts k1 tpos,.Call (.Attribute l "items" a7) [] [] bw,ifs,0}] scope pos) (TF tl te tc g tn.length is):=by
 intro m s M H Q I h;obtain ⟨a,K,h⟩:=h;have A:∀o u,X.H₀ a≠some (.frz o u):=fun o u e=>K _ _ (I.base.frzs a o u e);refine cZ (eJ w B (WC (·=a) G c f) E D J hs m s M H _ I h) fun u O ⟨v,N,t,r,q⟩=>{v,_,t.melt A,r,q}
end
section
variable {σ:St}{H:Hp}{Q:VK}{te:TE}{az:St}{K:v9}
def Ba(a:c8)(c:nU H a)(h:tl σ H fun x H1=>∃b,b=a/\x=.ref b/\∃kvs,H1 b=some (.dK kvs)/\∀o',kI te o g (B6 k none) (pS σ is) (fun v H'=>Q v (melt a H')) (Ry b o' kvs) (upd H1 b (.frz o' (.dK kvs)))):TF tl te o g k is σ H Q:={a,c,h}
def VL(hn:kvs.length<=1000)(t:c8->Nat->List V->Hp->Prop)(h0:∀f,H f=none->t f 0 [] (upd H f (.lst [])))(C:∀f i ys g,H f=none->i<=kvs.length->t f i ys g->g a=some (.frz o (.dK kvs)))(hs:∀f i ys g T k v,H f=none->kvs[i]?=some (k,v)->ys.length<=i->g f=some (.lst ys)->g T=none->t f i ys g->c (some (kV k)::some v::az) (upd g T (.tup [kV k,v])) fun b H3=>if b=true then te (some (kV k)::some v::az) H3 (BO kvs.length f (t f) ys i) else yI kvs.length f (t f) ys i H3)(J:∀f ys g,H f=none->g f=some (.lst ys)->ys.length<=kvs.length->t f kvs.length ys g->Q (.ref f) g):kI te (some c) (KU K 2 (sX (hX 0) (sX (hX 1) YF))) (B6 2 none) az Q (Ry a o kvs) H:=by
 intro f s;refine {fW kvs.length f (t f),{kvs.length,by simp,C9 _,j8 _,aC,h0 f s},fun i m ys g I=>?_};obtain ⟨rfl,E,B,w,p⟩:=I;have q:=C f i ys g s E p;refine {w,?_};rcases mm i kvs.length with D|A
 ·refine .inr {eE (A5 B (by lia)),{q,D},fun S x O M z=>?_};obtain ⟨T,k,v,rfl,G,rfl,N⟩:=z;obtain ⟨P,R,rfl⟩:=Qd M;exact CU aC {kV k,[v],rfl,v,[],rfl,rfl,{[some (kV k),some v],rfl,rfl},hs f i ys g T k v s N B w G p}
 ·cases (uu E A:i=kvs.length);exact .inl {{q,j8 _},J f ys g s w B p}
end
def DK(hk:H d=some (.dK kvs))(s:aJ (upd H d (.frz o (.dK kvs))) G):aJ H (melt d G):=fun b u c=>by
 by_cases z:b=d
 ·subst z;rw[hk]at c;cases c;exact DL (s _ _ aC)
 ·rw[sT z];exact s _ _ (aY z c)
def Pl:R2:=fun x y H Q=>∃p q kvs kws,x=.ref p/\y=.ref q/\H p=some (.dK kvs)/\H q=some (.dK kws)/\kvs.length=kws.length/\(∀kv∈kvs,∃d w,bP kws kv.1=some w/\nY H d kv.2/\nY H d w/\uW d<=20)/\Q (.bl false) H
theorem yF(I:aZ X ak σ H s)(B:A.units+20<L9)(c:KV kws ws):∀{kvs:List (aR×V)}{vs:List (aR×c7)},KV kvs vs->(∀kv∈kvs,∃d w,bP kws kv.1=some w/\nY H d kv.2/\nY H d w/\uW d<=20)->PySem.W.KeqHits A s ws vs true
|_,_,.nil,_=>.nil
|_,_,.cons (a:=p) (b:=q) r t,h=>by
  obtain ⟨d,w,e,f,o,C⟩:=h p J1;have rv:=c.val p.1;rw[e,r.1]at rv;cases ev:Y9 ws q.1 with
 |none=>rw[ev]at rv;cases rv
 |some y=>rw[ev]at rv;have m:=KW I d d (A:=A) f o r.2 (show bO w y from rv) (by lia);rw[nY.same_eq d d f f]at m;exact PySem.W.KeqHits.hit (e:=true) (b:=true) ev m (yF I B c t fun kv g=>h kv (B4 _ g))
def Jr(N:X.A.units+64<L9):kK X (E4 .NotEq) Pl:=by
 intro f s R H x y v u Q I G J h;obtain ⟨p,q,C,D,rfl,rfl,hp,B,w,c,k⟩:=h;cases G;cases J;obtain ⟨O,E,K,g,o⟩:=qH I.hok hp;obtain ⟨P,n2,M,m,t⟩:=qH I.hok B;have e:K.length=M.length:=by rw[←g.length,←m.length,w]
 refine keq_ne E n2 o t (by lia) (fun _=>yF I (A:=X.A.in1) ?_ m g c) ?_
 ·show X.A.units+1+20<L9;lia
 ·rw[e];simp;exact {.bl _,H,I,rfl,k}
section
open PySem.SeqAt PySem.MeetsSeq PySem.MeetsSeq2 PySem.MeetsSeq3
open PySem.AutoSeq1 (wpAny_loadPart')
variable {prog:m7}{w:y6}
def ZJ(prog:m7)(w:y6)(A:A2)(s:f9)(y x:c7):Prop:=∀(E:c7->f9->Prop)(Q:Bool->f9->Prop),Q true s->i6 (j3 prog w) A (eqBool y x) Q E s
def ZJ.of(h:EqAt A s y x true):ZJ prog w A s y x:=fun E Q q=>h prog w E Q q
def QQ(l b:c8)(items c:Array c7)(n n2:Nat)(dd C:Option c8)(I E:Array (Option c7))(hsz:items.size=c.size)(k:Nat):
  ∀i:Nat,items.size-i=k->MeetsIn prog w (E8.«list.__eq__.loop» {[.ref l,.ref b,C5 i,C5 3],[]})
   (fun A R s=>s.heap.get? l=some {cls:=.type "list",dict:=dd,data:=.seq items n,slots:=I}/\s.heap.get? b=some {cls:=.type "list",dict:=C,data:=.seq c n2,slots:=E} /\
    (∀j (J:j<items.size) (K:j<c.size),ZJ prog w A.in1 s items[j] c[j])/\R (.ok (.ret (.bool false))) s):=by
 induction k with
|zero=>
  intro i hk A R s h;obtain ⟨hp,g,d,tk,H⟩:=s;obtain ⟨t,q,D,h⟩:=h
  wp_walk using M5 t,M5 q
  have m:items[((i:Nat):Int).toNat]?=none:=by simp;lia
  have o:c[((i:Nat):Int).toNat]?=none:=by simp;lia
  rw[m,o]
  wp_walk using M5 t,M5 q
  show R (.ok (.ret (.bool (items.size !=c.size)))) _;rw[hsz];simpa using h
|succ k ih=>
  intro i hk A R s h;obtain ⟨hp,g,d,tk,H⟩:=s;obtain ⟨t,q,D,h⟩:=h
  wp_walk using M5 t,M5 q
  have B:i<items.size:=by lia
  have f:i<c.size:=by lia
  have m:items[((i:Nat):Int).toNat]?=some items[i]:=by simp[B]
  have o:c[((i:Nat):Int).toNat]?=some c[i]:=by simp[f]
  have G:((i:Int)+1)=((i+1:Nat):Int):=by push_cast;rfl
  rw[m,o];refine c6 (D i B f _ _ ?_)
  wp_walk
  rw[G];exact {J9 plain_eq_loop _,C1 entry_eq_loop (by
   rw[A4 plain_eq_loop _];exact ih (i+1) (by lia) A R _ {t,q,D,h})}
def QV(l b:c8)(items c:Array c7)(n n2:Nat)(dd f:Option c8)(t m:Array (Option c7))(hsz:items.size=c.size):
  MeetsIn prog w (E8.«list.__ne__» {[.ref l,.ref b],[]})
   (fun A R s=>s.heap.get? l=some {cls:=.type "list",dict:=dd,data:=.seq items n,slots:=t}/\s.heap.get? b=some {cls:=.type "list",dict:=f,data:=.seq c n2,slots:=m} /\
    (∀j (E:j<items.size) (G:j<c.size),ZJ prog w A.in1 s items[j] c[j])/\R (.ok (.ret (.bool false))) s):=by
 intro A R s h;obtain ⟨hp,g,d,tk,H⟩:=s;obtain ⟨q,o,B,h⟩:=h;have D:=AutoSeq1.sub_list_list;have C:¬(items.size !=c.size)=true:=by simp[hsz]
 wp_walk using M5 q,M5 o
 exact {J9 plain_eq_loop _,C1 entry_eq_loop (by
  rw[A4 plain_eq_loop _];exact QQ l b items c n n2 dd f t m hsz _ 0 rfl A R _ {q,o,B,h})}
end
def PN(H:Hp)(x y:V):Prop:=(∃d,nY H d x/\nY H d y/\uW d<=20)∨∃p q kvs kws,x=.ref p/\y=.ref q/\H p=some (.dK kvs)/\H q=some (.dK kws)/\kvs.length=kws.length/\∀kv∈kvs,∃d w,bP kws kv.1=some w/\nY H d kv.2/\nY H d w/\uW d<=20
def Dd(I:aZ X ak σ H s)(U:A.units+30<L9)(h:PN H x y)(t:bO x u)(rv:bO y v):ZJ X.prog X.w A s u v:=by
 rcases h with ⟨d,f,G,T⟩|⟨p,q,N,O,rfl,rfl,hp,M,K,c⟩
 ·have e:=KW I d d (A:=A) f G t rv (by lia);rw[nY.same_eq d d f f]at e;exact .of e
 ·cases t;cases rv;by_cases e:p=q
  ·rw[e];exact .of (Y1 _)
  ·intro E Q J;unfold eqBool;refine D7 ?_;refine wpAny_ite_split (fun g=>absurd (by have:=eq_of_beq g;injection this) e) (fun _=>?_);obtain ⟨W,P,R,m,B⟩:=qH I.hok hp;obtain ⟨Y,n2,S,o,C⟩:=qH I.hok M;have D:R.length=S.length:=by rw[←m.length,←o.length,K]
   refine c6 (keq_eq (r:=true) P n2 B C (by lia) (fun _=>yF I (A:=A.in1) (by show A.units+1+20<L9;lia) o m c) (K2 ?_));rw[D];simpa using J
def Su:R2:=fun x y H Q=>∃p q xs ys,x=.ref p/\y=.ref q/\H p=some (.lst xs)/\H q=some (.lst ys)/\xs.length=ys.length/\(∀(i:Nat)(x y:V),xs[i]?=some x->ys[i]?=some y->PN H x y)/\Q (.bl false) H
def Jq(hu:X.A.units+64<L9):kK X (E4 .NotEq) Su:=by
 intro G s σ H x y v u Q I U W h;obtain ⟨p,q,Y,Z,rfl,rfl,hp,N,hl,c,k⟩:=h;cases U;cases W;obtain ⟨z1,f,R,o,l1,m⟩:=I.lstM hp;obtain ⟨z2,g,n2,t,l2,w⟩:=I.lstM N;refine wpAny_richCompare_same_room (op:=.NotEq) {_,m,rfl} {_,w,rfl} slot_list_ne (gs slot_list_ne {_,m,rfl} PySem.F.entry_list_ne (PySem.F.args_list_ne_2 _ _) (QV p q f.toArray g.toArray R n2 none none #[] #[] (by rw[m6,m6];lia)) {m,w,fun j J K=>?_,?_}) (by lia)
 ·have O:j<f.length:=by simpa using J
  have P:j<g.length:=by simpa using K
  have D:j<Y.length:=by lia
  have E:j<Z.length:=by lia
  obtain ⟨a,B,S⟩:=o.get (i:=j) (i3 D);obtain ⟨b,C,T⟩:=t.get (i:=j) (i3 E);rw[i3 O]at B;rw[i3 P]at C;have M:=Dd I (A:=X.A.in1) (by show X.A.units+1+30<L9;lia) (c j _ _ (i3 D) (i3 E)) S T;cases B;cases C;simpa using M
 ·exact {(fun x=>nomatch x),.bl false,H,I,rfl,k}
section
variable {te:TE}{Q:VK}{H:Hp}{az:St}
def VN(hn:kvs.length<=1000)(t:c8->Nat->List V->Hp->Prop)(h0:∀f,H f=none->t f 0 [] (upd H f (.lst [])))(A:∀f i ys s,H f=none->i<=kvs.length->t f i ys s->s a=some (.frz o (.dK kvs)))(hs:∀f i ys s k v,H f=none->kvs[i]?=some (k,v)->ys.length<=i->s f=some (.lst ys)->t f i ys s->c (some (kV k)::az) s fun b H3=>if b=true then te (some (kV k)::az) H3 (BO kvs.length f (t f) ys i) else yI kvs.length f (t f) ys i H3)(D:∀f ys s,H f=none->s f=some (.lst ys)->ys.length<=kvs.length->t f kvs.length ys s->Q (.ref f) s):kI te (some c) (hX 0) (B6 1 none) az Q (Mb a o kvs) H:=by
 intro f g;refine {fW kvs.length f (t f),{kvs.length,by simp,C9 _,j8 _,aC,h0 f g},?_};rintro i m ys s ⟨rfl,E,C,w,p⟩;have q:=A f i ys s g E p;refine {w,?_};by_cases B:i<kvs.length
 ·refine .inr {eE (by lia),{q,B},fun J x I G y=>?_};obtain ⟨rfl,k,v,e,rfl⟩:=y;obtain ⟨o,rfl⟩:=QW G;exact {{[some (kV k)],rfl,rfl},hs f i ys _ k v g e C w p}
 ·have e:i=kvs.length:=by lia
  subst e;exact .inl {{q,j8 _},D f ys s g w C p}
end
theorem LY:∀(us:List c7)(ys:List Str),ys.length=us.length->(∀(i:Nat)(v:c7),us[i]?=some v->∃x t,ys[i]?=some x/\v=.str x t)->lf us ys
|[],ys,c,_=>by
  have:ys=[]:=N8.mp c;subst this;exact .nil
|u::us,[],c,_=>by cases c
|u::us,y::ys,c,f=>by obtain ⟨x,t,g,rfl⟩:=f 0 u rfl;cases g;exact .cons y t (LY us ys (by simpa using c) fun i v e=>by simpa using f (i+1) v (by simpa using e))
section
variable {X:Cx}
def Ja:List V->Hp->VK->Prop:=fun vs H Q=>∃(p:c8)(kvs:List (aR×V)) (xs:List Str),vs=[.ref p]/\H p=some (.dK kvs)/\kvs.map (·.1)=xs.map c9/\xs.length<=4000/\∀(l:c8)(ys:List Str),H l=none->ys.Perm xs->Q (.ref l) (upd H l (.lst (ys.map V.str)))
def LE(hc:X.calm=true):fO X (.builtin "sorted") Ja:=by
 intro M s σ H f us Q I r h;obtain ⟨p,a',A,rfl,hp,hk,hl,q⟩:=h;obtain ⟨u,rfl,ru⟩:=r.one;cases ru;refine lW (P:=fun f=>lf f A) (fun f W=>LX {A,W,by lia}) (fun A' Q' Y k=>?_) fun w d tk L f E n Z D J g kp=>?_
 ·obtain ⟨z,hd,G,c,B⟩:=qH I.hok hp;obtain ⟨ep,B⟩:=B.dictAt;refine tG (Y.trans (I.ok.hd hc)) hd B (by rw[←c.length];exact z) fun f w tk hn hv kp C=>?_;refine k f w s.drawn tk (LY f A ?_ fun i v e=>?_) kp C
  ·have:=congrArg Z6 hk;rw[i8,i8]at this;rw[hn,←c.length,this]
  ·obtain ⟨K,x',S,T⟩:=hv i v e;have m:(G.map (·.1))[i]?=some K:=by rw[m5,S];rfl
   rw[←c.keys,hk,m5]at m;cases e4:A[i]? with
  |none=>rw[e4]at m;cases m
  |some y=>rw[e4]at m;have U:c9 y=K:=j5 m;subst U;obtain ⟨t,rfl⟩:=vN T;exact {y,t,rfl,rfl}
 ·obtain ⟨O,y1,N⟩:=zU Z D;have R:=(I.dr d).laid (h':=w) (a:=L) (o:=.lst (O.map V.str)) (t':=tk) kp J {by
   have:=N.length_eq;rw[i8,y9];lia,E,n,tN y1,g}
  exact {.ref L,_,R,rfl,q L O (I.hok.fresh J) N}
def Iz:List V->Hp->VK->Prop:=fun vs H Q=>∃(p:c8)(xs:List Int),vs=[.ref p]/\H p=some (.lst (xs.map V.int))/\xs.length<=4000/\∀(l:c8)(ys:List Int),H l=none->ys.Perm xs->Q (.ref l) (upd H l (.lst (ys.map V.int)))
def LD:fO X (.builtin "sorted") Iz:=by
 intro D s σ H t us Q I r h;obtain ⟨p,E,rfl,hp,Z,q⟩:=h;obtain ⟨u,rfl,S⟩:=r.one;cases S;obtain ⟨z,f,n,rv,c,e⟩:=I.lstM hp;rw[i8]at c;refine lW (P:=fun t=>O6 t E) (fun t M=>OV {E,M,by lia}) (fun U W Y k=>?_) fun B d tk L t m R N w C g kp=>?_
 ·refine collect_list (vs:=f) {_,e,rfl,n,rfl} ?_ (by rw[y9];lia);refine k f _ s.drawn s.toks (uE rv) (fun b o A=>?_) (by rw[mj,size_push'];exact U9 _);have O:=p7 A;exact (A9 _ _ (q7 (u7 O))).trans (e9 _ A)
 ·obtain ⟨J,T,G⟩:=BK N w;have K:=(I.dr d).laid (h':=B) (a:=L) (o:=.lst (J.map V.int)) (t':=tk) kp C {by
   have:=G.length_eq;rw[i8,y9];lia,m,R,pJ T,g}
  exact {.ref L,_,K,rfl,q L J (I.hok.fresh C) G}
end
def XM{x b B:Int}(q:0<x)(o:0<b)(c:x∣B)(f:b∣B):0<x.fdiv (n6 x b)*b/\x.fdiv (n6 x b)*b∣B/\x∣x.fdiv (n6 x b)*b/\b∣x.fdiv (n6 x b)*b:=by
 obtain ⟨n,rfl⟩:∃n:Nat,x=n:={x.toNat,by lia}
 obtain ⟨m,rfl⟩:∃m:Nat,b=m:={b.toNat,by lia}
 have hn:0<n:=by lia
 have g:0<m:=by lia
 have e:((n:Int).fdiv (n6 n m))*(m:Int)=((n.lcm m:Nat):Int):=by rw[show n6 (n:Int) (m:Int)=Nat.gcd n m from rfl,show (n:Int).fdiv (Nat.gcd n m:Int)=((n/Nat.gcd n m:Nat):Int) by rw[ul _ (Int.natCast_nonneg _)];rfl,←Int.natCast_mul];congr 1;unfold Nat.lcm;exact Nat.div_mul_right_comm (Nat.gcd_dvd_left n m) m
 rw[e];refine {by exact_mod_cast Nat.lcm_pos hn g,?_,by exact_mod_cast Nat.dvd_lcm_left n m,by exact_mod_cast Nat.dvd_lcm_right n m};rw[←ka]at c f ⊢;rw[Int.natAbs_natCast]at c f ⊢;exact Nat.lcm_dvd c f
end L2
namespace L2
open PySem PySem.Spec PyProof.Rows PySem.W
def Qb{prog:m7}{w:y6}{c:Array c7}{vs:List c7}{kz:List Int}(hk:O6 c.toList kz):rG prog w (c.zip vs.toArray):=by intro A E s st x y Q f B C q;obtain ⟨n,t,g⟩:=ksk_intKeys (vs:=vs) hk _ B;obtain ⟨m,u,o⟩:=ksk_intKeys (vs:=vs) hk _ C;rw[lt'_eq];refine j0 (W0 ?_);rw[f,wm,g,o];refine j0 (ik (U5 (oneLt_int {rfl,?_})));exact j6 (q _)
def Rk(kz:List Int)(vs out:List c7):Prop:=∃ps:List (Int×c7),ps.Perm (kz.zip vs)/\out=ps.map Prod.snd
def Kn{c:Array c7}{vs:List c7}{kz:List Int}(hk:O6 c.toList kz){xs:Array D5}(hp:xs.Perm (c.zip vs.toArray)):Rk kz vs (xs.map (·.2)).toList:=by
 have f:xs.toList.Perm (c.toList.zip vs):=by rw[←ksk_zip];exact U3.mp hp
 refine {xs.toList.map (fun p:D5=>(numOf p.1,p.2)),?_,by rw[Array.toList_map,W4];rfl};have e:(c.toList.zip vs).map (fun p:D5=>(numOf p.1,p.2))=kz.zip vs:=by rw[←hk.nums,List.zip_map_left];exact List.map_congr_left fun ⟨x,y⟩ _=>rfl
 rw[←e];exact f.map _
section
variable {prog:m7}{w:y6}{A:A2}{E:c7->f9->Prop}{s:f9}{h₀:A7}{L:c8}{m:Str->Option c7}{news:List (c8×Obj)}{a kS:c8}{vs:List c7}{kz:List Int}{keys:Array c7}{e e1:Nat}{P:PySem.Fin->f9->Prop}
def GK{st:B2}(F:Fr h₀ L s.heap m)(N:wy h₀ L s.heap (news++[(kS,seqObj "list" keys e),(a,seqObj "list" #[] e1)]))(I:kS≠a)(K:∀p∈news,p.1≠kS)(J:∀p∈news,p.1≠a)(hk:O6 keys.toList kz)(Q:kz.length=vs.length)(hn:vs.length<=1000)(hp:(arrOf st).Perm (keys.zip vs.toArray))(H:failedOf st=none)(h:∀h' tk out c,Fr h₀ L h' m->wy h₀ L h' ((a,seqObj "list" out c)::news)->Rk kz vs out.toList->P (.done (.ret .none)) {s with heap:=h',toks:=tk}):
  i6 (j3 prog w) A (ksk_tail a false e1 (.ref kS) st) P E s:=by
 have M:=N (kS,seqObj "list" keys e) (u9 _ (.head _));have C:=N (a,seqObj "list" #[] e1) (u9 _ (.tail _ (.head _)));have B:keys.size=vs.length:=by have:=hk.length;rw[C0]at this;lia
 have t:=Kn (vs:=vs) hk hp;have g:((arrOf st).map (·.2)).size=vs.length:=by rw[ri,hp.size_eq,Array.size_zip,B,m6,qp]
 unfold ksk_tail;simp only[K5,if_false];generalize (arrOf st).map (·.2)=o at t g⊢;have O:=E6 s.heap kS (y8 fun _=>(#[]:Array c7));have f:(s.heap.update kS (y8 fun _=>(#[]:Array c7))).get? a=some (seqObj "list" #[] e1):=(O.2 a I.symm).trans C.1;have R:=E6 (s.heap.update kS (y8 fun _=>(#[]:Array c7))) a (y8 fun _=>o);obtain ⟨D,G⟩:∃D,((s.heap.update kS (y8 fun _=>(#[]:Array c7))).update a (y8 fun _=>o)).get? a=some (seqObj "list" o D):={_,lu f fun _=>o}
 refine c6 (X0 M.1 rfl ?_ (by rw[B,y9];lia) (C9 _));refine c6 (wpAny_letGo (c6 (ml f rfl ?_)));refine c6 (X0 f rfl ?_ (C9 _) (A5 (io g) (by rw[y9];lia)));rw[H];simp only[bne_self_eq_false,K5,if_false];refine i0 (h _ _ _ D (ksk_fr (ksk_fr F O M.2.1 M.2.2) R C.2.1 C.2.2) (fun p hp=>?_) t);rcases w6.mp hp with rfl|hp
 ·exact {G,C.2}
 ·exact By (By (fun q S=>N q (D2 _ S)) O K) R J p hp
def Ag(F:Fr h₀ L s.heap m)(N:wy h₀ L s.heap (news++[(kS,seqObj "list" keys e),(a,seqObj "list" #[] e1)]))(t:kS≠a)(C:∀p∈news,p.1≠kS)(B:∀p∈news,p.1≠a)(hk:O6 keys.toList kz)(f:kz.length=vs.length)(hn:vs.length<=1000)(h:∀h' tk out c,Fr h₀ L h' m->wy h₀ L h' ((a,seqObj "list" out c)::news)->Rk kz vs out.toList->P (.done (.ret .none)) {s with heap:=h',toks:=tk}):
  i6 (j3 prog w) A (ksk_end a false vs.toArray e1 (.ref kS) keys) P E s:=by
 have D:keys.size=vs.length:=by have:=hk.length;rw[C0]at this;lia
 unfold ksk_end;simp only[K5,if_false];by_cases o:vs.toArray.size<2
 ·rw[if_pos o,if_pos o];refine c6 (i0 ?_);rw[StateT.run_pure];refine c6 (i0 ?_);exact GK (st:=dl general' (keys.zip vs.toArray) #[] 7 none) F N t C B hk f hn (gu _) rfl h
 ·rw[if_neg o,if_neg o];rw[m6]at o;rw[ksk_kind hk (by rw[D];lia)];refine c6 (i0 ?_);refine c6 (C4 (LR (Qb hk) (st:=dl Z3 (keys.zip vs.toArray) #[] 7 none) (Q:=fun _ g=>SB (keys.zip vs.toArray) g) {gu _,rfl,rfl} rfl fun g q=>q) ?_ fun _ _ e=>e);rintro ⟨⟨⟩,g⟩ G ⟨rfl,hp⟩;exact GK F N t C B hk f hn hp.perm hp.ok h
def UL(F:Fr h₀ L s.heap m)(N:wy h₀ L s.heap (news++[(kS,seqObj "list" #[] 0),(a,seqObj "list" #[] e1)]))(B:kS≠a)(G:∀p∈news,p.1≠kS)(R:∀p∈news,p.1≠a)(D:kz.length=vs.length)(hn:vs.length<=1000)
  (I:∀(i:Nat)(v:c7)(k:Int),vs[i]?=some v->kz[i]?=some k->∀(h:A7)(tk:Nat)(own:List (c8×Obj)),Fr h₀ L h m->wy h₀ L h (news++own) ->
   i6 (j3 prog w) A (lc f [v]) (KskEnd h₀ L m (news++own) k {s with heap:=h,toks:=tk}) (fun _ _=>False) {s with heap:=h,toks:=tk})
  (h:∀h' tk out c,Fr h₀ L h' m->wy h₀ L h' ((a,seqObj "list" out c)::news)->Rk kz vs out.toList->P (.done (.ret .none)) {s with heap:=h',toks:=tk}) :
  i6 (j3 prog w) A (ksk_rest a f false vs.toArray e1 (.ref kS)) P E s:=by
 unfold ksk_rest;refine c6 (L7 ?_)
 first
 |rw[List.forIn_toArray]
 |(rw[←fh];simp only[List.toList_toArray])
 |rw[←fh]
 refine c6 (ksk_fold (fun i S=>∃h' tk o e,S={s with heap:=h',toks:=tk}/\Fr h₀ L h' m/\wy h₀ L h' (news++[(kS,seqObj "list" o e),(a,seqObj "list" #[] e1)])/\O6 o.toList (kz.take i)) vs 0 s
  {s.heap,s.toks,#[],0,rfl,F,N,by simpa using O6.nil} ?step ?done)
 case step=>
  rintro j x S U ⟨h',tk,o,e,rfl,K,J,hk⟩;rw[Nat.zero_add]at hk;rw[Nat.zero_add];have hj:j<vs.length:=(h8.mp U).1;obtain ⟨k,C⟩:∃k,kz[j]?=some k:={_,i3 (by lia)}
  have hz:o.size<=vs.length:=by have h1:=hk.length;rw[C0,dy]at h1;lia
  refine c6 (U5 (C4 (I j x k U C h' tk _ K J) (fun v a' he=>?_) fun _ _ hF=>hF.elim));obtain ⟨g,b',H,rfl,rfl,X,M⟩:=he
  try dsimp only
  have t:=M (kS,seqObj "list" o e) (u9 _ (.head _));have W:=M (a,seqObj "list" #[] e1) (u9 _ (.tail _ (.head _)));have T:=E6 g kS (y8 (·.push (.int k H)));obtain ⟨O,Q⟩:∃O,(g.update kS (y8 (·.push (.int k H)))).get? kS=some (seqObj "list" (o.push (.int k H)) O):={_,lu t.1 (·.push (.int k H))}
  refine c6 (X0 t.1 rfl ?_ (by rw[y9];lia) (A5 (io (Array.size_push ..)) (by rw[y9];lia)));refine i0 {rfl,_,_,o.push (.int k H),O,rfl,ksk_fr X T t.2.1 t.2.2,fun p hp=>?_,by rw[L4,yj,C];exact ksk_snoc hk};rcases w8.mp hp with hp|hp
  ·exact By (fun q hq=>M q (D2 _ hq)) T G p hp
  ·rcases w6.mp hp with rfl|hp
   ·exact {Q,t.2}
   ·rw[i4.mp hp];exact {(T.2 a B.symm).trans W.1,W.2}
 case done=>
  rintro S ⟨h',tk,o,e,rfl,K,J,hk⟩;rw[show kz.take (0+vs.length)=kz from iy (by lia)]at hk;have t:=J (kS,seqObj "list" o e) (u9 _ (.head _))
  try dsimp only
  refine c6 (yt t.1 rfl ?_);exact Ag K J B G R hk D hn fun h3 ZM out c Y Z k3=>h h3 ZM out c Y Z k3
def UK(F:Fr h₀ L s.heap m)(N:wy h₀ L s.heap news)(H:s.heap.get? a=some (seqObj "list" vs.toArray n))(q:a≠L)(o:h₀.get? a=none)(C:∀p∈news,p.1≠a)(B:kz.length=vs.length)(hn:vs.length<=1000)
  (G:∀(i:Nat)(v:c7)(k:Int),vs[i]?=some v->kz[i]?=some k->∀(h:A7)(tk:Nat)(own:List (c8×Obj)),Fr h₀ L h m->wy h₀ L h (news++own) ->
   i6 (j3 prog w) A (lc f [v]) (KskEnd h₀ L m (news++own) k {s with heap:=h,toks:=tk}) (fun _ _=>False) {s with heap:=h,toks:=tk})
  (h:∀h' tk out c,Fr h₀ L h' m->wy h₀ L h' ((a,seqObj "list" out c)::news)->Rk kz vs out.toList->P (.done (.ret .none)) {s with heap:=h',toks:=tk}) :
  i6 (j3 prog w) A (ksk_tree a f false) P E s:=by
 have M:a<s.heap.objs.size:=p7 H;have K:=E6 s.heap a (y8 fun _=>(#[]:Array c7));obtain ⟨e1,D⟩:∃e1,(s.heap.update a (y8 fun _=>(#[]:Array c7))).get? a=some (seqObj "list" #[] e1):={_,lu H fun _=>#[]}
 have I:=ksk_fr F K q o;have J:=By N K C;have t:((s.heap.update a (y8 fun _=>(#[]:Array c7))).push (seqObj "tuple" vs.toArray 0)).objs.size=s.heap.objs.size+1:=by rw[size_push',mj]
 have g:=(I.push (seqObj "tuple" vs.toArray 0)).ns.lt;unfold ksk_tree;refine c6 (yt H rfl ?_);refine c6 (X0 H rfl ?_ (by rw[m6,y9];lia) (C9 _));refine c6 (ml D rfl ?_);refine c6 (wc ?_ (by show vs.length<=_;rw[y9];lia));refine c6 (pf (D7 ?_) (C9 _));refine UL (s:={s with heap:=((s.heap.update a (y8 fun _=>(#[]:Array c7))).push (seqObj "tuple" vs.toArray 0)).push (seqObj "list" #[] 0)}) (kS:=((s.heap.update a (y8 fun _=>(#[]:Array c7))).push (seqObj "tuple" vs.toArray 0)).objs.size)
  ((I.push _).push _) (fun p hp=>?_) (by rw[t];exact C3 (B7 M)) (fun p hp=>by rw[t];exact u7 (B7 (p7 (N p hp).1))) C B hn G h
 rcases w8.mp hp with hp|hp
 ·exact {e9 _ (e9 _ (J p hp).1),(J p hp).2}
 ·rcases w6.mp hp with rfl|hp
  ·exact {r9 _ rfl,C3 g,gh (A5 F.above (V6 g))}
  ·rw[i4.mp hp];exact {e9 _ (e9 _ D),q,o}
end
end L2
namespace L2
open PySem PySem.Spec PyProof.Rows
noncomputable abbrev Kk(q1 q2 q3:Pos):D6:=.Subscript (.Name "pair" q1) (.Constant (.int 0) 0 q2) q3
noncomputable abbrev Kj(q0:Pos):yf:={posonlyargs:=[],args:=[{arg:="pair",annotation:=none,pos:=q0}],vararg:=none,kwonlyargs:=[],kw_defaults:=[],kwarg:=none,defaults:=[]}
abbrev ZP:X1:={kind:=.function,names:=[("pair",.local)],isGenerator:=false,isCoroutine:=false,more:=[]}
section
variable {prog:m7}{w:y6}{A:A2}{s:f9}
def XO(m:A.depth<im)(D:s.heap.NoLimit)(H:s.heap.get? f=some (kla_obj name qual (Kj q0) (Kk q1 q2 q3) ZP [] pm c ct))(G:s.heap.CodeRec (.ref c) qual)(I:xc s.heap r #[x,y]):
  i6 (j3 prog w) A (lc (.ref f) [.ref r]) (fun v K=>v=x/\∃h' tk,K={s with heap:=h',toks:=tk}/\∀b o,s.heap.get? b=some o->h'.get? b=some o) E s:=by
 refine ki (PySem.W.kla_callFunE m H rfl rfl rfl rfl G ?_);rw[show wt (kla_fn name qual (Kj q0) (Kk q1 q2 q3) ZP [] pm (.ref c) ct) {[.ref r],[]}=(K0 [("pair",j9 r)]:Sem (List (Str×c7))) from rfl];refine i0 (zv (show ∀x∈ZP.names,x.2≠el.cell by decide) (fun x J=>by rw[i4.mp J];rfl) (fun g B C=>?_) rfl);have hk:∀b o,s.heap.get? b=some o->g.get? b=some o:=fun b o e=>C.extBut b o (u7 (p7 e)) (e9 _ e);refine {D.keeps hk,PySem.W.kla_codeExpr ?_};refine qe (wf (zw rfl rfl B rfl ?_) (by decide));refine wpAny_Constant_int ?_;have t:xc g r #[x,y]:=let ⟨o,e,q⟩:=I;{o,hk _ _ e,q};refine km (x:=x) t.typeIs slot_tuple_getitem.lookup (getItem_tuple (j:=0) t (by decide) (by decide) rfl rfl {rfl,rfl,g,_,rfl,hk}) rfl
end
abbrev Rt(h:A7)(z TI TO:c8)(f0:c7)(b:Bool):Prop:=h.get? z=some {cls:=.type "zip",dict:=none,data:=.fields #[f0,.bool b,.bool false,.ref TI,.ref TO],slots:=#[]}
structure LJ(h:A7)(z TI TO i1 i2 l1 l2:c8)(k:Nat)(xs ys:Array c7):Prop where
 zp:∃f0 b,Rt h z TI TO f0 b/\((k=0/\f0=.none/\b=false)∨(1<=k/\∃(T:c8)(o:Obj),f0=C5 T/\h.get? T=some o/\T≠z/\T≠TO/\T≠i1/\T≠i2))
 ti:xf h TI (.ref i1) (.ref i2)
 to:∃a b,xf h TO a b
 p1:h.IsListIter i1 l1 k
 p2:h.IsListIter i2 l2 k
 q1:h.IsList l1 xs
 q2:h.IsList l2 ys
section
open Sem (wp)
variable {prog:m7}{w:y6}{A:A2}{E:c7->f9->Prop}{s:f9}{z TI TO i1 i2 l1 l2:c8}{k:Nat}{xs ys:Array c7}
def LJ.keep(Z:LJ h z TI TO i1 i2 l1 l2 k xs ys)(kp:∀b o,h.get? b=some o->h'.get? b=some o):LJ h' z TI TO i1 i2 l1 l2 k xs ys:=by
 obtain ⟨⟨t,m,G,g⟩,c,⟨a,b,f⟩,B,C,K,M⟩:=Z;refine {{t,m,kp _ _ G,?_},kp _ _ c,{a,b,kp _ _ f},B.at fun o e=>kp _ o e,C.at fun o e=>kp _ o e,K.at fun o e=>kp _ o e,M.at fun o e=>kp _ o e};rcases g with g|⟨H,T,J,q,D,I⟩
 ·exact .inl g
 ·exact .inr {H,T,J,q,kp _ _ D,I}
def Gw(c:s.heap.get? a=some o)(h:Q (some o) s):i6 (j3 prog w) A (loadIfAlive a) Q E s:=fun f p _=>by show wp _ _ (.loadIfAlive a .pure) _ _ _ _;rw[Sem.wp_loadIfAlive,c];exact h
def EZ{T:c8}{o:Obj}{b:Bool}{Q:Bool->f9->Prop}(f:Rt s.heap z TI TO (C5 T) b)(q:s.heap.get? T=some o)(k:∀h',h'.objs.size=s.heap.objs.size->(∀c o,c≠z->s.heap.get? c=some o->h'.get? c=some o)->Rt h' z TI TO (C5 T) true->Q false {s with heap:=h'}):i6 (j3 prog w) A (M0 (.ref z)) Q E s:=by
 unfold M0;refine c6 (R4 f rfl (x:=C5 T) rfl ?_);show i6 _ _ (loadIfAlive ((T:Int).toNat) >>= _) _ _ _;refine c6 (Gw (o:=o) (by rw[ig];exact q) ?_);rw[if_neg (by simp)];refine c6 (R4 f rfl (x:=.bool b) rfl ?_);cases b with
|true=>
  rw[if_neg (by decide)];exact i0 (k _ rfl (fun _ _ _ e=>e) f)
|false=>rw[if_pos (by decide)];exact c6 (wpAny_setField_rec f (by simp) fun t g m=>i0 (k t m.1 (fun c o n e=>m.extBut _ _ n e) g))
def SO{Q:c7->f9->Prop}(D:jz z TI TO i1 i2 l1 l2)(Z:LJ s.heap z TI TO i1 i2 l1 l2 k xs ys)(hx:xs[k]?=some x)(hy:ys[k]?=some y)
  (hQ:∀h',LJ h' z TI TO i1 i2 l1 l2 (k+1) xs ys->xf h' s.heap.objs.size x y->h'.objs.size=s.heap.objs.size+1 ->
   (∀c o,c≠z->c≠TO->c≠i1->c≠i2->s.heap.get? c=some o->h'.get? c=some o)->Q (.ref s.heap.objs.size) {s with heap:=h'}) :
  i6 (j3 prog w) A (E8.«zip.__next__» {[.ref z],[]}) (fun O s'=>∃v,O=.done (.ret v)/\Q v s') E s:=by
 obtain ⟨⟨f0,b0,B,hf⟩,m,⟨a,b,q⟩,P,S,K,M⟩:=Z;have lz:=p7 B;have Y:=p7 q;have a':i1<s.heap.objs.size:=by obtain ⟨_,e,_⟩:=P;exact p7 e
 have b':i2<s.heap.objs.size:=by obtain ⟨_,e,_⟩:=S;exact p7 e
 have J:∀{c:c8},c<s.heap.objs.size->s.heap.objs.size≠c:=fun h=>C3 h;rcases hf with ⟨rfl,rfl,rfl⟩|⟨k1,T,oT,rfl,gT,I⟩
 ·refine zip_next_item D B m q P S K M hx hy fun h' a1 a2 a3 a4 a5 a6 G=>?_;exact hQ h' {{_,_,a1,.inr {j8 _,_,_,rfl,a5,J lz,J Y,J a',J b'}},G _ _ D.TIz D.TITO D.TIi1 D.TIi2 m,{_,_,a2},a3,a4,K.at fun o e=>G _ o D.l1z D.l1TO D.l1i1 D.l1i2 e,M.at fun o e=>G _ o D.l2z D.l2TO D.l2i1 D.l2i2 e} a5 a6 G
 ·show i6 _ _ (field (.ref z) 2 >>= _) _ _ _;refine c6 (R4 B rfl (x:=.bool false) rfl ?_);show i6 _ _ (field (.ref z) 3 >>= _) _ _ _;refine c6 (R4 B rfl (x:=.ref TI) rfl ?_);refine c6 (wpAny_seqItems m rfl ?_);show i6 _ _ (M0 (.ref z) >>= _) _ _ _;refine c6 (EZ B gT fun m0 e0 g X=>?_);rw[if_neg (by decide)];simp only[←fh,forIn_cons,List.forIn_nil];refine c6 (c6 (c6 (D7 ?_)));show i6 _ _ (X5 (.ref i1) >>= _) _ _ _;refine c6 (yh (P.at fun o e=>g _ o D.i1z e) (K.at fun o e=>g _ o D.l1z e) hx fun m1 R t=>i0 (i0 ?_));refine c6 (c6 (D7 ?_));show i6 _ _ (X5 (.ref i2) >>= _) _ _ _;refine c6 (yh (S.at fun o e=>t.extBut _ o D.i12.symm (g _ o D.i2z e)) (M.at fun o e=>t.extBut _ o D.l2i1 (g _ o D.l2z e)) hy fun f U H=>i0 (i0 (i0 ?_)));refine c6 (wc (i0 {_,rfl,?_}) (by show 2<=n7;decide));have e2:f.objs.size=s.heap.objs.size:=by rw[H.1,t.1,e0]
  have up:∀c o,c≠z->c≠i1->c≠i2->s.heap.get? c=some o->(f.push {cls:=.type "tuple",data:=.seq #[x,y]}).get? c=some o:=fun c o n1 n2 n3 e=>e9 _ (H.extBut _ _ n3 (t.extBut _ _ n2 (g _ _ n1 e)));have W:xf (f.push {cls:=.type "tuple",data:=.seq #[x,y]}) f.objs.size x y:=r9 _ rfl;have C:Rt (f.push {cls:=.type "tuple",data:=.seq #[x,y]}) z TI TO (C5 T) true:=e9 _ (H.extBut _ _ D.i2z.symm (t.extBut _ _ D.i1z.symm X));have N:(f.push {cls:=.type "tuple",data:=.seq #[x,y]}).objs.size=f.objs.size+1:=L3 ..;show Q (.ref f.objs.size) {s with heap:=f.push {cls:=.type "tuple",data:=.seq #[x,y]}};have r1:(f.push {cls:=.type "tuple",data:=.seq #[x,y]}).IsListIter i1 l1 (k+1):=R.at fun o e=>e9 _ (H.extBut _ o D.i12 e);have r2:(f.push {cls:=.type "tuple",data:=.seq #[x,y]}).IsListIter i2 l2 (k+1):=U.at fun o e=>e9 _ e;generalize f.push {cls:=.type "tuple",data:=.seq #[x,y]}=m3 at up W C N r1 r2 ⊢;rw[e2]at W N ⊢;exact hQ m3 {{_,_,C,.inr {Nat.succ_pos _,T,oT,rfl,up _ _ I.1 I.2.2.1 I.2.2.2 gT,I}},up _ _ D.TIz D.TIi1 D.TIi2 m,{_,_,up _ _ D.TOz D.TOi1 D.TOi2 q},r1,r2,K.at fun o e=>up _ o D.l1z D.l1i1 D.l1i2 e,M.at fun o e=>up _ o D.l2z D.l2i1 D.l2i2 e} W N fun c o n1 _ n3 n4 e=>up c o n1 n3 n4 e
def ZR(C:A.handled=none)(D:jz z TI TO i1 i2 l1 l2)(Z:LJ s.heap z TI TO i1 i2 l1 l2 k xs ys)(G:xs[k]?=none)(B:∀h' e,(∀c o,c≠z->c≠TO->c≠i1->c≠i2->s.heap.get? c=some o->h'.get? c=some o)->(∃o,h'.get? e=some o/\o.cls=.type "StopIteration")->E (.ref e) {s with heap:=h'}):
  i6 (j3 prog w) A (E8.«zip.__next__» {[.ref z],[]}) Q E s:=by
 obtain ⟨⟨X,U,m,O⟩,g,⟨a,b,q⟩,t,J,H,S⟩:=Z;rcases O with ⟨rfl,rfl,rfl⟩|⟨_,T,oT,rfl,K,nT⟩
 ·exact zip_next_end C D m g q t J H S (.inl G) B
 show i6 _ _ (field (.ref z) 2 >>= _) _ _ _;refine c6 (R4 m rfl (x:=.bool false) rfl ?_);show i6 _ _ (field (.ref z) 3 >>= _) _ _ _;refine c6 (R4 m rfl (x:=.ref TI) rfl (c6 (wpAny_seqItems g rfl ?_)));show i6 _ _ (M0 (.ref z) >>= _) _ _ _;refine c6 (EZ m K fun Y W f M=>?_);rw[if_neg (by decide)];simp only[←fh,forIn_cons,List.forIn_nil];refine c6 (c6 (c6 (D7 ?_)));show i6 _ _ (X5 (.ref i1) >>= _) _ _ _;refine c6 (wpAny_nextOf_list_end C (t.at fun o e=>f _ o D.i1z e) (H.at fun o e=>f _ o D.l1z e) G fun P e I N=>?_);exact B P e (fun c o R _ n3 _ x=>I _ _ n3 (f _ _ R x)) N
def HW(D:jz z TI TO i1 i2 l1 l2)(Z:LJ s.heap z TI TO i1 i2 l1 l2 k xs ys)(G:xs[k]?=some x)(H:ys[k]?=some y)
  (C:∀h',LJ h' z TI TO i1 i2 l1 l2 (k+1) xs ys->xf h' s.heap.objs.size x y->h'.objs.size=s.heap.objs.size+1 ->
   (∀c o,c≠z->c≠TO->c≠i1->c≠i2->s.heap.get? c=some o->h'.get? c=some o)->Q (some (.ref s.heap.objs.size)) {s with heap:=h'}) :
  i6 (j3 prog w) A (T4 (.ref z)) Q E s:=by
 have f:s.TypeIs (.ref z) "zip":=by obtain ⟨⟨J,I,B,K⟩,_⟩:=Z;exact {_,B,rfl}
 unfold T4;refine c6 (U5 (jq (name:=J7 "__next__") f fc (O7 fc f F.entry_zip_next ?_ (F.args_zip_next_1 _))));exact SO D Z G H fun h' g m q t=>i0 (C h' g m q t)
def KC(B:A.handled=none)(D:jz z TI TO i1 i2 l1 l2)(Z:LJ s.heap z TI TO i1 i2 l1 l2 k xs ys)(G:xs[k]?=none)(m:∀h',(∀c o,c≠z->c≠TO->c≠i1->c≠i2->s.heap.get? c=some o->h'.get? c=some o)->Q none {s with heap:=h'}):i6 (j3 prog w) A (T4 (.ref z)) Q E s:=by
 have f:s.TypeIs (.ref z) "zip":=by obtain ⟨⟨I,H,g,J⟩,_⟩:=Z;exact {_,g,rfl}
 unfold T4;refine c6 (U5 (jq (name:=J7 "__next__") f fc (O7 fc f F.entry_zip_next ?_ (F.args_zip_next_1 _))));refine ZR B D Z G fun h' e kp t=>?_;obtain ⟨o,C,q⟩:=t;exact c6 (jo (T:="StopIteration") (b:=true) {o,C,q} isSubtype_stop (i0 (m _ kp)))
def PM(xs ys:Array c7)(n0:Nat)(h:A7)(ts:List c8):Prop:=ts.Nodup/\∀(j:Nat)(t:c8),ts[j]?=some t->n0<=t/\∃x y,xs[j]?=some x/\ys[j]?=some y/\xf h t x y
def ZS{R:Result->f9->Prop}{n0:Nat}(hh:A.handled=none)(D:jz z TI TO i1 i2 l1 l2)(m:S≠z/\S≠TI/\S≠TO/\S≠i1/\S≠i2/\S≠l1/\S≠l2)(hl:xs.size=ys.size)(hz:xs.size<=1000)(f:z<n0/\TO<n0/\i1<n0/\i2<n0/\S<n0):
  ∀(n i:Nat)(h:A7)(tk:Nat)(g:Array c7)(c:Nat)(C:List c8),xs.size-i=n->i<=xs.size->n0<=h.objs.size->LJ h z TI TO i1 i2 l1 l2 i xs ys->h.get? S=some {cls:=.type "list",dict:=none,data:=.seq g c,slots:=#[]}->g.toList=C.map j9->C.length=i->PM xs ys n0 h C ->
   (∀b o,s.heap.get? b=some o->b≠z->b≠TO->b≠i1->b≠i2->b≠S->h.get? b=some o) ->
   (∀h' f' G c' K,h'.get? S=some {cls:=.type "list",dict:=none,data:=.seq G c',slots:=#[]}->G.toList=K.map j9->K.length=xs.size->PM xs ys n0 h' K ->
    (∀b o,s.heap.get? b=some o->b≠z->b≠TO->b≠i1->b≠i2->b≠S->h'.get? b=some o)->R (.ok (.ret res)) {s with heap:=h',toks:=f'}) ->
   T5 (j3 prog w) A (.builtin "list.extend.loop" {[.ref S,.ref z,res],[]}) R {s with heap:=h,toks:=tk}:=by
 intro n
 induction n with
|zero=>
  intro i h tk g c C hn hi J Z hS N X hp kp hR;have:i=xs.size:=by lia
  subst this;refine C1 zn ?_;rw[A4 Q8 _];show i6 _ A.in1 (T4 (.ref z) >>= _) _ _ _;refine c6 (KC (by simpa using hh) D Z (by simp) fun h' eb=>?_);have up:∀t,n0<=t->t≠z/\t≠TO/\t≠i1/\t≠i2:=fun t q=>{C3 (i7 f.1 q),C3 (i7 f.2.1 q),C3 (i7 f.2.2.1 q),C3 (i7 f.2.2.2.1 q)}
  refine i0 (hR h' tk g c C (eb _ _ m.1 m.2.2.1 m.2.2.2.1 m.2.2.2.2.1 hS) N X {hp.1,fun j t e=>?_} fun b o e U n2 n3 n4 n5=>eb b o U n2 n3 n4 (kp b o e U n2 n3 n4 n5));obtain ⟨q,x,y,M,e2,O⟩:=hp.2 j t e;obtain ⟨u1,u2,u3,u4⟩:=up t q;exact {q,x,y,M,e2,eb _ _ u1 u2 u3 u4 O}
|succ n ih=>
  intro i h tk g c C hn hi J Z hS N X hp kp hR;have Q:i<xs.size:=by lia
  refine C1 zn ?_;rw[A4 Q8 _];show i6 _ A.in1 (T4 (.ref z) >>= _) _ _ _;obtain ⟨x,hx⟩:∃v,xs[i]?=some v:={_,J8 Q}
  obtain ⟨y,hy⟩:∃v,ys[i]?=some v:={_,J8 (show i<ys.size by lia)}
  refine c6 (HW D Z hx hy fun h' Z' gp W Y=>?_);dsimp only at Z' gp W Y;have I:h'.get? S=_:=Y _ _ m.1 m.2.2.1 m.2.2.2.1 m.2.2.2.2.1 hS;have H:g.size=i:=by rw[←C0,N,i8,X]
  show i6 _ A.in1 (jr S (·.push (.ref h.objs.size)) >>= _) _ _ _;refine c6 ?_;have up:∀t,n0<=t->t≠z/\t≠TO/\t≠i1/\t≠i2/\S≠t:=fun t q=>{C3 (i7 f.1 q),C3 (i7 f.2.1 q),C3 (i7 f.2.2.1 q),C3 (i7 f.2.2.2.1 q),u7 (i7 f.2.2.2.2 q)}
  have e':(C++[h.objs.size]).Nodup:=W3.mpr {hp.1,by simp,fun a N b hb e=>by
   rw[i4.mp hb]at e;obtain ⟨j,P⟩:=P8 N;obtain ⟨_,_,_,_,_,O⟩:=hp.2 j a P;exact u7 (p7 O) e}
  have B:∀b o,b≠S->h'.get? b=some o->(h'.update S (y8 (·.push (.ref h.objs.size)))).get? b=some o:=fun b o n e=>(A9 _ _ (q7 n)).trans e;have Z2:LJ (h'.update S (y8 (·.push (.ref h.objs.size)))) z TI TO i1 i2 l1 l2 (i+1) xs ys:=by
   obtain ⟨⟨f0,b0,gz,hf⟩,a',⟨a,b,b'⟩,g1,g2,t1,t2⟩:=Z';refine {{f0,b0,B _ _ m.1.symm gz,?_},B _ _ m.2.1.symm a',{a,b,B _ _ m.2.2.1.symm b'},g1.at fun o e=>B _ o m.2.2.2.1.symm e,g2.at fun o e=>B _ o m.2.2.2.2.1.symm e,t1.at fun o e=>B _ o m.2.2.2.2.2.1.symm e,t2.at fun o e=>B _ o m.2.2.2.2.2.2.symm e};rcases hf with ⟨h0,_⟩|⟨h1,T,oT,M,gT,nT⟩
   ·exact absurd h0 (Nat.succ_ne_zero _)
   ·by_cases eT:T=S
    ·subst eT;exact .inr {h1,T,_,M,C7 _ I rfl,nT}
    ·exact .inr {h1,T,oT,M,B _ _ eT gT,nT}
  refine T9 I rfl (i0 {J9 Q8 _,ih (i+1) _ tk (g.push (.ref h.objs.size)) _ (C++[h.objs.size]) (by lia) Q (by rw[mj,W];lia) Z2 (C7 _ I rfl) (by rw[L4,N,z9];rfl) (by simp[X]) {e',fun j t e=>?_} (fun b o e U n2 n3 n4 n5=>B _ _ n5 (Y b o U n2 n3 n4 (kp b o e U n2 n3 n4 n5))) hR})
   (by rw[H,y9];lia) (by show (g.push (.ref h.objs.size)).size<=n7+1;rw[Array.size_push,H,y9];lia)
  rcases mm j C.length with P|P
  ·rw[P0 P]at e;obtain ⟨q,x',y',M,e2,O⟩:=hp.2 j t e;obtain ⟨u1,u2,u3,u4,u5⟩:=up t q;exact {q,x',y',M,e2,B _ _ u5.symm (Y _ _ u1 u2 u3 u4 O)}
  ·rw[L5 P]at e;have d':j-C.length=0:=by
    rcases Nat.eq_zero_or_pos (j-C.length) with z0|z0
    ·exact z0
    ·rw[Y4 (by simp only[jl];exact z0)]at e;cases e
   rw[d']at e;cases e;have:j=i:=by lia
   subst this;exact {J,x,y,hx,hy,B _ _ (up _ J).2.2.2.2.symm gp}
def JA:kj (.type "zip") "__len__"=K0 none:=by rw[fy,U7];kernel_rfl
def EY:kj (.type "zip") "__length_hint__"=K0 none:=by rw[fy,U7];kernel_rfl
def IN(hh:A.handled=none)(D:jz z TI TO i1 i2 l1 l2)(Z:LJ s.heap z TI TO i1 i2 l1 l2 0 xs ys)(hl:xs.size=ys.size)(hz:xs.size<=1000)(h:∀h' tk ts,s.heap.objs.size<=h'.objs.size->ts.length=xs.size->PM xs ys s.heap.objs.size h' ts->(∀b o,s.heap.get? b=some o->b≠z->b≠TO->b≠i1->b≠i2->h'.get? b=some o)->Q (ts.map j9) {s with heap:=h',toks:=tk}):
  i6 (j3 prog w) A (qy (.ref z)) Q E s:=by
 unfold qy;refine c6 (mi (C1 lm ?_));rw[A4 lj _];show i6 _ A.in1 (yr [] >>= fun l=>again (.builtin "list.__iadd__" {[l,.ref z],[]})) _ _ s;refine c6 (K3 ?_);refine i0 {J9 U6 _,C1 qf ?_};rw[A4 U6 _];have C:∀b o,s.heap.get? b=some o->(s.heap.push {cls:=.type "list",data:=.seq ([]:List c7).toArray}).get? b=some o:=fun b o e=>e9 _ e;have f:(s.heap.push {cls:=.type "list",data:=.seq ([]:List c7).toArray}).get? s.heap.objs.size=some {cls:=.type "list",data:=.seq ([]:List c7).toArray}:=r9 _ rfl;have M:(s.heap.push {cls:=.type "list",data:=.seq ([]:List c7).toArray}).objs.size=s.heap.objs.size+1:=L3 ..;have Z1:=Z.keep C;have m:∀{c:c8}{o:Obj},s.heap.get? c=some o->s.heap.objs.size≠c:=fun e=>C3 (p7 e);obtain ⟨⟨f0,b0,J,hf⟩,K,⟨a,b,H⟩,⟨o1,T,r1⟩,⟨o2,U,r2⟩,⟨o3,Y,r3⟩,⟨o4,e4,r4⟩⟩:=id Z;have h1:L6 (.ref s.heap.objs.size) (.ref z)=false:=by simp[L6,m J]
 have G:Y3 {s with heap:=s.heap.push {cls:=.type "list",data:=.seq ([]:List c7).toArray}} (.ref z) "zip":={_,C _ _ J,rfl}
 show i6 _ A.in1 (K1 (.ref s.heap.objs.size) (.ref z) (.ref s.heap.objs.size)) _ _ _;unfold K1;refine c6 (Y8 G ?_);rw[if_neg (by rw[h1];decide)];refine c6 (qj G F.slot_zip_iter (O7 F.slot_zip_iter G F.entry_zip_iter (show i6 _ _ (ret (.ref z)) _ _ _ from i0 {_,rfl,"zip",_,G,fc.lookup,?_}) (F.args_zip_iter_1 _)));refine c6 (D7 ?_);unfold M9;refine c6 (fk G JA ?_);show i6 _ A.in1 (specialOf (j9 z) (J7 "__length_hint__") >>= _) _ _ _;refine c6 (fk G EY ?_);refine i0 ?_;show i6 _ A.in1 (rule "list.extend.makes-room" >>= fun _=>E8.List.listTouch (.ref s.heap.objs.size) >>= fun _=>
  again (.builtin "list.extend.loop" {[.ref s.heap.objs.size,.ref z,.ref s.heap.objs.size],[]})) _ _ _
 refine c6 (L7 (c6 ?_));show i6 _ A.in1 (jr s.heap.objs.size (·.push .none) >>= fun _=>jr s.heap.objs.size (·.pop)) _ _ _;refine c6 (T9 f rfl ?_);have g:=C7 (y8 (·.push C6)) f rfl;refine T9 g rfl ?_;have B:=C7 (y8 (·.pop)) g rfl;have I:∀b o,s.heap.get? b=some o ->
   (((s.heap.push {cls:=.type "list",data:=.seq ([]:List c7).toArray}).update s.heap.objs.size (y8 (·.push C6))).update s.heap.objs.size (y8 (·.pop))).get? b=some o:=
  fun b o e=>(A9 _ _ (m e)).trans ((A9 _ _ (m e)).trans (C _ _ e))
 have N:(((s.heap.push {cls:=.type "list",data:=.seq ([]:List c7).toArray}).update s.heap.objs.size (y8 (·.push C6))).update s.heap.objs.size (y8 (·.pop))).objs.size=s.heap.objs.size+1:=by rw[mj,mj,M]
 refine i0 {J9 Q8 _,?_};refine ZS (A:=A) (s:=s) (S:=s.heap.objs.size) (n0:=s.heap.objs.size+1) (by simpa using hh) D {m J,m K,m H,m T,m U,m Y,m e4} hl hz {B7 (p7 J),B7 (p7 H),B7 (p7 T),B7 (p7 U),L8 _} xs.size 0 _ s.toks #[] _ [] rfl (C9 _) (by rw[N];exact j8 _) (Z.keep I) B rfl rfl {nodup_nil,fun j t e=>by simp at e} (fun b o e _ _ _ _ _=>I _ _ e) fun h' O R c' P W g2 g3 X g5=>?_;show i6 _ A (load s.heap.objs.size >>= _) _ _ _;refine c6 (il W ?_);refine i0 ?_;rw[g2];exact h h' O P (V6 (p7 W)) g3 {X.1,fun j t e=>let ⟨q,r⟩:=X.2 j t e;{Nat.le_of_succ_le q,r}} fun b o e n1 n2 n3 n4=>g5 b o e n1 n2 n3 n4 (u7 (p7 e))
end
section
variable {prog:m7}{w:y6}{A:A2}{E:c7->f9->Prop}{s:f9}{z TI TO i1 i2 l1 l2:c8}{xs ys:Array c7}
def JI(hh:A.handled=none)(I:A.depth<im)(g':∀h:A7,(∀b o,s.heap.get? b=some o->b≠L->b≠z->b≠TO->b≠i1->b≠i2->h.get? b=some o)->h.NoLimit)(hL:s.heap.Ns L m)(nL:L≠z/\L≠TO/\L≠i1/\L≠i2)(ho:s.heap.get? f=some (kla_obj name qual (Kj q0) (Kk q1 q2 q3) ZP [] pm c ct))(hc:s.heap.CodeRec (.ref c) qual)(nf:f≠L/\f≠z/\f≠TO/\f≠i1/\f≠i2)(nc:c≠L/\c≠z/\c≠TO/\c≠i1/\c≠i2)(D:jz z TI TO i1 i2 l1 l2)(Z:LJ s.heap z TI TO i1 i2 l1 l2 0 xs ys)(hl:xs.size=ys.size)(d':xs.size<=1000)(hk:O6 xs.toList kz)
  (h:∀R h' tk out c' C ps,s.heap.objs.size<=R->h'.Ns L m->h'.get? R=some (seqObj "list" out c')->C.length=xs.size->PM xs ys s.heap.objs.size h' C->(ps:List (Int×c7)).Perm (kz.zip (C.map j9))->out.toList=ps.map Prod.snd->(∀t∈C,t≠R) ->
   (∀b o,s.heap.get? b=some o->b≠L->b≠z->b≠TO->b≠i1->b≠i2->h'.get? b=some o)->Q (.ref R) {s with heap:=h',toks:=tk}) :
  i6 (j3 prog w) A (lc (.builtin "sorted") [.ref z] [(J7 "key",.ref f)]) Q E s:=by
 refine call_function_entry_kw kind_sorted plain_sorted entry_sorted (ksk_s1 _ _) ?_;unfold E8.«sorted»;refine c6 (m:=checkCount "sorted" 1 1 _) (i0 ?_);refine c6 (IN (by simpa using hh) D Z hl (by lia) fun B a' C b' W hp kp=>?_);have J:(C.map j9).length=xs.size:=by rw[i8,W]
 refine c6 (pf ?_ (by rw[J,y9];lia));have U:(B.push (seqObj "list" (C.map j9).toArray 0)).get? B.objs.size=some (seqObj "list" (C.map j9).toArray 0):=r9 _ rfl;have Y:∀b o,B.get? b=some o->(B.push (seqObj "list" (C.map j9).toArray 0)).get? b=some o:=fun b o e=>e9 _ e;have S:B.Ns L m:=let ⟨o,es,G,e,r⟩:=hL;{o,es,G,kp _ _ e nL.1 nL.2.1 nL.2.2.1 nL.2.2.2,r};have M:∀{b:c8}{o:Obj},B.get? b=some o->b≠B.objs.size:=fun e=>u7 (p7 e);show i6 _ _ _ _ _ {s with heap:=B.push (seqObj "list" (C.map j9).toArray 0),toks:=a'};refine c6 (D7 (wpAny_call_entry_kw slot_list_sort {_,U,rfl} entry_list_sort ?body (ksk_l1 _ _)))
 case body=>
  show i6 (j3 prog w) A.in1.in1 (E8.«list.sort» {[.ref B.objs.size],[(J7 "key",.ref f)]}) _ _ _;rw[ksk_t1];have N1:wy (Att.noObjs s.heap) L (B.push (seqObj "list" (C.map j9).toArray 0)) (Att.ledger B L L):=fun ⟨b,o⟩ hb=>by obtain ⟨n1,_,e⟩:=Att.mem_ledger.mp hb;exact {Y _ _ e,n1,Att.noObjs_get _ _}
  have F1:Fr (Att.noObjs s.heap) L (B.push (seqObj "list" (C.map j9).toArray 0)) m:={let ⟨o,es,G,e,r⟩:=S;{o,es,G,Y _ _ e,r},fun b o e=>(by rw[Att.noObjs_get]at e;cases e),C9 _}
  have i':∀{h:A7}{own:List (c8×Obj)},wy (Att.noObjs s.heap) L h (Att.ledger B L L++own)->∀b o,B.get? b=some o->b≠L->h.get? b=some o:=fun N b o e n=>(N (b,o) (D2 _ (Att.mem_ledger.mpr {n,n,e}))).1;refine UK (s:={s with heap:=B.push (seqObj "list" (C.map j9).toArray 0),toks:=a'}) (h₀:=Att.noObjs s.heap) (L:=L) (m:=m) (news:=Att.ledger B L L) (kz:=kz) F1 N1 U (q7 (M S.choose_spec.choose_spec.choose_spec.1)) (Att.noObjs_get _ _) (fun ⟨b,o⟩ hb=>M (Att.mem_ledger.mp hb).2.2) (by rw[J,←hk.length,C0]) (by rw[J];exact d') ?turn fun h' tk out c' F' N' k'=>{_,rfl,?_}
  case turn=>
   intro i v kk hv f' g tk own Fg Ng;have T:=i' Ng;rw[m5]at hv;obtain ⟨t,ht,rfl⟩:=A8.mp hv;obtain ⟨P,x,y,O,ey,G⟩:=hp.2 i t ht;have tL:t≠L:=C3 (i7 hL.lt P);obtain ⟨H,rfl⟩:∃H,x=.int kk H:=by have:=hk.get (i:=i) (n:=kk) f';obtain ⟨H,e⟩:=this;rw[←Y2]at O;rw[O]at e;exact {H,j5 e}
   have K:∀b o,s.heap.get? b=some o->b≠L->b≠z->b≠TO->b≠i1->b≠i2->g.get? b=some o:=fun b o e n1 n2 n3 n4 n5=>T _ _ (kp _ _ e n2 n3 n4 n5) n1;have e':g.CodeRec (.ref c) qual:=let ⟨c0,o,vs,H,e0,e1,e2⟩:=hc;{c0,o,vs,H,e0,(by cases e0;exact K _ _ e1 nc.1 nc.2.1 nc.2.2.1 nc.2.2.2.1 nc.2.2.2.2),e2};refine C4 (XO (A:=A.in1.in1) (s:={s with heap:=g,toks:=tk}) (E:=fun _ _=>False) I (g' g K) (K _ _ ho nf.1 nf.2.1 nf.2.2.1 nf.2.2.2.1 nf.2.2.2.2) e' ({_,T _ _ G tL,rfl,_,rfl}:xc g t #[.int kk H,y])) (fun v s' hq=>?_) fun _ _ q=>q;obtain ⟨rfl,h',j',rfl,X⟩:=hq;exact {h',j',H,rfl,rfl,Fg.kept X,Ng.grown X}
  ·obtain ⟨ps,p1,p2⟩:=k';have T:∀b o,B.get? b=some o->b≠L->h'.get? b=some o:=fun b o e n=>(N' (b,o) (B4 _ (Att.mem_ledger.mpr {n,n,e}))).1;refine i0 {_,rfl,h _ h' tk out c' C ps b' F'.ns (N' _ J1).1 W {hp.1,fun j t e=>?_} p1 p2 (fun t ht=>?_) fun b o e n1 n2 n3 n4 n5=>T _ _ (kp _ _ e n2 n3 n4 n5) n1}
   ·obtain ⟨P,x,y,O,ey,G⟩:=hp.2 j t e;exact {P,x,y,O,ey,T _ _ G (C3 (i7 hL.lt P))}
   ·obtain ⟨j,hj⟩:=P8 ht;obtain ⟨P,x,y,O,ey,G⟩:=hp.2 j t hj;exact M G
end
noncomputable def LP(c:c8)(qual:Str):HO:=.ext fun h=>h.CodeRec (.ref c) qual
def Dp(k:h.CodeRec (.ref c) qual):cS P w H h c (LP c qual):=
 {k,(let ⟨_,o,_,_,f,g,_⟩:=k;{o,by cases f;exact g}),fun _ _ ⟨m,o,s,t,f,g,q⟩ kp=>{m,o,s,t,f,by cases f;exact kp _ g,q}}
noncomputable def ZN(pos:Pos)(c:c8):Array c7:=#[C5 pos.line,C5 pos.col,.ref c]
def rH(T:c8)(pos:Pos)(qual:Str)(H:Hp):Prop:=H T=some (.tbl #[])∨∃c,H T=some (.tbl (ZN pos c))/\H c=some (LP c qual)
def rH.same(t:rH T pos qual H)(s:aJ H H'):rH T pos qual H':=by
 rcases t with t|⟨c,t,u⟩
 ·exact .inl (s _ _ t)
 ·exact .inr {c,s _ _ t,s _ _ u}
def zQ(mg:Str->Option c7)(h:A7):Prop:=∃bm o,mg "__builtins__"=some (.ref bm)/\bm≠pz/\bm≠B8/\h.get? bm=some o/\o.cls=.type "module"/\o.dict=some pz/\o.data=.plain
structure Rj(T:c8)(lp q0 q1 q2 q3:Pos)(qual:Str)(H:Hp)(g h:A7)(f c:c8):Prop where
 kp:∀b o,g.get? b=some o->b≠T->h.get? b=some o
 tb:h.get? T=some (wg (ZN lp c))
 fn:∃pm ct,h.get? f=some (kla_obj "<lambda>" qual (Kj q0) (Kk q1 q2 q3) ZP [] pm c ct)
 cd:h.CodeRec (.ref c) qual
 fge:g.objs.size<=f
 cs:(H T=some (.tbl #[])/\g.objs.size<=c)∨(H T=some (.tbl (ZN lp c))/\H c=some (LP c qual))
def SC(f:Pos)(c:c8):codeAmong f (ZN f c).toList=some (.ref c):=by show (if ((f.line:Int)==f.line&&(f.col:Int)==f.col)=true then some (j9 c) else _)=_;rw[if_pos (by simp)]
def XN(I:aZ X ak σ H s)(kp:∀b o,s.heap.get? b=some o->s2.heap.get? b=some o)(D:X.env.code=.ref c0)(hK:jy X.K c0 T=true)(B:zQ X.mg X.base)(G:pk ZP X.env=K0 [])(hq:X.env.qual++"<lambda>"=qual)(hT:rH T lp qual H)(k:∀f c h tk,Rj T lp q0 q1 q2 q3 qual H s2.heap h f c->Q (.ref f) {s2 with heap:=h,toks:=tk}):
  i6 (j3 X.prog X.w) X.A (I0 (.Lambda (Kj q0) (Kk q1 q2 q3) ZP lp) X.env) Q E s2:=by
 subst hq;have R:∀b o,X.base.get? b=some o->s2.heap.get? b=some o:=fun b o e=>kp _ _ (I.bk b o e);have ns:s2.heap.Ns B8 X.mg:=I.mod.glob.keeps R;have C:CodeHd s2.heap c0 T:=(codeHd_of_K I.mod.kin hK).keeps R;have m:∃ps,H T=some (.tbl ps):=by
  rcases hT with t|⟨c,t,_⟩
  ·exact {_,t}
  ·exact {_,t}
 obtain ⟨Rq,m⟩:=m;have g:s2.heap.get? T=some (wg Rq):=kp _ _ (show s.heap.get? T=some _ from I.hok T _ m);have hb:s2.heap.BuiltinsAt X.mg T:=by
  obtain ⟨bm,o,b1,b2,b3,b4,b5⟩:=B;exact {bm,o,b1,b2,b3,fun e=>(by have:=(I.bs _ _ b4).2;rw[e,m]at this;cases this),R _ _ b4,b5}
 have S:B8≠T:=fun q=>by
  obtain ⟨o,es,ep,e,hd,_⟩:=ns;rw[q,g]at e;cases e;cases hd
 refine PySem.W.kla_eval rfl ?_;rcases hT with t|⟨c,t,u⟩
 ·have P:Rq=#[]:=by rw[t]at m;cases m;rfl
  subst P;refine PySem.W.kla_makeFunction (ps:=#[]) G I.ok.glob ns D C g trivial rfl S hb fun c' O h' tk N J U M Z=>?_;refine k _ c' _ tk {fun b o e n=>e9 _ (N b o n e),e9 _ Z,{_,O,r9 _ rfl},M.push _,?_,.inl {t,J}};exact A5 J (V6 U)
 ·have P:Rq=ZN lp c:=by rw[t]at m;cases m;rfl
  subst P;have hc:s2.heap.CodeRec (.ref c) (X.env.qual++"<lambda>"):=(show s.heap.CodeRec (.ref c) _ from (I.hok c _ u).1).keeps kp;refine PySem.W.kla_makeFunctionHit G I.ok.glob ns D C g trivial (SC lp c) hb fun O h' tk N Y=>?_;exact k _ c _ tk {fun b o e n=>e9 _ (N b o e),e9 _ (N _ _ g),{_,O,r9 _ rfl},(hc.keeps N).push _,Y,.inr {t,u}}
def CW{w A:Type}{g:w->A}:∀{l:List A}{m:List A},l.Perm m->∀{xs:List w},m=xs.map g->∃ys:List w,ys.Perm xs/\l=ys.map g:=by
 intro l m p
 induction p with
|nil=>intro xs e;exact {xs,.refl _,e}
|cons x p ih=>
  intro xs e;cases xs with
 |nil=>cases e
 |cons a xs=>
   obtain ⟨c,o⟩:=jn e;obtain ⟨ys,q,f⟩:=ih o;exact {a::ys,q.cons a,by rw[f,c];rfl}
|swap x y l=>
  intro xs e;cases xs with
 |nil=>cases e
 |cons a xs=>
   cases xs with
  |nil=>cases e
  |cons b xs=>
    obtain ⟨c,f⟩:=jn e;obtain ⟨o,B⟩:=jn f;exact {b::a::xs,fb.swap _ _ _,by rw[c,o,B];rfl}
|trans p q s t=>intro xs e;obtain ⟨ys,C,c⟩:=t e;obtain ⟨E,D,f⟩:=s c;exact {E,D.trans C,f}
theorem BE{c f:Type}[BEq c][LawfulBEq c]:∀{l:List (c×f)}{a:c}{b:f},(l.map (·.1)).Nodup->(a,b)∈l->l.lookup a=some b
|[],_,_,_,h=>nomatch h
|(x,y)::l,a,b,m,h=>by
  obtain ⟨g,n2⟩:=V4.mp m;rcases w6.mp h with e|h
  ·cases e;simp[P7]
  ·have:a≠x:=fun e=>g (e▸u8.mpr {_,h,rfl});rw[iz,beq_eq_false_iff_ne.mpr this];exact BE n2 h
theorem jQ{c f:Type}[BEq c][LawfulBEq c]:∀{l:List (c×f)}{a:c},a∉l.map (·.1)->l.lookup a=none
|[],_,_=>rfl
|(x,y)::l,a,h=>by have:a≠x:=fun e=>h (e▸J1);rw[iz,beq_eq_false_iff_ne.mpr this];exact jQ fun q=>h (B4 _ q)
def Be(K:v9)(T:c8)(lp:Pos)(qual:Str):List V->Hp->VK->Prop:=fun vs H Q=>∃(p q:c8)(ks:List Int)(xs:List V),vs=[.ref p,.ref q]/\cU K H p (ks.map V.int)/\cU K H q xs/\ks.length=xs.length/\ks.length<=1000/\rH T lp qual H /\
 ∀(l:c8)(G:Hp)(tr:List (c8×(Int×V))),H l=none->Kp T H G->rH T lp qual G->G l=some (.lst (tr.map fun p=>V.ref p.1))->(∀p∈tr,G p.1=some (.tup [.int p.2.1,p.2.2]))->(tr.map (·.2)).Perm (ks.zip xs)->Q (.ref l) G
def QI(hr:eR kk X.A)(hc:X.calm=true)(Q':Gl X "sorted")(R':X.mg "sorted"=none)(hg:Gl X "zip")(hm:X.mg "zip"=none)(O':X.env.code=.ref c0)(hK:jy X.K c0 T=true)(B:zQ X.mg X.base)(P':pk ZP X.env=K0 [])(hq:X.env.qual++"<lambda>"=qual)(ha:PA X [a,b] t)(he:m9 [.Call (.Name "zip" p2) [a,b] [] pos2] X.env=[(false,I0 (.Call (.Name "zip" p2) [a,b] [] pos2) X.env)])(hs:m9 [a,b] X.env=(false,I0 a X.env)::m9 [b] X.env)(T':(K9 pos2 (m9 [b] X.env)).any (·.1)=false):
    PE X (.Call (.Name "sorted" p) [.Call (.Name "zip" p2) [a,b] [] pos2] [{some "key",.Lambda (Kj q0) (Kk q1 q2 q3) ZP lp,kpos}] pos) (Rp (Be X.K T lp qual) t):=by
  intro p' s σ H Q I h;refine P5 (kX I Q' R' lQ ?_ (by decide) (by decide));refine callWith_kw ?_;show i6 _ _ (yl (K9 pos (m9 [.Call (.Name "zip" p2) [a,b] [] pos2] X.env))) _ _ s;rw[he];show i6 _ _ (yl ((false,I0 (.Call (.Name "zip" p2) [a,b] [] pos2) X.env)::K9 pos [])) _ _ s;refine O5 ?_;refine Call_ (kX I hg hm Lo (E9 (cZ (ha pos2 p' s σ H _ I h) fun us M z=>?_) hs T'));obtain ⟨vs,H1,J,r1,p1,j',ks,xs,e,ga,gb,hl,hn,hT,q⟩:=z;subst e;obtain ⟨u1,u2,rfl,ra,rb⟩:=r1.two;cases ra;cases rb;obtain ⟨h',u',m',_⟩:=J.list ga;obtain ⟨k',H',n',_⟩:=J.list gb;refine call_zip_2 m'.isList n'.isList fun m1 z1 z2 z3 z4 z5 e5 kp=>?_;refine S0 ?_;have la:p1<M.heap.objs.size:=by obtain ⟨o,n,g,_⟩:=m';exact p7 g
  have lb:j'<M.heap.objs.size:=by obtain ⟨o,n,g,_⟩:=n';exact p7 g
  have Z0:LJ m1 (M.heap.objs.size+4) (M.heap.objs.size+2) (M.heap.objs.size+3) M.heap.objs.size (M.heap.objs.size+1) p1 j' 0 h'.toArray k'.toArray:=
    {{_,_,z1,.inl {rfl,rfl,rfl}},z2,{_,_,z3},z4,z5,m'.isList.at fun o e=>kp _ o e,n'.isList.at fun o e=>kp _ o e}
  have lL:=J.lt;have F':p1≠T/\j'≠T:=by
    have tH:∃ps,M.heap.get? T=some (wg ps):=by
      rcases hT with t|⟨c,t,_⟩
      . exact {_,J.hok T _ t}
      . exact {_,J.hok T _ t}
    obtain ⟨ps,tH⟩:=tH;constructor
    . rintro rfl
      obtain ⟨o,n,g,gc,_⟩:=m';rw[tH]at g;cases g;cases gc
    . rintro rfl
      obtain ⟨o,n,g,gc,_⟩:=n';rw[tH]at g;cases g;cases gc
  have S:T<M.heap.objs.size:=by
    rcases hT with t|⟨c,t,_⟩
    . exact J.hok.lt t
    . exact J.hok.lt t
  show i6 _ _ (evalAll ((do let v ←I0 (.Lambda (Kj q0) (Kk q1 q2 q3) ZP lp) X.env;ko pos;K0 v)::[])) _ _ _;refine wpAny_evalAll_cons (c6 (XN (s2:={M with heap:=m1}) J kp O' hK B P' hq hT fun f c h3 tk Y=>c6 (pc (i0 ?_))));refine wpAny_evalAll_nil ?_;have hN:∃N,M.heap.objs.size=N:={_,rfl}
  obtain ⟨N,hN⟩:=hN;have e':∀b o,M.heap.get? b=some o->b<N:=fun b o e=>hN▸p7 e;have b':N+5<=f:=by have:=Y.fge;rw[e5,hN]at this;exact this
  have C:∀{c i:Nat},c<N->c≠N+i:=fun h=>u7 (i7 h (gq _ _));have nf:∀{d i:Nat},N+5<=d->i<5->d≠N+i:=fun h1 h2 e=>absurd h1 (by rw[e];lia);have ne:∀{i j:Nat},i≠j->N+i≠N+j:=fun h z=>h (Nat.add_left_cancel z);have n0:∀{i:Nat},0<i->N+i≠N:=fun h=>C3 (Nat.lt_add_of_pos_right h);rw[hN]at Z0 la lb lL S;have D:jz (N+4) (N+2) (N+3) N (N+1) p1 j':={ne (by decide),ne (by decide),(n0 (by decide)).symm,ne (by decide),ne (by decide),n0 (by decide),ne (by decide),n0 (by decide),ne (by decide),(n0 (by decide)).symm,C la,C la,u7 la,C la,C lb,C lb,u7 lb,C lb}
  have P:∀b o,m1.get? b=some o->b≠T->h3.get? b=some o:=Y.kp;have Z:LJ h3 (N+4) (N+2) (N+3) N (N+1) p1 j' 0 h'.toArray k'.toArray:=by
    obtain ⟨⟨f0,b0,gz,hf⟩,L',⟨a,b,M'⟩,g1,g2,t1,t2⟩:=Z0;refine {{f0,b0,P _ _ gz (q7 (C S)),?_},P _ _ L' (q7 (C S)),{a,b,P _ _ M' (q7 (C S))},g1.at fun o e=>P _ o e (C3 S),g2.at fun o e=>P _ o e (q7 (C S)),t1.at fun o e=>P _ o e F'.1,t2.at fun o e=>P _ o e F'.2};rcases hf with hf|⟨hk,_⟩
    . exact .inl hf
    . exact absurd hk (by decide)
  have cN:(N+5<=c)∨(c<N/\c≠X.env.locals/\H1 c=some (LP c qual)):=by
    rcases Y.cs with ⟨_,g⟩|⟨_,g⟩
    . rw[e5,hN]at g;exact .inl g
    . exact .inr {hN▸J.hok.lt g,aD g J.free,g}
  have a':c≠X.env.locals/\c≠N+4/\c≠N+3/\c≠N/\c≠N+1:=by
    rcases cN with g|⟨g,g2,_⟩
    . exact {C3 (i7 lL (A5 (gq _ _) g)),nf g (by decide),nf g (by decide),nf (i:=0) g (by decide),nf g (by decide)}
    . exact {g2,C g,C g,u7 g,C g}
  have K':f≠X.env.locals/\f≠N+4/\f≠N+3/\f≠N/\f≠N+1:=
    {C3 (i7 lL (A5 (gq _ _) b')),nf b' (by decide),nf b' (by decide),nf (i:=0) b' (by decide),nf b' (by decide)}
  obtain ⟨pm,ct,gf⟩:=Y.fn;obtain ⟨mL,A',β⟩:=id J.loc;have q':∀b o,M.heap.get? b=some o->b≠T->h3.get? b=some o:=fun b o e n=>P _ _ (kp _ _ e) n;have LT:X.env.locals≠T:=by
    rcases hT with t|⟨c,t,_⟩
    . exact q7 (aD t J.free)
    . exact q7 (aD t J.free)
  have N':h3.Ns X.env.locals mL:=let ⟨o,es,ep,e,r⟩:=A';{o,es,ep,q' _ _ e LT,r};have bT:∀b o,X.base.get? b=some o->b≠T/\b≠X.env.locals/\b<N/\M.heap.get? b=some o:=fun b o e=>by
    have U:=(J.bs b o e)
    refine {?_,?_,e' _ _ U.1,U.1}
    . rintro rfl
      rcases hT with t|⟨c,t,_⟩
      . rw[t]at U;cases U.2
      . rw[t]at U;cases U.2
    . exact u7 (i7 (p7 e) (A5 J.ok.bsz J.ok.above))
  have E':N+5<=h3.objs.size:=A5 b' (V6 (p7 gf));have sz:∀(l:List c7),l.toArray.size=l.length:=fun _=>rfl;have lk:h'.length=ks.length:=by rw[←u'.length,i8]
  have lx:k'.length=xs.length:=H'.length.symm;show i6 _ _ (lc (.builtin "sorted") [.ref (M.heap.objs.size+4)] [(J7 "key",.ref f)]) _ _ _;rw[hN];refine JI (s:={M with heap:=h3,toks:=tk}) (L:=X.env.locals) (m:=mL) (kz:=ks) (I.ok.hd hc) (by have:=hr.dp;lia) (fun g kg=>J.mod.nolimit.keeps fun b o e=>?_) N' {C lL,C lL,u7 lL,C lL} gf Y.cd K' a' D Z (by rw[sz,sz,lk,lx,hl]) (by rw[sz,lk];exact hn) (show O6 h' ks from uE u') fun R h4 I' X' c' ts ps gR gL z' U' Rr pp po tR i'=>?_
  . obtain ⟨a1,a2,a3,a4⟩:=bT b o e
    exact kg b o (q' _ _ a4 a1) a2 (C a3) (C a3) (u7 a3) (C a3)
  dsimp only at gR gL z' Rr i';have l':∀b o,M.heap.get? b=some o->b≠T->b≠X.env.locals->h4.get? b=some o:=fun b o e n1 n2=>i' _ _ (q' _ _ e n1) n2 (C (e' _ _ e)) (C (e' _ _ e)) (u7 (e' _ _ e)) (C (e' _ _ e));have r':ts.length=ks.length:=by rw[U',sz,lk]
  have ez:ks.zip (ts.map j9)=(ts.zip (ks.zip xs)).map fun p=>(p.2.1,j9 p.1):=by
    apply List.ext_getElem?;intro i;simp only[gk,m5,ke,List.getElem?_zipWith];rcases mm i ks.length with hi|hi
    . rw[i3 hi,i3 (show i<ts.length by lia),i3 (show i<xs.length by lia)]
      rfl
    . rw[Y4 hi,Y4 (show ts.length<=i by lia)]
      rfl
  obtain ⟨tr,s',J'⟩:=CW pp ez;have W:(tr.map (·.1)).Perm ts:=by have:=s'.map (·.1);rwa[List.map_fst_zip (by rw[length_zip,r',←hl];exact io (qp _).symm)]at this
  have V':(tr.map (·.1)).Nodup:=W.nodup_iff.mpr Rr.1;have E:∀p∈tr,N+5<=p.1/\p.1≠R/\p.1≠c/\∃x y,xf h4 p.1 x y/\bO (V.int p.2.1) x/\bO p.2.2 y:=fun p hp=>by
    have S':=s'.mem_iff.mp hp;obtain ⟨i,hi⟩:=P8 S';rw[gk]at hi;obtain ⟨h1,h2⟩:=hi;rw[gk]at h2;obtain ⟨ge,x,y,ex,ey,ep⟩:=Rr.2 i p.1 h1;obtain ⟨x',v',rx⟩:=u'.get (i:=i) (by rw[m5,h2.1];rfl);obtain ⟨y',w',ry⟩:=H'.get (i:=i) h2.2;have a1:h'[i]?=some x:=by simpa using ex
    have a2:k'[i]?=some y:=by simpa using ey
    rw[a1]at v';cases v';rw[a2]at w';cases w';have cl:c<h3.objs.size:=by obtain ⟨_,o,_,_,e0,e1,_⟩:=Y.cd;cases e0;exact p7 e1
    exact {A5 E' ge,tR _ (o0 h1),C3 (i7 cl ge),x,y,ep,rx,ry}
  have cR:c≠R:=by obtain ⟨_,o,_,_,e0,e1,_⟩:=Y.cd;cases e0;exact u7 (i7 (p7 e1) gR)
  have NR:N<=R:=A5 (A5 (gq _ _) E') gR;let G:Hp:=fun b=>if b=R then some (.lst (tr.map fun p=>V.ref p.1)) else match tr.lookup b with
   |some p=>some (.tup [.int p.1,p.2])
   |none=>if b=T then some (.tbl (ZN lp c)) else if b=c then some (LP c qual) else H1 b
  have GR:G R=some (.lst (tr.map fun p=>V.ref p.1)):=if_pos rfl;have Gt:∀p∈tr,G p.1=some (.tup [.int p.2.1,p.2.2]):=fun p hp=>by show (if p.1=R then _ else _)=_;rw[if_neg (E p hp).2.1];simp only[BE V' hp]
  have o':∀b,b<N->b∉tr.map (·.1):=fun b hb hm=>by obtain ⟨p,hp,e⟩:=u8.mp hm;have:=(E p hp).1;rw[e]at this;lia
  have GT:G T=some (.tbl (ZN lp c)):=by show (if T=R then _ else _)=_;rw[if_neg (u7 (i7 S NR)),jQ (o' T S)];exact if_pos rfl
  have cT:c≠T:=by
    rintro rfl;obtain ⟨_,o,vs,_,e0,e1,U,e3⟩:=Y.cd;cases e0;have e4:=Y.tb;rw[e1]at e4;cases e4;cases U;have:(#[C5 lp.line,C5 lp.col,j9 c]:Array c7)[1]?=some (C5 lp.col):=rfl;rw[show ZN lp c=#[C5 lp.line,C5 lp.col,j9 c] from rfl,this]at e3;cases e3
  have Gc:G c=some (LP c qual):=by show (if c=R then _ else _)=_;rw[if_neg cR,jQ (fun hm=>by obtain ⟨p,hp,e⟩:=u8.mp hm;exact (E p hp).2.2.1 e)];show (if c=T then _ else _)=_;rw[if_neg cT];exact if_pos rfl
  have Gb:∀b,b<N->b≠T->b≠c->G b=H1 b:=fun b h1 h2 h3=>by show (if b=R then _ else _)=_;rw[if_neg (u7 (i7 h1 NR)),jQ (o' b h1)];show (if b=T then _ else _)=_;rw[if_neg h2];exact if_neg h3
  have Gk:Kp T H1 G:=fun b o n e=>by
    have hb:b<N:=hN▸J.hok.lt e;by_cases f':b=c
    . subst f'
      rcases cN with g|⟨_,_,g⟩
      . exact absurd (i7 hb (gq _ 5)) (yq.mpr g)
      . rw[e]at g;cases g;exact Gc
    . rw[Gb b hb n f'];exact e
  have Gn:∀b o,M.heap.get? b=some o->H1 b=none->G b=none:=fun b o e n=>by
    have hb:=e' _ _ e;have h2:b≠T:=by
      rintro rfl;rcases hT with t|⟨_,t,_⟩ <;> (rw[t]at n;cases n)
    have h3:b≠c:=by
      rintro rfl;rcases cN with g|⟨_,_,g⟩
      . exact absurd (i7 hb (gq _ 5)) (yq.mpr g)
      . rw[n]at g;cases g
    rw[Gb b hb h2 h3];exact n
  have G':∀l:List (c8×(Int×V)),bU (l.map fun p=>V.ref p.1) ((l.map fun p=>(p.2.1,j9 p.1)).map Prod.snd):=fun l=>by
    induction l with
   |nil=>exact .nil
   |cons p l ih=>exact .cons rfl ih
  have D':lS X.prog X.w G h4:=fun b u e=>by
    by_cases B':b=R
    . subst B'
      rw[GR]at e;cases e;refine {?_,X'.toList,c',?_,?_}
      . rw[i8]
        have:tr.length=ts.length:=by rw[←i8 (f:=(·.1)) (as:=tr)];exact W.length_eq
        rw[this,r',y9];lia
      . rw[po,J'];exact G' tr
      . rw[z']
    . by_cases C':b∈tr.map (·.1)
      . obtain ⟨p,hp,rfl⟩:=u8.mp C'
        rw[Gt p hp]at e;cases e;obtain ⟨_,_,_,x,y,ep,rx,ry⟩:=E p hp;exact {{by show 2<=n7;decide,_,ep,rfl},[x,y],.cons rx (.cons ry .nil),_,ep,rfl,_,rfl}
      . by_cases O:b=T
        . subst O
          rw[GT]at e;cases e;exact i' _ _ Y.tb (q7 LT) (C S) (C S) (u7 S) (C S)
        . by_cases f':b=c
          . subst f'
            rw[Gc]at e;cases e;refine Dp ?_;obtain ⟨c1,o,vs,tt,e0,e1,U⟩:=Y.cd;cases e0;exact {_,o,vs,tt,rfl,i' _ _ e1 a'.1 a'.2.1 a'.2.2.1 a'.2.2.2.1 a'.2.2.2.2,U}
          . have e1:H1 b=some u:=by
              have q:G b=if b=T then some (HO.tbl (ZN lp c)) else if b=c then some (LP c qual) else H1 b:=by show (if b=R then _ else _)=_;rw[if_neg B',jQ C']
              rw[q,if_neg O,if_neg f']at e;exact e
            refine (J.hok b u e1).stay (fun d v hd r=>?_) (fun d r=>Gk d _ ?_ r) fun d Y' r=>Gk d _ ?_ r
            . have h1:H1 d≠none/\d≠T:=by
                rcases hd with rfl|hd
                . exact {by rw[e1];simp,O}
                . refine {by rw[hd];simp,?_}
                  rintro rfl;rcases hT with t|⟨_,t,_⟩ <;> (rw[t]at hd;cases hd)
              exact l' d v r h1.2 fun z=>h1.1 (z▸J.free)
            . rintro rfl
              rcases hT with t|⟨_,t,_⟩ <;> (rw[t]at r;cases r)
            . rintro rfl
              rcases hT with t|⟨_,t,_⟩ <;> (rw[t]at r;cases r)
  have W':∀m,M.heap.Ns X.env.locals m->h4.Ns X.env.locals m:=fun m hm=>by
    have:m=mL:=by obtain ⟨o,es,ep,e,d,_,r⟩:=hm;obtain ⟨o2,α,Z',U,d2,_,r2⟩:=A';rw[e]at U;cases U;rw[d]at d2;cases d2;funext x;rw[←r x,r2 x]
    rw[this];exact gL
  have I4 : aZ X p' σ G {M with heap:=h4,toks:=I'}:=J.step (g':=M.gens) (d':=M.drawn) (t':=I') (ch:=[]) (fun _ z=>nomatch z) (fun b o n1 _ _ e n=>l' b o e (by
        rintro rfl;rcases hT with t|⟨_,t,_⟩ <;> (rw[t]at n;cases n)) n1) (fun b o n1 _ _ e n=>{o.slots,l' b o e (by
        rintro rfl;rcases hT with t | ⟨_,t,_⟩ <;> (rw[t]at n;cases n)) n1}) (fun b o _ e n=>Gn b o e n) (fun b o _ e=>?_)
      (fun b Y' e=>Gk b _ (by
        rintro rfl;rcases hT with t|⟨_,t,_⟩ <;> (rw[t]at e;cases e)) e) (fun b o u e=>Gk b _ (by
        rintro rfl;rcases hT with t | ⟨_,t,_⟩ <;> (rw[t]at e;cases e)) e) (fun b γ e=>?_) W' D' J.bare
  . exact {.ref R,G,I4,rfl,q R G tr (by
      cases e:H1 R with
     |none=>rfl
     |some u=>exact absurd (hN▸J.hok.lt e) (yq.mpr NR)) Gk (.inr {c,GT,Gc}) GR Gt (by
        have:=s'.map (·.2);rwa[zz (by rw[length_zip,r',←hl];exact io (qp _))]at this)}
  . by_cases hb:b=X.env.locals
    . subst hb
      obtain ⟨o2,_,_,U,_⟩:=gL;exact {o2,U}
    . by_cases O:b=T
      . subst O
        exact {_,i' _ _ Y.tb (q7 LT) (C S) (C S) (u7 S) (C S)}
      . exact {o,l' b o e O hb}
  . by_cases O:b=T
    . subst O
      rcases Y.cs with ⟨t,_⟩|⟨t,_⟩
      . rw[t]at e;cases e
        exact {ZN lp c,by rw[GT];simp}
      . rw[t]at e;cases e
        exact {#[],by rw[GT];simp}
    . exact {#[],by rw[Gk b _ O e];simp}
def QY{P:m7}{w:y6}{K:v9}{G mb:Str->Option c7}{CX:BZ}{k:Nat}{fa a T c0:c8}{fd:K6}{x:Str}{sp:Sp}{c:f9}{vs:List c7}{ns:List Int}(KX:K.In c.heap)(X:c.heap.Ns B8 G)(f:c.heap.Ns pz mb)(g':∀x:Str,x≠"__name__"->mb x=B9 x)(W:c.heap.NoLimit)(hg:c.gens=#[])(J:c.heap.get? T=some (wg #[]))(hC:jy K c0 T=true)(d':K.lookup T=none)(hB:zQ G c.heap)(S:c.heap.get? a=some {cls:=.type "list",data:=.seq vs.toArray})(hi:O6 vs ns)(hl:ns.length<=n7)(hr:eR k qz)(F:∀base:A7,K.In base->base.Ns B8 G->zQ G base->nG P w K G base CX k fa fd [x] sp)(M:∀(s:f9)(u:c7),W6 s fd {[u],[]} [(x,u)])(h':∀H:Hp,H T=some (.tbl #[])->cU K H a (ns.map V.int)->sp [.ref a] H (fun v _=>v=.bl true) fun _ _ _=>False)(c':∀H e t,CX [] H c (fun _ _ _=>False) e t->False):
  T5 (j3 P w) qz (.call (.ref fa) {[.ref a],[]}) (fun r t=>r=.ok (.ret (.bool true))/\OldK c.heap t.heap/\t.os=c.os/\jd t.gens) c:=by
 have rv:=pJ hi;have Z:=hi.length;have aT:a≠T:=by rintro rfl;rw[S]at J;cases J
 have D:∀H:Hp,H T=some (.tbl #[])->cU K H a (ns.map V.int)->lS P w H c.heap->(∀b,H b≠none->b=a∨b=T)->(H a≠none->K.lookup a=none/\∃o N,H a=some (.frz o (.lst N))) ->
   T5 (j3 P w) qz (.call (.ref fa) {[.ref a],[]}) (fun r t=>r=.ok (.ret (.bool true))/\OldK c.heap t.heap/\t.os=c.os/\jd t.gens) c:=by
  intro H hO hS Y hA hK;have g:∀{b:c8}{o:Obj},c.heap.get? b=some o->H b=none->(zI c.heap H).get? b=some o:=fun e n=>XY e n;have a':∀{b:c8}{o:Obj},c.heap.get? b=some o->(∀N n,o.data≠.seq N n)->(∀N,o.data≠.fields N)->H b=none:=fun {b o} e d1 d2=>by
   cases q:H b with
  |none=>rfl
  |some u=>
    rcases hA b (by rw[q];simp) with A|A
    ·subst A;rw[S]at e;cases e;exact absurd rfl (d1 _ _)
    ·subst A;rw[J]at e;cases e;exact absurd rfl (d2 _)
  have B:∀{b:c8}{m:Str->Option c7},c.heap.Ns b m->(zI c.heap H).Ns b m:=fun {b m} ⟨o,es,ep,e,d,r⟩=>{o,es,ep,g e (a' e (fun _ _ z=>by rw[d]at z;cases z) fun _ z=>by rw[d]at z;cases z),d,r}
  have Q:K.In (zI c.heap H):=fun b o e=>g (KX b o e) (by
   cases q:H b with
  |none=>rfl
  |some u=>
    rcases hA b (by rw[q];simp) with A|A
    ·subst A;rw[(hK (by rw[q];simp)).1]at e;cases e
    ·subst A;rw[d']at e;cases e)
  have hM:Mod K G (zI c.heap H):={Q,B X,{mb,B f,g'},let ⟨mc,h1,h2⟩:=W;{mc,B h1,h2}}
  have b':zQ G (zI c.heap H):=let ⟨bm,o,b1,b2,b3,b4,b5,b6,b7⟩:=hB;{bm,o,b1,b2,b3,g b4 (a' b4 (fun _ _ z=>by rw[b7]at z;cases z) fun _ z=>by rw[b7]at z;cases z),b5,b6,b7};have e0:ET P w K G (zI c.heap H) qz [] c H:={rfl,hM,fun b o e=>Cg e,io (RE _ _),trivial,fun b f=>absurd (show b∈([]:List c8) from f) (by simp),Y,.of_eq hg}
  refine W5 ((F _ Q (B X) b').run qz [] c H {[.ref a],[]} [.ref a] [.ref a] _ _ hr e0 (M c (.ref a)) (.cons rfl .nil) (h' H hO hS)) fun r t h=>?_;cases r with
 |error e=>exact (c' H e t h).elim
 |ok fl=>
   cases fl with
  |next=>exact D9 h
  |brk=>exact D9 h
  |cont=>exact D9 h
  |ret u=>
    obtain ⟨v,H',os,O,un,E,r',q⟩:=h;have q':v=.bl true:=q;subst q';obtain rfl:u=rd true:=r';have kb:∀b o,c.heap.get? b=some o->b≠T->t.heap.get? b=some o:=fun b o e n=>by
     cases q:H b with
    |none=>exact un.keep b o e q (by intro z;exact absurd (show b∈([]:List c8) from z) (by simp)) (by simp)
    |some u=>
      rcases hA b (by rw[q];simp) with A|A
      ·subst A;obtain ⟨ob,N,z⟩:=(hK (by rw[q];simp)).2;have z2:=un.frzs b ob _ z;obtain ⟨e1,_⟩:=Y b _ z;obtain ⟨e2,_⟩:=E b _ z2;rw[e]at e1;cases e1;exact e2
      ·exact absurd A n
    obtain ⟨I,f'⟩:=un.tbls T _ hO;have R:t.heap.get? T=some (wg (#[]++I)):=E T _ f';refine {rfl,{fun b o e=>?_,fun b o e=>?_},os,O}
    ·by_cases f:b=T
     ·subst f;rw[J]at e;cases e;exact .inr (.inl {((codeHd_of_K KX hC).tab J).isCodeTable,rfl,#[],I,rfl,R})
     ·exact .inl (kb b o e f)
    ·by_cases f:b=T
     ·subst f;exact {_,R}
     ·exact {o,kb b o e f}
 cases hk:K.lookup a with
|some o=>
  have e:=KX a o hk;rw[S]at e;cases e;refine D (fun b=>if b=T then some (.tbl #[]) else none) (if_pos rfl) (.inr {_,vs.toArray,_,hk,rfl,rfl,rfl,by rw[m6,Z];exact hl,by simpa using rv}) (fun b u z=>?_) (fun b z=>?_) fun z=>absurd (if_neg aT) z
  ·by_cases f:b=T
   ·have C:=(if_pos f).symm.trans z;cases C;subst f;exact J
   ·have C:=(if_neg f).symm.trans z;cases C
  ·by_cases f:b=T
   ·exact .inr f
   ·exact absurd (if_neg f) z
|none=>
  refine D (fun b=>if b=T then some (.tbl #[]) else if b=a then some (.frz {cls:=.type "list",data:=.seq vs.toArray} (.lst (ns.map V.int))) else none) (if_pos rfl) (.inl (.inr {{cls:=.type "list",data:=.seq vs.toArray},(if_neg aT).trans (if_pos rfl)})) (fun b u z=>?_) (fun b z=>?_) fun _=>{hk,_,_,(if_neg aT).trans (if_pos rfl)}
  ·by_cases f:b=T
   ·have C:=(if_pos f).symm.trans z;cases C;subst f;exact J
   ·have z1:=(if_neg f).symm.trans z;by_cases f:b=a
    ·have C:=(if_pos f).symm.trans z1;cases C;subst f;exact {S,by rw[i8];exact hl,vs,_,rv,S}
    ·have C:=(if_neg f).symm.trans z1;cases C
  ·by_cases f:b=T
   ·exact .inr f
   ·by_cases U:b=a
    ·exact .inl U
    ·refine absurd ?_ z;show (if b=T then _ else if b=a then _ else _)=_;rw[if_neg f,if_neg U]
def walk_ofT{l:oh}{n k:Nat}{q:m7}{loose:List Str}{XP:(Str->Option c7)->A7->Prop}{YP:y6->A7->Prop}{d:DefRec}{K:Params->v9}{CX:y6->BZ}{sp:y6->Sp}{x:Str}{T c0:c8}(hn:l.most=some n)(hn2:n<=n7)(hdf:d.params.defaults=[])(hr:eR k qz)(hY:∀(w:y6)(h:A7),YP w h->(K w.params).In h/\h.get? T=some (wg #[]))(hC:∀P,jy (K P) c0 T=true)(hKT:∀P,(K P).lookup T=none)
  (F:∀(w:y6)(mg:Str->Option c7)(fa:c8)(h:A7),(K w.params).In h->h.Ns B8 mg->mg d.name=some (.ref fa) ->
   ∃fd:K6,(∀(s:f9)(u:c7),W6 s fd {[u],[]} [(x,u)]) /\
    ∀base:A7,(K w.params).In base->base.Ns B8 mg->zQ mg base->nG l.prog w (K w.params) mg base (CX w) k fa fd [x] (sp w))
  (hsp:∀(w:y6)(H:Hp)(a:c8)(ns:List Int),ns.length<=n->H T=some (.tbl #[])->cU (K w.params) H a (ns.map V.int)->sp w [.ref a] H (fun v _=>v=.bl true) fun _ _ _=>False)
  (hCX:∀(w:y6)(H:Hp)(s:f9)(e:c7)(s':f9),CX w [] H s (fun _ _ _=>False) e s'->False) :
  PySem.W.WalkO q loose XP YP l.row.toRowW d [] (fun f vs=>PySem.call f vs):=by
 refine Att.attach_call hn hdf fun w s₀ s₁ mg mb fa o pm cd doc a vs ns G Y ho hd hcd hmg hobj hints hlen hg=>?_;obtain ⟨KX,hT⟩:=hY w _ Y;obtain ⟨fd,hb,hF⟩:=F w mg fa _ KX G.T.g hmg;have hB:zQ mg s₁.heap:=by
  obtain ⟨bm,ob,b1,b2,b3,b4,b5,b6⟩:=G.T.bmain;refine {bm,ob,b1,b2,fun q=>?_,b3,b4,b5,b6};obtain ⟨o,es,ep,e,hd,_⟩:=G.T.g;rw[q,e]at b3;cases b3;rw[hd]at b6;cases b6
 exact QY KX G.T.g G.T.b G.T.builtins G.T.nolimit hg hT (hC _) (hKT _) hB hobj hints (A5 hlen hn2) hr hF hb (fun H hO hS=>hsp w H a ns hlen hO hS) fun H e s'=>hCX w H s₁ e s'
structure Sa(K:v9)(mg:Str->Option c7)(x:Str)(st:D4)(ps:List Str)(c T:c8):Prop where
 ex:∃(f:c8)(fd:K6),(∃(oc:c7)(od:Option c8)(dV kV doc pm:c7)(an:Option c8)(ct:c7)(osl:Array (Option c7)),
  fd=gr x x (cY st) (bV st) (aG st) dV kV doc pm an (.ref c) ct/\K.lookup f=some {oc,od,.func fd,osl}/\D8 K (.ref c) x=true)/\B3 K (.ref f)=true/\mg x=some (.ref f)/\iC K fd ps []
 hd:jy K c T=true
def bZ.ofC{P:m7}{w:y6}{K:v9}{G:Str->Option c7}{m:A7}{k:Nat}{x:Str}{st:D4}{N ps:List Str}{sp:Sp}{c T:c8}(d:Sa K G x st ps c T)(S:aM N ps (aG st))(D:∀vs H Q E,sp vs H Q E->vs.length=ps.length)
  (o:∀ (f:c8) (A:A2)(g:List Env)(s:f9)(H:Hp)(vs:List V)(Q:VK)(E:XK),eR k (A.deeper (W7 x (aG st) s.heap.objs.size f (.ref c)))->sp vs H Q E ->
   ∃t,yW (oZ rL P w K G m N x (aG st) f (.ref c) A g s H E).nox (bV st) t/\t {nx:=fun _ H'=>Q .non H',rt:=Q} (start N vs) H):bZ P w K G m (k+1) x ps sp:=by
 obtain ⟨f,X,⟨Y,Z,W,kV,I,pm,R,U,O,rfl,M,B⟩,kp,a,b⟩:=d.ex;refine {f,_,a,kp,b,BM M B S D fun A g s H vs Q E J C=>?_};obtain ⟨t,h,q⟩:=o f A g s H vs Q E J C;exact {t,h.nox,q}
def Lg{K:v9}{A:Str->Option c7}{h:A7}{x:Str}{st:D4}{ps:List Str}{f c T:c8}{B:c7}{C o:Option c8}{m:Array (Option c7)}{s kV g w q:c7}(X:K.In h)(G:h.Ns B8 A)(a:nsIn K B8 x=some (some (.ref f)))(l:K.lookup f=some {B,C,.func (gr x x (cY st) (bV st) (aG st) s kV g w o (.ref c) q),m})(D:D8 K (.ref c) x=true)(k:B3 K (.ref f)=true)(t:jy K c T=true)(b:∀us:List c7,us.length=ps.length->wt (gr x x (cY st) (bV st) (aG st) s kV g w o (.ref c) q) {us,[]}=K0 (ps.zip us)):Sa K A x st ps c T:=
 {{f,_,{B,C,s,kV,g,w,o,q,m,rfl,l,D},k,mg_of X G a,.all b},t}
def Mf{H:Hp}{a:c8}(h:H a=none)(o:HO):∃G,upd H a o=G/\aJ H G/\G a=some o:={_,rfl,aJ.new h,aC}
def mH{H:Hp}{Q:VK}{xs:List V}(k:∀p G,H p=none->aJ H G->G p=some (.lst xs)->Q (.ref p) G)(h:xs.length<=1000:=by exact A3 rfl):Cn Q xs H:=cE (fun p e=>k p _ e (aJ.new e) aC) h
def iE{H:Hp}{Q:VK}{xs:List V}(k:∀p G,H p=none->aJ H G->G p=some (.tup xs)->Q (.ref p) G)(h:xs.length<=1000:=by exact A3 rfl):Hb Q xs H:=bD (fun p e=>k p _ e (aJ.new e) aC) h
end L2
namespace Lw
open PySem L2
set_option maxHeartbeats 0
set_option compiler.extract_closed false
set_option hygiene false
local macro_rules | `(tactic| delta $es*) => do `(tactic| with_reducible first $[|$(← es.mapM fun e => `(tacticSeq| refine $e ?_))]*)
local macro_rules | `(tactic| walk_at "hp") => `(tactic| first
 |with_reducible assumption
 |with_reducible exact aC
 |((with_reducible refine aO ?hn ?_);(case hn=>with_reducible assumption);walk_at"hp")
 |((with_reducible refine aY ?hn ?_);(case hn=>first|with_reducible assumption|(refine q7 ?_;with_reducible assumption));walk_at"hp")
  | ((with_reducible refine Kp.app ?hk ?hn ?_);(case hk=>with_reducible assumption);(case hn=>first | with_reducible assumption | (refine q7 ?_;with_reducible assumption));walk_at"hp"))
local macro_rules | `(tactic| walk_at "go1") => `(tactic| first
 |delta jM
 |(delta Ol;delta uY)
 |(delta Oc;delta Si)
 |(delta Pc;delta So)
 |delta Pf As
 |((with_reducible refine' Ny ?rv ?_);case rv=>exact rfl)
 |delta r_c Sk Sf Pi r_U Qz Sh Hs Ap VE
 |((with_reducible refine lE ?mc ?_);case mc=>first|decide|lia)
 |((with_reducible refine Hz ?mc ?_);case mc=>first|decide|lia)
 |((with_reducible refine nO ?mc ?_);case mc=>first|exact fJ.r (by decide) (by decide)|exact fJ.l (by decide) (by decide)|exact fJ.l (by lia) (by lia)|exact fJ.r (by lia) (by lia))
 |((with_reducible refine iF ?mc ?_);case mc=>first|exact pH.of (by decide) (by decide)|exact pH.of (by lia) (by lia))
 |delta Hr Hm Sg Sr Ov Sn Pg Sj Om Ix Og Hu Iy Oj Hv Oe Hy Il Fo Ir Nz Fp Iv Bc Ia Ss Ip Oz Io Im Ay Ax Av Sq Au Ij Ar Ob Oh Iq Ie Ig Ih Hw Hx
 |((with_reducible refine' VO ?ih ?_);(case ih=>walk_at"hp"))
 |((with_reducible refine' Pe ?ih ?_);(case ih=>walk_at"hp"))
 |((with_reducible refine' CU ?ih ?_);(case ih=>walk_at"hp"))
 |((with_reducible refine' NS ?ih ?_);(case ih=>walk_at"hp"))
 |delta Of Ht Qo Qa Qm Ph Os Oq Ii Ow Iu Hq Ho Aq
 |((with_reducible refine' Ib ?ih ?_);(case ih=>walk_at"hp"))
 |((with_reducible refine' xG ?ih ?_);(case ih=>walk_at"hp"))
 |((with_reducible refine' NP ?ih ?ie ?_);(case ih=>walk_at"hp");(case ie=>exact rfl))
 |((with_reducible refine' eV ?ih ?ie ?_);(case ih=>walk_at"hp");(case ie=>exact rfl))
 |delta VH Th Tg Uf Ug Ky
 |((with_reducible refine Kz ?dc ?_);case dc=>lia)
  | ((with_reducible refine Qj ?dc ?_);case dc=>lia))
local macro_rules | `(tactic| walk_at "go") => `(tactic| repeat (walk_at "go1"))
local macro_rules | `(tactic| walk_at "gos") => `(tactic| repeat ((fail_if_success (delta jM)); walk_at "go1"))
set_option hygiene true
local macro_rules | `(tactic| walk_at "go1") => `(tactic| first
 |delta Oa Al Bb Am r_rng1H)
theorem bC{CX:BZ}{P:m7}{w:y6}{K:v9}{t:Str->Option c7}{m:A7}{N:List Str}{o:Str}{g:X1}{f:c8}{q:c7}{A:A2}{c:List Env}{s:f9}{H:Hp}{E:XK}:(oZ CX P w K t m N o g f q A c s H E).K=K:=rfl
theorem aV{X:Cx}:X.nox.K=X.K:=rfl
theorem Di{P:List c7->Prop}(h:P []):∀us:List c7,us.length=0->P us:=fun us e=>(N8.mp e).symm▸h
theorem zL{n:Nat}{P:List c7->Prop}(h:∀a us,us.length=n->P (a::us)):∀us:List c7,us.length=n+1->P us:=fun us=>List.casesOn (motive:=fun us=>us.length=n+1->P us) us (fun e=>absurd e (Nat.succ_ne_zero n).symm) fun a us e=>h a us (Nat.succ.inj e)
theorem el_1{P:List c7->Prop}(h:∀c,P [c]):∀us:List c7,us.length=1->P us:=zL fun c=>Di (h c)
theorem el_2{P:List c7->Prop}(h:∀c f,P [c,f]):∀us:List c7,us.length=2->P us:=zL fun c=>zL fun f=>Di (h c f)
theorem el_3{P:List c7->Prop}(h:∀c f g,P [c,f,g]):∀us:List c7,us.length=3->P us:=zL fun c=>zL fun f=>zL fun g=>Di (h c f g)
theorem el_4{P:List c7->Prop}(h:∀c f g m,P [c,f,g,m]):∀us:List c7,us.length=4->P us:=zL fun c=>zL fun f=>zL fun g=>zL fun m=>Di (h c f g m)
local macro_rules | `(tactic| w_left) => `(tactic| first | exact F0 rfl | exact E5 rfl | exact fun _ _ _ _ _ _ => el_1 fun _ => rfl | exact fun _ _ _ _ _ _ => el_2 fun _ _ => rfl | exact fun _ _ _ _ _ _ => el_3 fun _ _ _ => rfl | exact ⟨rfl,rfl,rfl,by k_is,rfl,by k_is,by k_is⟩)
local macro_rules | `(tactic| w_means) => `(tactic| first | exact .inl rfl | exact .inr rfl | assumption)
local macro_rules | `(tactic| w_on) => `(tactic| walk_at "go")
local macro_rules | `(tactic| apply $e) => `(tactic| (refine $e; w_on))
noncomputable def gE(i:Nat):D4:=PySem.Challenge.pw_tilefall_k82_hands_refused.main.body.getD i (.Pass {0,0,0,0})
set_option hygiene false
local macro_rules | `(tactic| walk_at "go1") => `(tactic| first
 |delta Sl Oo Ox Hn Op
 |((with_reducible refine' Tc ?ia1 ?ia4 ?_);(case ia1=>walk_at"hp");(case ia4=>exact rfl))
 |((with_reducible refine' Ti ?ia1 ?ia2 ?ia3 ?ia4 ?_);(case ia1=>walk_at"hp");(case ia2=>exact HC.cl);(case ia3=>first|exact HC.n_net|exact HC.n_pushes|exact HC.n_takings|exact HC.n_moment|exact HC.n_moments);(case ia4=>exact rfl))
  | ((with_reducible refine' Se ?ia1 ?ia2 ?ia3 ?ia4 ?_);(case ia1=>walk_at"hp");(case ia2=>exact HC.cl);(case ia3=>first | exact HC.n_net | exact HC.n_pushes | exact HC.n_takings | exact HC.n_moment | exact HC.n_moments);(case ia4=>exact A3 rfl)))
abbrev tT:c8:=256
abbrev LT(H:Hp):Prop:=rH 256 {77,59,77,79} (("sorted_by"++".<locals>.":Str)++"<lambda>") H
theorem LT.ex{H:Hp}(h:LT H):∃ps,H tT=some (.tbl ps):=by
 rcases h with h|⟨_,h,_⟩
 ·exact {_,h}
 ·exact {_,h}
theorem kT{H H':Hp}{a:c8}{o:HO}(k:Kp tT H H')(t:LT H)(h:H a=some o)(c:∀ps,o≠.tbl ps):H' a=some o:=
 let ⟨ps,e⟩:=t.ex;k _ _ (gX h e (c ps)) h
theorem kTf{H H':Hp}{a:c8}(k:Kp tT H H')(t':LT H')(h:H' a=none):H a=none:=by
 cases e:H a with
|none=>rfl
|some o=>
  obtain ⟨f,c⟩:=t'.ex;rw[k _ _ (q7 (aD c h)) e]at h;cases h
theorem LT.ins{H:Hp}{p C f:c8}{fs:List (Str×V)}{o:HO}(t:LT H)(h:H p=some (.ins C f fs)):LT (L2.upd H p o):=by
 rcases t with t|⟨c,t,u⟩
 ·exact .inl (by rw[aX (gX t h (by intro z;cases z))];exact t)
 ·exact .inr {c,by rw[aX (gX t h (by intro z;cases z))];exact t,by rw[aX (gX u h (by intro z;cases z))];exact u}
theorem Sd{H H':Hp}(k:Kp tT H H')(t:LT H):TK H H':=fun p c e=>kT k t e (fun _ z=>nomatch z)
def Md(B:Nat)(H:Hp)(v:V):Prop:=∃q:Rat,cI H v q/\q.den∣B/\Sz 2000 q
theorem Md.tk{B:Nat}{H H':Hp}{v:V}(h:Md B H v)(t:TK H H'):Md B H' v:=let ⟨q,a,b⟩:=h;{q,a.tk t,b}
structure Rn(K:v9)(mg:Str->Option c7)(C:c8):Prop where
 m:mg "Hall"=some (.ref C)
 cl:BY K C
 mks:og K C=true
 kp:B3 K (.ref C)=true
 n_net:fI K C "net"
 n_pushes:fI K C "pushes"
 n_takings:fI K C "takings"
 n_moment:fI K C "moment"
 n_moments:fI K C "moments"
noncomputable def fY(s:D4):List D4:=match s with|.ClassDef _ _ _ b _ _ _ _ _ _ _=>b|_=>[]
abbrev xB:D4:=gE 15
theorem GS:aM ["thing"] ["thing"] (aG xB):=by w_left
abbrev lD:D4:=gE 16
theorem eZ:aM ["one","other","rest"] ["one","other"] (aG lD):=by w_left
abbrev qA:D4:=gE 17
theorem wX:aM ["thing"] ["thing"] (aG qA):=by w_left
abbrev iD:D4:=gE 18
theorem oE:aM ["top","bottom","divisor"] ["top","bottom"] (aG iD):=by w_left
abbrev NK:D4:=gE 19
theorem oF:aM ["one","other","shared","part","top","divisor"] ["one","other"] (aG NK):=by w_left
abbrev xA:D4:=gE 20
theorem GQ:aM ["one","other"] ["one","other"] (aG xA):=by w_left
abbrev ND:D4:=gE 21
theorem UR:aM ["one","other"] ["one","other"] (aG ND):=by w_left
abbrev AT:D4:=gE 22
theorem JL:aM ["one","other"] ["one","other"] (aG AT):=by w_left
abbrev AS:D4:=gE 23
theorem JK:aM ["one","other"] ["one","other"] (aG AS):=by w_left
abbrev uN:D4:=gE 24
theorem CO:aM ["thing"] ["thing"] (aG uN):=by w_left
abbrev mE:D4:=gE 25
theorem iO:aM ["fractions","bottom","each"] ["fractions"] (aG mE):=by w_left
abbrev fD:D4:=gE 26
theorem rT:aM ["fractions","things","pairs"] ["fractions","things"] (aG fD):=by w_left
abbrev mF:D4:=gE 28
theorem GP:aM ["net"] ["net"] (aG mF):=by w_left
abbrev pZ:D4:=gE 29
theorem gH:aM ["net","beside","number","run"] ["net"] (aG pZ):=by w_left
abbrev nJ:D4:=gE 31
theorem fK:aM ["deeds","least","thing","moment"] ["deeds"] (aG nJ):=by w_left
abbrev GX:D4:=gE 32
theorem QE:aM ["taken","number","moment"] ["taken","number","moment"] (aG GX):=by w_left
abbrev qB:D4:=gE 33
theorem gI:aM ["waiting","earliest","post"] ["waiting"] (aG qB):=by w_left
abbrev gA:D4:=gE 34
theorem dU:aM ["net","pushes","takings","beside","taken","pushed","waiting","fallen","post","number","other","moment"] ["net","pushes","takings"] (aG gA):=by w_left
abbrev dZ:D4:=gE 35
theorem nI:aM ["net","pushes","takings","fallen"] ["net","pushes","takings"] (aG dZ):=by w_left
abbrev oG:D4:=gE 37
theorem uX:aM ["fell","time","moment"] ["fell","time","moment"] (aG oG):=by w_left
abbrev pY:D4:=gE 38
theorem jL:aM ["run","moments","taken","moment","first","last"] ["run","moments","taken","moment"] (aG pY):=by w_left
abbrev xC:D4:=gE 39
theorem GU:aM ["fell","time","beyond"] ["fell","time","beyond"] (aG xC):=by w_left
abbrev kC:D4:=gE 40
theorem eW:aM ["run","moments","one","other","met"] ["run","moments"] (aG kC):=by w_left
abbrev uM:D4:=gE 41
theorem CM:aM ["ending"] ["ending"] (aG uM):=by w_left
abbrev uO:D4:=gE 42
theorem mB:aM ["run","moments","taken","ending","ended"] ["run","moments","taken"] (aG uO):=by w_left
abbrev AU:D4:=gE 46
theorem JM:aM ["_law_script","_law_k"] ["_law_script","_law_k"] (aG AU):=by w_left
abbrev NG:D4:=gE 47
theorem wW:aM ["_law_cell","_law_k","_law_number_here"] ["_law_cell","_law_k"] (aG NG):=by w_left
abbrev GW:D4:=gE 48
theorem AR:aM ["_law_script","_law_k","_law_cell"] ["_law_script","_law_k"] (aG GW):=by w_left
abbrev Ff:D4:=gE 49
theorem CN:aM ["_law_top","_law_bottom","_law_one","_law_other"] ["_law_top","_law_bottom"] (aG Ff):=by w_left
abbrev NF:D4:=gE 50
theorem dY:aM ["_law_number_here","_law_letters","_law_count","_law_size","_law_word","_law_k","_law_at","_law_names","_law_tail","_law_sign"] ["_law_number_here"] (aG NF):=by w_left
abbrev UT:D4:=gE 51
theorem Ai:aM ["_law_number_here"] ["_law_number_here"] (aG UT):=by w_left
abbrev NI:D4:=gE 52
theorem lC:aM ["_law_here_here","_law_number_here","_law_extra","_law_letters","_law_many","_law_k","_law_last"] ["_law_here_here","_law_number_here","_law_extra"] (aG NI):=by w_left
abbrev UW:D4:=gE 53
theorem fL:aM ["_law_script","_law_most","_law_extra","_law_names","_law_unit","_law_here_here","_law_k","_law_number_here","_law_kind","_law_a","_law_b","_law_moment"] ["_law_script","_law_most","_law_extra"] (aG UW):=by w_left
abbrev UU:D4:=gE 54
theorem US:aM ["_law_here_here","_law_names"] ["_law_here_here"] (aG UU):=by w_left
abbrev oH:D4:=gE 55
theorem AQ:aM ["_law_here_here","_law_used"] ["_law_here_here"] (aG oH):=by w_left
abbrev NE:D4:=gE 56
theorem rS:aM ["_law_here_here","_law_found","_law_number_here","_law_moment"] ["_law_here_here"] (aG NE):=by w_left
abbrev Fh:D4:=gE 57
theorem fP:aM ["_law_here_here","_law_taken_here","_law_due_here","_law_post","_law_moment","_law_changed","_law_rising","_law_k","_law_a","_law_b","_law_time_here","_law_one","_law_other","_law_comes"] ["_law_here_here"] (aG Fh):=by w_left
abbrev UV:D4:=gE 59
theorem lZ:aM ["_law_here_here","_law_due_here","_law_k","_law_moment","_law_a","_law_b","_law_time_here","_law_taken_here","_law_first","_law_last"] ["_law_here_here","_law_due_here","_law_k","_law_moment"] (aG UV):=by w_left
abbrev UX:D4:=gE 60
theorem NC:aM ["_law_script","_law_here_here"] ["_law_script"] (aG UX):=by w_left
abbrev GY:D4:=gE 61
theorem tP:aM ["_law_here_here","_law_due_here","_law_found","_law_post"] ["_law_here_here","_law_due_here"] (aG GY):=by w_left
abbrev oI:D4:=gE 62
theorem kB:aM ["_law_here_here","_law_due_here","_law_number_here","_law_standing_posts","_law_used","_law_whole_runs","_law_kind","_law_later"] ["_law_here_here","_law_due_here","_law_number_here"] (aG oI):=by w_left
abbrev Fi:D4:=gE 63
theorem Hl:aM ["_law_here_here","_law_deed_here"] ["_law_here_here","_law_deed_here"] (aG Fi):=by w_left
abbrev nK:D4:=(fY (gE 44)).getD 2 (.Pass {0,0,0,0})
theorem tQ:aM ["self","moment"] ["self","moment"] (aG nK):=by w_left
abbrev gJ:D4:=(fY (gE 44)).getD 7 (.Pass {0,0,0,0})
theorem qK:aM ["self"] ["self"] (aG gJ):=by w_left
abbrev jC:D4:=(fY (gE 44)).getD 8 (.Pass {0,0,0,0})
theorem cJ:aM ["self","taken","told","number","run","ending"] ["self"] (aG jC):=by w_left
abbrev pK:D4:=(fY (gE 44)).getD 6 (.Pass {0,0,0,0})
theorem mD:aM ["self","time","before","told","fresh"] ["self","time"] (aG pK):=by w_left
abbrev qC:D4:=(fY (gE 44)).getD 1 (.Pass {0,0,0,0})
theorem wY:aM ["self"] ["self"] (aG qC):=by w_left
abbrev rX:D4:=(fY (gE 44)).getD 11 (.Pass {0,0,0,0})
theorem pX:aM ["self","number","taken"] ["self","number"] (aG rX):=by w_left
abbrev uP:D4:=(fY (gE 44)).getD 5 (.Pass {0,0,0,0})
theorem CP:aM ["self","number"] ["self","number"] (aG uP):=by w_left
abbrev hZ:D4:=(fY (gE 44)).getD 3 (.Pass {0,0,0,0})
theorem mC:aM ["self","post"] ["self","post"] (aG hZ):=by w_left
abbrev uQ:D4:=(fY (gE 44)).getD 4 (.Pass {0,0,0,0})
theorem CQ:aM ["self","post"] ["self","post"] (aG uQ):=by w_left
abbrev Nv:D4:=gE 64
theorem Nu:aM ["_law_hall_here","_law_here_here","_law_deed_here"] ["_law_hall_here","_law_here_here","_law_deed_here"] (aG Nv):=by w_left
abbrev NH:D4:=gE 65
theorem oC:aM ["_law_e","_law_some","_law_others"] ["_law_e"] (aG NH):=by w_left
abbrev JO:D4:=gE 66
theorem Aj:aM ["_law_place"] ["_law_place"] (aG JO):=by w_left
abbrev NJ:D4:=gE 67
theorem rV:aM ["_law_hall_here","_law_row","_law_kinds_here","_law_e"] ["_law_hall_here","_law_row"] (aG NJ):=by w_left
abbrev iP:D4:=gE 68
theorem cO:aM ["_law_here_here","_law_due_here","_law_number_here","_law_kind","_law_gone","_law_empty","_law_some","_law_count"] ["_law_here_here","_law_due_here","_law_number_here"] (aG iP):=by w_left
abbrev kO:D4:=(fY (gE 44)).getD 10 (.Pass {0,0,0,0})
theorem wZ:aM ["self"] ["self"] (aG kO):=by w_left
abbrev xD:D4:=(fY (gE 44)).getD 9 (.Pass {0,0,0,0})
theorem GV:aM ["self"] ["self"] (aG xD):=by w_left
abbrev JN:D4:=gE 69
theorem NB:aM ["_law_hall_here","_law_here_here","_law_number_here","_law_some"] ["_law_hall_here","_law_here_here","_law_number_here"] (aG JN):=by w_left
abbrev nM:D4:=(fY (gE 44)).getD 0 (.Pass {0,0,0,0})
theorem tS:aM ["self","net"] ["self","net"] (aG nM):=by w_left
abbrev rW:D4:=gE 70
theorem kN:aM ["_law_script","_law_here_here","_law_hall_here","_law_k","_law_number_here","_law_due_here","_law_row","_law_place","_law_ahead","_law_deed_here"] ["_law_script"] (aG rW):=by w_left
inductive zZ (K:v9) (vs:List V) (H:Hp) (Q:VK) (EE:XK):Prop
|mk (x:V) (t:c7) (b c:Bool) (h0':vs=[x]) (h1':nD K H x t) (h2':i9 K t (.type "int")=some b) (h3':i9 K t (.type "bool")=some c) (h4':Q (.bl (b&&!c)) H):zZ K vs H Q EE
def LZ(K:v9):Sp:=fun vs H Q EE=>zZ K vs H Q EE
inductive MR (vs:List V) (H:Hp) (Q:VK) (EE:XK):Prop
|mk (a b:Int) (h0':vs=[.int a,.int b]) (h1':Q (.int (n6 a b:Int)) H):MR vs H Q EE
def Ex:Sp:=fun vs H Q EE=>MR vs H Q EE
inductive wO (K:v9) (vs:List V) (H:Hp) (Q:VK) (EE:XK):Prop
|mk (x:V) (r:Bool) (h0':vs=[x]) (h1':Tw K H x r) (h2':Q (.bl r) H):wO K vs H Q EE
def FZ(K:v9):Sp:=fun vs H Q EE=>wO K vs H Q EE
inductive rP (K:v9) (vs:List V) (H:Hp) (Q:VK) (EE:XK):Prop
|mk (t b:Int) (h0':vs=[.int t,.int b]) (h1':b≠0) (h2':Sm 8000 b) (h3':∀p,H p=none->Q (.ref p) (upd H p (.tup [.int (eY t b),.int (fB t b)]))):rP K vs H Q EE
def wS(K:v9):Sp:=fun vs H Q EE=>rP K vs H Q EE
inductive GI (vs:List V) (H:Hp) (Q:VK) (EE:XK):Prop
|mk (x y:V) (q r:Rat) (h0':vs=[x,y]) (h1':cI H x q) (h2':cI H y r) (h3':Sz 8000 q) (h4':Sz 8000 r) (h5':∀v H',cI H' v (q+r)->aJ H H'->Q v H'):GI vs H Q EE
def UI:Sp:=fun vs H Q EE=>GI vs H Q EE
inductive FX (vs:List V) (H:Hp) (Q:VK) (EE:XK):Prop
|mk (x y:V) (q r:Rat) (h0':vs=[x,y]) (h1':cI H x q) (h2':cI H y r) (h3':Sz 8000 q) (h4':Sz 8000 r) (h5':∀v H',cI H' v (q-r)->aJ H H'->Q v H'):FX vs H Q EE
def TZ:Sp:=fun vs H Q EE=>FX vs H Q EE
inductive FO (vs:List V) (H:Hp) (Q:VK) (EE:XK):Prop
|mk (x y:V) (q r:Rat) (h0':vs=[x,y]) (h1':cI H x q) (h2':cI H y r) (h3':Sz 3000 q) (h4':Sz 3000 r) (h5':∀v H',cI H' v (q*r)->aJ H H'->Q v H'):FO vs H Q EE
def TR:Sp:=fun vs H Q EE=>FO vs H Q EE
inductive GE (vs:List V) (H:Hp) (Q:VK) (EE:XK):Prop
|mk (x y:V) (q r:Rat) (h0':vs=[x,y]) (h1':cI H x q) (h2':cI H y r) (h3':Sz 3000 q) (h4':Sz 3000 r) (h5':r≠0) (h6':∀v H',cI H' v (q/r)->aJ H H'->Q v H'):GE vs H Q EE
def UE:Sp:=fun vs H Q EE=>GE vs H Q EE
inductive AI (vs:List V) (H:Hp) (Q:VK) (EE:XK):Prop
|mk (x y:V) (q r:Rat) (h0':vs=[x,y]) (h1':cI H x q) (h2':cI H y r) (h3':Sz 8000 q) (h4':Sz 8000 r) (h5':Q (.bl (decide (q<r))) H):AI vs H Q EE
def MN:Sp:=fun vs H Q EE=>AI vs H Q EE
inductive vF (K:v9) (H:Hp):V->Bool->Prop
|no {x:V} (h:Tw K H x false):vF K H x false
|fr {p:c8} {a b:Int} (h:H p=some (.tup [.int a,.int b])) (hf:Lc (.int a) (.int b)=true) (sa:Sm 8000 a) (sb:Sm 8000 b):vF K H (.ref p) (decide (0<=a))
theorem Qk(q:Rat):Lc (.int q.num) (.int (q.den:Int))=true:=by have c:=q.den_pos;have f:n6 q.num q.den=1:=q.reduced;unfold Lc;simp only[decide_eq_true_eq,iu];lia
theorem vF.of{K:v9}{H:Hp}{v:V}{q:Rat}(h:cI H v q)(h0:0<=q.num)(z:Sz 8000 q):vF K H v true:=by obtain ⟨p,rfl,hp⟩:=h;have:=vF.fr (K:=K) hp (Qk q) z.1 (show ((q.den:Int)).natAbs<2^8000 by have:=z.2;lia);rw[decide_eq_true h0]at this;exact this
inductive FV (K:v9) (vs:List V) (H:Hp) (Q:VK) (EE:XK):Prop
|mk (x:V) (b:Bool) (h0':vs=[x]) (h1':vF K H x b) (h2':Q (.bl b) H):FV K vs H Q EE
def TY(K:v9):Sp:=fun vs H Q EE=>FV K vs H Q EE
inductive wF (vs:List V) (H:Hp) (Q:VK) (EE:XK):Prop
|mk (l:c8) (xs:List V) (B:Nat) (h0':vs=[.ref l]) (h1':H l=some (.lst xs)) (h2':xs.length<=500) (h3':0<B) (h4':B<2^400) (h5':(∀x∈xs,Md B H x)) (h6':∀(p:c8)(H':Hp)(ts:List Int),H p=none->aJ H H'->ts.length=xs.length->H' p=some (.lst (ts.map V.int))->Q (.ref p) H'):wF vs H Q EE
def FK:Sp:=fun vs H Q EE=>wF vs H Q EE
inductive oB (K:v9) (vs:List V) (H:Hp) (Q:VK) (EE:XK):Prop
|mk (l l2:c8) (xs ys:List V) (B:Nat) (h0':vs=[.ref l,.ref l2]) (h1':H l=some (.lst xs)) (h2':H l2=some (.lst ys)) (h3':xs.length=ys.length) (h4':xs.length<=500) (h5':0<B) (h6':B<2^400) (h7':(∀x∈xs,Md B H x)) (h8':LT H) (h9':∀(p:c8)(H':Hp)(zs:List V),H p=none->Kp tT H H'->LT H'->zs.Perm ys->H' p=some (.lst zs)->Q (.ref p) H'):oB K vs H Q EE
def rM(K:v9):Sp:=fun vs H Q EE=>oB K vs H Q EE
inductive AD (w:y6) (vs:List V) (H:Hp) (Q:VK) (EE:XK):Prop
|mk (l:c8) (n:List eO) (U:List Str) (h0':vs=[.ref l]) (h1':LQ nE H l (kn n)) (h2':n.length<=120) (h3':U.length<=200) (h4':(∀x∈names n,x∈U)) (h5':∀p H' (ys:List Str),H p=none->aJ H H'->H' p=some (.lst (ys.map V.str))->ys.Nodup->(∀x,x∈ys↔x∈names n)->Q (.ref p) H'):AD w vs H Q EE
def MD(w:y6):Sp:=fun vs H Q EE=>AD w vs H Q EE
inductive MX (vs:List V) (H:Hp) (Q:VK) (EE:XK):Prop
|mk (l:c8) (net:List (jV aR)) (h0':vs=[.ref l]) (h1':LQ nE H l net) (h2':net.length<=120) (h3':∀d H',H d=none->aJ H H'->Eb H' d net->Q (.ref d) H'):MX vs H Q EE
def Fd:Sp:=fun vs H Q EE=>MX vs H Q EE
inductive ML (vs:List V) (H:Hp) (Q:VK) (EE:XK):Prop
|mk (l:c8) (ds:List (aR×Rat)) (h0':vs=[.ref l]) (h1':LQ vY H l ds) (h2':ds.length<=500) (h3':(∀x∈ds,Sz 8000 x.2)) (h4':∀d H',H d=none->aJ H H'->DQ cI H' d (lst ds)->Q (.ref d) H'):ML vs H Q EE
def Ew:Sp:=fun vs H Q EE=>ML vs H Q EE
def WJ(tm:AL aR Rat)(k:Int)(t:Rat):Bool:=match bG tm (i5 k) with|none=>false|some u=>decide (u<t)
inductive ME (vs:List V) (H:Hp) (Q:VK) (EE:XK):Prop
|mk (d:c8) (tm:AL aR Rat) (k:Int) (v:V) (t:Rat) (h0':vs=[.ref d,.int k,v]) (h1':DQ cI H d tm) (h2':cI H v t) (h3':(∀x∈tm,Sz 8000 x.2)) (h4':Sz 8000 t) (h5':Q (.bl (WJ tm k t)) H):ME vs H Q EE
def Et:Sp:=fun vs H Q EE=>ME vs H Q EE
inductive MU (vs:List V) (H:Hp) (Q:VK) (EE:XK):Prop
|mk (a:c8) (W:AL aR (nW aR)) (h0':vs=[.ref a]) (h1':DQ jW H a W) (h2':(W.map (·.1)).Nodup) (h3':(∀x∈W,Sz 8000 x.2.1)) (h4':W≠[]) (h5':∀p e,(p,e)∈W->(∀w∈W,e.1<=w.2.1)->Q (kV p) H):MU vs H Q EE
def Fa:Sp:=fun vs H Q EE=>MU vs H Q EE
def dC(ts:List (aR×Rat)):Nat->Option Rat:=fun k=>bG (lst ts) (i5 (k:Int))
inductive FoI (l lp:c8) (vt:V) (dB dT dP dW dF:c8) (p:aR) (H0 H3:Hp) (kF:List (aR×V)) (E:AL aR (nW aR)) (J:AL aR (nW aR)->Prop) (B:Rat->Prop) (σ:St) (G:Hp):Prop
|mk (W':AL aR (nW aR)) (kW':List (aR×V)) (o9 o10 o11:Option V) (e:σ=[some (.ref l),some (.ref lp),some vt,some (.ref dB),some (.ref dT),some (.ref dP),some (.ref dW),some (.ref dF),some (kV p),o9,o10,o11]) (k0:pU dW dF H0 G) (k3:pU dW dF H3 G) (gW:G dW=some (.dK kW')) (qW:KQ jW G kW' W') (gF:G dF=some (.dK kF)) (qF:KQ jW G kF E) (I:J W') (b:∀x∈W',B x.2.1)
inductive MS (vs:List V) (H:Hp) (Q:VK) (EE:XK):Prop
|mk (l:c8) (net:List (jV aR)) (lp:c8) (ps:List (aR×Rat)) (vt:V) (ts:List (aR×Rat)) (D M:Nat) (h0':vs=[.ref l,.ref lp,vt]) (h1':tJ H l net D M) (h2':SI H lp ps D M) (h3':SH H vt ts) (h4':IX D M) (h5':∀d H' F,H d=none->aJ H H'->DQ jW H' d F->IY net (bG (lst ps)) (dC ts) F->F.length<=ps.length+2*net.length->(∀x∈F,Bd D (M*1000) x.2.1)->Q (.ref d) H'):MS vs H Q EE
def Ey:Sp:=fun vs H Q EE=>MS vs H Q EE
inductive UB (w:y6) (vs:List V) (H:Hp) (Q:VK) (EE:XK):Prop
|mk (l:c8) (n:List eO) (lp:c8) (ps:List (aR×Rat)) (vt:V) (ts:List (aR×Rat)) (D M:Nat) (U:List Str) (h0':vs=[.ref l,.ref lp,vt]) (h1':tJ H l (kn n) D M) (h2':SI H lp ps D M) (h3':SH H vt ts) (h4':IX D M) (h5':U.length<=200) (h6':(∀x∈names n,x∈U)) (h7':∀d H' F (ys:List Str),H d=none->aJ H H'->DQ fM H' d (ys.map fun y=>(c9 y,gY F (c9 y)))->IY (kn n) (bG (lst ps)) (dC ts) F->(∀x∈F,Bd D (M*1000) x.2.1)->ys.Nodup->(∀x,x∈ys↔x∈names n)->Q (.ref d) H'):UB w vs H Q EE
def Nm(w:y6):Sp:=fun vs H Q EE=>UB w vs H Q EE
structure nR(D M:Nat):Prop where
 ne:D≠0
 d3:D<2^300
 m:M*1000*D<2^400
theorem Ud:2^400<=2^8000:=W1 (by decide) (by decide)
theorem nR.d{D M:Nat}(R:nR D M):D<2^400:=i7 R.d3 (W1 (by decide) (by decide))
theorem nR.r8{D M:Nat}(R:nR D M):IX D M:={R.ne,i7 R.d Ud,i7 R.m Ud}
theorem nR.sz{D M:Nat}{q:Rat}(R:nR D M)(h:Bd D (M*1000) q):Sz 400 q:=h.sz R.ne R.d R.m
structure dA(H:Hp)(ln lp lt:c8)(n:List eO)(ps ts:List (aR×Rat))(D M:Nat)(U:List Str):Prop where
 nq:tJ H ln (kn n) D M
 pq:SI H lp ps D M
 tq:LQ vY H lt ts
 tl:ts.length<=100
 tz:∀r∈ts,Sz 400 r.2
 R:nR D M
 u2:U.length<=200
 nm:∀x∈names n,x∈U
 n1:ln≠lp
 n2:ln≠lt
 n3:lp≠lt
theorem dA.mv{H H':Hp}{ln f m:c8}{n:List eO}{ps o:List (aR×Rat)}{D M:Nat}{U:List Str}(h:dA H ln f m n ps o D M U)(e:∀l xs,H l=some (.lst xs)->H' l=some (.lst xs))(t:TK H H'):dA H' ln f m n ps o D M U:=
 have g:∀{s:Type}{R:Hp->V->s->Prop}{l:c8}{c:List s},LQ R H l c->(∀ {H H' v b},R H v b->TK H H'->R H' v b)->LQ R H' l c:=fun ⟨k,a,b⟩ w=>{k,e _ _ a,Pd.imp b fun v b q=>w q t}
 {{g h.nq.lq nE.tk,h.nq.len,h.nq.bd,h.nq.pos},{g h.pq.lq vY.tk,h.pq.len,h.pq.bd},g h.tq vY.tk,h.tl,h.tz,h.R,h.u2,h.nm,h.n1,h.n2,h.n3}
theorem dA.sm{H H':Hp}{ln c f:c8}{n:List eO}{ps g:List (aR×Rat)}{D M:Nat}{U:List Str}(h:dA H ln c f n ps g D M U)(s:aJ H H'):dA H' ln c f n ps g D M U:=h.mv (fun _ _ z=>s _ _ z) s.tk
structure dJ(H:Hp)(dm:c8)(n:List eO)(ps ts:List (aR×Rat))(D M:Nat)(mo:aR->Option Rat)(ys:List Str):Prop where
 dq:DQ fM H dm (ys.map fun y=>(c9 y,mo (c9 y)))
 fal:pE (kn n) (bG (lst ps)) (dC ts) mo
 bd:∀k q,mo k=some q->Bd D (M*1000) q
 nd:ys.Nodup
 mem:∀x,x∈ys↔x∈names n
theorem dJ.mv{H H':Hp}{c:c8}{n:List eO}{ps f:List (aR×Rat)}{D M:Nat}{mo:aR->Option Rat}{ys:List Str}(h:dJ H c n ps f D M mo ys)(e:∀o,H c=some o->H' c=some o)(t:TK H H'):dJ H' c n ps f D M mo ys:={DQ.mv h.dq fM.tk e t,h.fal,h.bd,h.nd,h.mem}
theorem dJ.of{H:Hp}{f:c8}{n:List eO}{ps g:List (aR×Rat)}{D M:Nat}{F:AL aR (nW aR)}{ys:List Str}(o:DQ fM H f (ys.map fun y=>(c9 y,gY F (c9 y))))(t:IY (kn n) (bG (lst ps)) (dC g) F)(m:∀x∈F,Bd D (M*1000) x.2.1)(w:ys.Nodup)(c:∀x,x∈ys↔x∈names n):dJ H f n ps g D M (gY F) ys:=
 {o,t.falls,fun k q e=>by
  unfold gY at e;rw[A8]at e;obtain ⟨x,s,rfl⟩:=e;exact m _ (cQ s),w,c}
theorem dJ.get{H:Hp}{o:c8}{n:List eO}{ps E:List (aR×Rat)}{D M:Nat}{mo:aR->Option Rat}{ys:List Str}{m:List (aR×V)}(h:dJ H o n ps E D M mo ys)(e:H o=some (.dK m)):∀y,(y∈names n/\∃v,bP m (c9 y)=some v/\fM H v (mo (c9 y)))∨(y∉names n/\bP m (c9 y)=none):=fun y=>by
 obtain ⟨A,g,C⟩:=h.dq;cases g.symm.trans e;have B:((ys.map fun y=>((c9 y:aR),mo (c9 y))).map (·.1)).Nodup:=by rw[W4];exact gn.mpr (h.nd.imp fun h e=>h (fj e))
 rcases C.val (k:=c9 y) with ⟨c,f⟩|⟨G,I,c,f,s⟩
 ·refine .inr {fun t=>?_,c};exact iM f _ (u8.mpr {y,(h.mem y).mpr t,rfl})
 ·obtain ⟨z,w,q⟩:=u8.mp (cQ f);cases q;exact .inl {(h.mem y).mp w,G,c,s}
theorem XZ{ln c f d:c8}{g:V}{m:c8}:gN "moments" (.ref d) (cF ln c f g m)=cF ln c f g d:=rfl
theorem YA{ln f g:c8}{m v:V}{c:c8}:gN "moment" v (cF ln f g m c)=cF ln f g v c:=rfl
theorem DB{c:Type}{R:V->c->Prop}:∀{xs:List V}{ds:List c},Paired R xs ds->∀{i:Nat}{d:c},ds[i]?=some d->∃x,xs[i]?=some x/\R x d
|_,_,.nil,i,d,h=>by cases h
|_,_,.cons r t,0,d,h=>by cases h;exact {_,rfl,r}
|_,_,.cons r t,i+1,d,h=>DB t h
inductive MC (vs:List V) (H:Hp) (Q:VK) (EE:XK):Prop
|mk (vf vT vm:V) (o:Option Rat) (T m:Rat) (h0':vs=[vf,vT,vm]) (h1':fM H vf o) (h2':cI H vT T) (h3':cI H vm m) (h4':T≠0) (h5':Sz 400 T) (h6':Sz 400 m) (h7':(∀f,o=some f->Sz 400 f)) (h8':∀v H',cI H' v (GN o T m)->aJ H H'->Q v H'):MC vs H Q EE
def Es:Sp:=fun vs H Q EE=>MC vs H Q EE
inductive FQ (vs:List V) (H:Hp) (Q:VK) (EE:XK):Prop
|mk (pr d:c8) (vt vm:V) (a b:Str) (u:V) (T m:Rat) (kd:List (aR×V)) (oa ob tk:Option Rat) (va vb:V) (h0':vs=[.ref pr,.ref d,vt,vm]) (h1':H pr=some (.tup [.str a,.str b,u])) (h2':cI H u T) (h3':H d=some (.dK kd)) (h4':bP kd (c9 a)=some va) (h5':fM H va oa) (h6':bP kd (c9 b)=some vb) (h7':fM H vb ob) (h8':fM H vt tk) (h9':cI H vm m) (h10':T≠0) (h11':Sz 400 T) (h12':Sz 400 m) (h13':(∀f,oa=some f->Sz 400 f)) (h14':(∀f,ob=some f->Sz 400 f)) (h15':(∀f,tk=some f->Sz 400 f)) (h16':∀v H',iY H' v (CF oa ob tk T m)->aJ H H'->Q v H'):FQ vs H Q EE
def TV:Sp:=fun vs H Q EE=>FQ vs H Q EE
theorem UN{o:Option Rat}{T m:Rat}(g:T≠0)(q:Sz 400 T)(s:Sz 400 m)(t:∀f,o=some f->Sz 400 f):Sz 1300 (GN o T m):=by
 have c:Sz 1300 0:={pow_pos (by decide),Nat.one_lt_two_pow (by decide)}
 cases o with
|none=>exact c
|some f=>
  show Sz 1300 (if m<f then 0 else (m-f)/T);split
  ·exact c
  ·exact (Sz.div (Sz.sub s (t f rfl)) q g).mono (by decide)
inductive MB (vs:List V) (H:Hp) (Q:VK) (EE:XK):Prop
|mk (vf vT vb:V) (o:Option Rat) (T:Rat) (p:Option Rat) (h0':vs=[vf,vT,vb]) (h1':fM H vf o) (h2':cI H vT T) (h3':fM H vb p) (h4':Sz 400 T) (h5':(∀f,o=some f->Sz 400 f)) (h6':(∀f,p=some f->Sz 400 f)) (h7':∀H',aJ H H'->Q (.bl (Nj o T p)) H'):MB vs H Q EE
def Er:Sp:=fun vs H Q EE=>MB vs H Q EE
inductive MT (vs:List V) (H:Hp) (Q:VK) (EE:XK):Prop
|mk (pr d:c8) (a b:Str) (u:V) (T:Rat) (kd:List (aR×V)) (oa ob:Option Rat) (va vb:V) (h0':vs=[.ref pr,.ref d]) (h1':H pr=some (.tup [.str a,.str b,u])) (h2':cI H u T) (h3':H d=some (.dK kd)) (h4':bP kd (c9 a)=some va) (h5':fM H va oa) (h6':bP kd (c9 b)=some vb) (h7':fM H vb ob) (h8':0<T) (h9':Sz 400 T) (h10':(∀f,oa=some f->Sz 400 f)) (h11':(∀f,ob=some f->Sz 400 f)) (h12':∀v H',ZK H' v (zK a b oa ob T)->aJ H H'->Q v H'):MT vs H Q EE
def Ez:Sp:=fun vs H Q EE=>MT vs H Q EE
inductive MK (vs:List V) (H:Hp) (Q:VK) (EE:XK):Prop
|mk (v:V) (e:rF) (h0':vs=[v]) (h1':ZK H v e) (h2':∀u,fM H u (yJ e)->Q u H):MK vs H Q EE
def Ev:Sp:=fun vs H Q EE=>MK vs H Q EE
theorem YK{a b:Str}{m q:Option Rat}{T:Rat}(g:Sz 400 T)(s:∀f,m=some f->Sz 400 f)(w:∀f,q=some f->Sz 400 f):∀t,yJ (zK a b m q T)=some t->Sz 2000 t:=by
 have c:∀{o:Option Rat},(∀f,o=some f->Sz 400 f)->Sz 400 (o.getD 0):=fun {o} h=>by
  cases o with
 |none=>exact {pow_pos (by decide),Nat.one_lt_two_pow (by decide)}
 |some f=>exact h f rfl
 have A:Sz 10 (1/2:Rat):={by k_is,by k_is}
 intro t;unfold zK;split
 ·intro z;cases z
 ·split
  ·intro z;cases z;exact (Sz.add (c s) g).mono (by decide)
  ·split
   ·intro z;cases z;exact (Sz.add (c w) g).mono (by decide)
   ·intro z;cases z;exact (Sz.mul (Sz.add (Sz.add (c s) (c w)) g) A).mono (by decide)
inductive GD (vs:List V) (H:Hp) (Q:VK) (EE:XK):Prop
|mk (pr d:c8) (vt:V) (a b:Str) (u:V) (T:Rat) (kd:List (aR×V)) (oa ob tk:Option Rat) (va vb:V) (h0':vs=[.ref pr,.ref d,vt]) (h1':H pr=some (.tup [.str a,.str b,u])) (h2':cI H u T) (h3':H d=some (.dK kd)) (h4':bP kd (c9 a)=some va) (h5':fM H va oa) (h6':bP kd (c9 b)=some vb) (h7':fM H vb ob) (h8':fM H vt tk) (h9':0<T) (h10':Sz 400 T) (h11':(∀f,oa=some f->Sz 400 f)) (h12':(∀f,ob=some f->Sz 400 f)) (h13':(∀f,tk=some f->Sz 400 f)) (h14':∀v H',ZK H' v (Dh (zK a b oa ob T) tk)->aJ H H'->Q v H'):GD vs H Q EE
def UC:Sp:=fun vs H Q EE=>GD vs H Q EE
inductive GH (K:v9) (vs:List V) (H:Hp) (Q:VK) (EE:XK):Prop
|mk (a:c8) (ns:List Int) (k:Int) (h0':vs=[.ref a,.int k]) (h1':cU K H a (ns.map V.int)) (h2':0<=k) (h3':∀r,Q (.int r) H):GH K vs H Q EE
def UH(K:v9):Sp:=fun vs H Q EE=>GH K vs H Q EE
inductive uK (vs:List V) (H:Hp) (Q:VK) (EE:XK):Prop
|mk (c k:Int) (h0':vs=[.int c,.int k]) (h1':0<=k) (h2':k<=1000) (h3':∀r,Q (.int r) H):uK vs H Q EE
def AH:Sp:=fun vs H Q EE=>uK vs H Q EE
inductive AF (K:v9) (vs:List V) (H:Hp) (Q:VK) (EE:XK):Prop
|mk (a:c8) (ns:List Int) (k:Int) (h0':vs=[.ref a,.int k]) (h1':cU K H a (ns.map V.int)) (h2':0<=k) (h3':k<=1000) (h4':∀r,Q (.int r) H):AF K vs H Q EE
def MF(K:v9):Sp:=fun vs H Q EE=>AF K vs H Q EE
inductive wM (vs:List V) (H:Hp) (Q:VK) (EE:XK):Prop
|mk (t b:Int) (h0':vs=[.int t,.int b]) (h1':0<b) (h2':Sm 8000 t) (h3':Sm 8000 b) (h4':∀p,H p=none->Q (.ref p) (upd H p (.tup [.int (eY t b),.int (fB t b)]))):wM vs H Q EE
def FW:Sp:=fun vs H Q EE=>wM vs H Q EE
theorem at6:∀i:Int,0<=i->i<6->∃t:Str,vD [V.str "",V.str ".x",V.str ".ab.c",V.str ".zzzzzzzz.y.a",V.str "",V.str ""] i=some (.str t)/\t.length<=20/\((cl t).length=0∨(cl t).length=2∨(cl t).length=5∨(cl t).length=13)/\Tp (cl t):=by
 intro i c f;have:i=0∨i=1∨i=2∨i=3∨i=4∨i=5:=by lia
 rcases this with rfl|rfl|rfl|rfl|rfl|rfl <;> exact {_,rfl,by k_is,by k_is,by unfold Tp;decide +kernel}
inductive uJ (vs:List V) (H:Hp) (Q:VK) (EE:XK):Prop
|mk (c:Int) (h0':vs=[.int c]) (h1':∀l H' (U:List Str),H l=none->aJ H H'->H' l=some (.lst (U.map V.str))->2<=U.length->U.length<=8->U.Nodup->(∀x∈U,Nq x)->(∀x∈U,Dy x)->Q (.ref l) H'):uJ vs H Q EE
def AE:Sp:=fun vs H Q EE=>uJ vs H Q EE
theorem Rs{x0 x1 x2 x3:Int}(P:Int->Prop)(h0:P x0)(c:P x1)(f:P x2)(g:P x3)(i:Int)(l:0<=i)(u:i<4):∃t:Int,vD [V.int x0,V.int x1,V.int x2,V.int x3] i=some (.int t)/\P t:=by
 have:i=0∨i=1∨i=2∨i=3:=by lia
 rcases this with rfl|rfl|rfl|rfl
 ·exact {_,rfl,h0}
 ·exact {_,rfl,c}
 ·exact {_,rfl,f}
 ·exact {_,rfl,g}
inductive wH (vs:List V) (H:Hp) (Q:VK) (EE:XK):Prop
|mk (c:Int) (h0':vs=[.int c]) (h1':∀r H',aJ H H'->1<=r->r<=10^31->Q (.int r) H'):wH vs H Q EE
def FN:Sp:=fun vs H Q EE=>wH vs H Q EE
inductive AK (vs:List V) (H:Hp) (Q:VK) (EE:XK):Prop
|mk (dd:c8) (U:List Str) (u:Int) (rs:List (Int×Int×Int)) (ps ts:List (Int×Int)) (ln lr lp lt:c8) (c:Int) (h0':vs=[.ref dd,.int c,.int 36]) (h1':fN H dd U u rs ps ts ln lr lp lt) (h2':2<=U.length) (h3':U.length<=8) (h4':rs.length<=20) (h5':ln≠lr) (h6':ln≠lp) (h7':ln≠lt) (h8':lr≠lp) (h9':lr≠lt) (h10':∀H' (i:Nat) (rs':List (Int×Int×Int)),Kq ln lr H H'->i<=90->fN H' dd (grown U i) u (rs++rs') ps ts ln lr lp lt->rs'.length<=90->(∀r∈rs',0<=r.1/\r.1<U.length+i/\0<=r.2.1/\r.2.1<U.length+i/\1<=r.2.2/\r.2.2<=10^31)->Q .non H'):AK vs H Q EE
def MQ:Sp:=fun vs H Q EE=>AK vs H Q EE
inductive wP (K:v9) (vs:List V) (H:Hp) (Q:VK) (EE:XK):Prop
|mk (a:c8) (ns:List Int) (h0':vs=[.ref a,.int 23,.int 36]) (h1':cU K H a (ns.map V.int)) (h2':ns.length<=63) (h3':∀dd H' U u rs ps ts ln lr lp lt,H dd=none->aJ H H'->kL U u rs ps ts->fN H' dd U u rs ps ts ln lr lp lt->H' dd=some (.dK (cP ln u lr lp lt))->Q (.ref dd) H'):wP K vs H Q EE
def GA(K:v9):Sp:=fun vs H Q EE=>wP K vs H Q EE
structure kM(H H':Hp)(dd:c8)(U:List Str)(u:Int)(rs:List (Int×Int×Int))(ps ts:List (Int×Int))(ln lr lp lt:c8)(m:Nat):Prop where
 i:Rl U u rs ps ts m
 q:fN H' dd U u rs ps ts ln lr lp lt
 s:aJ H H'
 f1:H lr=none
 f2:H lp=none
 f3:H lt=none
 n1:lr≠lp
 n2:lr≠lt
 n3:lp≠lt
 m:1<=m->rs≠[]
 d0:H' dd=some (.dK (cP ln u lr lp lt))
theorem CI{c:Type}{P:c->Prop}{l:List c}{x:c}(h:∀r∈l,P r)(g:P x):∀r∈l++[x],P r:=fun r f=>(w8.mp f).elim (h r) fun z=>by rw[i4.mp z];exact g
theorem DM{c:Type}{R:Hp->V->c->Prop}{G:Hp}{l:c8}{vs:List V}{ds:List c}{v:V}{b:c}(g:∀ {H H' v b},R H v b->TK H H'->R H' v b)(h:G l=some (.lst vs))(p:Paired (R G) vs ds)(r:R G v b):LQ R (upd G l (.lst (vs++[v]))) l (ds++[b]):=
 {_,aC,Pd.snoc (Pd.imp p fun v b f=>g f (TK.lst h)) (g r (TK.lst h))}
theorem uA{g:Type}{R:Hp->V->g->Prop}{G:Hp}{l k:c8}{vs xs:List V}{ds:List g}(m:∀ {H H' v b},R H v b->TK H H'->R H' v b)(h:G k=some (.lst vs))(c:l≠k)(q:LQ R G l ds):LQ R (upd G k (.lst xs)) l ds:=
 let ⟨o,e,p⟩:=q;{o,aY c e,Pd.imp p fun v b f=>m f (TK.lst h)}
section
variable {H G:Hp}{dd:c8}{U:List Str}{u:Int}{rs:List (Int×Int×Int)}{ps ts:List (Int×Int)}{ln lr lp lt:c8}{m:Nat}
theorem kM.sm{c:Hp}(h:kM H G dd U u rs ps ts ln lr lp lt m)(s:aJ G c):kM H c dd U u rs ps ts ln lr lp lt m:={h.i,h.q.sm s,h.s.trans s,h.f1,h.f2,h.f3,h.n1,h.n2,h.n3,h.m,s _ _ h.d0}
theorem uR{p q:c8}{kv:List (aR×V)}{xs:List V}(c:G p=some (.dK kv))(f:G q=some (.lst xs)):p≠q:=fun e=>by rw[e,f]at c;cases c
theorem kM.run{vs:List V}{p:c8}{x:Int×Int×Int}(h:kM H G dd U u rs ps ts ln lr lp lt m)(c:G lr=some (.lst vs))(pv:Paired (jU G) vs rs)(g:jU G (.ref p) x)(ok:0<=x.1/\x.1<U.length/\0<=x.2.1/\x.2.1<U.length/\1<=x.2.2/\x.2.2<=10^31)(f:ln≠lr):kM H (upd G lr (.lst (vs++[.ref p]))) dd U u (rs++[x]) ps ts ln lr lp lt (m+1):=
  {{h.i.u0,h.i.u1,h.i.n2,h.i.n8,CI h.i.rok ok,h.i.pok,h.i.tok,by have:=h.i.len;rw[q4];show _+1+_+_<=_;lia},
   {{_,aY (uR h.q.d c) h.q.d},aY f h.q.nm,DM jU.tk c pv g,uA fQ.tk c (q7 h.n1) h.q.pq,uA fQ.tk c (q7 h.n2) h.q.tq},
   Kp.upd.sm h.s h.f1,h.f1,h.f2,h.f3,h.n1,h.n2,h.n3,(fun _ z=>by simp at z),aY (uR h.q.d c) h.d0}
theorem kM.pus{vs:List V}{p:c8}{x:Int×Int}(h:kM H G dd U u rs ps ts ln lr lp lt m)(c:G lp=some (.lst vs))(pv:Paired (fQ G) vs ps)(o:fQ G (.ref p) x)(ok:0<=x.1/\x.1<U.length/\0<=x.2/\x.2<=10^105)(f:ln≠lp)(g:rs≠[]):kM H (upd G lp (.lst (vs++[.ref p]))) dd U u rs (ps++[x]) ts ln lr lp lt (m+1):=
  {{h.i.u0,h.i.u1,h.i.n2,h.i.n8,h.i.rok,CI h.i.pok ok,h.i.tok,by have:=h.i.len;rw[q4];show _+(_+1)+_<=_;lia},
   {{_,aY (uR h.q.d c) h.q.d},aY f h.q.nm,uA jU.tk c h.n1 h.q.rq,DM fQ.tk c pv o,uA fQ.tk c (q7 h.n3) h.q.tq},
   Kp.upd.sm h.s h.f2,h.f1,h.f2,h.f3,h.n1,h.n2,h.n3,(fun _=>g),aY (uR h.q.d c) h.d0}
theorem kM.tak{vs:List V}{p:c8}{x:Int×Int}(h:kM H G dd U u rs ps ts ln lr lp lt m)(c:G lt=some (.lst vs))(pv:Paired (fQ G) vs ts)(o:fQ G (.ref p) x)(ok:0<=x.1/\0<=x.2/\x.2<=10^105)(f:ln≠lt)(g:rs≠[]):kM H (upd G lt (.lst (vs++[.ref p]))) dd U u rs ps (ts++[x]) ln lr lp lt (m+1):=
  {{h.i.u0,h.i.u1,h.i.n2,h.i.n8,h.i.rok,h.i.pok,CI h.i.tok ok,by have:=h.i.len;rw[q4];show _+_+(_+1)<=_;lia},
   {{_,aY (uR h.q.d c) h.q.d},aY f h.q.nm,uA jU.tk c h.n2 h.q.rq,uA fQ.tk c h.n3 h.q.pq,DM fQ.tk c pv o},
   Kp.upd.sm h.s h.f3,h.f1,h.f2,h.f3,h.n1,h.n2,h.n3,(fun _=>g),aY (uR h.q.d c) h.d0}
end
inductive AG (vs:List V) (H:Hp) (Q:VK) (EE:XK):Prop
|mk (dd:c8) (U:List Str) (u:Int) (rs:List (Int×Int×Int)) (ps ts:List (Int×Int)) (ln lr lp lt:c8) (h0':vs=[.ref dd]) (h1':kL U u rs ps ts) (h2':fN H dd U u rs ps ts ln lr lp lt) (h3':∀p H',H p=none->aJ H H'->LQ nE H' p (kn (eM U u rs))->Q (.ref p) H'):AG vs H Q EE
def MJ:Sp:=fun vs H Q EE=>AG vs H Q EE
theorem Np{z:Int}(h0:0<=z)(c:z<=10^106):Sm 8000 z:=E3 (show z.natAbs<=10^106 by lia) (by decide)
inductive rN (vs:List V) (H:Hp) (Q:VK) (EE:XK):Prop
|mk (dd:c8) (U:List Str) (u:Int) (rs:List (Int×Int×Int)) (ps ts:List (Int×Int)) (ln lr lp lt:c8) (h0':vs=[.ref dd]) (h1':kL U u rs ps ts) (h2':fN H dd U u rs ps ts ln lr lp lt) (h3':∀p H',H p=none->aJ H H'->LQ fQ H' p (iH rs ps)->Q (.ref p) H'):rN vs H Q EE
def wJ:Sp:=fun vs H Q EE=>rN vs H Q EE
inductive AB (vs:List V) (H:Hp) (Q:VK) (EE:XK):Prop
|mk (dd:c8) (U:List Str) (u:Int) (rs:List (Int×Int×Int)) (ps ts:List (Int×Int)) (ln lr lp lt:c8) (h0':vs=[.ref dd]) (h1':kL U u rs ps ts) (h2':fN H dd U u rs ps ts ln lr lp lt) (h3':∀d H' (D:AL aR Int),H d=none->aJ H H'->DQ IQ H' d D->Lx u D (jE u ts)->(∀x∈D,0<=x.2/\x.2<=10^105)->Q (.ref d) H'):AB vs H Q EE
def MA:Sp:=fun vs H Q EE=>AB vs H Q EE
inductive DuK (dd dT d:c8) (U:List Str) (u:Int) (p:List (Int×Int)) (X:Hp) (i:Nat) (σ:St) (G:Hp):Prop
|mk (o2 o3:Option V) (D:AL aR Int) (e:σ=[some (.ref dd),some (.ref dT),some (.ref d),o2,o3,none,none,none,none,none,none,none,none,none]) (k:Kp d X G) (q:DQ IQ G d D) (t:mT U u D=bG (lst (oM U u (p.take i)))) (l:D.length<=i) (b:∀x∈D,0<=x.2/\x.2<=10^105) (n:(D.map (·.1)).Nodup) (y:∀x∈D,∃i:Nat,x.1=i5 (i:Int)/\i<U.length)
inductive Uu (dd dT d:c8) (X:Hp) (J:Bool->AL aR Int->Prop) (σ:St) (G:Hp):Prop
|mk (c:Bool) (D:AL aR Int) (o3 o4 o6 o7 o8 o9 o10 o11 o12 o13:Option V) (e:σ=[some (.ref dd),some (.ref dT),some (.ref d),o3,o4,some (.bl c),o6,o7,o8,o9,o10,o11,o12,o13]) (k:Kp d X G) (q:DQ IQ G d D) (j:J c D)
inductive DuM (dd dT d:c8) (k:Int) (r:Int×Int×Int) (X:Hp) (J:Bool->AL aR Int->Prop) (σ:St) (G:Hp):Prop
|mk (c:Bool) (D:AL aR Int) (o3 o4 o6 o11 o12 o13:Option V) (e:σ=[some (.ref dd),some (.ref dT),some (.ref d),o3,o4,some (.bl c),o6,some (.int k),some (.int r.1),some (.int r.2.1),some (.int r.2.2),o11,o12,o13]) (kp:Kp d X G) (q:DQ IQ G d D) (j:J c D)
inductive MV (vs:List V) (H:Hp) (Q:VK) (EE:XK):Prop
|mk (dd:c8) (U:List Str) (u:Int) (rs:List (Int×Int×Int)) (ps ts:List (Int×Int)) (ln lr lp lt:c8) (h0':vs=[.ref dd]) (h1':kL U u rs ps ts) (h2':fN H dd U u rs ps ts ln lr lp lt) (h3':∀d H' (D:AL aR Int),H d=none->aJ H H'->DQ IQ H' d D->zO U u rs (oM U u (iH rs ps)) (dC (jE u ts)) D->pE (kn (eM U u rs)) (bG (lst (oM U u (iH rs ps)))) (dC (jE u ts)) (mT U u D)->Q (.ref d) H'):MV vs H Q EE
def Fb:Sp:=fun vs H Q EE=>MV vs H Q EE
theorem Hd{u:Int}{T:AL aR Int}{c:List (aR×Rat)}(h:Lx u T c)(k:Nat):dC c k=(bG T (i5 (k:Int))).map (ut u):=(h k).symm
theorem OM{u:Int}(f:0<u){T:AL aR Int}{g:List (aR×Rat)}(h:Lx u T g)(k:Nat)(c:Int):eN (dC g) k (ut u c)↔c<=(bG T (i5 (k:Int))).getD c:=by
 unfold eN dC;rw[←h];cases bG T (i5 (k:Int)) with
|none=>exact {fun _=>qi _,fun _ w e=>nomatch e}
|some w=>exact {fun z=>(FD f).mp (z _ rfl),fun z v e=>by cases e;exact (FD f).mpr z}
inductive wN (vs:List V) (H:Hp) (Q:VK) (EE:XK):Prop
|mk (dd:c8) (U:List Str) (u:Int) (rs:List (Int×Int×Int)) (ps ts:List (Int×Int)) (ln lr lp lt:c8) (d:c8) (D:AL aR Int) (k:Nat) (r:Int×Int×Int) (m:Int) (h0':vs=[.ref dd,.ref d,.int (k:Int),.int m]) (h1':kL U u rs ps ts) (h2':fN H dd U u rs ps ts ln lr lp lt) (h3':DQ IQ H d D) (h4':zO U u rs (oM U u (iH rs ps)) (dC (jE u ts)) D) (h5':rs[k]?=some r) (h6':0<=m) (h7':m<=10^109) (h8':∀v H',aJ H H'->iY H' v (CF (mT U u D (c9 (fE U r.1))) (mT U u D (c9 (fE U r.2.1))) (dC (jE u ts) k) (ut u r.2.2) (ut u m))->Q v H'):wN vs H Q EE
def FY:Sp:=fun vs H Q EE=>wN vs H Q EE
structure iB(H:Hp)(dd:c8)(U:List Str)(u:Int)(rs:List (Int×Int×Int))(ps ts:List (Int×Int))(ln lr lp lt:c8)(now:Int):Prop where
 d:H dd=some (.dK (cP ln u lr lp lt [(c9 "now",.int now)]))
 q:fN H dd U u rs ps ts ln lr lp lt
theorem iB.sm{H H':Hp}{dd:c8}{U:List Str}{u:Int}{o:List (Int×Int×Int)}{ps t:List (Int×Int)}{ln g f m:c8}{c:Int}(h:iB H dd U u o ps t ln g f m c)(s:aJ H H'):iB H' dd U u o ps t ln g f m c:={s _ _ h.d,h.q.sm s}
theorem fF{ln g f m:c8}{u c:Int}:bP (cP ln u g f m [(c9 "now",.int c)]) (c9 "now")=some (.int c):=by with_unfolding_all rfl
inductive wR (K:v9) (vs:List V) (H:Hp) (Q:VK) (EE:XK):Prop
|mk (a:c8) (ns:List Int) (h0':vs=[.ref a]) (h1':cU K H a (ns.map V.int)) (h2':ns.length<=63) (h3':∀dd H' U u rs ln lr lp lt,H dd=none->H lp=none->H lt=none->lp≠lt->ln≠lp->ln≠lt->lr≠lp->lr≠lt->aJ H H'->kL U u rs [] []->iB H' dd U u rs [] [] ln lr lp lt 0->Q (.ref dd) H'):wR K vs H Q EE
def GB(K:v9):Sp:=fun vs H Q EE=>wR K vs H Q EE
theorem YZ{c:Type}{l:AL aR c}{k:aR}{v:c}(h:bG l k=none):eS l k v=l++[(k,v)]:=by unfold eS;rw[if_neg];intro z;rw[Y0]at z;obtain ⟨x,g,e⟩:=z;have f:x.1=k:=of_decide_eq_true e;exact iM h x.2 (by rw[←f];exact g)
def fA(U:List Str)(u now:Int)(D:AL aR Int):List (aR×Rat):=(D.filter fun x=>decide (x.2<=now)).map fun x=>(match x.1 with|.inl i=>(c9 (fE U i),ut u x.2)|.inr s=>(c9 s,ut u x.2))
inductive rQ (vs:List V) (H:Hp) (Q:VK) (EE:XK):Prop
|mk (dd d:c8) (U:List Str) (u:Int) (rs:List (Int×Int×Int)) (ps ts:List (Int×Int)) (ln lr lp lt:c8) (now:Int) (D:AL aR Int) (h0':vs=[.ref dd,.ref d]) (h1':iB H dd U u rs ps ts ln lr lp lt now) (h2':DQ IQ H d D) (h3':dd≠d) (h4':U.Nodup) (h5':0<u) (h6':u<=10^12) (h7':(∀x∈D,∃i:Nat,x.1=i5 (i:Int)/\i<U.length)) (h8':(D.map (·.1)).Nodup) (h9':(∀x∈D,0<=x.2/\x.2<=10^108)) (h10':D.length<=200) (h11':∀p H',H p=none->aJ H H'->DQ cI H' p (fA U u now D)->Q (.ref p) H'):rQ vs H Q EE
def wU:Sp:=fun vs H Q EE=>rQ vs H Q EE
theorem WZ{H:Hp}{Q:VK}{l p:c8}{c:List Int}(f:H l=some (.lst (c.map V.int)))(g:H p=some (.lst []))(k:Q (.bl (!c.isEmpty)) H):JS (.ref l) (.ref p) H Q:=by refine WY (es:=[]) {l,_,rfl,f,BR _} {p,_,rfl,g,rfl} (A5 (BP _) (by decide)) ?_;cases c <;> exact k
theorem OO(is:List Nat):is.map (fun j:Nat=>V.int (j:Int))=(is.map (fun j:Nat=>(j:Int))).map V.int:=by rw[W4];rfl
theorem KD{H:Hp}{Q:VK}{l p:c8}{is:List Nat}(c:H l=some (.lst (is.map (fun j:Nat=>V.int (j:Int)))))(f:H p=some (.lst []))(k:Q (.bl (!is.isEmpty)) H):JS (.ref l) (.ref p) H Q:=by rw[OO]at c;refine WZ c f ?_;cases is <;> exact k
theorem JU{is:List Nat}{z:Int}(h:is≠[]):∃j∈is,vD (is.map (fun j:Nat=>V.int (j:Int))) (z%(is.length:Int))=some (.int (j:Int)):=by have g:0<is.length:=Q9.mpr h;obtain ⟨m,f,e⟩:=VZ (S:=is.map (fun j:Nat=>(j:Int))) (i:=z%(is.length:Int)) (n9 _ (by lia)) (by rw[i8];exact m8 _ (by lia));obtain ⟨j,c,rfl⟩:=u8.mp f;exact {j,c,by rw[OO];exact e}
inductive GF (vs:List V) (H:Hp) (Q:VK) (EE:XK):Prop
|mk (dd d:c8) (num:Int) (U:List Str) (u:Int) (rs:List (Int×Int×Int)) (ps ts:List (Int×Int)) (ln lr lp lt:c8) (now:Int) (D:AL aR Int) (h0':vs=[.ref dd,.ref d,.int num]) (h1':iB H dd U u rs ps ts ln lr lp lt now) (h2':kL U u rs ps ts) (h3':DQ IQ H d D) (h4':dd≠d) (h5':zO U u rs (oM U u (iH rs ps)) (dC (jE u ts)) D) (h6':0<=now) (h7':now<=10^108) (h8':∀p w x H',H p=none->aJ H H'->H' p=some (.tup [.str w,.int x])->((w="push"/\∃i:Nat,x=(i:Int)/\i<U.length/\(∃r∈rs,r.1=(i:Int)∨r.2.1=(i:Int))/\∀z,bG D (i5 (i:Int))=some z->now<z)∨(w="take"/\∃(k:Nat)(r:Int×Int×Int),x=(k:Int)/\rs[k]?=some r/\CF (mT U u D (c9 (fE U r.1))) (mT U u D (c9 (fE U r.2.1))) (dC (jE u ts) k) (ut u r.2.2) (ut u now)≠none)∨(w="go"/\0<=x/\((∃y∈D,now+x=y.2)∨x<=10^30)))->Q (.ref p) H'):GF vs H Q EE
def UF:Sp:=fun vs H Q EE=>GF vs H Q EE
inductive MW (vs:List V) (H:Hp) (Q:VK) (EE:XK):Prop
|mk (dd:c8) (U:List Str) (u:Int) (rs:List (Int×Int×Int)) (ps ts:List (Int×Int)) (ln lr lp lt:c8) (now:Int) (pd:c8) (w:Str) (x:Int) (h0':vs=[.ref dd,.ref pd]) (h1':iB H dd U u rs ps ts ln lr lp lt now) (h2':H pd=some (.tup [.str w,.int x])) (h3':ln≠lp) (h4':ln≠lt) (h5':lr≠lp) (h6':lr≠lt) (h7':lp≠lt) (h8':((w="push"/\ps.length<=100/\∀H',jT [dd,lp,lt] H H'->iB H' dd U u rs (ps++[(x,now)]) ts ln lr lp lt now->Q .non H')∨(w="take"/\ts.length<=100/\∀H',jT [dd,lp,lt] H H'->iB H' dd U u rs ps (ts++[(x,now)]) ln lr lp lt now->Q .non H')∨(w="go"/\∀H',jT [dd,lp,lt] H H'->iB H' dd U u rs ps ts ln lr lp lt (now+x)->Q .non H'))):MW vs H Q EE
def Fc:Sp:=fun vs H Q EE=>MW vs H Q EE
inductive GG (cC:c8) (vs:List V) (H:Hp) (Q:VK) (EE:XK):Prop
|mk (h dx ln lp lt:c8) (vm:V) (dm:c8) (v:V) (m:Rat) (o:Option Rat) (h0':vs=[.ref h,v]) (h1':H h=some (.ins cC dx (cF ln lp lt vm dm))) (h2':cI H vm m) (h3':fM H v o) (h4':Sz 8000 m) (h5':(∀q,o=some q->Sz 8000 q)) (h6':Q (.bl (IM m o)) H):GG cC vs H Q EE
def UG(cC:c8):Sp:=fun vs H Q EE=>GG cC vs H Q EE
def SN(B:Nat)(H:Hp)(v:V):Prop:=∃p s u dE,v=.ref p/\H p=some (.tup (.str s::u::dE))/\Md B H u
theorem SN.tk{B:Nat}{H H':Hp}{v:V}(h:SN B H v)(t:TK H H'):SN B H' v:=let ⟨p,s,u,r,a,b,c⟩:=h;{p,s,u,r,a,t _ _ b,c.tk t}
theorem Qt{D M:Nat}{q:Rat}(h:Bd D M q):q.den∣2*D:=dvd_trans h.1 {2,Nat.mul_comm ..}
inductive pW (cC:c8) (vs:List V) (H:Hp) (Q:VK) (EE:XK):Prop
|mk (h dx ln lp lt:c8) (vm:V) (dm:c8) (n:List eO) (ps ts:List (aR×Rat)) (D M:Nat) (U:List Str) (mo:aR->Option Rat) (ys:List Str) (h0':vs=[.ref h]) (h1':H h=some (.ins cC dx (cF ln lp lt vm dm))) (h2':dA H ln lp lt n ps ts D M U) (h3':dJ H dm n ps ts D M mo ys) (h4':∀p H' zs,H p=none->aJ H H'->H' p=some (.lst zs)->zs.length<=200->(∀z∈zs,SN (2*D) H' z)->Q (.ref p) H'):pW cC vs H Q EE
def uL(cC:c8):Sp:=fun vs H Q EE=>pW cC vs H Q EE
theorem YN{D:Nat}{q:Rat}(c:D≠0)(h:q.den∣D):(q*(1/2)).den∣2*D:=by
 obtain ⟨a,rfl⟩:=Jp h c;rw[show (1/2:Rat)=j7 1 2 by k_is,T6,xz];have e:((D:Int)*2)=((2*D:Nat):Int):=by push_cast;lia
 rw[e];exact Q6.mp (PB (by lia))
theorem De{D:Nat}{a b:Str}{B C:Option Rat}{T:Rat}(c:D≠0)(s:T.den∣D)(w:∀f,B=some f->f.den∣D)(A:∀f,C=some f->f.den∣D):∀t,yJ (zK a b B C T)=some t->t.den∣2*D:=by
 have m:∀{o:Option Rat},(∀f,o=some f->f.den∣D)->(o.getD 0).den∣D:=fun {o} h=>by
  cases o with
 |none=>exact Nat.one_dvd _
 |some f=>exact h f rfl
 have g:∀{q:Rat},q.den∣D->q.den∣2*D:=fun h=>dvd_trans h {2,Nat.mul_comm ..};intro t;unfold zK;split
 ·intro z;cases z
 ·split
  ·intro z;cases z;exact g (tE c (m w) s)
  ·split
   ·intro z;cases z;exact g (tE c (m A) s)
   ·intro z;cases z;exact YN c (tE c (tE c (m w) (m A)) s)
theorem Dg{e:rF}{tk:Option Rat}:(∃t,Dh e tk=.taken t)∨Dh e tk=e:=by
 unfold Dh;cases tk with
|none=>exact .inr rfl
|some u=>
  dsimp only;split
  ·exact .inl {_,rfl}
  ·exact .inr rfl
inductive rR (cC:c8) (vs:List V) (H:Hp) (Q:VK) (EE:XK):Prop
|mk (h dx ln lp lt:c8) (vm:V) (dm:c8) (n:List eO) (ps ts:List (aR×Rat)) (D M:Nat) (U:List Str) (mo:aR->Option Rat) (ys:List Str) (h0':vs=[.ref h]) (h1':H h=some (.ins cC dx (cF ln lp lt vm dm))) (h2':dA H ln lp lt n ps ts D M U) (h3':dJ H dm n ps ts D M mo ys) (h4':∀p H' zs,H p=none->aJ H H'->H' p=some (.lst zs)->zs.length<=200->(∀z∈zs,SN (2*D) H' z)->Q (.ref p) H'):rR cC vs H Q EE
def wV(cC:c8):Sp:=fun vs H Q EE=>rR cC vs H Q EE
inductive UA (K:v9) (cC x0:c8) (vs:List V) (H:Hp) (Q:VK) (E:XK):Prop
|mk (h dx ln lp lt:c8) (vm:V) (dm:c8) (v:V) (m:Rat) (n:List eO) (ps ts:List (aR×Rat)) (D M:Nat) (U:List Str) (mo:aR->Option Rat) (ys:List Str) (h0':vs=[.ref h,v]) (h1':H h=some (.ins cC dx (cF ln lp lt vm dm))) (h2':dA H ln lp lt n ps ts D M U) (h3':dJ H dm n ps ts D M mo ys) (h4':cI H vm m) (h5':Bd D M m) (h6':LT H) (h7':((vF K H v false/\E (.ref x0) none H)∨∃t:Rat,cI H v t/\0<=t.num/\Sz 2000 t/\Bd D M (m+t)/\∀w vm' H',jT [h,tT] H H'->LT H'->H' h=some (.ins cC dx (cF ln lp lt vm' dm))->cI H' vm' (m+t)->dA H' ln lp lt n ps ts D M U->dJ H' dm n ps ts D M mo ys->Q w H')):UA K cC x0 vs H Q E
def Nl(K:v9)(cC x0:c8):Sp:=fun vs H Q E=>UA K cC x0 vs H Q E
inductive wI (cC:c8) (vs:List V) (H:Hp) (Q:VK) (EE:XK):Prop
|mk (h dx ln lp lt:c8) (vm:V) (dm:c8) (n:List eO) (ps ts:List (aR×Rat)) (D M:Nat) (U:List Str) (h0':vs=[.ref h]) (h1':H h=some (.ins cC dx (cF ln lp lt vm dm))) (h2':dA H ln lp lt n ps ts D M U) (h3':∀d H' mo ys,H d=none->jT [h] H H'->H' h=some (.ins cC dx (cF ln lp lt vm d))->dJ H' d n ps ts D M mo ys->Q .non H'):wI cC vs H Q EE
def FR(cC:c8):Sp:=fun vs H Q EE=>wI cC vs H Q EE
def BX(K:v9)(H:Hp)(v:V)(c:Nat):Prop:=(∃t a b,nD K H v t/\i9 K t (.type "int")=some a/\i9 K t (.type "bool")=some b/\(a&&!b)=false)∨∃z:Int,v=.int z/\¬(0<=z/\z<c)
inductive AA (K:v9) (cC x:c8) (vs:List V) (H:Hp) (Q:VK) (E:XK):Prop
|mk (h dx ln lp lt:c8) (vm:V) (dm:c8) (v:V) (m:Rat) (n:List eO) (ps ts:List (aR×Rat)) (D M:Nat) (U:List Str) (mo:aR->Option Rat) (ys:List Str) (h0':vs=[.ref h,v]) (h1':H h=some (.ins cC dx (cF ln lp lt vm dm))) (h2':dA H ln lp lt n ps ts D M U) (h3':dJ H dm n ps ts D M mo ys) (h4':cI H vm m) (h5':Bd D M m) (h6':((BX K H v n.length/\E (.ref x) none H)∨∃(kk:Nat)(r:eO),v=.int (kk:Int)/\n[kk]?=some r/\∀w H',aJ H H'->iY H' w (CF (mo (c9 r.1)) (mo (c9 r.2.1)) (dC ts kk) r.2.2 m)->Q w H')):AA K cC x vs H Q E
def CH(K:v9)(cC x:c8):Sp:=fun vs H Q E=>AA K cC x vs H Q E
inductive FP (K:v9) (cC x8 x9:c8) (vs:List V) (H:Hp) (Q:VK) (E:XK):Prop
|mk (h dx ln lp lt:c8) (vm:V) (dm:c8) (v:V) (m:Rat) (n:List eO) (ps ts:List (aR×Rat)) (D M:Nat) (U:List Str) (mo:aR->Option Rat) (ys:List Str) (h0':vs=[.ref h,v]) (h1':H h=some (.ins cC dx (cF ln lp lt vm dm))) (h2':dA H ln lp lt n ps ts D M U) (h3':dJ H dm n ps ts D M mo ys) (h4':cI H vm m) (h5':Bd D M m) (h6':ts.length<100) (h7':((BX K H v n.length/\E (.ref x8) none H)∨∃(kk:Nat)(r:eO),v=.int (kk:Int)/\n[kk]?=some r/\((CF (mo (c9 r.1)) (mo (c9 r.2.1)) (dC ts kk) r.2.2 m=none/\∀H',aJ H H'->E (.ref x9) none H')∨(CF (mo (c9 r.1)) (mo (c9 r.2.1)) (dC ts kk) r.2.2 m≠none/\∀d H' mo' ys',H d=none->jT [h,lt] H H'->H' h=some (.ins cC dx (cF ln lp lt vm d))->dA H' ln lp lt n ps (ts++[(i5 (kk:Int),m)]) D M U->dJ H' d n ps (ts++[(i5 (kk:Int),m)]) D M mo' ys'->Q .non H')))):FP K cC x8 x9 vs H Q E
def TU(K:v9)(cC x8 x9:c8):Sp:=fun vs H Q E=>FP K cC x8 x9 vs H Q E
inductive wL (K:v9) (cC x:c8) (vs:List V) (H:Hp) (Q:VK) (E:XK):Prop
|mk (h dx ln lp lt:c8) (vm:V) (dm:c8) (v:V) (kd:List (aR×V)) (h0':vs=[.ref h,v]) (h1':H h=some (.ins cC dx (cF ln lp lt vm dm))) (h2':H dm=some (.dK kd)) (h3':((Dz K H v/\E (.ref x) none H)∨∃y:Str,v=.str y/\((bP kd (c9 y)=none/\E (.ref x) none H)∨(∃u,bP kd (c9 y)=some u/\Q .non H)))):wL K cC x vs H Q E
def FU(K:v9)(cC x:c8):Sp:=fun vs H Q E=>wL K cC x vs H Q E
inductive FS (K:v9) (cC x6 x7:c8) (vs:List V) (H:Hp) (Q:VK) (E:XK):Prop
|mk (h dx ln lp lt:c8) (vm:V) (dm:c8) (v:V) (m:Rat) (n:List eO) (ps ts:List (aR×Rat)) (D M:Nat) (U:List Str) (mo:aR->Option Rat) (ys:List Str) (h0':vs=[.ref h,v]) (h1':H h=some (.ins cC dx (cF ln lp lt vm dm))) (h2':dA H ln lp lt n ps ts D M U) (h3':dJ H dm n ps ts D M mo ys) (h4':cI H vm m) (h5':Bd D M m) (h6':ps.length<100) (h7':((Dz K H v/\E (.ref x6) none H)∨∃y:Str,v=.str y/\((y∉names n/\E (.ref x6) none H)∨(y∈names n/\IM m (mo (c9 y))=true/\E (.ref x7) none H)∨(y∈names n/\IM m (mo (c9 y))=false/\∀d H' mo' ys',H d=none->jT [h,lp] H H'->H' h=some (.ins cC dx (cF ln lp lt vm d))->dA H' ln lp lt n (ps++[(c9 y,m)]) ts D M U->dJ H' d n (ps++[(c9 y,m)]) ts D M mo' ys'->Q .non H')))):FS K cC x6 x7 vs H Q E
def TW(K:v9)(cC x6 x7:c8):Sp:=fun vs H Q E=>FS K cC x6 x7 vs H Q E
theorem Ki{t b:Int}(f:0<=t)(c:0<b):0<=(j7 t b).num:=by
 rw[(pN (t:=t) (show b≠0 by lia)).1];rcases Int.lt_or_eq_of_le f with h|h
 ·exact xg (XH h c)
 ·have:=DN (t:=t) (show b≠0 by lia);lia
inductive UD (K:v9) (cC:c8) (vs:List V) (H:Hp) (Q:VK) (EE:XK):Prop
|mk (h dd pd:c8) (w:Str) (xx:Int) (dx c4 cu cm:c8) (vm:V) (dm:c8) (m:Rat) (n:List eO) (ps ts:List (aR×Rat)) (D M:Nat) (U:List Str) (mo:aR->Option Rat) (ys:List Str) (u:Int) (rs:List (Int×Int×Int)) (ps' ts':List (Int×Int)) (ln lr lp lt:c8) (now:Int) (h0':vs=[.ref h,.ref dd,.ref pd]) (h1':H pd=some (.tup [.str w,.int xx])) (h2':H h=some (.ins cC dx (cF c4 cu cm vm dm))) (h3':dA H c4 cu cm n ps ts D M U) (h4':dJ H dm n ps ts D M mo ys) (h5':cI H vm m) (h6':Bd D M m) (h7':LT H) (h8':iB H dd U u rs ps' ts' ln lr lp lt now) (h9':0<u) (h10':u<=10^12) (h11':((w="push"/\ps.length<100/\∃(i:Nat)(y:Str),xx=(i:Int)/\U[i]?=some y/\y∈names n/\IM m (mo (c9 y))=false/\∀d H' mo' ys',H d=none->jT [h,cu] H H'->H' h=some (.ins cC dx (cF c4 cu cm vm d))->dA H' c4 cu cm n (ps++[(c9 y,m)]) ts D M U->dJ H' d n (ps++[(c9 y,m)]) ts D M mo' ys'->Q .non H')∨(w="take"/\ts.length<100/\∃(kk:Nat)(r:eO),xx=(kk:Int)/\n[kk]?=some r/\CF (mo (c9 r.1)) (mo (c9 r.2.1)) (dC ts kk) r.2.2 m≠none/\∀d H' mo' ys',H d=none->jT [h,cm] H H'->H' h=some (.ins cC dx (cF c4 cu cm vm d))->dA H' c4 cu cm n ps (ts++[(i5 (kk:Int),m)]) D M U->dJ H' d n ps (ts++[(i5 (kk:Int),m)]) D M mo' ys'->Q .non H')∨(w="go"/\0<=xx/\xx<=10^109/\Bd D M (m+ut u xx)/\∀v vm' H',jT [h,tT] H H'->LT H'->H' h=some (.ins cC dx (cF c4 cu cm vm' dm))->cI H' vm' (m+ut u xx)->dA H' c4 cu cm n ps ts D M U->dJ H' dm n ps ts D M mo ys->Q v H'))):UD K cC vs H Q EE
def Nn(K:v9)(cC:c8):Sp:=fun vs H Q EE=>UD K cC vs H Q EE
noncomputable def DV(i:Nat):List Bool:=[B0 7 i,B0 6 i,B0 9 i,B0 8 i,B0 0 i,true,false]
def AJ(K:v9)(xt x0 x1 x2 x3 x4 x5 x6 x7 x8 x9 x10 x11:c8):c8->Sp:=fun y vs H Q _=>∃(C:c8)(i:Nat),vs=[.ref y]/\(i=0∨i=6∨i=7∨i=8∨i=9)/\H y=some (IF y C)/\Xr K xt x0 x1 x2 x3 x4 x5 x6 x7 x8 x9 x10 x11 C i/\∀l H',H l=none->aJ H H'->H' l=some (.lst ((DV i).map V.bl))->Q (.ref l) H'
noncomputable def mW(i:Nat):Int:=if i=7 then 0 else if i=6 then 1 else if i=9 then 2 else if i=8 then 3 else 4
inductive wK (vs:List V) (H:Hp) (Q:VK) (EE:XK):Prop
|mk (i:Nat) (pl:Int) (h0':vs=[.int pl]) (h1':((i=0∨i=6∨i=7∨i=8∨i=9)/\pl=mW i)) (h2':∀l H',H l=none->aJ H H'->H' l=some (.lst ((DV i).map V.bl))->Q (.ref l) H'):wK vs H Q EE
def FT:Sp:=fun vs H Q EE=>wK vs H Q EE
theorem nN{c:TT}{t u:TX}{D:fR}{E:XK}{f:St}{H:Hp}(k:c f H fun b H1=>if b=true then t D E f H1 else u D E f H1):Tx c t u D E f H:=k
def ZC(K:v9)(H:Hp)(n:List eO)(ts:List (aR×Rat))(mo:aR->Option Rat)(m:Rat)(w:Str)(v:V)(i:Nat):Prop:=
 (w="push"/\i=6/\((∀H',aJ H H'->Dz K H' v)∨∃y:Str,v=.str y/\y∉names n))∨(w="push"/\i=7/\∃y:Str,v=.str y/\y∈names n/\IM m (mo (c9 y))=true) ∨
 (w="take"/\i=8/\∀H',aJ H H'->BX K H' v n.length)∨(w="take"/\i=9/\∃(kk:Nat)(r:eO),v=.int (kk:Int)/\n[kk]?=some r/\CF (mo (c9 r.1)) (mo (c9 r.2.1)) (dC ts kk) r.2.2 m=none) ∨
 (w="tiles"/\i=8/\∀H',aJ H H'->BX K H' v n.length)∨(w="go"/\i=0/\∀H',aJ H H'->vF K H' v false)
inductive AM (K:v9) (cC:c8) (vs:List V) (H:Hp) (Q:VK) (EE:XK):Prop
|mk (h pr dx ln lp lt:c8) (vm:V) (dm:c8) (w:Str) (v:V) (i:Nat) (m:Rat) (n:List eO) (ps ts:List (aR×Rat)) (D M:Nat) (U:List Str) (mo:aR->Option Rat) (ys:List Str) (h0':vs=[.ref h,.ref pr]) (h1':H pr=some (.tup [.str w,v])) (h2':H h=some (.ins cC dx (cF ln lp lt vm dm))) (h3':dA H ln lp lt n ps ts D M U) (h4':dJ H dm n ps ts D M mo ys) (h5':cI H vm m) (h6':Bd D M m) (h7':LT H) (h8':ps.length<100) (h9':ts.length<100) (h10':ZC K H n ts mo m w v i) (h11':∀l H',H l=none->aJ H H'->H' l=some (.lst ((DV i).map V.bl))->Q (.ref l) H'):AM K cC vs H Q EE
def MY(K:v9)(cC:c8):Sp:=fun vs H Q EE=>AM K cC vs H Q EE
theorem KG(U:List Str)(u:Int)(c:List (Int×Int×Int)):(eM U u c).length=c.length:=i8 ..
theorem Kf{U:List Str}{u:Int}{f:List (Int×Int×Int)}{ps o:List (Int×Int)}(c:kL U u f ps o):∀r∈eM U u f,0<r.2.2:=fun r g=>by obtain ⟨x,m,rfl⟩:=u8.mp g;have:=c.rok x m;exact Cp (by lia) c.u0
theorem xW{U:List Str}{u:Int}{f:List (Int×Int×Int)}{ps C:List (Int×Int)}(w:kL U u f ps C):∀x∈names (eM U u f),x∈U:=fun x c=>by
 have go:∀i:Int,0<=i->i<U.length->fE U i∈U:=fun i s t=>by obtain ⟨h,e⟩:=mQ s t;rw[e];exact K7 h
 unfold names eM at c;rcases w8.mp c with h|h
 all_goals
  obtain ⟨r,A,rfl⟩:=u8.mp h;obtain ⟨y,B,rfl⟩:=u8.mp A;obtain ⟨g,m,o,q,_⟩:=w.rok y B
  first|exact go _ g m|exact go _ o q
theorem LS{U:List Str}{u z:Int}{f:List (Int×Int×Int)}(h:z∈lB f):fE U z∈names (eM U u f):=by
 unfold names eM;rw[W4,W4];rcases w8.mp h with h|h
 ·obtain ⟨r,c,rfl⟩:=u8.mp h;exact D2 _ (u8.mpr {r,c,rfl})
 ·obtain ⟨r,c,rfl⟩:=u8.mp h;exact u9 _ (u8.mpr {r,c,rfl})
theorem YX{U:List Str}{u:Int}{c:List (Int×Int×Int)}{ps:List (Int×Int)}{tk:Nat->Option Rat}{s:Str}{t:Rat}(h:Ec (kn (eM U u c)) (bG (lst (oM U u (iH c ps)))) tk (c9 s) t):s∈names (eM U u c):=by
 cases h with
|push e=>
  obtain ⟨x,A,o⟩:=u8.mp (mS (cQ e));cases o;exact LS (of_decide_eq_true (V5.mp A).2)
|run _ w q _=>
  obtain ⟨f,g,rfl⟩:=XR w;have m:=o0 g;unfold names;rcases q with ⟨_,e⟩|⟨_,e⟩
  ·cases e;exact u9 _ (u8.mpr {f,m,rfl})
  ·cases e;exact D2 _ (u8.mpr {f,m,rfl})
theorem JQ{H:Hp}{Q:VK}{xs:List V}(k:∀p G,H p=none->aJ H G->G p=some (.lst xs)->Q (.ref p) G)(h:xs.length<=1000:=by exact A3 rfl):Cn Q xs H:=cE (fun p e=>k p _ e (aJ.new e) aC) h
theorem WA{xs:List V}{i:Int}(h0:0<=i)(f:i<xs.length):∃v∈xs,vD xs i=some v:=by
 have c:i.toNat<xs.length:=by lia
 have:=fZ (i3 c);rw[dv h0]at this;exact {_,K7 c,this}
theorem WB{F:Hp}{l:c8}{xs:List V}{i:Int}(g:F l=some (.lst xs))(h0:0<=i)(c:i<xs.length)(P:V->Prop)(hp:∀v∈xs,P v):∃v,P v/\vD xs i=some v:=
 let ⟨v,a,b⟩:=WA h0 c
 {v,hp v a,b}
theorem Ke{H:Hp}{Q:VK}{l p:c8}{c:List Str}(f:H l=some (.lst (c.map V.str)))(g:H p=some (.lst []))(k:Q (.bl (!c.isEmpty)) H):JS (.ref l) (.ref p) H Q:=by refine WY (es:=[]) (YM f) {p,_,rfl,g,rfl} (IJ _) ?_;cases c <;> exact k
inductive uI (K:v9) (vs:List V) (H:Hp) (Q:VK) (EE:XK):Prop
|mk (dd d:c8) (num:Int) (U:List Str) (u:Int) (rs:List (Int×Int×Int)) (ps ts:List (Int×Int)) (ln lr lp lt:c8) (now:Int) (D:AL aR Int) (h0':vs=[.ref dd,.ref d,.int num]) (h1':iB H dd U u rs ps ts ln lr lp lt now) (h2':kL U u rs ps ts) (h3':DQ IQ H d D) (h4':dd≠d) (h5':zO U u rs (oM U u (iH rs ps)) (dC (jE u ts)) D) (h6':0<=now) (h7':now<=10^108) (h8':∀p pr w v i H',H p=none->aJ H H'->H' p=some (.tup [.ref pr,.int (mW i)])->H' pr=some (.tup [.str w,v])->(i=0∨i=6∨i=7∨i=8∨i=9)->ZC K H' (eM U u rs) (jE u ts) (mT U u D) (ut u now) w v i->Q (.ref p) H'):uI K vs H Q EE
def AC(K:v9):Sp:=fun vs H Q EE=>uI K vs H Q EE
noncomputable def fallen(m:Rat)(mo:aR->Option Rat):List Str->List (aR×Rat)
|[]=>[]
|y::r=>(match mo (c9 y) with|none=>[]|some q=>if m<q then [] else [((c9 y:aR),q)])++fallen m mo r
theorem iT(m:Rat)(mo:aR->Option Rat):∀a b:List Str,fallen m mo (a++b)=fallen m mo a++fallen m mo b
|[],b=>rfl
|y::r,b=>by show _++fallen m mo (r++b)=_;rw[iT m mo r b,←E1];rfl
theorem qZ{m:Rat}{mo:aR->Option Rat}{y:Str}:fallen m mo [y]=match mo (c9 y) with|none=>[]|some q=>if m<q then [] else [((c9 y:aR),q)]:=L0 _
theorem rA{m:Rat}{mo:aR->Option Rat}{x:aR×Rat}:∀{ys:List Str},x∈fallen m mo ys↔∃y∈ys,x=(c9 y,x.2)/\mo (c9 y)=some x.2/\¬m<x.2
|[]=>by simp[fallen]
|y::r=>by
  show x∈_++fallen m mo r↔_;rw[w8,rA (ys:=r)];constructor
  ·rintro (h|⟨z,c,h⟩)
   ·refine {y,.head _,?_};cases e:mo (c9 y) with
   |none=>rw[e]at h;cases h
   |some q=>
     rw[e]at h;dsimp only at h;split at h
     ·cases h
     ·rw[i4.mp h];exact {rfl,rfl,by assumption}
   ·exact {z,.tail _ c,h}
  ·rintro ⟨z,c,f,g,o⟩;cases c with
  |head=>
    refine .inl ?_;rw[g];dsimp only;rw[if_neg o];exact i4.mpr f
  |tail _ c=>exact .inr {z,c,f,g,o}
theorem kH{m:Rat}{mo:aR->Option Rat}:∀{ys:List Str},ys.Nodup->((fallen m mo ys).map (·.1)).Nodup
|[],_=>.nil
|y::r,c=>by
  show ((_++fallen m mo r).map _).Nodup;rw[V4]at c;have ih:=kH (m:=m) (mo:=mo) c.2;cases e:mo (c9 y) with
 |none=>exact ih
 |some q=>
   dsimp only;split
   ·exact ih
   ·show (c9 y::(fallen m mo r).map (·.1)).Nodup;refine V4.mpr {fun h=>?_,ih};obtain ⟨x,o,f⟩:=u8.mp h;obtain ⟨z,s,g,_⟩:=rA.mp o;rw[g]at f;cases f;exact c.1 s
inductive wT (cC:c8) (vs:List V) (H:Hp) (Q:VK) (EE:XK):Prop
|mk (h dx ln lp lt:c8) (vm:V) (dm:c8) (m:Rat) (n:List eO) (ps ts:List (aR×Rat)) (D M:Nat) (U:List Str) (mo:aR->Option Rat) (ys:List Str) (h0':vs=[.ref h]) (h1':H h=some (.ins cC dx (cF ln lp lt vm dm))) (h2':dA H ln lp lt n ps ts D M U) (h3':dJ H dm n ps ts D M mo ys) (h4':cI H vm m) (h5':Bd D M m) (h6':∀d H',H d=none->aJ H H'->DQ cI H' d (fallen m mo ys)->Q (.ref d) H'):wT cC vs H Q EE
def GC(cC:c8):Sp:=fun vs H Q EE=>wT cC vs H Q EE
inductive MG (cC:c8) (vs:List V) (H:Hp) (Q:VK) (EE:XK):Prop
|mk (h dx ln lp lt:c8) (vm:V) (dm:c8) (h0':vs=[.ref h]) (h1':H h=some (.ins cC dx (cF ln lp lt vm dm))) (h2':Q vm H):MG cC vs H Q EE
def Eu(cC:c8):Sp:=fun vs H Q EE=>MG cC vs H Q EE
def Kl(n:List eO)(mo:aR->Option Rat)(ts:List (aR×Rat))(m:Rat)(k:Nat):Option (Rat×Rat):=(n[k]?).bind fun r=>CF (mo (c9 r.1)) (mo (c9 r.2.1)) (dC ts k) r.2.2 m
inductive wG (cC:c8) (vs:List V) (H:Hp) (Q:VK) (EE:XK):Prop
|mk (h dd dx c4 cu cm:c8) (vm:V) (dm:c8) (num:Int) (m:Rat) (n:List eO) (ps ts:List (aR×Rat)) (D M:Nat) (U:List Str) (mo:aR->Option Rat) (ys:List Str) (U':List Str) (u:Int) (rs:List (Int×Int×Int)) (ps' ts':List (Int×Int)) (ln lr lp lt:c8) (now:Int) (h0':vs=[.ref h,.ref dd,.int num]) (h1':H h=some (.ins cC dx (cF c4 cu cm vm dm))) (h2':dA H c4 cu cm n ps ts D M U) (h3':dJ H dm n ps ts D M mo ys) (h4':cI H vm m) (h5':Bd D M m) (h6':iB H dd U' u rs ps' ts' ln lr lp lt now) (h7':n.length=rs.length) (h8':1<=rs.length) (h9':∀l d l2 w1 w2 H',H l=none->aJ H H'->H' l=some (.lst [vm,.ref d,.ref l2])->DQ cI H' d (fallen m mo ys)->H' l2=some (.lst [w1,w2])->iY H' w1 (Kl n mo ts m (num%rs.length).toNat)->iY H' w2 (Kl n mo ts m (num.fdiv 7%rs.length).toNat)->Q (.ref l) H'):wG cC vs H Q EE
def FM(cC:c8):Sp:=fun vs H Q EE=>wG cC vs H Q EE
inductive rO (cC:c8) (vs:List V) (H:Hp) (Q:VK) (EE:XK):Prop
|mk (h dx l:c8) (n:List eO) (D M:Nat) (U:List Str) (h0':vs=[.ref h,.ref l]) (h1':H h=some (.ins cC dx [])) (h2':tJ H l (kn n) D M) (h3':nR D M) (h4':U.length<=200) (h5':(∀x∈names n,x∈U)) (h6':∀H' ln lp lt vm dm mo ys,jT [h] H H'->H ln=none->H lp=none->H lt=none->H dm=none->H' h=some (.ins cC dx (cF ln lp lt vm dm))->cI H' vm 0->dA H' ln lp lt n [] [] D M U->dJ H' dm n [] [] D M mo ys->Q .non H'):rO cC vs H Q EE
def wQ(cC:c8):Sp:=fun vs H Q EE=>rO cC vs H Q EE
theorem cU.kt{K:v9}{H G:Hp}{a:c8}{xs:List V}(h:cU K H a xs)(t:LT H)(k:Kp tT H G):cU K G a xs:=by
 rcases h with (h|⟨o,h⟩)|h
 ·exact .inl (.inl (kT k t h (fun _ z=>nomatch z)))
 ·exact .inl (.inr {o,kT k t h (fun _ z=>nomatch z)})
 ·exact .inr h
theorem iB.kl{L:List c8}{H H':Hp}{dd:c8}{U:List Str}{u:Int}{s:List (Int×Int×Int)}{ps w:List (Int×Int)}{ln g f m:c8}{c:Int}(h:iB H dd U u s ps w ln g f m c)(k:jT L H H')(t:TK H H')(x0:dd∉L)(x1:ln∉L)(x2:g∉L)(x3:f∉L)(A:m∉L):iB H' dd U u s ps w ln g f m c:=
 {k _ _ x0 h.d,{{_,k _ _ x0 h.d},k _ _ x1 h.q.nm,LQ.mv h.q.rq jU.tk (fun o e=>k _ _ x2 e) t,LQ.mv h.q.pq fQ.tk (fun o e=>k _ _ x3 e) t,LQ.mv h.q.tq fQ.tk (fun o e=>k _ _ A e) t}}
theorem dA.kl{L:List c8}{H H':Hp}{ln c f:c8}{n:List eO}{ps g:List (aR×Rat)}{D M:Nat}{U:List Str}(h:dA H ln c f n ps g D M U)(k:jT L H H')(t:TK H H')(x1:ln∉L)(x2:c∉L)(x3:f∉L):dA H' ln c f n ps g D M U:=
 {{LQ.mv h.nq.lq nE.tk (fun o e=>k _ _ x1 e) t,h.nq.len,h.nq.bd,h.nq.pos},{LQ.mv h.pq.lq vY.tk (fun o e=>k _ _ x2 e) t,h.pq.len,h.pq.bd},LQ.mv h.tq vY.tk (fun o e=>k _ _ x3 e) t,h.tl,h.tz,h.R,h.u2,h.nm,h.n1,h.n2,h.n3}
theorem dA.up{H:Hp}{ln g m:c8}{n:List eO}{ps o:List (aR×Rat)}{D M c:Nat}{U:List Str}(h:dA H ln g m n ps o D M U)(l:M<=c)(R:nR D c):dA H ln g m n ps o D c U:=
 {{h.nq.lq,h.nq.len,fun r f=>(h.nq.bd r f).mono l,h.nq.pos},{h.pq.lq,h.pq.len,fun r f=>(h.pq.bd r f).mono l},h.tq,h.tl,h.tz,R,h.u2,h.nm,h.n1,h.n2,h.n3}
theorem dJ.up{H:Hp}{f:c8}{n:List eO}{ps g:List (aR×Rat)}{D M c:Nat}{mo:aR->Option Rat}{ys:List Str}(h:dJ H f n ps g D M mo ys)(l:M<=c):dJ H f n ps g D c mo ys:={h.dq,h.fal,fun k q e=>(h.bd k q e).mono (lh _ l),h.nd,h.mem}
noncomputable def Mk(i:Nat):Nat:=10^31*1001^i
theorem ER(i:Nat):Mk (i+1)=Mk i*1001:=by unfold Mk;rw[show 1001^(i+1)=1001^i*1001 from rfl,←Nat.mul_assoc]
theorem Rh(i:Nat):10^31<=Mk i:=Q5 _ (pow_pos (by decide))
theorem ZE{i:Nat}(h:i<=20):Mk i<=10^92:=A5 (X4 _ (W1 (by decide) h)) (by decide)
theorem NL{u:Int}{i:Nat}(h0:0<u)(c:u<=10^12)(h:i<=20):nR u.toNat (Mk i):=
 {by lia,E3 (show u.toNat<=10^12 by lia) (by decide),E3 (Nat.mul_le_mul (lh 1000 (ZE h)) (show u.toNat<=10^12 by lia)) (by decide)}
theorem YW{u z:Int}{B:Nat}(s:0<u)(h0:0<=z)(q:z<=B):Bd u.toNat B (ut u z):=by
 have c:u≠0:=by lia
 have e:=pN (t:=z) c;have o:=oR (t:=z) c;have m:(j7 z u).num.natAbs<=B:=by rw[e.1];have:=DN (t:=z) c;lia
 refine (Bd.of m).dvd ?_;have f:((j7 z u).den:Int)∣u:=by rw[e.2];exact {_,o.symm}
 have g:(u.toNat:Int)=u:=dv (by lia);exact Q6.mp (g.symm▸f:((j7 z u).den:Int)∣(u.toNat:Int))
theorem SS{u z:Int}{D M:Nat}(c:0<u)(h:Bd D M (ut u z)):z<=(M:Int)*u:=by
 have e:((M:Nat):Rat)=ut u ((M:Int)*u):=by rw[nH,Rat.intCast_mul];have:=up c;have f:((u:Int):Rat)≠0:=nz this;rw[Rat.mul_div_cancel f];rfl
 have:=h.2.2;rw[e]at this;exact (FD c).mp this
theorem OA{c:List (Int×Int×Int)}{ps:List (Int×Int)}(h:∀x∈ps,x.1∈lB c):iH c ps=ps:=by unfold iH;exact List.filter_eq_self.mpr fun x f=>decide_eq_true (h x f)
theorem VY(U:List Str)(u:Int)(ps:List (Int×Int))(x:Int×Int):oM U u (ps++[x])=oM U u ps++[(c9 (fE U x.1),ut u x.2)]:=by unfold oM;rw[z9];rfl
theorem SU(u:Int)(c:List (Int×Int))(x:Int×Int):jE u (c++[x])=jE u c++[(i5 x.1,ut u x.2)]:=by unfold jE;rw[z9];rfl
structure Rw(ln lr lp lt c4 cu cm:c8):Prop where
 n1:ln≠lp
 n2:ln≠lt
 n3:lr≠lp
 n4:lr≠lt
 n5:lp≠lt
 a1:ln≠cu
 a2:lr≠cu
 a3:lp≠cu
 a4:lt≠cu
 b1:ln≠cm
 b2:lr≠cm
 b3:lp≠cm
 b4:lt≠cm
 c1:c4≠lp
 c2:c4≠lt
structure vZ(cC:c8)(G:Hp)(dd h dx ln lr lp lt c4 cu cm:c8)(U:List Str)(u:Int)(rs:List (Int×Int×Int))(ps ts:List (Int×Int))(now:Int)(ps' ts':List (Int×Int))(c5:Int)(vm:V)(dm:c8)(mo:aR->Option Rat)(ys:List Str)(M:Nat):Prop where
 N:iB G dd U u rs ps ts ln lr lp lt now
 o:G h=some (.ins cC dx (cF c4 cu cm vm dm))
 I:dA G c4 cu cm (eM U u rs) (oM U u ps') (jE u ts') u.toNat M U
 Mo:dJ G dm (eM U u rs) (oM U u ps') (jE u ts') u.toNat M mo ys
 m:cI G vm (ut u c5)
 z:Bd u.toNat M (ut u c5)
 T:LT G
 xd:dm≠dd
section
variable {cC:c8}{G G':Hp}{dd h dx ln lr lp lt c4 cu cm:c8}{U:List Str}{u:Int}{rs:List (Int×Int×Int)}{ps ts:List (Int×Int)}{now:Int}{ps' ts':List (Int×Int)}{c5:Int}{vm:V}{dm:c8}{mo:aR->Option Rat}{ys:List Str}{M M':Nat}
theorem vZ.sm(a:vZ cC G dd h dx ln lr lp lt c4 cu cm U u rs ps ts now ps' ts' c5 vm dm mo ys M)(s:aJ G G'):vZ cC G' dd h dx ln lr lp lt c4 cu cm U u rs ps ts now ps' ts' c5 vm dm mo ys M:=
 {a.N.sm s,s _ _ a.o,a.I.sm s,a.Mo.mv (fun o e=>s _ _ e) s.tk,a.m.tk s.tk,a.z,rH.same a.T s,a.xd}
theorem vZ.up(a:vZ cC G dd h dx ln lr lp lt c4 cu cm U u rs ps ts now ps' ts' c5 vm dm mo ys M)(l:M<=M')(R:nR u.toNat M'):vZ cC G dd h dx ln lr lp lt c4 cu cm U u rs ps ts now ps' ts' c5 vm dm mo ys M':=
 {a.N,a.o,a.I.up l R,a.Mo.up l,a.m,a.z.mono l,a.T,a.xd}
theorem vZ.nh(a:vZ cC G dd h dx ln lr lp lt c4 cu cm U u rs ps ts now ps' ts' c5 vm dm mo ys M):(dd≠h/\ln≠h/\lr≠h/\lp≠h/\lt≠h)/\(dd≠cu/\dd≠cm/\dd≠tT/\ln≠tT/\lr≠tT/\lp≠tT/\lt≠tT)/\(h≠cu/\h≠cm/\h≠tT)/\(dm≠h/\dm≠lp/\dm≠lt)/\(c4≠dd/\cu≠dd/\cm≠dd)/\cu≠tT/\cm≠tT:=by
 obtain ⟨_,m⟩:=a.T.ex;have s:=a.N.d;have C:=a.N.q.nm;obtain ⟨_,D,_⟩:=a.N.q.rq;obtain ⟨_,w,_⟩:=a.N.q.pq;obtain ⟨_,A,_⟩:=a.N.q.tq;obtain ⟨_,hn,_⟩:=a.I.nq.lq;obtain ⟨_,hp,_⟩:=a.I.pq.lq;obtain ⟨_,t,_⟩:=a.I.tq;obtain ⟨_,B,_⟩:=a.Mo.dq;have g:=a.o;have f:∀{x y:c8}{E H:HO},G x=some E->G y=some H->E≠H->x≠y:=fun a b c z=>by rw[z,b]at a;exact c (j5 a).symm
 exact {{f s g (by intro z;cases z),f C g (by intro z;cases z),f D g (by intro z;cases z),f w g (by intro z;cases z),f A g (by intro z;cases z)},{f s hp (by intro z;cases z),f s t (by intro z;cases z),f s m (by intro z;cases z),f C m (by intro z;cases z),f D m (by intro z;cases z),f w m (by intro z;cases z),f A m (by intro z;cases z)},{f g hp (by intro z;cases z),f g t (by intro z;cases z),f g m (by intro z;cases z)},{f B g (by intro z;cases z),f B w (by intro z;cases z),f B A (by intro z;cases z)},{f hn s (by intro z;cases z),f hp s (by intro z;cases z),f t s (by intro z;cases z)},f hp m (by intro z;cases z),f t m (by intro z;cases z)}
theorem pR{a b x:c8}(c:x≠a)(f:x≠b):x∉[a,b]:=fun z=>by
 rcases w6.mp z with e|z
 ·exact c e
 ·exact f (i4.mp z)
theorem WX{a b c x:c8}(f:x≠a)(g:x≠b)(m:x≠c):x∉[a,b,c]:=fun z=>by
 rcases w6.mp z with e|z
 ·exact f e
 ·exact pR g m z
theorem LT.kl{L:List c8}{H H':Hp}(t:LT H)(k:jT L H H')(h:∀p∈L,(∃xs,H p=some (.lst xs))∨(∃C dx fs,H p=some (.ins C dx fs))∨∃kv,H p=some (.dK kv)):LT H':=by
 have no:∀{b:c8}{o:HO},H b=some o->(∀xs,o≠.lst xs)->(∀C dx fs,o≠.ins C dx fs)->(∀kv,o≠.dK kv)->b∉L:=fun e f n2 n3 m=>by
  rcases h _ m with ⟨_,z⟩|⟨_,_,_,z⟩|⟨_,z⟩
  ·exact f _ (j5 (e.symm.trans z))
  ·exact n2 _ _ _ (j5 (e.symm.trans z))
  ·exact n3 _ (j5 (e.symm.trans z))
 rcases t with t|⟨c,t,u⟩
 ·exact .inl (k _ _ (no t (fun _ z=>nomatch z) (fun _ _ _ z=>nomatch z) (fun _ z=>nomatch z)) t)
 ·exact .inr {c,k _ _ (no t (fun _ z=>nomatch z) (fun _ _ _ z=>nomatch z) (fun _ z=>nomatch z)) t,k _ _ (no u (fun _ z=>by cases z) (fun _ _ _ z=>by cases z) (fun _ z=>by cases z)) u}
theorem Mr{L:List c8}{H H':Hp}(k:jT L H H')(h:∀p∈L,∃o,H p=some o/\∀xs,o≠.tup xs):TK H H':=k.tk fun p hp xs e=>by obtain ⟨o,c,n⟩:=h p hp;rw[c]at e;exact n xs (j5 e)
theorem OU{L:List c8}{H G F:Hp}(k:Kp tT H G)(g:jT L G F)(f:∀x∈L,x=tT∨H x=none):Kp tT H F:=fun b o c e=>g _ _ (fun z=>by
 rcases f b z with r|r
 ·exact c r
 ·rw[r]at e;cases e) (k _ _ c e)
theorem ZC.sm{K:v9}{H o:Hp}{n:List eO}{q:List (aR×Rat)}{mo:aR->Option Rat}{m:Rat}{w:Str}{v:V}{i:Nat}(h:ZC K H n q mo m w v i)(s:aJ H o):ZC K o n q mo m w v i:=by
 rcases h with ⟨a,b,c|c⟩|h|⟨a,b,c⟩|h|⟨a,b,c⟩|⟨a,b,c⟩
 ·exact .inl {a,b,.inl fun f g=>c f (s.trans g)}
 ·exact .inl {a,b,.inr c}
 ·exact .inr (.inl h)
 ·exact .inr (.inr (.inl {a,b,fun f g=>c f (s.trans g)}))
 ·exact .inr (.inr (.inr (.inl h)))
 ·exact .inr (.inr (.inr (.inr (.inl {a,b,fun f g=>c f (s.trans g)}))))
 ·exact .inr (.inr (.inr (.inr (.inr {a,b,fun f g=>c f (s.trans g)}))))
theorem vZ.pushed(E:Rw ln lr lp lt c4 cu cm)(a:vZ cC G dd h dx ln lr lp lt c4 cu cm U u rs ps ts now ps' ts' c5 vm dm mo ys M){d:c8}{g:List (Int×Int)}{c:aR->Option Rat}{f:List Str}(q:G d=none)(k:jT [h,cu] G G')(o:G' h=some (.ins cC dx (cF c4 cu cm vm d)))(I:dA G' c4 cu cm (eM U u rs) (oM U u g) (jE u ts') u.toNat M U)(s:dJ G' d (eM U u rs) (oM U u g) (jE u ts') u.toNat M c f):vZ cC G' dd h dx ln lr lp lt c4 cu cm U u rs ps ts now g ts' c5 vm d c f M:=by
 obtain ⟨⟨w,A,B,C,D⟩,⟨H,J,K,O,P,Q,R⟩,_⟩:=a.nh;obtain ⟨_,hp,_⟩:=a.I.pq.lq;have t:TK G G':=Mr k fun p z=>by
  rcases w6.mp z with e|z
  ·rw[e];exact {_,a.o,fun _ z=>nomatch z}
  ·rw[i4.mp z];exact {_,hp,fun _ z=>nomatch z}
 exact {a.N.kl k t (pR w H) (pR A E.a1) (pR B E.a2) (pR C E.a3) (pR D E.a4),o,I,s,a.m.tk t,a.z,a.T.kl k (fun p z=>by
  rcases w6.mp z with e|z
  ·rw[e];exact .inr (.inl {_,_,_,a.o})
  ·rw[i4.mp z];exact .inl {_,hp}),q7 (aD a.N.d q)}
theorem vZ.took(E:Rw ln lr lp lt c4 cu cm)(a:vZ cC G dd h dx ln lr lp lt c4 cu cm U u rs ps ts now ps' ts' c5 vm dm mo ys M){d:c8}{g:List (Int×Int)}{c:aR->Option Rat}{f:List Str}(q:G d=none)(k:jT [h,cm] G G')(o:G' h=some (.ins cC dx (cF c4 cu cm vm d)))(I:dA G' c4 cu cm (eM U u rs) (oM U u ps') (jE u g) u.toNat M U)(s:dJ G' d (eM U u rs) (oM U u ps') (jE u g) u.toNat M c f):vZ cC G' dd h dx ln lr lp lt c4 cu cm U u rs ps ts now ps' g c5 vm d c f M:=by
 obtain ⟨⟨w,A,B,C,D⟩,⟨J,H,K,O,P,Q,R⟩,_⟩:=a.nh;obtain ⟨_,hp,_⟩:=a.I.tq;have t:TK G G':=Mr k fun p z=>by
  rcases w6.mp z with e|z
  ·rw[e];exact {_,a.o,fun _ z=>nomatch z}
  ·rw[i4.mp z];exact {_,hp,fun _ z=>nomatch z}
 exact {a.N.kl k t (pR w H) (pR A E.b1) (pR B E.b2) (pR C E.b3) (pR D E.b4),o,I,s,a.m.tk t,a.z,a.T.kl k (fun p z=>by
  rcases w6.mp z with e|z
  ·rw[e];exact .inr (.inl {_,_,_,a.o})
  ·rw[i4.mp z];exact .inl {_,hp}),q7 (aD a.N.d q)}
theorem vZ.went(a:vZ cC G dd h dx ln lr lp lt c4 cu cm U u rs ps ts now ps' ts' c5 vm dm mo ys M){c:V}{t':Int}(k:jT [h,tT] G G')(T:LT G')(o:G' h=some (.ins cC dx (cF c4 cu cm c dm)))(f:cI G' c (ut u t'))(z:Bd u.toNat M (ut u t'))(I:dA G' c4 cu cm (eM U u rs) (oM U u ps') (jE u ts') u.toNat M U)(g:dJ G' dm (eM U u rs) (oM U u ps') (jE u ts') u.toNat M mo ys):vZ cC G' dd h dx ln lr lp lt c4 cu cm U u rs ps ts now ps' ts' t' c dm mo ys M:=by
 obtain ⟨⟨m,q,s,w,A⟩,⟨J,K,B,C,D,E,H⟩,_⟩:=a.nh;obtain ⟨_,hp⟩:=a.T.ex;have t:TK G G':=Mr k fun p z=>by
  rcases w6.mp z with e|z
  ·rw[e];exact {_,a.o,fun _ z=>nomatch z}
  ·rw[i4.mp z];exact {_,hp,fun _ z=>nomatch z}
 exact {a.N.kl k t (pR m B) (pR q C) (pR s D) (pR w E) (pR A H),o,I,g,f,z,T,a.xd}
theorem vZ.did(E:Rw ln lr lp lt c4 cu cm)(a:vZ cC G dd h dx ln lr lp lt c4 cu cm U u rs ps ts now ps' ts' c5 vm dm mo ys M){g s:List (Int×Int)}{n2:Int}(k:jT [dd,lp,lt] G G')(N:iB G' dd U u rs g s ln lr lp lt n2):vZ cC G' dd h dx ln lr lp lt c4 cu cm U u rs g s n2 ps' ts' c5 vm dm mo ys M:=by
 obtain ⟨⟨H,P,Q,J,K⟩,⟨R,S,W,X,Y,Z,y7⟩,_,⟨O,C,D⟩,⟨w,A,B⟩,_⟩:=a.nh;obtain ⟨_,c,_⟩:=a.N.q.pq;obtain ⟨_,f,_⟩:=a.N.q.tq;have t:TK G G':=Mr k fun p z=>by
  rcases w6.mp z with e|z
  ·rw[e];exact {_,a.N.d,fun _ z=>nomatch z}
  ·rcases w6.mp z with e|z
   ·rw[e];exact {_,c,fun _ z=>nomatch z}
   ·rw[i4.mp z];exact {_,f,fun _ z=>nomatch z}
 exact {N,k _ _ (WX (q7 H) (q7 J) (q7 K)) a.o,a.I.kl k t (WX w E.c1 E.c2) (WX A (q7 E.a3) (q7 E.a4)) (WX B (q7 E.b3) (q7 E.b4)),a.Mo.mv (fun o e=>k _ _ (WX a.xd C D) e) t,a.m.tk t,a.z,a.T.kl k (fun p z=>by
  rcases w6.mp z with e|z
  ·rw[e];exact .inr (.inr {_,a.N.d})
  ·rcases w6.mp z with e|z
   ·rw[e];exact .inl {_,c}
   ·rw[i4.mp z];exact .inl {_,f}),a.xd}
end
def Stp(w:Str)(x:Int)(ps ts:List (Int×Int))(now:Int)(ps' ts':List (Int×Int))(c5:Int):Prop:=(w="push"/\ps'=ps++[(x,now)]/\ts'=ts/\c5=now)∨(w="take"/\ps'=ps/\ts'=ts++[(x,now)]/\c5=now)∨(w="go"/\ps'=ps/\ts'=ts/\c5=now+x)
theorem Cz{U:List Str}{u f:Int}{t:List (Int×Int×Int)}{ps:List (Int×Int)}{tk:Nat->Option Rat}{D:AL aR Int}{ys:List Str}(P:U.Nodup)(C:0<u)(g:zO U u t (oM U u (iH t ps)) tk D)(s:∀x,x∈ys↔x∈names (eM U u t))(x:aR×Rat):x∈fallen (ut u f) (mT U u D) ys↔x∈fA U u f D:=by
 rw[rA];unfold fA;rw[u8];constructor
 ·rintro ⟨y,T,E,G,H⟩;have m:(bG D (i5 ((U.idxOf y:Nat):Int))).map (ut u)=some x.2:=G;obtain ⟨z,c,A⟩:=A8.mp m;obtain ⟨_,_,_,R⟩:=g.val c;have q:U.idxOf y<U.length:=by lia
  rw[←A,iV C]at H;refine {(i5 ((U.idxOf y:Nat):Int),z),V5.mpr {cQ c,decide_eq_true (by lia)},?_};rw[E];dsimp only;rw[A];congr 1;congr 1;obtain ⟨Q,I⟩:=mQ (U:=U) (i:=((U.idxOf y:Nat):Int)) (by lia) (by lia);rw[I];exact List.getElem_idxOf q
 ·rintro ⟨e,O,N⟩;obtain ⟨B,o⟩:=V5.mp O;have o:=of_decide_eq_true o;obtain ⟨j,K,S⟩:=g.ky e B;obtain ⟨M,c⟩:=e;cases (show M=i5 (j:Int) from K);have J:bG D (i5 (j:Int))=some c:=eC g.nd B;have w:mT U u D (c9 (fE U (j:Int)))=some (ut u c):=by
   rw[oQ P (by lia) (by lia),J];rfl
  rw[←N];exact {fE U (j:Int),(s _).mpr (YX (g.sn _ _ w)),rfl,w,by rw[iV C];dsimp only at o⊢;lia}
theorem RM{U:List Str}{u c:Int}{H:List (Int×Int×Int)}{G:List (aR×Rat)}{tk:Nat->Option Rat}{D:AL aR Int}(o:U.Nodup)(f:zO U u H G tk D):((fA U u c D).map (·.1)).Nodup:=by unfold fA;rw[W4];refine gn.mpr ?_;have E:(D.filter fun x=>decide (x.2<=c)).Pairwise fun a b=>a.1≠b.1:=(gn.mp f.nd).filter _;refine E.imp_of_mem fun {a b} B C g=>?_;obtain ⟨i,w,M⟩:=f.ky a (V5.mp B).1;obtain ⟨j,A,N⟩:=f.ky b (V5.mp C).1;obtain ⟨s,J⟩:=a;obtain ⟨t,K⟩:=b;cases (show s=i5 (i:Int) from w);cases (show t=i5 (j:Int) from A);intro z;have I:fE U (i:Int)=fE U (j:Int):=fj z;have m:=DY o (i:=(i:Int)) (by lia) (by lia);have q:=DY o (i:=(j:Int)) (by lia) (by lia);rw[I,q]at m;exact g (by rw[m])
theorem Gh{H:Hp}{Q:VK}{q s:c8}{D E:List (aR×Rat)}(S:DQ cI H q D)(T:DQ cI H s E)(G:(D.map (·.1)).Nodup)(g:(E.map (·.1)).Nodup)(B:∀x,x∈D↔x∈E)(k:Q (.bl false) H):Pl (.ref q) (.ref s) H Q:=by
 obtain ⟨Y,O,K⟩:=S;obtain ⟨Z,P,M⟩:=T;have m:∀{l J:List (aR×Rat)},(∀x,x∈l->x∈J)->∀c∈l.map (·.1),c∈J.map (·.1):=fun h c U=>by obtain ⟨x,X,rfl⟩:=u8.mp U;exact u8.mpr {x,h x X,rfl}
 have f:=kR G (m fun x=>(B x).mp);have o:=kR g (m fun x=>(B x).mpr);rw[i8,i8]at f o;refine {q,s,Y,Z,rfl,rfl,O,P,by rw[K.len,M.len];exact uu f o,fun kv A=>?_,k};obtain ⟨i,W⟩:=P8 A;obtain ⟨R,t,f,o⟩:=Paired.at K W;have C:=(B _).mp (o0 t);have I:=eC g C;rcases M.val (k:=kv.1) with ⟨_,z⟩|⟨w,b,z1,N,z3⟩
 ·rw[f,I]at z;cases z
 ·rw[f,I]at N;cases N;exact {Dl R.2,w,z1,uG o,uG z3,by simp[Dl,uW,iL]}
theorem Ls{H:Hp}{c f:c8}{m:List (aR×Rat)}(A:DQ cI H c m)(B:DQ cI H f m)(g:(m.map (·.1)).Nodup):PN H (.ref c) (.ref f):=by obtain ⟨p,q,C,D,t,w,o,s,l,h,_⟩:=Gh (Q:=fun _ _=>True) A B g g (fun x=>Iff.rfl) trivial;exact .inr {p,q,C,D,t,w,o,s,l,h}
theorem XL(o:Option (Rat×Rat)):∃d,uW d<=5/\∀{H:Hp}{v:V},iY H v o->nY H d v:=by
 cases o with
|none=>exact {.non,by decide,fun h=>h}
|some x=>exact {.tup [Dl x.1,Dl x.2],by simp[Dl,uW,iL],fun ⟨p,u,w,e,h,f,g⟩=>e▸XJ h f g}
theorem Du{H:Hp}{g m:c8}{B C c f:V}{o q:Option (Rat×Rat)}(J:H g=some (.lst [B,C]))(K:H m=some (.lst [c,f]))(D:iY H B o)(E:iY H C q)(G:iY H c o)(I:iY H f q):PN H (.ref g) (.ref m):=by obtain ⟨s,M,w⟩:=XL o;obtain ⟨t,N,A⟩:=XL q;refine .inl {.lst [s,t],{g,_,rfl,J,_,_,rfl,w D,_,_,rfl,A E,rfl},{m,_,rfl,K,_,_,rfl,w G,_,_,rfl,A I,rfl},?_};show max (uW s) (max (uW t) 0)+1<=20;lia
theorem Ck{H:Hp}{Q:VK}{p q:c8}{bs:List Bool}(c:H p=some (.lst (bs.map V.bl)))(f:H q=some (.lst (bs.map V.bl)))(k:Q (.bl false) H):JS (.ref p) (.ref q) H Q:=by refine WY {p,_,rfl,c,Lh bs} {q,_,rfl,f,Lh bs} (A5 (Qs bs) (by decide)) ?_;rw[Qr];exact k
inductive LwI (cC a dd h dx ln lr lp lt c4 cu cm:c8) (U:List Str) (u:Int) (rs:List (Int×Int×Int)) (H:Hp) (i:Nat) (σ:St) (G:Hp):Prop
|mk (o3 o4 o5 o6 o7 o8 o9:Option V) (ps ts:List (Int×Int)) (now:Int) (vm:V) (dm:c8) (mo:aR->Option Rat) (ys:List Str) (e:σ=[some (.ref a),some (.ref dd),some (.ref h),o3,o4,o5,o6,o7,o8,o9]) (S:vZ cC G dd h dx ln lr lp lt c4 cu cm U u rs ps ts now ps ts now vm dm mo ys (Mk i)) (k:Kp tT H G) (J:kL U u rs ps ts) (us:∀x∈ps,x.1∈lB rs) (pl:ps.length<=i) (tl:ts.length<=i) (n0:0<=now)
inductive LwD (cC a dd h dx ln lr lp lt c4 cu cm:c8) (U:List Str) (u:Int) (rs:List (Int×Int×Int)) (H:Hp) (i:Nat) (z:List (Option V)) (p2:c8) (x2:Int) (wd:Str) (ps ts:List (Int×Int)) (now:Int) (σ:St) (F:Hp):Prop
|mk (vm':V) (dm':c8) (mo':aR->Option Rat) (ys':List Str) (ps' ts':List (Int×Int)) (c5:Int) (e:σ=z) (g:F p2=some (.tup [.str wd,.int x2])) (S:vZ cC F dd h dx ln lr lp lt c4 cu cm U u rs ps ts now ps' ts' c5 vm' dm' mo' ys' (Mk (i+1))) (kp:Kp tT H F) (st:Stp wd x2 ps ts now ps' ts' c5) (J:kL U u rs ps' ts') (us:∀x∈ps',x.1∈lB rs) (n0:0<=c5)
inductive LwE (cC a dd h dx ln lr lp lt c4 cu cm:c8) (U:List Str) (u:Int) (rs:List (Int×Int×Int)) (H:Hp) (i:Nat) (z:List (Option V)) (σ:St) (F:Hp):Prop
|mk (vm':V) (dm':c8) (mo':aR->Option Rat) (ys':List Str) (ps' ts':List (Int×Int)) (c5:Int) (e:σ=z) (S:vZ cC F dd h dx ln lr lp lt c4 cu cm U u rs ps' ts' c5 ps' ts' c5 vm' dm' mo' ys' (Mk (i+1))) (kp:Kp tT H F) (J:kL U u rs ps' ts') (us:∀x∈ps',x.1∈lB rs) (pl:ps'.length<=i+1) (tl:ts'.length<=i+1) (n0:0<=c5)
inductive MO (K:v9) (vs:List V) (H:Hp) (Q:VK) (EE:XK):Prop
|mk (a:c8) (ns:List Int) (h0':vs=[.ref a]) (h1':cU K H a (ns.map V.int)) (h2':ns.length<=63) (h3':LT H) (h4':∀H',Q (.bl true) H'):MO K vs H Q EE
def MP(K:v9):Sp:=fun vs H Q EE=>MO K vs H Q EE
set_option hygiene false in
local macro_rules | `(tactic| walk_at "ln") => `(tactic| (intros; rename_i h; walk_at "lo"))
set_option hygiene false in
local macro_rules | `(tactic| walk_at "lo") => `(tactic| first | (obtain ⟨rfl,_⟩:=h; rfl) | (cases h; subst_vars; rfl) | (obtain ⟨_,h⟩:=h; walk_at "lo"))
theorem dL{X:Cx}{x:Str}{e:D6}{f:TE}{c pos:Pos}(i:Nat)(g:X.N.Nodup)(m:PE X e f)(q:X.N[i]?=some x:=by rfl)(s:Ma X.env.scope x:=by first|exact F0 rfl|exact E5 rfl)(hs:ju e (some (.Name x c)) pos.line X.env=K0 false:=by rfl)(o:X.fn x=true∨X.env.scope.names.lookup x=some .local:=by first|exact .inl rfl|exact .inr rfl|assumption):PS X (.Assign [.Name x c] e pos) (TM f (hX i)):=VW g q s m hs o
theorem qQ{X:Cx}{x:Str}{pos:Pos}(i:Nat)(c:X.N.Nodup)(g:X.N[i]?=some x:=by rfl)(m:Ma X.env.scope x:=by first|exact F0 rfl|exact E5 rfl)(f:X.fn x=true∨X.env.scope.names.lookup x=some .local:=by first|exact .inl rfl|exact .inr rfl|assumption):PG X (.Name x pos) (hX i):=bN c g m f
theorem Zn{X:Cx}{x:Str}{pos:Pos}(l:List Str)(i:Nat)(h:X.N=l:=by rfl)(c:l.Nodup:=by k_is)(g:X.N[i]?=some x:=by rfl)(m:Ma X.env.scope x:=by exact F0 rfl)(f:X.fn x=true∨X.env.scope.names.lookup x=some .local:=by exact E5 rfl):PG X (.Name x pos) (hX i):=bN (h▸c) g m f
structure EV(K:v9)(mg:Str->Option c7)(cC:c8):Prop where
 d0:Df K mg "is_whole" xB ["thing"]
 d1:Df K mg "common_divisor" lD ["one","other"]
 d2:Df K mg "is_fraction" qA ["thing"]
 d4:Df K mg "added" NK ["one","other"]
 d5:Df K mg "lessened" xA ["one","other"]
 d6:Df K mg "timed" ND ["one","other"]
 d7:Df K mg "divided" AT ["one","other"]
 d8:Df K mg "is_less" AS ["one","other"]
 d9:Df K mg "is_moment" uN ["thing"]
 d10:Df K mg "whole_tops" mE ["fractions"]
 d12:Df K mg "posts_of" mF ["net"]
 d13:Df K mg "runs_beside" pZ ["net"]
 d14:Df K mg "least_moments" nJ ["deeds"]
 d15:Df K mg "is_out" GX ["taken","number","moment"]
 d16:Df K mg "earliest_of" qB ["waiting"]
 d19:Df K mg "share_passed" oG ["fell","time","moment"]
 d20:Df K mg "standing_by" pY ["run","moments","taken","moment"]
 d21:Df K mg "is_swept" xC ["fell","time","beyond"]
 d22:Df K mg "ending_by_falls" kC ["run","moments"]
 d23:Df K mg "moment_of" uM ["ending"]
 d24:Df K mg "ending_by" uO ["run","moments","taken"]
 d25:Df K mg "_law_cell_at" AU ["_law_script","_law_k"]
 d26:Df K mg "_law_mixed" NG ["_law_cell","_law_k"]
 d27:Df K mg "_law_number" GW ["_law_script","_law_k"]
 d28:Df K mg "_law_low" Ff ["_law_top","_law_bottom"]
 d29:Df K mg "_law_posts" NF ["_law_number_here"]
 d30:Df K mg "_law_time" UT ["_law_number_here"]
 d31:Df K mg "_law_grown" NI ["_law_here_here","_law_number_here","_law_extra"]
 d32:Df K mg "_law_here" UW ["_law_script","_law_most","_law_extra"]
 d33:Df K mg "_law_net" UU ["_law_here_here"]
 d34:Df K mg "_law_pushes" oH ["_law_here_here"]
 d35:Df K mg "_law_taken" NE ["_law_here_here"]
 d36:Df K mg "_law_due" Fh ["_law_here_here"]
 d37:Df K mg "_law_left" UV ["_law_here_here","_law_due_here","_law_k","_law_moment"]
 d38:Df K mg "_law_hall" UX ["_law_script"]
 d39:Df K mg "_law_fallen" GY ["_law_here_here","_law_due_here"]
 d40:Df K mg "_law_deed" oI ["_law_here_here","_law_due_here","_law_number_here"]
 d41:Df K mg "_law_did" Fi ["_law_here_here","_law_deed_here"]
 d42:rJ K cC nK "has_come" "Hall.has_come" ["self","moment"]
 d43:rJ K cC gJ "falls_told" "Hall.falls_told" ["self"]
 d44:rJ K cC jC "endings_told" "Hall.endings_told" ["self"]
 d45:rJ K cC pK "go" "Hall.go" ["self","time"]
 d46:rJ K cC qC "reckon" "Hall.reckon" ["self"]
 d47:rJ K cC rX "tiles" "Hall.tiles" ["self","number"]
 d48:rJ K cC uP "take" "Hall.take" ["self","number"]
 d49:rJ K cC hZ "refuse_no_post" "Hall.refuse_no_post" ["self","post"]
 d50:rJ K cC uQ "push" "Hall.push" ["self","post"]
 d51:Df K mg "_law_do" Nv ["_law_hall_here","_law_here_here","_law_deed_here"]
 d52:Df K mg "_law_kinds" NH ["_law_e"]
 d53:Df K mg "_law_only" JO ["_law_place"]
 d54:Df K mg "_law_asked" NJ ["_law_hall_here","_law_row"]
 d55:Df K mg "_law_refused_row" iP ["_law_here_here","_law_due_here","_law_number_here"]
 d56:rJ K cC kO "fallen" "Hall.fallen" ["self"]
 d57:rJ K cC xD "now" "Hall.now" ["self"]
 d58:Df K mg "_law_told" JN ["_law_hall_here","_law_here_here","_law_number_here"]
 d59:rJ K cC nM "__init__" "Hall.__init__" ["self","net"]
section
variable (P:m7)(w:y6){K:v9}{mg:Str->Option c7}(base:A7)(k:Nat){xt x0 x1 x2 x3 x4 x5 x6 x7 x8 x9 x10 x11:c8}{cC:c8}(T:Bl mg)(W:Xm mg xt x0 x1 x2 x3 x4 x5 x6 x7 x8 x9 x10 x11)(R0:Xr K xt x0 x1 x2 x3 x4 x5 x6 x7 x8 x9 x10 x11 x0 0)(R6:Xr K xt x0 x1 x2 x3 x4 x5 x6 x7 x8 x9 x10 x11 x6 6)(R7:Xr K xt x0 x1 x2 x3 x4 x5 x6 x7 x8 x9 x10 x11 x7 7)(R8:Xr K xt x0 x1 x2 x3 x4 x5 x6 x7 x8 x9 x10 x11 x8 8)(R9:Xr K xt x0 x1 x2 x3 x4 x5 x6 x7 x8 x9 x10 x11 x9 9)(HC:Rn K mg cC)(vE:EV K mg cC)(d_fraction:Gv K mg "fraction" iD ["top","bottom"] [.int 1])(d_sorted_by:Sa K mg "sorted_by" fD ["fractions","things"] 258 256)(d_falls_of:Gv K mg "falls_of" gA ["net","pushes","takings"] [.non])(d_fall_moments:Gv K mg "fall_moments" dZ ["net","pushes","takings"] [.non])(o1e:bZ P w K mg base k "is_whole" ["thing"] (LZ K))(o0e:bZ P w K mg base k "common_divisor" ["one","other"] Ex)(o0q:bZ P w K mg base k "is_fraction" ["thing"] (FZ K))(o1d:pC P w K mg base k "fraction" ["top","bottom"] [.int 1] (wS K))(o1u:bZ P w K mg base k "added" ["one","other"] UI)(o0z:bZ P w K mg base k "lessened" ["one","other"] TZ)(o1o:bZ P w K mg base k "timed" ["one","other"] TR)(o1j:bZ P w K mg base k "divided" ["one","other"] UE)(o1h:bZ P w K mg base k "is_less" ["one","other"] MN)(o0x:bZ P w K mg base k "is_moment" ["thing"] (TY K))(o0r:bZ P w K mg base k "whole_tops" ["fractions"] FK)(o0y:bZ P w K mg base k "sorted_by" ["fractions","things"] (rM K))(o1b:bZ P w K mg base k "posts_of" ["net"] (MD w))(o0n:bZ P w K mg base k "runs_beside" ["net"] Fd)(o0h:bZ P w K mg base k "least_moments" ["deeds"] Ew)(o1n:bZ P w K mg base k "is_out" ["taken","number","moment"] Et)(o0m:bZ P w K mg base k "earliest_of" ["waiting"] Fa)(o1a:pC P w K mg base k "falls_of" ["net","pushes","takings"] [.non] Ey)(o0j:pC P w K mg base k "fall_moments" ["net","pushes","takings"] [.non] (Nm w))(o0i:bZ P w K mg base k "share_passed" ["fell","time","moment"] Es)(o0k:bZ P w K mg base k "standing_by" ["run","moments","taken","moment"] TV)(o1f:bZ P w K mg base k "is_swept" ["fell","time","beyond"] Er)(o0c:bZ P w K mg base k "ending_by_falls" ["run","moments"] Ez)(o0t:bZ P w K mg base k "moment_of" ["ending"] Ev)(o0u:bZ P w K mg base k "ending_by" ["run","moments","taken"] UC)(o1g:bZ P w K mg base k "_law_cell_at" ["_law_script","_law_k"] (UH K))(o1s:bZ P w K mg base k "_law_mixed" ["_law_cell","_law_k"] AH)(o1m:bZ P w K mg base k "_law_number" ["_law_script","_law_k"] (MF K))(o2d:bZ P w K mg base k "_law_low" ["_law_top","_law_bottom"] FW)(o1r:bZ P w K mg base k "_law_posts" ["_law_number_here"] AE)(o1x:bZ P w K mg base k "_law_time" ["_law_number_here"] FN)(o1v:bZ P w K mg base k "_law_grown" ["_law_here_here","_law_number_here","_law_extra"] MQ)(o1y:bZ P w K mg base k "_law_here" ["_law_script","_law_most","_law_extra"] (GA K))(o2f:bZ P w K mg base k "_law_net" ["_law_here_here"] MJ)(o1l:bZ P w K mg base k "_law_pushes" ["_law_here_here"] wJ)(o1t:bZ P w K mg base k "_law_taken" ["_law_here_here"] MA)(o2e:bZ P w K mg base k "_law_due" ["_law_here_here"] Fb)(o2c:bZ P w K mg base k "_law_left" ["_law_here_here","_law_due_here","_law_k","_law_moment"] FY)(o2a:bZ P w K mg base k "_law_hall" ["_law_script"] (GB K))(o1k:bZ P w K mg base k "_law_fallen" ["_law_here_here","_law_due_here"] wU)(o2b:bZ P w K mg base k "_law_deed" ["_law_here_here","_law_due_here","_law_number_here"] UF)(o2g:bZ P w K mg base k "_law_did" ["_law_here_here","_law_deed_here"] Fc)(o0f:jG rL P w K mg base k cC "has_come" ["self","moment"] (UG cC))(o0d:jG rL P w K mg base k cC "falls_told" ["self"] (uL cC))(o0b:jG rL P w K mg base k cC "endings_told" ["self"] (wV cC))(o1i:jG (EU P w) P w K mg base k cC "go" ["self","time"] (Nl K cC x0))(o0p:jG rL P w K mg base k cC "reckon" ["self"] (FR cC))(o0s:jG (EU P w) P w K mg base k cC "tiles" ["self","number"] (CH K cC x8))(o0w:jG (EU P w) P w K mg base k cC "take" ["self","number"] (TU K cC x8 x9))(o0a:jG (EU P w) P w K mg base k cC "refuse_no_post" ["self","post"] (FU K cC x6))(o0v:jG (EU P w) P w K mg base k cC "push" ["self","post"] (TW K cC x6 x7))(o2h:bZ P w K mg base k "_law_do" ["_law_hall_here","_law_here_here","_law_deed_here"] (Nn K cC))(o1q:EQ P w K mg base k "_law_kinds" ["_law_e"] (AJ K xt x0 x1 x2 x3 x4 x5 x6 x7 x8 x9 x10 x11))(o1z:bZ P w K mg base k "_law_only" ["_law_place"] FT)(o1p:bZ P w K mg base k "_law_asked" ["_law_hall_here","_law_row"] (MY K cC))(o0l:bZ P w K mg base k "_law_refused_row" ["_law_here_here","_law_due_here","_law_number_here"] (AC K))(o0o:jG rL P w K mg base k cC "fallen" ["self"] (GC cC))(o1c:jG rL P w K mg base k cC "now" ["self"] (Eu cC))(o1w:bZ P w K mg base k "_law_told" ["_law_hall_here","_law_here_here","_law_number_here"] (FM cC))(o0g:SJ rL P w K mg base k cC ["self","net"] (wQ cC))
include T W R0 R6 R7 R8 R9 HC vE
theorem HP:bZ P w K mg base (k+1) "is_whole" ["thing"] (LZ K):=by
 refine bZ.of vE.d0 GS (by walk_at"ln") fun f m A g s H D Q E C h=>?_;obtain ⟨x,t,b,c,rfl,ty,o,B,q⟩:=h;refine {_,(aH (aU (tV (aP (pP (T:="int")) rfl T.z_isinstance bL (aA (pv 0) (aA (sP (v:=.ty "int") rfl T.z_int YU rfl) aB))) (mM (JW (aP (pP (T:="bool")) rfl T.z_isinstance bL (aA (pv 0) (aA (sP (v:=.ty "bool") rfl T.z_bool Dq rfl) aB)))))))),?_}
 try dsimp only[aV,bC]
 w_on;refine qM ty o ?_;cases b
 ·w_on;exact q
 ·w_on;apply qM ty B ?_;exact q
theorem sS:bZ P w K mg base (k+1) "common_divisor" ["one","other"] Ex:=by
 refine bZ.of vE.d1 eZ (by walk_at"ln") fun f R A I s H vs Q E Y h=>?_;obtain ⟨a,b,rfl,q⟩:=h;refine {_,(aF (sN A6 (aW (oO Y.units) (pv 1) aE) (aF (dL 2 eZ.nd (aK Bu (pv 0) (pv 1)))
   (aF (dL 0 eZ.nd (pv 1))
   (aH (dL 1 eZ.nd (pv 2))))))
   (aH (aU (aP YS rfl T.z_abs LF (aA (pv 0) aB))))),?_}
 try dsimp only[aV,bC]
 w_on;refine wB (fun t M=>∃(m g:Int)(o:Option V),t=[some (.int m),some (.int g),o]/\M=H/\n6 m g=n6 a b)
  (fun t _=>match t with|[_,some (.int z),_]=>z.natAbs|_=>0) {_,_,_,rfl,rfl,rfl} ?_ ?_
 ·rintro t M ⟨m,g,o,rfl,rfl,G⟩;w_on;refine mX (fun c=>?_) (fun c=>?_)
  ·subst c;w_on;rw[Int.gcd_zero_right]at G;have e:(if m<0 then -m else m)=(n6 a b:Int):=by rw[←G];split <;> lia
   rw[e];exact q
  ·w_on;refine {{_,_,_,rfl,rfl,by rw[RG c];exact G},?_};show (m.fmod g).natAbs<g.natAbs;exact Cw c
 ·intro t H Q Z O h;obtain ⟨v,N,h⟩:=h;rcases h with ⟨C,B,D,J⟩|⟨d,e,C,D,S,U,B,X,J⟩
  ·exact {v,N,.inl {C,B,D,O _ _ J}}
  ·exact {v,N,.inr {d,e,C,D,S,U,B,X,O _ _ J}}
include o1e o0e in
theorem xQ:bZ P w K mg base (k+1) "is_fraction" ["thing"] (FZ K):=by
 refine bZ.of vE.d2 wX (by walk_at"ln") fun f U A B s H vs Q E g h=>?_;obtain ⟨x,r,rfl,h,q⟩:=h;refine {_,(aF (cA (PW.pt (lG (kQ (eA (aP (pP (T:="tuple")) rfl T.z_isinstance bL (aA (pv 0) (aA (sP (v:=.ty "tuple") rfl T.z_tuple YT rfl) aB))))) (iG (aW (oO g.units) (aP fH rfl T.z_len eB (aA (pv 0) aB)) aE)))) (aH (aU lI)) bI)
   (aF (cA (PW.pt (lG (kQ (eA (aI o1e g rfl (aA (aN aS (pv 0) aE) aB)))) (iG (kQ (eA (aI o1e g rfl (aA (aN aS (pv 0) aE) aB))))))) (aH (aU lI)) bI)
   (aH (aU (tV (gU HK (aN aS (pv 0) aE) aE) (mM (gU (dS g.units) (aI o0e g rfl (aA (aN aS (pv 0) aE) (aA (aN aS (pv 0) aE) aB))) aE))))))),?_}
 try dsimp only[aV,bC]
 rcases h with ⟨⟨t,ty,m⟩,rfl⟩|⟨p,xs,rfl,o,h2,rfl⟩|⟨p,v,M,rfl,o,G,I,Y,rfl⟩
 ·w_on;apply qM ty m ?_;exact q
 ·w_on;apply qM (.tup o) nP ?_;exact q
 ·w_on;apply qM (.tup o) nP ?_;apply mX (fun _=>?_) (fun c=>absurd rfl c);obtain ⟨t1,N,R,C,Z,k2,m⟩:=OZ (K:=K) (H:=H) G;refine {v,t1,N,R,rfl,C,Z,k2,?_};rw[m];w_on;cases v with
 |int a=>
   apply oW rfl ?_;obtain ⟨t2,O,S,D,k3,k4,X⟩:=OZ (K:=K) (H:=H) I;refine {M,t2,O,S,rfl,D,k3,k4,?_};rw[X];w_on;cases M with
  |int b=>
    apply oW rfl ?_;refine mX (fun c=>?_) (fun c=>?_)
    ·w_on;apply {a,b,rfl,?_};have e:decide ((n6 a b:Int)=1)=Lc (.int a) (.int b):=by
      show _=(decide (1<=b)&&decide (n6 a b=1))
      rw[decide_eq_true c,Bool.true_and];by_cases J:n6 a b=1
      ·rw[decide_eq_true J,decide_eq_true (by lia)]
      ·rw[decide_eq_false J,decide_eq_false (by lia)]
     rw[e];exact q
    ·w_on;have e:Lc (.int a) (.int b)=false:=by
      show (decide (1<=b)&&decide (n6 a b=1))=false;rw[decide_eq_false c,Bool.false_and]
     rw[e]at q;exact q
  |non=>refine gC rfl ?_;walk_at"go";exact q
  |bl _=>refine gC rfl ?_;walk_at"go";exact q
  |str _=>refine gC rfl ?_;walk_at"go";exact q
  |_=>exact absurd (show false=true from I) j4
 |non=>refine gC rfl ?_;walk_at"go";exact q
 |bl _=>refine gC rfl ?_;walk_at"go";exact q
 |str _=>refine gC rfl ?_;walk_at"go";exact q
 |_=>exact absurd (show false=true from G) j4
include d_fraction o1e o0e in
theorem HR:pC P w K mg base (k+1) "fraction" ["top","bottom"] [.int 1] (wS K):=by
 refine pC.of d_fraction oE (by walk_at"ln") fun f G A D s H J Q E m h=>?_;obtain ⟨t,b,rfl,I,C,q⟩:=h;refine {_,(aF (cA (PW.pt (lG (kQ (eA (aI o1e m rfl (aA (pv 0) aB)))) (iG (kQ (eA (aI o1e m rfl (aA (pv 1) aB))))))) (aH HE) bI)
   (aF (cA (aW (dS m.units) (pv 1) aE) (aH HE) bI)
   (aF (dL 2 oE.nd (aI o0e m rfl (aA (pv 0) (aA (pv 1) aB))))
   (aF (cA (aW sR (pv 1) aE) (aH (dL 2 oE.nd (AX tM (pv 2)))) bI)
   (aH (aU (bB (aA (aK bE (pv 0) (pv 2)) (aA (aK bE (pv 1) (pv 2)) aB))))))))),?_}
 try dsimp only[aV,bC]
 w_on;apply {_,_,_,_,rfl,.int t,iX,hV,?_};apply oW rfl ?_;apply {_,_,_,_,rfl,.int b,iX,hV,?_};apply oW rfl ?_;apply {t,b,rfl,?_};have B:(sg t b).natAbs<=b.natAbs:=by rw[tO];exact sw (by lia) (vi t b)
 have g:∀z,pH z (sg t b):=fun _=>{GO I,Sm.le B C}
 refine mX (fun c=>?_) (fun c=>?_)
 ·w_on;have o:-(n6 t b:Int)=sg t b:=by unfold sg;rw[if_pos c];lia
  rw[o];apply iF (g _) ?_;apply iF (g _) ?_;apply bD fun p hp=>?_;exact q p hp
 ·w_on;have o:(n6 t b:Int)=sg t b:=by unfold sg;rw[if_neg c]
  rw[o];apply iF (g _) ?_;apply iF (g _) ?_;apply bD fun p hp=>?_;exact q p hp
include o0e in
theorem WT:bZ P w K mg base (k+1) "added" ["one","other"] UI:=by
 refine bZ.of vE.d4 oF (by walk_at"ln") fun f b' A Z s H vs Q E hr h=>?_;obtain ⟨x,y,g,B,rfl,⟨p1,rfl,h1⟩,⟨p2,rfl,h2⟩,z1,z2,q⟩:=h;refine {_,(aF (dL 2 oF.nd (aI o0e hr rfl (aA (aN aS (pv 0) aE) (aA (aN aS (pv 1) aE) aB))))
   (aF (dL 3 oF.nd (aK bE (aN aS (pv 1) aE) (pv 2)))
   (aF (dL 4 oF.nd (aK bH (aK cV (aN aS (pv 0) aE) (pv 3)) (aK cV (aN aS (pv 1) aE) (aK bE (aN aS (pv 0) aE) (pv 2)))))
   (aF (dL 5 oF.nd (aI o0e hr rfl (aA (pv 4) (aA (pv 2) aB))))
   (aH (aU (bB (aA (aK bE (pv 4) (pv 5)) (aA (aK cV (aK bE (aN aS (pv 0) aE) (pv 5)) (pv 3)) aB))))))))),?_}
 try dsimp only[aV,bC]
 have c':=g.den_pos;have d':=B.den_pos;obtain ⟨s0,O,sb,R,⟨D,o,J⟩,zu,U,S,N⟩:=SD (a:=g.num) (b:=g.den) (c:=B.num) (d:=B.den) (by lia) (by lia) g.reduced B.reduced rfl rfl rfl rfl rfl;have M:∀{m n:Nat}{i j:Int},Sm m i->Sm n j->m<=60000000->n<=60000000->fJ i j:=fun h1 h2 h3 h4=>fJ.s h1 h2 h3 h4;have C:Sm 8000 (g.den:Int):=z1.2;have a':Sm 8000 (B.den:Int):=z2.2;w_on;refine {_,_,rfl,?_};generalize (n6 (g.den:Int) (B.den:Int):Int)=s at s0 O sb R D o J zu U S N ⊢;have hs:Sm 8000 s:=Sm.le (by lia) C;have I:∀z,pH z s:=fun _=>{by lia,hs}
 w_on;refine iF (I _) ?_;generalize (B.den:Int).fdiv s=u at O R D o J zu U S N ⊢;have hu:Sm 8000 u:=Sm.le zu a';w_on;apply nO (M (m:=8000) z1.1 hu (by decide) (by decide)) ?_;refine iF (I _) ?_;generalize (g.den:Int).fdiv s=v at O R D o J U S N ⊢;have hv:Sm 8000 v:=Sm.le U C;w_on;apply nO (M (m:=8000) z2.1 hv (by decide) (by decide)) ?_;refine {_,s,rfl,?_};generalize (n6 (g.num*u+B.num*v) s:Int)=Y at O R D o J S N ⊢;have hk:Sm 8000 Y:=Sm.le (by lia) hs;have G:∀z,pH z Y:=fun _=>{by lia,hk}
 w_on;apply iF (G _) ?_;apply iF (G _) ?_;have X:Sm 8000 ((g.den:Int).fdiv Y):=Sm.le N C;apply nO (M X hu (by decide) (by decide)) ?_;apply bD fun p hp=>?_;have e:=VB (t:=g.num*B.den+B.num*g.den) (b:=g.den*B.den) (df (by lia) (by lia)) D o J;rw[←yT]at e;refine q _ _ {p,rfl,?_} (aJ.new hp);rw[e.1,e.2];exact aC
include o1u in
theorem HN:bZ P w K mg base (k+1) "lessened" ["one","other"] TZ:=by
 refine bZ.of vE.d5 GQ (by walk_at"ln") fun f m A c s H O Q E B h=>?_;obtain ⟨x,y,C,D,rfl,t,⟨N,rfl,M⟩,I,J,q⟩:=h;refine {_,(aH (aU (aI o1u B rfl (aA (pv 0) (aA (bB (aA (AX tM (aN aS (pv 1) aE)) (aA (aN aS (pv 1) aE) aB))) aB))))),?_}
 try dsimp only[aV,bC]
 w_on;apply bD fun p hp=>?_;refine {x,.ref p,C,-D,rfl,t.tk (TK.new hp),{p,rfl,by rw[qg,xw];exact aC},I,J.neg,fun v g o G=>?_};w_on;exact q v g (by rw[Rat.sub_eq_add_neg];exact o) ((aJ.new hp).trans G)
include o1d in
theorem WM:bZ P w K mg base (k+1) "timed" ["one","other"] TR:=by
 refine bZ.of vE.d6 UR (by walk_at"ln") fun f I A g s H U Q E J h=>?_;obtain ⟨x,y,o,t,rfl,⟨R,rfl,D⟩,⟨S,rfl,G⟩,B,C,q⟩:=h;refine {_,(aH (aU (aI o1d.f J rfl (aA (aK cV (aN aS (pv 0) aE) (aN aS (pv 1) aE)) (aA (aK cV (aN aS (pv 0) aE) (aN aS (pv 1) aE)) aB))))),?_}
 try dsimp only[aV,bC]
 have M:∀{i j:Int},i.natAbs<2^3000->j.natAbs<2^3000->fJ i j:=fun D G=>fJ.s (m:=3000) (n:=3000) D G (by decide) (by decide);have N:=o.den_pos;have O:=t.den_pos;have c:(o.den:Int)*t.den≠0:=df (by lia) (by lia);w_on;apply nO (M B.1 C.1) ?_;apply nO (M B.2 C.2) ?_;apply {_,_,rfl,c,(Sm.mul (show Sm 3000 (o.den:Int) from B.2) (show Sm 3000 (t.den:Int) from C.2)).mono (by decide),fun p hp=>?_};exact q _ _ (by rw[←Cl];exact cI.low c aC) (aJ.new hp)
include o1d in
theorem JZ:bZ P w K mg base (k+1) "divided" ["one","other"] UE:=by
 refine bZ.of vE.d7 JL (by walk_at"ln") fun f I A g s H X Q E N h=>?_;obtain ⟨x,y,o,t,rfl,⟨S,rfl,D⟩,⟨U,rfl,G⟩,B,C,J,q⟩:=h;refine {_,(aH (aU (aI o1d.f N rfl (aA (aK cV (aN aS (pv 0) aE) (aN aS (pv 1) aE)) (aA (aK cV (aN aS (pv 0) aE) (aN aS (pv 1) aE)) aB))))),?_}
 try dsimp only[aV,bC]
 have M:∀{i j:Int},i.natAbs<2^3000->j.natAbs<2^3000->fJ i j:=fun D G=>fJ.s (m:=3000) (n:=3000) D G (by decide) (by decide);have O:=o.den_pos;have R:=t.den_pos;have c:(o.den:Int)*t.num≠0:=df (by lia) (fun z=>J (Rat.num_eq_zero.mp z));w_on;apply nO (M B.1 C.2) ?_;apply nO (M B.2 C.1) ?_;apply {_,_,rfl,c,(Sm.mul (show Sm 3000 (o.den:Int) from B.2) (show Sm 3000 t.num from C.1)).mono (by decide),fun p hp=>?_};exact q _ _ (by rw[←Dj];exact cI.low c aC) (aJ.new hp)
theorem JY:bZ P w K mg base (k+1) "is_less" ["one","other"] MN:=by
 refine bZ.of vE.d8 JK (by walk_at"ln") fun f C A c s H O Q E D h=>?_;obtain ⟨x,y,J,N,rfl,⟨G,rfl,g⟩,⟨I,rfl,o⟩,t,B,q⟩:=h;refine {_,(aH (aU (gU sR (aK cV (aN aS (pv 0) aE) (aN aS (pv 1) aE)) (aK cV (aN aS (pv 1) aE) (aN aS (pv 0) aE))))),?_}
 try dsimp only[aV,bC]
 have M:∀{i j:Int},i.natAbs<2^8000->j.natAbs<2^8000->fJ i j:=fun g o=>fJ.s (m:=8000) (n:=8000) g o (by decide) (by decide);w_on;apply nO (M t.1 B.2) ?_;apply nO (M B.1 t.2) ?_;rw[XI];exact q
include o0q in
theorem DG:bZ P w K mg base (k+1) "is_moment" ["thing"] (TY K):=by
 refine bZ.of vE.d9 CO (by walk_at"ln") fun f g A c s H J Q E B h=>?_;obtain ⟨x,b,rfl,h,q⟩:=h;refine {_,(aH (aU (tV (aI o0q B rfl (aA (pv 0) aB)) (mM (gU HK (aN aS (pv 0) aE) aE))))),?_}
 try dsimp only[aV,bC]
 cases h with
|no h=>
  w_on;apply {_,false,rfl,h,?_};exact q
|@fr p a b h t C D=>
  w_on;refine {_,true,rfl,.inr (.inr {p,_,_,rfl,h,rfl,rfl,?_,t.symm}),?_}
  ·intro G I m o;cases m;cases o;exact {C,D}
  w_on;exact q
include o0e in
theorem yX:bZ P w K mg base (k+1) "whole_tops" ["fractions"] FK:=by
 refine bZ.of vE.d10 iO (by walk_at"ln") fun f g' A c' s H vs Q E hr h=>?_;obtain ⟨l,xs,B,rfl,hv,hn,hB,i',hf,q⟩:=h;refine {_,(aF (dL 1 iO.nd aE)
   (aF (gB A6 rfl (cL (pv 0)) (qQ 2 iO.nd) (aH (dL 1 iO.nd (aK cV (aK bE (pv 1) (aI o0e hr rfl (aA (pv 1) (aA (aN aS (pv 2) aE) aB)))) (aN aS (pv 2) aE)))))
   (aH (aU (eJ (cM (aG mE) ["fractions","bottom","each"] ["each"] ["bottom"] [1]) rfl (cL (pv 0)) (fun _ _ _ _=>(Zn ["each","bottom"] 0)) (fun _ _ _ _=>(aK cV (aN jB (pv 0) aE) (aK bE (pv 1) (aN jB (pv 0) aE)))) (fun _ _ _ _=>eG)))))),?_}
 try dsimp only[aV,bC]
 have C:∀D:Int,0<D->D∣(B:Int)->Sm 400 D:=fun D h1 h2=>Sm.le (b:=(B:Int)) (sw (by lia) (ka.mpr h2)) (show (B:Int).natAbs<2^400 by lia);w_on;refine cK (cU.of hv) ?_;refine JR (xs:=xs) (fun i σ G=>∃(D:Int)(o:Option V),σ=[some (.ref l),some (.int D),o]/\G=H/\0<D/\D∣(B:Int)/\∀x∈xs.take i,∀r:Rat,cI H x r->(r.den:Int)∣D) {1,_,rfl,rfl,by decide,{B,by simp},fun f hf=>by simp at hf} ?_ ?_ ?_
 ·rintro i σ G hi ⟨D,o,rfl,rfl,_⟩;exact cU.of hv
 ·rintro i x σ G hx ⟨D,o,rfl,rfl,Z,m,J⟩;obtain ⟨r,⟨tq,rfl,ht⟩,f2,z⟩:=hf x (o0 hx);have f1:(0:Int)<r.den:=by have:=r.den_pos;lia
  have I:(r.den:Int)∣(B:Int):=Q6.mpr f2;obtain ⟨s1,s2,s3,s4⟩:=XM Z f1 m I;have gp:0<(n6 D r.den:Int):=by have:=vQ (t:=D) (b:=r.den) (by lia);lia
  have d':Sm 8000 (n6 D r.den:Int):=Sm.mono (Sm.le (b:=D) (by have:=sw (by lia) (Int.gcd_dvd_natAbs_left D r.den);lia) (C D Z m)) (by decide);have S:Sm 60000000 (D.fdiv (n6 D r.den:Int)):=Sm.mono (Sm.le (b:=D) (iJ (by lia) (vS (by lia) (V3 ..))) (C D Z m)) (by decide);have U:Sm 60000000 (r.den:Int):=Sm.mono (C r.den f1 I) (by decide);w_on;apply {D,r.den,rfl,?_};apply iF {by lia,d'} ?_;apply nO (.inr {S,U}) ?_;refine {_,_,rfl,rfl,s1,s2,fun g hg r' O=>?_};rw[yj,hx]at hg;rcases w8.mp hg with h|h
  ·exact vj (J g h r' O) s3
  ·rw[i4.mp h]at O;obtain ⟨p',e',h'⟩:=O;cases e';rw[ht]at h';simp only[Q7,HO.tup.injEq,List.cons.injEq,V.int.injEq,and_true]at h';rw[←h'.2];exact s4
 ·rintro σ G ⟨D,o,rfl,rfl,Z,m,J⟩;rw[K4]at J;have sD:=C D Z m;w_on;refine cK (cU.of hv) ?_;refine mI (xs:=xs) (by lia) (fun c i ys X=>Kp c G X/\∃Y:List Int,Y.length=i/\ys=Y.map V.int) (fun c M=>{Kp.new M,[],rfl,rfl}) ?_ ?_ ?_
  ·rintro c i ys X M _ ⟨kp,_⟩;exact cU.of (kp _ _ (aD hv M) hv)
  ·rintro c i ys X x M hx a' ha ⟨kp,Y,R,rfl⟩;have b':=o0 hx;obtain ⟨r,⟨tq,rfl,ht⟩,f2,z⟩:=hf x b';have f1:(0:Int)<r.den:=by have:=r.den_pos;lia
   have I:(r.den:Int)∣(B:Int):=Q6.mpr f2;have j':X tq=some (.tup [.int r.num,.int r.den]):=kp _ _ (aD ht M) ht;have U:Sm 8000 (r.den:Int):=Sm.mono (C r.den f1 I) (by decide);have S:Sm 60000000 (D.fdiv r.den):=Sm.mono (Sm.le (b:=D) (iJ (by lia) (vS (by lia) (J _ b' r {tq,rfl,ht}))) sD) (by decide);have f':Sm 60000000 r.num:=Sm.mono (show Sm 2000 r.num from z.1) (by decide);w_on;apply iF {by lia,U} ?_;apply nO (.inr {f',S}) ?_;refine gD (h8.mp hx).1 a' ha {kp.trans Kp.upd,Y++[r.num*D.fdiv r.den],by rw[q4,R];rfl,?_};rw[z9];rfl
  ·rintro c ys X M ha a' ⟨kp,Y,R,rfl⟩;w_on;exact q c X Y M (fun b o e=>kp _ _ (aD e M) e) R ha
include d_sorted_by o0r in
theorem DE(BB:zQ mg base):bZ P w K mg base (k+1) "sorted_by" ["fractions","things"] (rM K):=by
 refine bZ.ofC d_sorted_by rT (by walk_at"ln") fun f A b' s H vs Q E hr h=>?_;obtain ⟨l,l2,xs,ys,B,rfl,hv,Z,hl,hn,hB,U,hf,hT,q⟩:=h;refine {_,(@aF _ _ _ _ _ (@VW _ _ (i:=2) _ _ _ _ rT.nd rfl (by w_left) (@QI _ _ _ _ _ _ _ _ _ _ _ _ _ _ _ _ _ _ hr rfl rfl T.z_sorted rfl T.z_zip rfl d_sorted_by.hd BB rfl rfl (aA (aI o0r hr rfl (aA (pv 0) aB)) (aA (pv 1) aB)) (by rfl) (by rfl) (by rfl)) (by rfl) (by w_means)) (aH (aU (eJ (cM (aG fD) ["fractions","things","pairs"] ["pair"] [] []) rfl (cL (pv 2)) (fun _ _ _ _=>(Zn ["pair"] 0)) (fun _ _ _ _=>(aN jB (pv 0) aE (fun _ _=>rfl))) (fun _ _ _ _=>eG))))),?_}
 try dsimp only[aV,bC]
 w_on;apply {l,xs,B,rfl,hv,hn,hB,U,hf,fun p1 H1 ts d' s1 g' h1=>?_};refine {p1,l2,ts,ys,rfl,cU.of h1,cU.of (s1 _ _ Z),by lia,by lia,rH.same hT s1,fun pl G tr e' kp I X Y m=>?_};have O:Kp tT H G:=s1.kp.trans kp;have f':tr.length<=500:=by have:=m.length_eq;rw[i8,length_zip]at this;lia
 w_on;refine cK (cU.of X) ?_;refine mI (xs:=tr.map fun p=>V.ref p.1) (by rw[i8];lia) (fun c i S t=>Kp c G t/\S=(tr.take i).map fun p=>p.2.2) (fun c C=>{Kp.new C,rfl}) ?_ ?_ ?_
 ·rintro c i S t C _ ⟨g,_⟩;exact cU.of (g _ _ (aD X C) X)
 ·rintro c i S t x C hx J R ⟨g,rfl⟩;rw[m5]at hx;obtain ⟨tp,D,rfl⟩:=A8.mp hx;have M:=Y tp (o0 D);have c':t tp.1=_:=g _ _ (aD M C) M;w_on;refine gD (by rw[i8];exact (h8.mp D).1) J R {g.trans Kp.upd,?_};rw[yj,D];simp
 ·rintro c S t C R J ⟨g,rfl⟩;rw[i8,K4]at R;have sG:aJ G t:=fun b o e=>g _ _ (aD e C) e;have a':Kp tT H t:=O.trans sG.kp;w_on;refine q c t _ (kTf O I C) a' (rH.same I sG) ?_ R;have:=m.map (·.2);rw[zz (by lia),W4]at this;exact this
theorem HM:bZ P w K mg base (k+1) "posts_of" ["net"] (MD w):=by
 refine bZ.of vE.d12 GP (by walk_at"ln") fun f i' A g' s H vs Q E hr h=>?_;obtain ⟨l,n,U,rfl,⟨R,Z,O⟩,h',hU,e',q⟩:=h;refine {_,(aH (aU (aP (yO rfl) rfl T.z_sorted lQ (aA (jI (RV rfl) rfl T.z_set Lq (aA (aK bH (eJ (cM (aG mF) ["net"] ["run"] [] []) rfl (cL (pv 0)) (fun _ _ _ _=>(Zn ["run"] 0)) (fun _ _ _ _=>(aN jB (pv 0) aE)) (fun _ _ _ _=>eG)) (eJ (cM (aG mF) ["net"] ["run"] [] []) rfl (cL (pv 0)) (fun _ _ _ _=>(Zn ["run"] 0)) (fun _ _ _ _=>(aN jB (pv 0) aE)) (fun _ _ _ _=>eG))) aB)) aB)))),?_}
 try dsimp only[aV,bC]
 have b':R.length=n.length:=(Paired.length O).trans (by simp[kn]);w_on;refine cK (cU.of Z) ?_;refine mI (xs:=R) (by lia) (fun c i B G=>Kp c H G/\B=(n.take i).map fun r=>V.str r.1) (fun c g=>{Kp.new g,rfl}) ?_ ?_ ?_
 ·intro c i B G g _ ⟨kp,_⟩;exact cU.of (kp _ _ (aD Z g) Z)
 ·intro c i B G x g I J hG ⟨kp,e⟩;obtain ⟨r,hr,p,u,rfl,hp,fu⟩:=Paired.at O I;obtain ⟨sr,hs,rfl⟩:=XR hr;have t:=hp;have f':=kp _ _ (aD t g) t;w_on;refine gD (h8.mp I).1 J hG {Kp.trans kp Kp.upd,?_};have Y:i<n.length:=(h8.mp hs).1;rw[B5 Y,z9,←e];have:n[i]=sr:=by
   rw[i3 Y]at hs;exact j5 hs
  rw[this];rfl
 ·intro a1 l' G1 h1 S j' ⟨C,e1⟩;have D:=C _ _ (aD Z h1) Z;rw[b',K4]at e1;subst e1;w_on;refine cK (cU.of D) ?_;refine mI (xs:=R) (by lia) (fun c i B G=>Kp c G1 G/\B=(n.take i).map fun r=>V.str r.2.1) (fun c g=>{Kp.new g,rfl}) ?_ ?_ ?_
  ·intro c i B G g _ ⟨kp,_⟩;exact cU.of (kp _ _ (aD D g) D)
  ·intro c i B G x g I J hG ⟨kp,e⟩;obtain ⟨r,hr,p,u,rfl,hp,fu⟩:=Paired.at O I;obtain ⟨sr,hs,rfl⟩:=XR hr;have t:=C _ _ (aD hp h1) hp;have f':=kp _ _ (aD t g) t;w_on;refine gD (h8.mp I).1 J hG {Kp.trans kp Kp.upd,?_};have Y:i<n.length:=(h8.mp hs).1;rw[B5 Y,z9,←e];have:n[i]=sr:=by
    rw[i3 Y]at hs;exact j5 hs
   rw[this];rfl
  ·intro a2 m' G2 h2 d' k' ⟨M,e2⟩;rw[b',K4]at e2;subst e2;have c':=M _ _ (aD S h2) S;w_on;refine .inr (.inl {a1,a2,_,_,rfl,rfl,c',d',vL (by simp;lia),fun a3 h3=>?_});w_on;have X:((n.map fun r=>V.str r.1)++n.map fun r=>V.str r.2.1)=(names n).map V.str:=by
    rw[names,z9,W4,W4];rfl
   rw[X];refine {a3,names n,rfl,aC,by simp[names];lia,fun a4 zs h4 nd hz=>?_};w_on;apply {a4,rfl,.inl {zs,aC,A5 (kR nd fun x I=>e' x ((hz x).mp I)) (by lia),fun a5 B h5 a'=>?_}};have sH:aJ H (upd (upd (upd G2 a3 (.lst ((names n).map V.str))) a4 (Dv w a4 zs)) a5 (.lst (B.map V.str))):=fun b o hb=>by have m:=C _ _ (aD hb h1) hb;exact aO h5 (aO h4 (aO h3 (M _ _ (aD m h2) m)))
   refine q a5 _ B ?_ sH aC (a'.nodup_iff.mpr nd) fun x=>(a'.mem_iff).trans (hz x);cases z:H a5 with
  |none=>rfl
  |some o=>
    have m:=C _ _ (aD z h1) z;rw[aO h4 (aO h3 (M _ _ (aD m h2) m))]at h5;cases h5
theorem xO:bZ P w K mg base (k+1) "runs_beside" ["net"] Fd:=by
 refine bZ.of vE.d13 gH (by walk_at"ln") fun f w' A p' s H vs Q E hr h=>?_;obtain ⟨l,b',rfl,⟨j',hl,i'⟩,t',q⟩:=h;refine {_,(aF (dL 1 gH.nd iW)
   (aF (gB A6 rfl (OG rfl T.z_enumerate (aA (pv 0) aB)) (jO (n:=2) rfl (bA (qQ 2 gH.nd) (bA (qQ 3 gH.nd) eI))) (aF (dM (jD E2 A1 A0 dD (jD X3 on oj BC (pv 1) (aA (aN aS (pv 3) aE) (aA (bQ aB) aB))) (aA (bB (aA (pv 2) (aA (aN aS (pv 3) aE) aB))) aB)))
   (aH (dM (jD E2 A1 A0 dD (jD X3 on oj BC (pv 1) (aA (aN aS (pv 3) aE) (aA (bQ aB) aB))) (aA (bB (aA (pv 2) (aA (aN aS (pv 3) aE) aB))) aB))))))
   (aH (aU (pv 1))))),?_}
 try dsimp only[aV,bC]
 w_on;apply oJ fun Z hd=>?_;refine e_K (aO hd hl) ?_;have o':j'.length=b'.length:=Paired.length i';refine VF (xs:=j') (fun i σ X=>∃o1 o2 f,σ=[some (.ref l),some (.ref Z),o1,o2]/\BI H X Z f (2*i)/\EW b' i f/\∀q,(f q).length<=2*i) {_,_,_,rfl,BI.start hd,EW.zero,fun _=>j8 _} ?_ ?_ ?_
 ·rintro i σ X _ ⟨o1,o2,f,rfl,B,_⟩;exact cU.of (B.same _ _ hl)
 ·rintro i x T0 σ X hx hT ⟨o1,o2,f,rfl,B,Y,m⟩;have hi:i<b'.length:=by
   have:=(h8.mp hx).1;lia
  obtain ⟨r,hr,p,u,rfl,hp,fu⟩:=Paired.at i' hx;have y':p≠Z:=aD hp hd;have B1:=B.alloc (o:=.tup [.int i,.ref p]) hT;have m':=B1.same _ _ hp;have k':upd X T0 (.tup [.int i,.ref p]) T0=some (.tup [.int i,.ref p]):=aC;generalize upd X T0 (.tup [.int i,.ref p])=H2 at B1 m' k' ⊢;obtain ⟨v',a1,b1,c1,e1,g1⟩:=B1.ex;w_on;apply cE fun l1 N=>?_;refine xF (aO N a1) (by lia) (fun u1 S=>?_) (fun S=>?_)
  ·obtain ⟨m1,rfl,x',z',f',q'⟩:=e1 _ _ S;w_on;apply bD fun t1 O=>?_;have u':=Paired.length q';have s':=m r.1;refine gK (aO O (aO N f')) (by lia) ?_;have D:=B1.more (p:=r.1) (x:=(i,r.2.1)) a1 S f' N O;generalize upd (upd (upd H2 l1 _) t1 _) m1 _=G at D⊢;have n':=D.same _ _ hp;obtain ⟨h',J,b2,c2,e2,g2⟩:=D.ex;w_on;apply cE fun U c=>?_;refine xF (aO c J) (by lia) (fun u2 t=>?_) (fun t=>?_)
   ·obtain ⟨m2,rfl,l',r',R,c'⟩:=e2 _ _ t;w_on;apply bD fun t2 g=>?_;have g':=Paired.length c';have e':=(iU (p:=r.1) (x:=(i,r.2.1)) m) r.2.1;refine gK (aO g (aO c R)) (by lia) ?_;have C:=D.more (p:=r.2.1) (x:=(i,r.1)) J t R c g;generalize upd (upd (upd G U _) t2 _) m2 _=I at C⊢;have a':=C.same _ _ hp;w_on;exact {_,_,_,rfl,C,Y.next hr,fun q=>iU (iU m) q}
   ·have M:U≠Z:=fun z=>by subst z;rw[c]at J;cases J
    w_on;apply bD fun t2 g=>?_;refine gK (aO g (aY M aC)) (by decide) ?_;have C:=D.new (p:=r.2.1) (x:=(i,r.1)) J t c g;generalize upd (upd (upd (upd G U _) _ _) t2 _) U _=I at C⊢;have a':=C.same _ _ hp;w_on;exact {_,_,_,rfl,C,Y.next hr,fun q=>iU (iU m) q}
  ·have d':l1≠Z:=fun z=>by subst z;rw[N]at a1;cases a1
   w_on;apply bD fun t1 O=>?_;refine gK (aO O (aY d' aC)) (by decide) ?_;have D:=B1.new (p:=r.1) (x:=(i,r.2.1)) a1 S N O;generalize upd (upd (upd (upd H2 l1 _) _ _) t1 _) l1 _=G at D⊢;have n':=D.same _ _ hp;obtain ⟨h',J,b2,c2,e2,g2⟩:=D.ex;w_on;apply cE fun U c=>?_;refine xF (aO c J) (by lia) (fun u2 t=>?_) (fun t=>?_)
   ·obtain ⟨m2,rfl,l',r',R,c'⟩:=e2 _ _ t;w_on;apply bD fun t2 g=>?_;have g':=Paired.length c';have e':=(iU (p:=r.1) (x:=(i,r.2.1)) m) r.2.1;refine gK (aO g (aO c R)) (by lia) ?_;have C:=D.more (p:=r.2.1) (x:=(i,r.1)) J t R c g;generalize upd (upd (upd G U _) t2 _) m2 _=I at C⊢;have a':=C.same _ _ hp;w_on;exact {_,_,_,rfl,C,Y.next hr,fun q=>iU (iU m) q}
   ·have M:U≠Z:=fun z=>by subst z;rw[c]at J;cases J
    w_on;apply bD fun t2 g=>?_;refine gK (aO g (aY M aC)) (by decide) ?_;have C:=D.new (p:=r.2.1) (x:=(i,r.1)) J t c g;generalize upd (upd (upd (upd G U _) _ _) t2 _) U _=I at C⊢;have a':=C.same _ _ hp;w_on;exact {_,_,_,rfl,C,Y.next hr,fun q=>iU (iU m) q}
 ·rintro σ X ⟨o1,o2,f,rfl,B,Y,m⟩;rw[o']at Y m;w_on;exact q Z X hd B.same (B.bes Y m)
include o1h in
theorem tX:bZ P w K mg base (k+1) "least_moments" ["deeds"] Ew:=by
 refine bZ.of vE.d14 fK (by walk_at"ln") fun f d' A b' s H vs Q E hr h=>?_;obtain ⟨l,g,rfl,⟨X,hl,U⟩,c',R,q⟩:=h;refine {_,(aF (dL 1 fK.nd iW)
   (aF (gB A6 rfl (cL (pv 0)) (jO (n:=2) rfl (bA (qQ 2 fK.nd) (bA (qQ 3 fK.nd) eI))) (aH (cA (PW.pt (lG (tU (tW hr.u1 (pv 2) (pv 1))) (iG (eA (aI o1h hr rfl (aA (pv 3) (aA (aQ hr.u1 (pv 1) (pv 2)) aB))))))) (aH (gO hr.u1 (pv 1) (pv 2) (pv 3) rfl)) bI)))
   (aH (aU (pv 1))))),?_}
 try dsimp only[aV,bC]
 w_on;apply oJ fun d Z=>?_;refine cK (cU.of (aO Z hl)) ?_;have a':X.length=g.length:=Paired.length U;refine JR (xs:=X) (fun i σ B=>∃G I,σ=[some (.ref l),some (.ref d),G,I]/\aJ H B/\DQ cI B d (lst (g.take i))) {_,_,rfl,aJ.new Z,[],aC,.nil} ?_ ?_ ?_
 ·rintro i σ B _ ⟨G,I,rfl,D,_⟩;exact cU.of (D _ _ hl)
 ·rintro i x σ B hx ⟨G,I,rfl,D,t,hk,kq⟩;have hi:i<g.length:=by
   have:=(h8.mp hx).1;lia
  obtain ⟨y,hy,p,u,rfl,hp,fu⟩:=Paired.at U hx;obtain ⟨m,C⟩:=y;have S:g[i]=(m,C):=by rw[i3 hi]at hy;exact j5 hy
  have e':=D _ _ hp;have N:cI B u C:=fu.tk D.tk;have zq:Sz 8000 C:=R (m,C) (S▸K7 hi);have O:t.length<=1000:=by
   have h1:=kq.len;have h2:(lst (g.take i)).length<=g.length:=by have:=OQ (g.take i);rw[dy]at this;lia
   lia
  have et:g.take (i+1)=g.take i++[(m,C)]:=by rw[B5 hi,S]
  have M:iA (lst (g.take i)) (m,C)=eS (lst (g.take i)) m C->∃G I,[some (V.ref l),some (V.ref d),some (kV m),some u]=[some (V.ref l),some (V.ref d),G,I]/\aJ H (upd B d (.dK (eK t m u)))/\DQ cI (upd B d (.dK (eK t m u))) d (lst (g.take (i+1))):=fun e=>by
   refine {_,_,rfl,fun c o hc=>?_,_,aC,?_}
   ·rw[aX (aD hc Z)];exact D _ _ hc
   ·rw[et,sU,e];exact ((kq.put (k:=m) N).imp fun v b f=>f.tk (TK.dic hk))
  w_on;refine VI (.inl hk) ?_;rcases kq.val (k:=m) with ⟨Y,J⟩|⟨v1,r1,Y,J,f1⟩
  ·rw[Y];w_on;apply lF hk O ?_;refine M ?_;unfold iA;rw[J]
  ·rw[Y];w_on;apply sJ (.inl hk) Y ?_;have zr:Sz 8000 r1:=R (m,r1) (fz (mS (cQ J)));apply {u,v1,C,r1,rfl,N,f1,zq,zr,?_};refine mX (fun c=>?_) (fun c=>?_)
   ·w_on;apply lF hk O ?_;refine M ?_;unfold iA;rw[J];exact if_pos c
   ·w_on;refine {_,_,rfl,D,t,hk,?_};rw[et,sU];unfold iA;rw[J];show KQ cI B t (if C<r1 then _ else _);rw[if_neg c];exact kq
 ·rintro σ B ⟨G,I,rfl,D,dq⟩;w_on;rw[a',K4]at dq;exact q d B Z D dq
include o1h in
theorem QM:bZ P w K mg base (k+1) "is_out" ["taken","number","moment"] Et:=by
 refine bZ.of vE.d15 QE (by walk_at"ln") fun f D A o s H U Q E m h=>?_;obtain ⟨R,S,B,v,t,rfl,⟨J,hk,I⟩,ft,N,O,q⟩:=h;refine {_,(aH (aU (tV (Jo (DC m.u1 (pv 1) (pv 0))) (mM (aI o1h m rfl (aA (aQ m.u1 (pv 0) (pv 1)) (aA (pv 2) aB))))))),?_}
 try dsimp only[aV,bC]
 w_on;refine Ft (.inl hk) ?_;unfold WJ at q;rcases I.val (k:=i5 B) with ⟨c,g⟩|⟨M,C,c,g,G⟩
 ·rw[g]at q;rw[c];w_on;exact q
 ·rw[g]at q;rw[c];w_on;apply xH (.inl hk) c ?_;apply {M,v,C,t,rfl,G,ft,N (i5 B,C) (cQ g),O,?_};exact q
include o1h in
theorem xR:bZ P w K mg base (k+1) "earliest_of" ["waiting"] Fa:=by
 refine bZ.of vE.d16 gI (by walk_at"ln") fun f b' A a' s H vs Q E Z h=>?_;obtain ⟨a,W,rfl,⟨m,hk,M⟩,nd,zW,Y,q⟩:=h;refine {_,(aF (dL 1 gI.nd dH)
   (aF (OB A6 rfl (pv 0) (qQ 2 gI.nd) (aH (cA (PW.pt (lG (aW kD (pv 1) dH) (iG (eA (aI o1h Z rfl (aA (aN aS (aQ Z.u1 (pv 0) (pv 2)) aE) (aA (aN aS (aQ Z.u1 (pv 0) (pv 1)) aE) aB))))))) (aH (dL 1 gI.nd (pv 2))) bI)))
   (aH (aU (pv 1))))),?_}
 try dsimp only[aV,bC]
 w_on;apply VG a (nU.dK hk) ?_;refine {rfl,m,hk,fun o=>?_};have ek:∀{p:aR}{e:nW aR},(p,e)∈W->∃v,bP m p=some v/\jW (upd H a (.frz o (.dK m))) v e:=fun {p e} hp=>by
  rcases M.val (k:=p) with ⟨_,t⟩|⟨v1,r1,S,t,U⟩
  ·rw[eC nd hp]at t;cases t
  ·rw[eC nd hp]at t;cases t;exact {v1,S,U.tk (TK.dic hk)}
 refine NU (fun i O G=>G=upd H a (.frz o (.dK m))/\∃e o2,O=[some (.ref a),some e,o2]/\((i=0/\e=.non)∨∃p B,(p,B)∈W/\e=kV p/\∀j w,j<i->W[j]?=some w->B.1<=w.2.1)) {rfl,_,_,rfl,.inl {rfl,rfl}} ?_ ?_ ?_
 ·rintro i O G _ ⟨rfl,_⟩;exact aC
 ·rintro i c v O G hx ⟨rfl,e,o2,rfl,X⟩;have hi:i<W.length:=by
   have h1:=(h8.mp hx).1;have h2:=M.len;lia
  obtain ⟨y,C,e0,_⟩:=Paired.at M hx;obtain ⟨c',B⟩:=y;cases (show c=c' from e0);have J:(c,B)∈W:=o0 C;obtain ⟨v1,S,p1,u1,rfl,h1,U⟩:=ek J;rcases X with ⟨rfl,rfl⟩|⟨p,I,hp,rfl,N⟩
  ·w_on;refine {rfl,_,_,rfl,.inr {c,B,J,rfl,fun j w D g=>?_}};have:j=0:=by lia
   subst this;rw[g]at C;cases C;exact gx
  ·obtain ⟨v2,t,p2,u2,rfl,h2,f2⟩:=ek hp;w_on;apply sJ (.inr {_,aC}) S ?_;apply sJ (.inr {_,aC}) t ?_;apply {u1,u2,B.1,I.1,rfl,U,f2,zW _ J,zW _ hp,?_};refine mX (fun R=>?_) (fun R=>?_)
   ·w_on;refine {rfl,_,_,rfl,.inr {c,B,J,rfl,fun j w D g=>?_}};by_cases z:j=i
    ·subst z;rw[g]at C;cases C;exact gx
    ·exact ei (Rat.le_of_lt R) (N j w (by lia) g)
   ·w_on;refine {rfl,_,_,rfl,.inr {p,I,hp,rfl,fun j w D g=>?_}};by_cases z:j=i
    ·subst z;rw[g]at C;cases C;exact ug.mp R
    ·exact N j w (by lia) g
 ·rintro O G ⟨rfl,e,o2,rfl,X⟩;have hl:=M.len;have hW:W.length≠0:=fun z=>Y (N8.mp z);rcases X with ⟨z,_⟩|⟨p,I,hp,rfl,N⟩
  ·lia
  ·refine VH ?_;rw[HZ aC,Aa,ST hk];w_on;refine q p I hp fun w g=>?_;obtain ⟨j,D⟩:=P8 g;exact N j w (by have:=(h8.mp D).1;lia) D
include d_falls_of o1u o1h o0n o0h o1n o0m in
theorem HS:pC P w K mg base (k+1) "falls_of" ["net","pushes","takings"] [.non] Ey:=by
 refine pC.of d_falls_of dU (by walk_at"ln") fun f cr A bx s H vs Q E O h=>?_;obtain ⟨l,D',lp,ps,vt,ts,DD,MM,rfl,J,y',C',hR,q⟩:=h;refine {_,(aF (dL 3 dU.nd (aI o0n O rfl (aA (pv 0) aB)))
   (aF (dL 4 dU.nd (aI o0h O rfl (aA (Jl (pv 2) (mM (bQ aB))) aB)))
   (aF (dL 5 dU.nd (aI o0h O rfl (aA (pv 1) aB)))
   (aF (dL 6 dU.nd (jI (rE rfl) rfl T.z_dict EI (aA (HJ (cM (aG gA) ["net","pushes","takings","beside","taken","pushed","waiting","fallen","post","number","other","moment"] ["post"] ["pushed"] [5]) rfl (pv 5) (fun _ _ _ _=>(Zn ["post","pushed"] 0)) (fun _ _ _ _=>(bB (aA (pv 0) (aA (bB (aA (aQ O.u1 (pv 1) (pv 0)) (aA dH (aA dH aB)))) aB)))) (fun _ _ _ _=>eG)) aB)))
   (aF (dL 7 dU.nd iW)
   (aF (sN A6 (Je (pv 6)) (aF (dL 8 dU.nd (aI o0m O rfl (aA (pv 6) aB)))
   (aF (gO O.u1 (pv 7) (pv 8) (WE (pv 6) (pv 8) {rfl,rfl,rfl,rfl}) rfl)
   (aH (gB A6 rfl (cL (gP O.u1 (pv 3) (pv 8) (bQ aB) {rfl,rfl,rfl,rfl})) (jO (n:=2) rfl (bA (qQ 9 dU.nd) (bA (qQ 10 dU.nd) eI))) (aF (dL 11 dU.nd (aI o1u O rfl (aA (aN aS (aQ O.u1 (pv 7) (pv 8)) aE) (aA (aN aS (aN aS (pv 0) (pv 9)) aE) aB))))
   (aF (cA (PW.pt (lG (tU (DC O.u1 (pv 10) (pv 7))) (iG (eA (aI o1n O rfl (aA (pv 4) (aA (pv 9) (aA (pv 11) aB)))))))) (aH HG) bI)
   (aH (cA (PW.pt (lG (tU (tW O.u1 (pv 10) (pv 6))) (iG (eA (aI o1h O rfl (aA (pv 11) (aA (aN aS (aQ O.u1 (pv 6) (pv 10)) aE) aB))))))) (aH (gO O.u1 (pv 6) (pv 10) (bB (aA (pv 11) (aA (pv 9) (aA (pv 8) aB)))) rfl)) bI)))))))))
   (aH (aU (pv 7))))))))),?_}
 try dsimp only[aV,bC]
 w_on;apply {l,D',rfl,J.lq,J.len,fun dB M hB s1 ar=>?_};apply Oi (C'.sm s1) fun lt H2 s2 bu=>?_;apply {lt,ts,rfl,bu,A5 C'.len (by decide),C'.sz,fun dT H3 hT s3 tq=>?_};have aj:=(s1.trans s2).trans s3;have cz:=y'.len;apply {lp,ps,rfl,(y'.sm aj).lq,by lia,fun x D=>hR.sz (y'.bd x D) (by lia),fun dP H4 hP s4 pq=>?_};obtain ⟨kP,w',qP⟩:=pq;apply NV dP (nU.dK w') ?_;refine {rfl,kP,w',fun ob=>?_};have cy:kP.length<=100:=by have h1:=qP.len;have h2:=OQ ps;lia
 refine VM (by lia) (fun R i ys G=>Kp R (upd H4 dP (.frz ob (.dK kP))) G/\Paired (fun v (x:aR×nW aR)=>∃a u,v=.ref a/\G a=some (.tup [kV x.1,u])/\jW G u x.2) ys (((lst ps).map fun x=>(x.1,(x.2,none))).take i)) ?_ ?_ ?_ ?_
 ·intro R h0;exact {Kp.new h0,.nil}
 ·intro R i ys G h0 _ ⟨k,_⟩;exact k _ _ (fun z=>by subst z;rw[aC]at h0;cases h0) aC
 ·intro R i ys G kk v h0 D Λ hG ⟨kp,pr⟩;have Y':G dP=some (.frz ob (.dK kP)):=kp _ _ (fun z=>by subst z;rw[aC]at h0;cases h0) aC;have hi:i<(lst ps).length:=by
   have h1:=(h8.mp D).1;have h2:=qP.len;lia
  obtain ⟨y,hy,e0,fv⟩:=Paired.at qP D;obtain ⟨bt,qq⟩:=y;cases (show kk=bt from e0);have ν:bG (lst ps) kk=some qq:=eC (KM ps) (o0 hy);obtain ⟨C,e1,f1⟩:∃C,bP kP kk=some C/\cI G C qq:=by
   rcases qP.val (k:=kk) with ⟨_,S⟩|⟨C,r1,e1,S,f1⟩
   ·rw[ν]at S;cases S
   ·rw[ν]at S;cases S;refine {C,e1,f1.tk (TK.trans (TK.dic w') fun p xs h=>kp _ _ (aD h h0) h)}
  w_on;apply sJ (.inr {_,Y'}) e1 ?_;apply bD fun t1 A'=>?_;refine bD fun t2 B'=>?_;have η:=aO (o:=.tup [kV kk,.ref t1]) B' (aO (o:=.tup [C,.non,.non]) A' hG);refine gD (h8.mp D).1 Λ η {?_,?_}
  ·exact Kp.trans (Kp.trans (Kp.trans kp (Kp.new A')) (Kp.new B')) Kp.upd
  ·have tk:TK (upd (upd G t1 (.tup [C,.non,.non])) t2 (.tup [kV kk,.ref t1])) (upd (upd (upd G t1 (.tup [C,.non,.non])) t2 (.tup [kV kk,.ref t1])) R (.lst (ys++[.ref t2]))):=TK.lst η;have ε:=((TK.new (o:=.tup [C,.non,.non]) A').trans (TK.new (o:=.tup [kV kk,.ref t1]) B')).trans tk;have bf:i<((lst ps).map fun x=>(x.1,((x.2,none):nW aR))).length:=by rw[i8];exact hi
   rw[B5 bf];have:((lst ps).map fun x=>(x.1,((x.2,none):nW aR)))[i]=(kk,(qq,none)):=by rw[List.getElem_map];rw[i3 hi]at hy;rw[j5 hy]
   rw[this];refine Pd.snoc (Pd.imp pr fun v x ⟨a,u,e,h,f⟩=>{a,u,e,ε _ _ h,f.tk ε}) {t2,.ref t1,rfl,tk _ _ aC,t1,C,rfl,tk _ _ (aO B' aC),f1.tk ε}
 ·intro R ys G h0 hG Λ ⟨kp,pr⟩;have Y':G dP=some (.frz ob (.dK kP)):=kp _ _ (fun z=>by subst z;rw[aC]at h0;cases h0) aC;have bc:R≠dP:=fun z=>by subst z;rw[aC]at h0;cases h0
  have s5:aJ H4 (melt dP G):=fun b o h=>by
   rw[HZ Y'];by_cases hb:b=dP
   ·subst hb;rw[w']at h;rw[aC];exact h
   ·rw[aX hb];refine kp _ _ (fun z=>?_) (by rw[aX hb];exact h);subst z;rw[aX hb,h]at h0;cases h0
  have am:TK G (melt dP G):=TK.melt;have μ:melt dP G R=some (.lst ys):=by rw[sT bc];exact hG
  have ag:=Pd.imp (G:=fun v (x:aR×nW aR)=>∃a u,v=.ref a/\melt dP G a=some (.tup [kV x.1,u])/\jW (melt dP G) u x.2) pr fun v x ⟨a,u,e,h,f⟩=>{a,u,e,am _ _ h,f.tk am}
  have bh:kP.length=((lst ps).map fun x=>(x.1,((x.2,none):nW aR))).length:=by rw[i8];exact qP.len
  rw[bh,K4]at ag;obtain ⟨k0,pa,Ω⟩:=sQ ag;show CD _ _ _;generalize melt dP G=H5 at *;w_on;refine {R,ys,k0,rfl,μ,pa,by lia,fun B hW=>?_};have ad:(((lst ps).map fun x=>(x.1,((x.2,none):nW aR))).map (·.1)).Nodup:=by rw[W4];exact KM ps
  rw[lM (by rw[Q3,Ω.keys];exact ad),Q3];w_on;apply oJ fun g hF=>?_;have v':B≠g:=fun z=>by subst z;rw[aC]at hF;cases hF
  have l':upd (upd H5 B (.dK k0)) g (.dK []) B=some (.dK k0):=aO hF aC;have k':upd (upd H5 B (.dK k0)) g (.dK []) g=some (.dK []):=aC;have q':aJ H5 (upd (upd H5 B (.dK k0)) g (.dK [])):=(aJ.new hW).trans (aJ.new hF);have J':=ar.sm ((s2.trans s3).trans (s4.trans s5));have ap:=tq.sm cI.tk (s4.trans s5);have E':=aj.trans (s4.trans s5);have t':H5 g=none:=by
   cases z:H5 g with
  |none=>rfl
  |some o=>rw[aX (q7 v'),z]at hF;cases hF
  have s':dB≠B/\dB≠g:=by obtain ⟨γ,f,z1,_⟩:=J';exact {aD z1 hW,aD z1 t'}
  have ι:dT≠B/\dT≠g:=by obtain ⟨γ,z1,_⟩:=ap;exact {aD z1 hW,aD z1 t'}
  have ba:H B=none:=by
   cases z:H B with
  |none=>rfl
  |some o=>rw[E' _ _ z]at hW;cases hW
  have M':H g=none:=by
   cases z:H g with
  |none=>rfl
  |some o=>rw[E' _ _ z]at t';cases t'
  have G':=J'.sm q';have ci:=ap.sm cI.tk q';have ae:=J.sm (E'.trans q');have cg:=E'.trans q';have ac:=Ω.imp (H':=upd (upd H5 B (.dK k0)) g (.dK [])) fun v b f=>f.tk q'.tk;generalize upd (upd H5 B (.dK k0)) g (.dK [])=H0 at *;refine wB (fun σ M=>∃W F X kF o8 o9 Z a',σ=[some (.ref l),some (.ref lp),some vt,some (.ref dB),some (.ref dT),some (.ref dP),some (.ref B),some (.ref g),o8,o9,Z,a']/\pU B g H0 M/\M B=some (.dK X)/\KQ jW M X W/\M g=some (.dK kF)/\KQ jW M kF F/\lU D' (bG (lst ps)) (dC ts) (fun _ _ _=>True) W F/\(∀x∈W,Bd DD (MM*(F.length+1)) x.2.1)/\∀x∈F,Bd DD (MM*F.length) x.2.1) (fun σ M=>1000-(match M g with|some (.dK γ)=>γ.length|_=>0)) ?_ ?_ ?_
  ·refine {_,_,k0,[],_,_,_,_,rfl,pU.refl _,l',ac,k',.nil,lU.start ad (fun p e he=>?_) (fun p t he=>?_),fun x D=>?_,fun x D=>by simp at D}
   ·obtain ⟨y,hy,S⟩:=u8.mp he;cases S;exact {rfl,eC (KM ps) hy}
   ·exact u8.mpr {(p,t),cQ he,rfl}
   ·obtain ⟨y,hy,rfl⟩:=u8.mp D;exact (y'.bd y (mS hy)).mono (by simp)
  ·rintro σ M ⟨W,F,X,kF,o8,o9,Z,a',rfl,Ξ,m',qW,T',qF,I,bW,bF⟩;have hl:=J.len;have Z':=I.lens;w_on;refine Ab m' (fun bi=>?_) (fun ψ=>?_)
   ·w_on;have κ:W≠[]:=fun z=>bi (N8.mp (by rw[qW.len,z];rfl));have F':∀{m:Nat}{t:Rat},m<=1000->Bd DD (MM*m) t->Sz 8000 t:=fun hm hb=>hR.sz hb (X4 _ hm);apply {B,W,rfl,{X,m',qW},I.ndW,fun x D=>F' (by lia) (bW x D),κ,fun p e hp υ=>?_};have O':bG W p=some e:=eC I.ndW hp;obtain ⟨C,e1,f1⟩:∃C,bP X p=some C/\jW M C e:=by
     rcases qW.val (k:=p) with ⟨_,S⟩|⟨C,r1,e1,S,f1⟩
     ·rw[O']at S;cases S
     ·rw[O']at S;cases S;exact {C,e1,f1}
    apply {B,rfl,.inl {X,.inl m'},?_};apply {X,p,C,m',rfl,e1,?_};have L':upd M B (.dK (eP X p)) g=some (.dK kF):=aY (q7 v') T';have bg:kF.length<=1000:=by have:=qF.len;lia
    refine lF L' bg ?_;have bj:p∉F.map (·.1):=I.dis p (u8.mpr {_,hp,rfl});have ao:TK M (upd (upd M B (.dK (eP X p))) g (.dK (eK kF p C))):=(TK.dic m').trans (TK.dic L');have ce:KQ jW (upd (upd M B (.dK (eP X p))) g (.dK (eK kF p C))) (eP X p) (jS W p):=(qW.drop).imp fun v b f=>f.tk ao;have ai:KQ jW (upd (upd M B (.dK (eP X p))) g (.dK (eK kF p C))) (eK kF p C) (F++[(p,e)]):=by rw[←RZ bj];exact (qF.put f1).imp fun v b f=>f.tk ao
    have Φ:pU B g H0 (upd (upd M B (.dK (eP X p))) g (.dK (eK kF p C))):=(Ξ.trans pU.l).trans pU.r;have a9:upd (upd M B (.dK (eP X p))) g (.dK (eK kF p C)) B=some (.dK (eP X p)):=aY v' aC;have ay:upd (upd M B (.dK (eP X p))) g (.dK (eK kF p C)) g=some (.dK (eK kF p C)):=aC;have a8:(eK kF p C).length=F.length+1:=by rw[ai.len];simp
    generalize eK kF p C=f' at *;generalize eP X p=β at *;generalize upd (upd M B (.dK β)) g (.dK f')=c' at *;w_on;apply {dB,rfl,.inl {_,.inl (G'.k2 Φ l' k' s'.1 s'.2).choose_spec.choose_spec.1},?_};apply cE fun z0 p'=>?_;have Ψ:pU B g H0 (upd c' z0 (.lst [])):=Φ.trans (aJ.new p').kp2;have V':upd c' z0 (.lst []) B=some (.dK β):=aO p' a9;have U':upd c' z0 (.lst []) g=some (.dK f'):=aO p' ay;have cf:KQ jW (upd c' z0 (.lst [])) β (jS W p):=ce.imp fun v b f=>f.tk (TK.new p');have b9:KQ jW (upd c' z0 (.lst [])) f' (F++[(p,e)]):=ai.imp fun v b f=>f.tk (TK.new p');refine Iw (G'.k2 Ψ l' k' s'.1 s'.2) aC fun lb L bv cx hL=>?_;generalize upd c' z0 (.lst [])=aq at *;obtain ⟨xs,Θ,ah⟩:=bv;refine cK (cU.of Θ) ?_;have bq:=Paired.length ah;have ρ:∀w∈F++[(p,e)],w.2.1<=e.1:=fun w hw=>by
     rcases w8.mp hw with hw|hw
     ·exact I.mono w hw _ hp
     ·rw[i4]at hw;subst hw;exact gx
    have α:(p,e)∈F++[(p,e)]:=u9 _ (by simp);have be:Bd DD (MM*(F.length+1)) e.1:=bW _ hp;refine sI (xs:=xs) (fun i=>FoI l lp vt dB dT dP B g p H0 aq f' (F++[(p,e)]) (fun W'=>lU D' (bG (lst ps)) (dC ts) (fun q j y=>q≠p∨(j,y)∈L.take i) W' (F++[(p,e)])) (Bd DD (MM*(F.length+2)))) ?_ ?_ ?_ ?_
    ·refine {_,_,_,_,_,rfl,Ψ,pU.refl _,V',cf,U',b9,I.pop hp υ fun q k x hc=>hc.elim id fun z=>by simp at z,fun x D=>(bW x (lN.mp D).1).mono (X4 _ (by lia))}
    ·rintro i σ G _ ⟨W',Y,af,R',S',rfl,U,e',_⟩;exact cU.of (e'.lst V' U' Θ)
    ·intro P' de cq θ;rintro i x σ G D ⟨W',Y,af,R',S',rfl,U,e',gW,h',gF,g',I',i'⟩;have hi:i<L.length:=by
      have:=(h8.mp D).1;lia
     obtain ⟨y,hy,t0,rfl,bn⟩:=Paired.at ah D;obtain ⟨j,xk⟩:=y;have br:L[i]=(j,xk):=by rw[i3 hi]at hy;exact j5 hy
     have A':=e'.tk V' U' _ _ bn;obtain ⟨r,O,hj⟩:=(hL j xk).mp (o0 hy);have z':r∈D':=o0 O;have o':∀q jj yy,(q≠p∨(jj,yy)∈L.take (i+1))->(q≠p∨(jj,yy)∈L.take i)∨(q=p/\jj=j/\yy=xk):=fun q jj yy h=>by
      by_cases hq:q=p
      ·rcases h with h|h
       ·exact .inl (.inl h)
       ·rw[B5 hi,br]at h;rcases w8.mp h with h|h
        ·exact .inl (.inr h)
        ·rw[i4]at h;cases h;exact .inr {hq,rfl,rfl}
      ·exact .inl (.inl hq)
     have ξ:Bd DD (MM*(F.length+2)) (e.1+r.2.2):=(be.add hR.ne (J.bd r z')).mono (by rw[Nat.mul_add,Nat.mul_add];lia);have j':∀b' G2,aJ G G2->(∃o9 Z a',b'=[some (.ref l),some (.ref lp),some vt,some (.ref dB),some (.ref dT),some (.ref dP),some (.ref B),some (.ref g),some (kV p),o9,Z,a'])->(xk∈(F++[(p,e)]).map (·.1)∨¬eN (dC ts) j (e.1+r.2.2)∨∃u,(xk,u)∈W'/\u.1<=e.1+r.2.2)->P' (i+1) b' G2:=by rintro b' G2 sg ⟨o9,Z,a',rfl⟩ hc;exact θ _ _ _ {W',Y,_,_,_,rfl,U.trans sg.kp2,e'.trans sg.kp2,sg _ _ gW,h'.imp fun v b f=>f.tk sg.tk,sg _ _ gF,g'.imp fun v b f=>f.tk sg.tk,I'.turn α O hj ρ (J.pos r z') o' (.inl {rfl,hc}),i'}
     have K':∀b' G1 t3 vm,aJ G G1->G1 t3=none->cI G1 vm (e.1+r.2.2)->(∃o9 Z a',b'=[some (.ref l),some (.ref lp),some vt,some (.ref dB),some (.ref dT),some (.ref dP),some (.ref B),some (.ref g),some (kV p),o9,Z,a'])->(xk∉(F++[(p,e)]).map (·.1)/\eN (dC ts) j (e.1+r.2.2)/\∀u,(xk,u)∈W'->e.1+r.2.2<=u.1)->P' (i+1) b' (upd (upd G1 t3 (.tup [vm,.int j,kV p])) B (.dK (eK Y xk (.ref t3)))):=by
      rintro b' G1 t3 vm sg φ fm ⟨o9,Z,a',rfl⟩ ⟨c1,c2,c3⟩;have r':=sg.trans (aJ.new (o:=.tup [vm,.int j,kV p]) φ);have d':=r' _ _ gW;have ζ:TK (upd G1 t3 (.tup [vm,.int j,kV p])) (upd (upd G1 t3 (.tup [vm,.int j,kV p])) B (.dK (eK Y xk (.ref t3)))):=TK.dic d';have ZM:=r'.tk.trans ζ;refine θ _ _ _ {eS W' xk (e.1+r.2.2,some (j,p)),eK Y xk (.ref t3),_,_,_,rfl,(U.trans r'.kp2).trans pU.l,(e'.trans r'.kp2).trans pU.l,aC,?_,aY (q7 v') (r' _ _ gF),g'.imp fun v b f=>f.tk ZM,I'.turn α O hj ρ (J.pos r z') o' (.inr {c1,c2,c3,rfl}),fun x D=>?_}
      ·exact (h'.imp fun v b f=>f.tk ZM).put {t3,vm,rfl,ζ _ _ aC,(fm.tk (TK.new φ)).tk ζ}
      ·obtain ⟨x1,x2⟩:=x;rcases fU D with ⟨_,rfl⟩|⟨_,h⟩
       ·exact ξ
       ·exact i' _ h
     have N':bG (F++[(p,e)]) p=some e:=eC I'.ndF α;obtain ⟨ve,e3,pe,ue,rfl,cj,fe⟩:∃C,bP f' p=some C/\jW G C e:=by
      rcases g'.val (k:=p) with ⟨_,S⟩|⟨C,r1,e1,S,f1⟩
      ·rw[N']at S;cases S
      ·rw[N']at S;cases S;exact {C,e1,f1}
     obtain ⟨vn,bo,b8⟩:=ae.lq;have Δ:=U.lst l' k' bo;obtain ⟨vr,bp,db,ur,rfl,Γ,au⟩:=Pd.get b8 O;have δ:=U.tk l' k';have cn:=δ _ _ Γ;have av:=au.tk δ;w_on;apply sJ (.inl gF) e3 ?_;apply eV Δ (fZ bp) ?_;apply {ue,ur,e.1,r.2.2,rfl,fe,av,F' (by lia) be,hR.sz (J.bd r z') (by lia),fun vm G2 fm sg=>?_};have aw:=sg _ _ gF;have d':=sg _ _ gW;refine Pb (.inl aw) ?_;have al:Sz 8000 (e.1+r.2.2):=F' (by lia) ξ;rcases g'.val (k:=xk) with ⟨e4,e5⟩|⟨v4,r4,e4,e5,f4⟩
     ·rw[e4];w_on;have χ:xk∉(F++[(p,e)]).map (·.1):=LI e5;obtain ⟨kT,gT,qT⟩:=ci;have ax:G2 dT=some (.dK kT):=sg _ _ (U _ _ ι.1 ι.2 gT);refine {dT,lst ts,j,vm,e.1+r.2.2,rfl,{kT,ax,qT.imp fun v b f=>(f.tk δ).tk sg.tk},fm,fun x D=>C'.sz x (mS D),al,?_};have ω:WJ (lst ts) j (e.1+r.2.2)=true/\¬eN (dC ts) j (e.1+r.2.2)∨WJ (lst ts) j (e.1+r.2.2)=false/\eN (dC ts) j (e.1+r.2.2):=by
       unfold WJ eN dC;cases bG (lst ts) (i5 (j:Int)) with
      |none=>exact .inr {rfl,fun u e=>nomatch e}
      |some u=>
        by_cases c:u<e.1+r.2.2
        ·exact .inl {decide_eq_true c,fun h=>Rat.not_le.mpr c (h u rfl)}
        ·exact .inr {decide_eq_false c,fun u' e=>by cases e;exact ug.mp c}
      rcases ω with ⟨ho,x'⟩|⟨ho,x'⟩
      ·rw[ho];w_on;exact j' _ G2 sg {_,_,_,rfl} (.inr (.inl x'))
      ·rw[ho];w_on;refine VI (.inl d') ?_;have ο:Y.length<=1000:=by
        have h1:=h'.len;have h2:=I'.lens;lia
       rcases h'.val (k:=xk) with ⟨e6,e7⟩|⟨v6,r6,e6,e7,p6,u6,rfl,h6,f6⟩
       ·rw[e6];w_on;apply bD fun t3 n'=>?_;apply lF (aO n' d') ο ?_;exact K' _ G2 t3 vm sg n' fm {_,_,_,rfl} {χ,x',fun u hu=>absurd hu (iM e7 u)}
       ·rw[e6];have cw:=sg.tk _ _ h6;w_on;apply sJ (.inl d') e6 ?_;have τ:=cQ e7;apply {vm,u6,e.1+r.2.2,r6.1,rfl,fm,f6.tk sg.tk,al,F' (by lia) (i' _ τ),?_};refine mX (fun c=>?_) (fun c=>?_)
        ·w_on;apply bD fun t3 n'=>?_;apply lF (aO n' d') ο ?_;refine K' _ G2 t3 vm sg n' fm {_,_,_,rfl} {χ,x',fun u hu=>?_};have:=j5 ((eC I'.ndW hu).symm.trans e7);subst this;exact Rat.le_of_lt c
        ·w_on;exact j' _ G2 sg {_,_,_,rfl} (.inr (.inr {r6,τ,ug.mp c}))
     ·rw[e4];w_on;exact j' _ G2 sg {_,_,_,rfl} (.inl (u8.mpr {_,cQ e5,rfl}))
    ·rintro σ G ⟨W',Y,af,R',S',rfl,U,e',gW,h',gF,g',I',i'⟩;rw[bq,K4]at I';refine {{W',F++[(p,e)],Y,f',_,_,_,_,rfl,U,gW,h',gF,g',I'.imp fun q k x r h1 h2 _=>?_,fun x D=>?_,fun x D=>?_},?_}
     ·by_cases hq:q=p
      ·subst hq;exact .inr ((hL k x).mpr {r,h1,h2})
      ·exact .inl hq
     ·rw[q4];exact i' x D
     ·rw[q4];rcases w8.mp D with D|D
      ·exact (bF x D).mono (X4 _ (by simp))
      ·rw[i4]at D;subst D;exact be
     ·have da:=qF.len;simp only[gF,T'];lia
   ·have X':W=[]:=N8.mp (by rw[←qW.len,ψ];rfl);subst X';w_on;refine q g M F M' (Ξ.same cg ba M') {kF,T',qF} I.done Z'.2 fun x D=>(bF x D).mono (X4 _ (by lia))
  ·rintro σ H Q Q' h ⟨v,e,k,t,b⟩;exact {v,e,k,t,h _ _ b}
include d_fall_moments o1b o1a in
theorem vA:pC P w K mg base (k+1) "fall_moments" ["net","pushes","takings"] [.non] (Nm w):=by
 refine pC.of d_fall_moments nI (by walk_at"ln") fun f m' A l' s H vs Q E hr h=>?_;obtain ⟨l,n,lp,ps,vt,ts,DD,MM,U,rfl,t,i',j',hR,hU,a',q⟩:=h;refine {_,(aF (dL 3 nI.nd (aI o1a.f hr rfl (aA (pv 0) (aA (pv 1) (aA (pv 2) aB)))))
   (aH (aU (jI (rE rfl) rfl T.z_dict EI (aA (eJ (cM (aG dZ) ["net","pushes","takings","fallen"] ["post"] ["fallen"] [3]) rfl (cL (aI o1b hr rfl (aA (pv 0) aB))) (fun _ _ _ _=>(Zn ["post","fallen"] 0)) (fun _ _ _ _=>(bB (aA (pv 0) (aA (xK (tU (DC hr.u1 (pv 0) (pv 1))) (aN jB (aQ hr.u1 (pv 1) (pv 0)) aE) dH) aB)))) (fun _ _ _ _=>eG)) aB))))),?_}
 try dsimp only[aV,bC]
 w_on;apply {l,kn n,lp,ps,vt,ts,DD,MM,rfl,t,i',j',hR,fun dF H1 F hF s1 fq fo o' bF=>?_};refine {l,n,U,rfl,(t.sm s1).lq,by have:=t.len;simpa[kn] using this,hU,a',fun lq H2 g p' s2 S nd c'=>?_};w_on;refine cK (cU.of S) ?_;obtain ⟨kF,g',qF⟩:=fq;have q':g.length<=200:=A5 (kR nd fun x R=>a' x ((c' x).mp R)) hU;refine mI (xs:=g.map V.str) (by rw[i8];lia) (fun c i C G=>Kp c H2 G/\Paired (fun v (x:aR×Option Rat)=>∃a u,v=.ref a/\G a=some (.tup [kV x.1,u])/\fM G u x.2) C ((g.map fun y=>(c9 y,gY F (c9 y))).take i)) (fun c D=>{Kp.new D,.nil}) ?_ ?_ ?_
 ·intro c i C G D _ ⟨kp,_⟩;exact cU.of (kp _ _ (aD S D) S)
 ·intro c i C G x D R X hG ⟨kp,pr⟩;rw[m5]at R;cases hy:g[i]? with
 |none=>rw[hy]at R;cases R
 |some y=>
   rw[hy]at R;cases (j5 R:V.str y=x);have hi:i<g.length:=(h8.mp hy).1;have I:=s2 _ _ g';have J:G dF=some (.dK kF):=kp _ _ (aD I D) I;have e':TK H1 G:=s2.tk.trans fun p xs h=>kp _ _ (aD h D) h;have Y:∀M u m,aJ G M->M m=none->fM M u (gY F (c9 y))->yP (g.map V.str).length c (fun i C G=>Kp c H2 G/\Paired (fun v (x:aR×Option Rat)=>∃a u,v=.ref a/\G a=some (.tup [kV x.1,u])/\fM G u x.2) C ((g.map fun y=>(c9 y,gY F (c9 y))).take i)) C i (.ref m) (upd M m (.tup [.str y,u])):=fun M u m sg ht ou=>by
    have Z:=aO (o:=.tup [.str y,u]) ht (sg _ _ hG);refine gD (by rw[i8];exact hi) X Z {Kp.trans (Kp.trans kp (fun b o _ h=>aO ht (sg _ _ h))) Kp.upd,?_};have tk:TK (upd M m (.tup [.str y,u])) (upd (upd M m (.tup [.str y,u])) c (.lst (C++[.ref m]))):=TK.lst Z;have d':=(sg.tk.trans (TK.new (o:=.tup [.str y,u]) ht)).trans tk;have f':i<(g.map fun y=>((c9 y:aR),gY F (c9 y))).length:=by rw[i8];exact hi
    rw[B5 f'];have:(g.map fun y=>((c9 y:aR),gY F (c9 y)))[i]=(c9 y,gY F (c9 y)):=by rw[List.getElem_map];rw[i3 hi]at hy;rw[j5 hy]
    rw[this];exact Pd.snoc (Pd.imp pr fun v x ⟨a,u,e,h,f⟩=>{a,u,e,d' _ _ h,f.tk d'}) {m,u,rfl,tk _ _ aC,(ou.tk (TK.new ht)).tk tk}
   w_on;refine Pa (.inl J) ?_;rcases qF.val (k:=c9 y) with ⟨e1,e2⟩|⟨v1,r1,e1,e2,p1,u1,rfl,h1,f1⟩
   ·rw[e1];w_on;refine bD fun m O=>?_;refine Y G .non m (aJ.refl _) O ?_;unfold gY;rw[e2];rfl
   ·rw[e1];w_on;refine bS (.inl J) e1 ?_;have n':=e' _ _ h1;w_on;refine bD fun m O=>?_;refine Y G u1 m (aJ.refl _) O ?_;unfold gY;rw[e2];exact f1.tk e'
 ·intro c C G D hG X ⟨kp,pr⟩;have h':(g.map V.str).length=(g.map fun y=>((c9 y:aR),gY F (c9 y))).length:=by simp
  rw[h',K4]at pr;obtain ⟨k0,pa,b'⟩:=sQ pr;w_on;rw[i8]at X;refine {c,C,k0,rfl,hG,pa,by lia,fun dR B=>?_};have k':((g.map fun y=>((c9 y:aR),gY F (c9 y))).map (·.1)).Nodup:=by rw[W4];exact gn.mpr (nd.imp fun h e=>h (fj e))
  rw[lM (by rw[Q3,b'.keys];exact k'),Q3];w_on;have sG:aJ H G:=fun b o hb=>by have h2:=s2 _ _ (s1 _ _ hb);exact kp _ _ (aD h2 D) h2
  refine q dR _ F g ?_ (sG.trans (aJ.new B)) {k0,aC,b'.imp fun v b f=>f.tk (TK.new B)} fo bF nd c';cases z:H dR with
 |none=>rfl
 |some o=>rw[sG _ _ z]at B;cases B
include o0z o1j o1h in
theorem uZ:bZ P w K mg base (k+1) "share_passed" ["fell","time","moment"] Es:=by
 refine bZ.of vE.d19 uX (by walk_at"ln") fun f O A t s H vs Q E g h=>?_;obtain ⟨J,Z,M,o,T,m,rfl,of,R,D,X,zT,C,zo,q⟩:=h;refine {_,(aF (cA (PW.pt (lG (aW kD (pv 0) dH) (iG (eA (aI o1h g rfl (aA (pv 2) (aA (pv 0) aB))))))) (aH (aU (bB (aA aE (aA aE aB))))) bI)
   (aH (aU (aI o1j g rfl (aA (aI o0z g rfl (aA (pv 2) (aA (pv 0) aB))) (aA (pv 1) aB)))))),?_}
 try dsimp only[aV,bC]
 cases o with
|none=>
  cases (show J=.non from of);w_on;apply bD fun p hp=>?_;exact q _ _ {p,rfl,aC} (aJ.new hp)
|some f=>
  have B:=zo f rfl;obtain ⟨G,rfl,hf⟩:=id (show cI H J f from of);w_on;apply {M,.ref G,m,f,rfl,D,of,C.mono (by decide),B.mono (by decide),?_};refine mX (fun c=>?_) (fun c=>?_)
  ·w_on;apply bD fun p hp=>?_;refine q _ _ ?_ (aJ.new hp);rw[show GN (some f) T m=0 from if_pos c];exact {p,rfl,aC}
  ·w_on;apply {M,.ref G,m,f,rfl,D,of,C.mono (by decide),B.mono (by decide),fun v H1 S I=>?_};apply {v,Z,m-f,T,rfl,S,R.tk I.tk,(Sz.sub C B).mono (by decide),zT.mono (by decide),X,fun w N U Y=>?_};refine q w N ?_ (I.trans Y);rw[show GN (some f) T m=(m-f)/T from if_neg c];exact U
include o0z o1h o0i in
theorem xN:bZ P w K mg base (k+1) "standing_by" ["run","moments","taken","moment"] TV:=by
 refine bZ.of vE.d20 jL (by walk_at"ln") fun f e' A b' s H vs Q E B h=>?_;obtain ⟨pr,dd,vt,U,a,b,u,T,m,kd,D,I,tk,va,vb,rfl,O,fT,hd,ea,qa,eb,qb,ot,fm,S,X,R,za,zb,zt,q⟩:=h;refine {_,(aF (cA (PW.pt (jN (aW lK (pv 2) dH) (gM (kQ (eA (aI o1h B rfl (aA (pv 3) (aA (pv 2) aB)))))))) (aH (aU dH)) bI)
   (aF (dL 4 jL.nd (aI o0i B rfl (aA (aQ B.u1 (pv 1) (aN aS (pv 0) aE)) (aA (aN aS (pv 0) aE) (aA (pv 3) aB)))))
   (aF (dL 5 jL.nd (aI o0z B rfl (aA (bB (aA aE (aA aE aB))) (aA (aI o0i B rfl (aA (aQ B.u1 (pv 1) (aN aS (pv 0) aE)) (aA (aN aS (pv 0) aE) (aA (pv 3) aB)))) aB))))
   (aH (aU (xK (eA (aI o1h B rfl (aA (pv 4) (aA (pv 5) aB)))) (bB (aA (pv 4) (aA (pv 5) aB))) dH)))))),?_}
 try dsimp only[aV,bC]
 have sa:=UN S X R za;have sb:=UN S X R zb;have s1:Sz 10 1:={by decide,by decide}
 refine jM ?_;refine sK (fun σ G=>σ=[some (.ref pr),some (.ref dd),some vt,some U,none,none]/\G=H/\OT tk m=false) ?_ ?_
 ·rintro σ G ⟨rfl,rfl,hc⟩;have Z:CF D I tk T m=if GN D T m<1-GN I T m then some (GN D T m,1-GN I T m) else none:=by
   unfold CF;rw[hc,if_neg j4]
  rw[Z]at q;w_on;apply bS (.inl hd) ea ?_;refine {va,u,U,D,T,m,rfl,qa,fT,fm,S,X,R,za,fun v1 Y f1 t1=>?_};have f':=t1 _ _ hd;have c':=t1 _ _ O;w_on;refine bD fun J N=>?_;have g:=t1.trans (aJ.new (o:=.tup [.int 1,.int 1]) N);have f2:cI (L2.upd Y J (.tup [.int 1,.int 1])) v1 (GN D T m):=f1.tk (TK.new N);have g1:cI (L2.upd Y J (.tup [.int 1,.int 1])) (.ref J) 1:={J,rfl,aC}
  generalize L2.upd Y J (.tup [.int 1,.int 1])=H2 at g f2 g1⊢;have a':=g _ _ hd;have d':=g _ _ O;w_on;apply bS (.inl a') eb ?_;apply {vb,u,U,I,T,m,rfl,qb.tk g.tk,fT.tk g.tk,fm.tk g.tk,S,X,R,zb,fun v3 H3 f3 t3=>?_};refine {.ref J,v3,1,GN I T m,rfl,g1.tk t3.tk,f3,s1.mono (by decide),sb.mono (by decide),fun v4 H4 f4 t4=>?_};have C:=t3.trans t4;have f5:=f2.tk C.tk;w_on;apply {v1,v4,GN D T m,1-GN I T m,rfl,f5,f4,sa.mono (by decide),(Sz.sub s1 sb).mono (by decide),?_};refine mX (fun c=>?_) (fun c=>?_)
  ·rw[if_pos c]at q;w_on;apply bD fun p5 t=>?_;exact q _ _ {p5,v1,v4,rfl,aC,f5.tk (TK.new t),f4.tk (TK.new t)} ((g.trans C).trans (aJ.new t))
  ·rw[if_neg c]at q;w_on;exact q _ _ rfl (g.trans C)
 ·intro NX M;cases tk with
 |none=>
   cases (show vt=.non from ot);w_on;exact M _ _ {rfl,rfl,rfl}
 |some w=>
   obtain ⟨pw,rfl,hw⟩:=id (show cI H vt w from ot);w_on;apply {U,.ref pw,m,w,rfl,fm,ot,R.mono (by decide),(zt w rfl).mono (by decide),?_};refine mX (fun c=>?_) (fun c=>?_)
   ·w_on;exact M _ _ {rfl,rfl,by show (!decide (m<w))=false;rw[decide_eq_true c];rfl}
   ·w_on;refine q _ _ ?_ (aJ.refl _);unfold CF;rw[show OT (some w) m=true by show (!decide (m<w))=true;rw[decide_eq_false c];rfl,if_pos rfl];exact rfl
include o1u o1h in
theorem HQ:bZ P w K mg base (k+1) "is_swept" ["fell","time","beyond"] Er:=by
 refine bZ.of vE.d21 GU (by walk_at"ln") fun f M A m s H vs Q E t h=>?_;obtain ⟨G,S,D,o,T,p,rfl,of,N,c,I,J,U,q⟩:=h;refine {_,(aH (aU (tV (gU lK (pv 0) dH) (mM (Ge (gU kD (pv 2) dH) (mM (JW (aI o1h t rfl (aA (pv 2) (aA (aI o1u t rfl (aA (pv 0) (aA (pv 1) aB))) aB)))))))))),?_}
 try dsimp only[aV,bC]
 cases o with
|none=>
  cases (show G=.non from of);w_on;exact q _ (aJ.refl _)
|some f=>
  obtain ⟨R,rfl,Y⟩:=id (show cI H G f from of);cases p with
 |none=>
   cases (show D=.non from c);w_on;exact q _ (aJ.refl _)
 |some g=>obtain ⟨B,rfl,Z⟩:=id (show cI H D g from c);w_on;apply {.ref R,S,f,T,rfl,of,N,(J f rfl).mono (by decide),I.mono (by decide),fun v X O C=>?_};apply {.ref B,v,g,f+T,rfl,(show cI H (.ref B) g from c).tk C.tk,O,(U g rfl).mono (by decide),(Sz.add (J f rfl) I).mono (by decide),?_};exact q _ C
include o1u o0z o1o o1j o1f in
theorem qS:bZ P w K mg base (k+1) "ending_by_falls" ["run","moments"] Ez:=by
 refine bZ.of vE.d22 eW (by walk_at"ln") fun f l' A h' s H vs Q E t h=>?_;obtain ⟨pr,dd,a,b,u,T,kd,C,B,U,X,rfl,d',fT,hd,ea,R,eb,S,hT,Y,za,zb,q⟩:=h;refine {_,(aF (dL 2 eW.nd (aQ t.u1 (pv 1) (aN aS (pv 0) aE)))
   (aF (dL 3 eW.nd (aQ t.u1 (pv 1) (aN aS (pv 0) aE)))
   (aF (cA (PW.pt (jN (aW kD (pv 2) dH) (gM (aW kD (pv 3) dH)))) (aH (aU (bB (aA aL aB)))) bI)
   (aF (cA (eA (aI o1f t rfl (aA (pv 2) (aA (aN aS (pv 0) aE) (aA (pv 3) aB))))) (aH (aU (bB (aA aL (aA (aN aS (pv 0) aE) (aA (aI o1u t rfl (aA (pv 2) (aA (aN aS (pv 0) aE) aB))) aB)))))) bI)
   (aF (cA (eA (aI o1f t rfl (aA (pv 3) (aA (aN aS (pv 0) aE) (aA (pv 2) aB))))) (aH (aU (bB (aA aL (aA (aN aS (pv 0) aE) (aA (aI o1u t rfl (aA (pv 3) (aA (aN aS (pv 0) aE) aB))) aB)))))) bI)
   (aF (dL 4 eW.nd (aI o1o t rfl (aA (aI o1u t rfl (aA (aI o1u t rfl (aA (pv 2) (aA (pv 3) aB))) (aA (aN aS (pv 0) aE) aB))) (aA (bB (aA aE (aA aE aB))) aB))))
   (aH (aU (bB (aA aL (aA (pv 4) (aA (aI o1j t rfl (aA (aI o0z t rfl (aA (pv 4) (aA (pv 2) aB))) (aA (aN aS (pv 0) aE) aB))) aB)))))))))))),?_}
 try dsimp only[aV,bC]
 have f':T≠0:=nz hT;refine jM ?_
 walk_at"gos"
 refine bS (.inl hd) ea ?_
 walk_at"gos"
 refine uY ?_;refine jM ?_
 walk_at"gos"
 refine bS (.inl hd) eb ?_
 walk_at"gos"
 refine uY ?_;refine jM ?_;refine sK (fun σ G=>σ=[some (.ref pr),some (.ref dd),some U,some X,none]/\G=H/\¬(C=none/\B=none)) ?_ ?_
 ·rintro σ G ⟨rfl,rfl,hc⟩;unfold zK at q;rw[if_neg hc]at q;w_on;refine {U,u,X,C,T,B,rfl,R,fT,S,Y,za,zb,fun H1 D=>?_};have i':=D _ _ d';by_cases M:Nj C T B=true
  ·rw[if_pos M]at q;obtain ⟨f,rfl⟩:∃f,C=some f:=by
    cases C with
   |none=>cases M
   |some f=>exact {f,rfl}
   obtain ⟨O,rfl,hf⟩:=id (show cI H1 U f from R.tk D.tk);rw[M];w_on;apply {.ref O,u,f,T,rfl,R.tk D.tk,fT.tk D.tk,(za f rfl).mono (by decide),Y.mono (by decide),fun v Z fv m=>?_};apply bD fun p3 c=>?_;exact q _ _ {p3,v,rfl,aC,fv.tk (TK.new c)} ((D.trans m).trans (aJ.new c))
  ·rw[if_neg M]at q;rw[Bool.not_eq_true]at M;rw[M];w_on;refine {X,u,U,B,T,C,rfl,S.tk D.tk,fT.tk D.tk,R.tk D.tk,Y,zb,za,fun Z m=>?_};replace m:=D.trans m;have J:=m _ _ d';by_cases N:Nj B T C=true
   ·rw[if_pos N]at q;obtain ⟨g,rfl⟩:∃f,B=some f:=by
     cases B with
    |none=>cases N
    |some f=>exact {f,rfl}
    obtain ⟨pg,rfl,hg⟩:=id (show cI Z X g from S.tk m.tk);rw[N];w_on;apply {.ref pg,u,g,T,rfl,S.tk m.tk,fT.tk m.tk,(zb g rfl).mono (by decide),Y.mono (by decide),fun v H3 fv s3=>?_};apply bD fun p3 c=>?_;exact q _ _ {p3,v,rfl,aC,fv.tk (TK.new c)} ((m.trans s3).trans (aJ.new c))
   ·rw[if_neg N]at q;rw[Bool.not_eq_true]at N;obtain ⟨f,g,rfl,rfl⟩:∃f g,C=some f/\B=some g:=by
     cases C with
    |none=>
      cases B with
     |none=>exact absurd {rfl,rfl} hc
     |some g=>cases N
    |some f=>
      cases B with
     |none=>cases M
     |some g=>exact {f,g,rfl,rfl}
    have zf:=za f rfl;have zg:=zb g rfl;obtain ⟨O,rfl,hf⟩:=id (show cI Z U f from R.tk m.tk);obtain ⟨pg,rfl,hg⟩:=id (show cI Z X g from S.tk m.tk);have ff:cI Z (.ref O) f:={O,rfl,hf}
    have fg:cI Z (.ref pg) g:={pg,rfl,hg}
    rw[N];w_on;refine {.ref O,.ref pg,f,g,rfl,ff,fg,zf.mono (by decide),zg.mono (by decide),fun v H3 fv s3=>?_};have z1:=Sz.add zf zg;have j':=s3 _ _ J;w_on;refine {v,u,f+g,T,rfl,fv,(fT.tk m.tk).tk s3.tk,z1.mono (by decide),Y.mono (by decide),fun v4 H4 f4 s4=>?_};have z2:=Sz.add z1 Y;w_on;refine bD fun p5 g'=>?_;have s5:=aJ.new (o:=.tup [.int 1,.int 2]) g';have f5:cI (L2.upd H4 p5 (.tup [.int 1,.int 2])) (.ref p5) (1/2):={p5,rfl,by rw[show ((1/2:Rat)).num=1 by k_is,show ((1/2:Rat)).den=2 by k_is];exact aC}
    have a':=f4.tk s5.tk;generalize L2.upd H4 p5 (.tup [.int 1,.int 2])=H5 at s5 f5 a' ⊢;have zh:Sz 10 (1/2:Rat):={by k_is,by k_is}
    w_on;refine {v4,.ref p5,_,_,rfl,a',f5,z2.mono (by decide),zh.mono (by decide),fun v6 H6 f6 s6=>?_};have z6:=Sz.mul z2 zh;have I:=(s3.trans (s4.trans s5)).trans s6;have e':=I _ _ J;w_on;refine {v6,.ref O,_,f,rfl,f6,ff.tk I.tk,z6.mono (by decide),zf.mono (by decide),fun v7 H7 f7 s7=>?_};have k':=s7 _ _ e';have z7:=Sz.sub z6 zf;w_on;apply {v7,u,_,T,rfl,f7,((fT.tk m.tk).tk I.tk).tk s7.tk,z7.mono (by decide),Y.mono (by decide),f',fun v8 H8 f8 s8=>?_};apply bD fun p9 c'=>?_;have t9:=TK.new (o:=.tup [.str "met",v6,v8]) c';exact q _ _ {p9,v6,v8,rfl,aC,((f6.tk s7.tk).tk s8.tk).tk t9,f8.tk t9} (((m.trans I).trans (s7.trans s8)).trans (aJ.new c'))
 ·intro NX b';cases C with
 |none=>
   cases (show U=.non from R);cases B with
  |none=>
    cases (show X=.non from S);w_on;apply bD fun p3 c=>?_;exact q _ _ {p3,rfl,aC} (aJ.new c)
  |some g=>
    obtain ⟨pg,rfl,hg⟩:=id (show cI H X g from S);w_on;exact b' _ _ {rfl,rfl,fun z=>nomatch z.2}
 |some f=>obtain ⟨O,rfl,hf⟩:=id (show cI H U f from R);w_on;exact b' _ _ {rfl,rfl,fun z=>nomatch z.1}
theorem DF:bZ P w K mg base (k+1) "moment_of" ["ending"] Ev:=by
 refine bZ.of vE.d23 CM (by walk_at"ln") fun f B A m s H D Q E o h=>?_;obtain ⟨v,e,rfl,g,q⟩:=h;refine {_,(aF (cA (aW (dS o.units) (aN aS (pv 0) aE) aL) (aH (aU dH)) bI)
   (aH (aU (xK (aW (dS o.units) (aN aS (pv 0) aE) aL) (aN aS (pv 0) aE) (aN aS (pv 0) aE))))),?_}
 try dsimp only[aV,bC]
 cases e with
|stands=>
  obtain ⟨p,rfl,hp⟩:=g;w_on;apply oW (beq_self_eq_true _) ?_;exact q _ rfl
|swept s t=>
  obtain ⟨p,u,rfl,hp,c⟩:=g;w_on;apply gC (by k_is) ?_;apply oW (beq_self_eq_true _) ?_;exact q _ c
|met t s=>
  obtain ⟨p,u,w,rfl,hp,c,C⟩:=g;w_on;apply gC (by k_is) ?_;apply gC (by k_is) ?_;exact q _ c
|taken t=>obtain ⟨p,u,rfl,hp,c⟩:=g;w_on;apply gC (by k_is) ?_;apply gC (by k_is) ?_;exact q _ c
include o1h o0c o0t in
theorem DH:bZ P w K mg base (k+1) "ending_by" ["run","moments","taken"] UC:=by
 refine bZ.of vE.d24 mB (by walk_at"ln") fun f a' A M s H vs Q E J h=>?_;obtain ⟨pr,dd,Y,a,b,u,T,kd,R,S,tk,va,vb,rfl,I,fT,hd,ea,qa,eb,qb,U,hT,Z,za,zb,zt,q⟩:=h;refine {_,(aF (dL 3 mB.nd (aI o0c J rfl (aA (pv 0) (aA (pv 1) aB))))
   (aF (dL 4 mB.nd (aI o0t J rfl (aA (pv 3) aB)))
   (aF (cA (PW.pt (jN (aW lK (pv 2) dH) (gM (PW.pt (lG (aW kD (pv 4) dH) (iG (eA (aI o1h J rfl (aA (pv 2) (aA (pv 4) aB)))))))))) (aH (aU (bB (aA aL (aA (pv 2) aB))))) bI)
   (aH (aU (pv 3)))))),?_}
 try dsimp only[aV,bC]
 have ze:=YK (a:=a) (b:=b) Z za zb;w_on;refine {pr,dd,a,b,u,T,kd,R,S,va,vb,rfl,I,fT,hd,ea,qa,eb,qb,hT,Z,za,zb,fun ve C D B=>?_};generalize zK a b R S T=e at ze D q;w_on;apply {ve,e,rfl,D,fun X o=>?_};cases tk with
|none=>
  cases (show Y=.non from U);w_on;exact q _ _ D B
|some w=>
  have m:=U.tk B.tk;obtain ⟨O,rfl,hw⟩:=id (show cI C Y w from m);cases ee:yJ e with
 |none=>
   rw[ee]at o;cases (show X=.non from o);w_on;apply bD fun N g=>?_;refine q _ _ ?_ (B.trans (aJ.new g));show ZK _ _ (if BL w (yJ e)=true then _ else _);rw[ee,show BL w none=true from rfl,if_pos rfl];exact {N,_,rfl,aC,(show cI C (.ref O) w from m).tk (TK.new g)}
 |some t=>
   rw[ee]at o;obtain ⟨pm,rfl,hm⟩:=id (show cI C X t from o);w_on;apply {.ref O,.ref pm,w,t,rfl,m,o,(zt w rfl).mono (by decide),(ze t ee).mono (by decide),?_};replace q:∀v G,ZK G v (if BL w (yJ e)=true then .taken w else e)->aJ H G->Q v G:=q;rw[ee]at q;refine mX (fun c=>?_) (fun c=>?_)
   ·w_on;apply bD fun N g=>?_;refine q _ _ ?_ (B.trans (aJ.new g));rw[show BL w (some t)=true from decide_eq_true c,if_pos rfl];exact {N,_,rfl,aC,(show cI C (.ref O) w from m).tk (TK.new g)}
   ·w_on;refine q _ _ ?_ B;rw[show BL w (some t)=false from decide_eq_false c,if_neg j4];exact D
theorem KA:bZ P w K mg base (k+1) "_law_cell_at" ["_law_script","_law_k"] (UH K):=by
 refine bZ.of vE.d25 JM (by walk_at"ln") fun f t A g s H I Q E D h=>?_;obtain ⟨a,o,G,rfl,m,B,q⟩:=h;refine {_,(aF (cA (aW sR (pv 1) (aP fH rfl T.z_len eB (aA (pv 0) aB))) (aH (aU (aN aS (pv 0) (pv 1)))) bI)
   (aH (aU aE))),?_}
 try dsimp only[aV,bC]
 w_on;apply CS m ?_;refine mX (fun c=>?_) (fun c=>?_)
 ·rw[i8]at c;obtain ⟨z,_,C⟩:=Sy (ns:=o) B c;w_on;apply Ot m C ?_;exact q z
 ·w_on;exact q 0
theorem WP:bZ P w K mg base (k+1) "_law_mixed" ["_law_cell","_law_k"] AH:=by
 refine bZ.of vE.d26 wW (by walk_at"ln") fun f G A t s H X Q E S h=>?_;obtain ⟨c,m,rfl,O,R,q⟩:=h;refine {_,(aF (dL 2 wW.nd (aK bM (aK cV (aK bH (aK bH (aK bH (aK bM (pv 0) aE) (aK cV (aK cV aE (pv 1)) (pv 1))) (pv 1)) aE) aE) aE))
   (aF (dL 2 wW.nd (aK bM (aK bH (aK cV (pv 2) (pv 2)) (aK cV aE (pv 1))) aE))
   (aH (aU (aK bM (aK cV (aK cV (pv 2) (pv 2)) aE) (aK bH (aK mO aE aE) aE)))))),?_}
 try dsimp only[aV,bC]
 w_on;generalize (c%1000000007+7919*m*m+m+1)*48271=B;have J:=n9 B (show (2147483629:Int)≠0 by decide);have M:=m8 B (show (0:Int)<2147483629 by decide);generalize B%2147483629=D at *;w_on;generalize D*D+69621*m=C;have o:=n9 C (show (2147483587:Int)≠0 by decide);have N:=m8 C (show (0:Int)<2147483587 by decide);generalize C%2147483587=g at *;w_on;have U:g*g<2^64:=by have:=uj (show g<=2147483587 by lia) (show g<=2147483587 by lia) o (by decide);lia
 have I:0<=g*g:=Int.mul_nonneg o o;generalize g*g=Y at *;w_on;apply An ?_;exact q _
include o1g o1s in
theorem QL:bZ P w K mg base (k+1) "_law_number" ["_law_script","_law_k"] (MF K):=by
 refine bZ.of vE.d27 AR (by walk_at"ln") fun f J A t s H N Q E g h=>?_;obtain ⟨a,D,o,rfl,C,m,B,q⟩:=h;refine {_,(aF (dL 2 AR.nd (aI o1g g rfl (aA (pv 0) (aA (pv 1) aB))))
   (aF (cA (PW.pt (jN (aW (dS g.units) (aK bM (aI o1g g rfl (aA (pv 0) (aA aE aB))) aE) aE) (gM (aW HK (aP YS rfl T.z_abs LF (aA (pv 2) aB)) (aK mO aE aE))))) (aH (aU (pv 2))) bI)
   (aH (aU (aI o1s g rfl (aA (pv 2) (aA (pv 1) aB))))))),?_}
 try dsimp only[aV,bC]
 w_on;apply {a,D,o,rfl,C,m,fun G=>?_};apply {a,D,0,rfl,C,qi 0,fun M=>?_};refine mX (fun c=>?_) (fun c=>?_)
 ·w_on;refine mX (fun I=>?_) (fun I=>?_)
  ·w_on;exact q _
  ·w_on;apply {G,o,rfl,m,B,fun r=>?_};exact q _
 ·w_on;apply {G,o,rfl,m,B,fun r=>?_};exact q _
theorem Jy:bZ P w K mg base (k+1) "_law_low" ["_law_top","_law_bottom"] FW:=by
 refine bZ.of vE.d28 CN (by walk_at"ln") fun f O A G s H vs Q E hr h=>?_;obtain ⟨t,b,rfl,hb,c',D,q⟩:=h;refine {_,(aF (dL 2 CN.nd (aP YS rfl T.z_abs LF (aA (pv 0) aB)))
   (aF (dL 3 CN.nd (pv 1))
   (aF (sN A6 (aW WK (pv 3) aE) (aH (Jh rfl CN.nd (i:=2) (j:=3) rfl rfl (by decide) rfl rfl (aA (pv 3) (aA (aK bM (pv 2) (pv 3)) aB)) rfl)))
   (aH (aU (bB (aA (aK bE (pv 0) (pv 2)) (aA (aK bE (pv 1) (pv 2)) aB)))))))),?_}
 try dsimp only[aV,bC]
 w_on;refine wB (fun o I=>∃m g:Int,o=[some (.int t),some (.int b),some (.int m),some (.int g)]/\I=H/\0<=m/\0<=g/\n6 m g=n6 t b)
  (fun o _=>match o with|[_,_,_,some (.int z)]=>z.toNat|_=>0) {_,_,rfl,rfl,by split <;> lia,by lia,?_} ?_ ?_
 ·have e:(if t<0 then -t else t)=(t.natAbs:Int):=by split <;> lia
  rw[e];simp[n6]
 ·rintro o I ⟨m,g,rfl,rfl,h1,Y,M⟩;w_on;refine mX (fun c=>?_) (fun c=>?_)
  ·w_on;refine {{_,_,rfl,rfl,Y,n9 _ (by lia),by rw[YE c];exact M},?_};have:=m8 m c;show (m%g).toNat<g.toNat;lia
  ·have e:g=0:=by lia
   subst e;have C:b≠0:=by lia
   have B:m=(n6 t b:Int):=by rw[←M,Int.gcd_zero_right];lia
   have a':(n6 t b:Int).natAbs<=b.natAbs:=by have:=sw (by lia) (vi t b);lia
   have X:(n6 t b:Int)=sg t b:=by unfold sg;rw[if_neg (by lia)]
   subst B;w_on;rw[X];have J:∀z,pH z (sg t b):=fun _=>{GO C,Sm.le (by rw[tO];lia) D}
   apply iF (J _) ?_;apply iF (J _) ?_;apply bD fun p hp=>?_;exact q p hp
 ·intro o H Q Q' Z h;obtain ⟨v,B,i,j,R,S,N,U,q'⟩:=h;exact {v,B,i,j,R,S,N,U,Z _ _ q'}
theorem WO:bZ P w K mg base (k+1) "_law_posts" ["_law_number_here"] AE:=by
 refine bZ.of vE.d29 dY (by walk_at"ln") fun f i' A f' s H vs Q E hr h=>?_;obtain ⟨c,rfl,q⟩:=h;refine {_,(aF (dL 1 dY.nd aL)
   (aF (dL 2 dY.nd (aK bH aE (aK bM (pv 0) aE)))
   (aF (dL 3 dY.nd (aK bM (aK bE (pv 0) aE) aE))
   (aF (dL 0 dY.nd (aK bE (pv 0) aE))
   (aF (dL 4 dY.nd aL)
   (aF (gB A6 rfl (iI rfl T.z_range (aA (pv 3) aB)) (qQ 5 dY.nd) (aF (dL 4 dY.nd (aK bH (pv 4) (aN aS (pv 1) (aK bM (pv 0) aE))))
   (aH (dL 0 dY.nd (aK bE (pv 0) aE)))))
   (aF (dL 6 dY.nd (aK bM (pv 0) (aK bH (pv 3) aE)))
   (aF (dL 0 dY.nd (aK bE (pv 0) aE))
   (aF (dL 7 dY.nd (bQ aB))
   (aF (gB A6 rfl (iI rfl T.z_range (aA (pv 2) aB)) (qQ 5 dY.nd) (aF (dL 8 dY.nd (aN aS (bQ (aA aL (aA aL (aA aL (aA aL (aA aL (aA aL aB))))))) (aK bM (aK bH (aK bE (pv 0) aE) (pv 5)) aE)))
   (aF (dL 9 dY.nd (aN aS (pv 1) (aK bM (aK bH (pv 0) (aK cV aE (pv 5))) aE)))
   (aH (dM (jD E2 A1 A0 dD (pv 7) (aA (aK bH (aK bH (aK bH (HH UJ (pv 4) OD (OC (pv 6))) (pv 9)) (HH UJ (pv 4) (OC (pv 6)) OD)) (pv 8)) aB)))))))
   (aH (aU (pv 7))))))))))))),?_}
 try dsimp only[aV,bC]
 have Z:Lv.length<=100000:=by rw[PL];decide
 w_on;have a0:=n9 c (show (7:Int)≠0 by decide);have a1:=m8 c (show (0:Int)<7 by decide);have b0:=n9 (c.fdiv 7) (show (8:Int)≠0 by decide);have b1:=m8 (c.fdiv 7) (show (0:Int)<8 by decide);generalize c%7=J at *;generalize c.fdiv 7%8=B at *;generalize c.fdiv 56=b';refine mG (by lia) (by lia) ?_;refine rZ (n:=B.toNat) (fun i S G=>∃(C:Int)(z:Str)(R:Option V),S=[some (.int C),some (.str Lv),some (.int (2+J)),some (.int B),some (.str z),R,none,none,none,none]/\G=H/\z.length=i/\Mi (cl z)) {b',_,_,rfl,rfl,by k_is,fun c h=>by have h':c∈([]:List Nat):=h;cases h'} ?_ ?_
 ·intro P' g' c' M;rintro i S G hi ⟨C,z,R,rfl,rfl,hz,X⟩;obtain ⟨j,hj,ej⟩:∃j:Nat,j<26/\C%26=(j:Int):={(C%26).toNat,by lia,by lia}
  w_on;rw[ej];refine NQ Z (EM j hj) ?_;have h1:(⟨#[97+j]⟩:Str).length=1:=rfl;refine oK (by rw[h1];lia) ?_;w_on;refine M _ _ _ {_,_,_,rfl,rfl,by rw[vK,h1];lia,fun c D=>?_};rw[yM]at D;rcases w8.mp D with h|h
  ·exact X c h
  ·have h':c∈[97+j]:=h;rw[i4.mp h'];lia
 rintro S G ⟨C,z,R,rfl,rfl,hz,X⟩;w_on;apply cE fun ln O=>?_;have p0:=n9 C (show B+1≠0 by lia);have p1:=m8 C (show 0<B+1 by lia);generalize C%(B+1)=g at *;generalize C.fdiv 8=m;have e1:=Nr (z:=z) (i:=g) p0 (by lia);have e2:=Af (z:=z) (i:=g) p0 (by lia);have l':=ww z none (some g);have m':=ww z (some g) none;refine mG (by lia) (by lia) ?_;refine rZ (n:=(2+J).toNat) (fun i S Y=>∃(U:List Str)(R o8 o9:Option V),S=[some (.int m),some (.str Lv),some (.int (2+J)),some (.int B),some (.str z),R,some (.int g),some (.ref ln),o8,o9]/\Kp ln G Y/\Y ln=some (.lst (U.map V.str))/\U.length=i/\Mm ((cl z).take g.toNat) m U/\∀x∈U,Nq x/\Dy x) {[],_,_,_,rfl,Kp.new O,aC,rfl,fun k x h=>(by simp at h),fun x h=>nomatch h} ?_ ?_
 ·intro P' g' c' M;rintro i S Y hi ⟨U,R,o8,o9,rfl,kp,I,N,hD,hN⟩;w_on;apply mH fun l6 G2 k' s1 a'=>?_;obtain ⟨t,et,ht,d',e'⟩:=at6 ((m.fdiv 26+(0+(i:Int)))%6) (n9 _ (by decide)) (m8 _ (by decide));refine eV a' et ?_;obtain ⟨j,hj,ej⟩:∃j:Nat,j<26/\(m+3*(0+(i:Int)))%26=(j:Int):={((m+3*(0+(i:Int)))%26).toNat,by lia,by lia}
  w_on;rw[ej];refine NQ Z (EM j hj) ?_;have h1:(⟨#[97+j]⟩:Str).length=1:=rfl;have j':=s1 _ _ I;w_on;apply VD (by lia) ?_;apply oK (by lia) ?_;apply VD (by lia) ?_;refine oK (by rw[vK];lia) ?_;w_on;refine oK (by rw[vK,vK];lia) ?_;have en:cl (fi z none (some g)++(⟨#[97+j]⟩:Str)++fi z (some g) none++t)=(cl z).take g.toNat++(97+j)::((cl z).drop g.toNat++cl t):=by rw[yM,yM,yM,e1,e2,E1,E1];rfl
  generalize fi z none (some g)++(⟨#[97+j]⟩:Str)++fi z (some g) none++t=nm at en⊢;w_on;refine gK (s1 _ _ I) (by rw[i8];lia) ?_;w_on;refine M _ _ _ {U++[nm],_,_,_,rfl,(kp.trans s1.kp).trans Kp.upd,by rw[z9];exact aC,by rw[q4,N];rfl,hD.snoc (by rw[en,N,show ((m+3*(i:Int))%26).toNat=j by lia]),fun x hx=>?_};rcases w8.mp hx with h|h
  ·exact hN x h
  ·rw[i4.mp h];have n':(cl z).length<=7:=by rw[LC];lia
   exact {Py en (fun c D=>X c (fz D)) (by lia) (fun c D=>X c (kf D)) d',Kc en (fun c D=>X c (fz D)) (by lia) (fun c D=>X c (kf D)) (by rw[dy,At];lia) e' (by lia)}
 rintro S Y ⟨U,R,o8,o9,rfl,kp,I,N,hD,hN⟩;w_on;exact q ln Y U O (fun b o h=>kp _ _ (aD h O) h) I (by lia) (by lia) (hD.nodup (by lia)) (fun x hx=>(hN x hx).1) (fun x hx=>(hN x hx).2)
theorem Ca:bZ P w K mg base (k+1) "_law_time" ["_law_number_here"] FN:=by
 refine bZ.of vE.d30 Ai (by walk_at"ln") fun f B A m s H R Q E J h=>?_;obtain ⟨c,rfl,q⟩:=h;refine {_,(aH (aU (aK bH aE (aK bM (aK bE (pv 0) aE) (aN aS (bQ (aA aE (aA aE (aA aE (aA (aK mO aE aE) aB))))) (aK bM (pv 0) aE)))))),?_}
 try dsimp only[aV,bC]
 w_on;apply rY ?_;apply mH fun M I D G g=>?_;obtain ⟨t,C,o⟩:=Rs (x0:=9) (x1:=9) (x2:=1000) (x3:=1000000000000000000000000000000) (fun z=>0<z/\z<=10^31) (by decide) (by decide) (by decide) (by decide) (c%4) (n9 _ (by decide)) (m8 _ (by decide));refine eV g C ?_;refine lE o.1 ?_;have N:=n9 (c.fdiv 4) (show t≠0 by lia);have O:=m8 (c.fdiv 4) o.1;generalize c.fdiv 4%t=z at *;w_on;exact q _ _ G (by lia) (by lia)
theorem WR:bZ P w K mg base (k+1) "_law_grown" ["_law_here_here","_law_number_here","_law_extra"] MQ:=by
 refine bZ.of vE.d31 lC (by walk_at"ln") fun f g' A d' s H vs Q E I h=>?_;obtain ⟨dd,U,u,rs,ps,ts,ln,lr,lp,lt,c,rfl,hQ,n2,n8,rl,e1,e2,e3,e4,e5,q⟩:=h;refine {_,(aF (dL 3 lC.nd aL)
   (aF (dL 4 lC.nd (aK bH (aK bH aE (aK bE (pv 2) aE)) (aK bM (pv 1) (aK jA (pv 2) (aK bE (pv 2) aE)))))
   (aF (dL 1 lC.nd (aK bE (pv 1) aE))
   (aH (gB A6 rfl (iI rfl T.z_range (aA (pv 4) aB)) (qQ 5 lC.nd) (aF (dM (jD E2 A1 A0 dD (aQ I.u1 (pv 0) aL) (aA (aK bH (aK bH (aK bH aL (aN aS (pv 3) (aK bE (pv 5) aE))) aL) (aN aS (pv 3) (aK bM (pv 5) aE))) aB)))
   (aF (dL 6 lC.nd (aK jA (aP fH rfl T.z_len eB (aA (aQ I.u1 (pv 0) aL) aB)) aE))
   (aH (dM (jD E2 A1 A0 dD (aQ I.u1 (pv 0) aL) (aA (bB (aA (aP (IT rfl) rfl T.z_max yQ (aA aE (aA (aK jA (aK jA (pv 6) aE) (aK cV (aK bM (pv 1) aE) (aK bM (pv 5) aE))) aB))) (aA (pv 6) (aA (aK bH aE (aK bM (aK bH (aK bE (pv 1) aE) (aK cV (pv 5) (pv 5))) aE)) aB)))) aB))))))))))),?_}
 try dsimp only[aV,bC]
 have N:Lv.length<=100000:=by rw[PL];decide
 w_on;have a':Int.fdiv 36 3=12:=by decide
 rw[a'];obtain ⟨g,hm⟩:∃g,1+12+c%(36-12)=g:={_,rfl}
 rw[hm];have a0:13<=g:=by lia
 have a1:g<=90:=by lia
 generalize c.fdiv 128=t;refine mG (by lia) (by lia) ?_;refine rZ (n:=(g).toNat) (fun i σ G=>∃(m:List (Int×Int×Int)) (o5 o6:Option V),σ=[some (.ref dd),some (.int t),some (.int 36),some (.str Lv),some (.int (g)),o5,o6]/\Kq ln lr H G/\fN G dd (grown U i) u (rs++m) ps ts ln lr lp lt/\m.length=i/\∀r∈m,0<=r.1/\r.1<U.length+i/\0<=r.2.1/\r.2.1<U.length+i/\1<=r.2.2/\r.2.2<=10^31) {[],_,_,rfl,fun _ _ _ _ h=>h,by rw[L0];unfold grown;rw[List.range_zero,vq,L0];exact hQ,rfl,fun _ h=>nomatch h} ?_ ?_
 ·intro P' i' f' b';rintro i σ G hi ⟨m,o5,o6,rfl,Z,J,hl,D⟩;have h':i<90:=by lia
  w_on;refine bS (.inl J.d) fG ?_;have O:=J.nm;w_on;have j1:(0+(i:Int)).fdiv 26=((i/26:Nat):Int):=by rw[ul _ (by decide)];lia
  have j2:(0+(i:Int))%26=((i%26:Nat):Int):=by lia
  rw[j1];apply NQ N (EM (i/26) (by lia)) ?_;refine oK (by show 4+1<=_;decide) ?_;w_on;refine oK (by show (5:Nat)+1<=_;decide) ?_;w_on;rw[j2];apply NQ N (EM (i%26) (by lia)) ?_;refine oK (by show (6:Nat)+1<=_;decide) ?_;w_on;have en:J7 "q.q."++(⟨#[97+i/26]⟩:Str)++J7 "."++(⟨#[97+i%26]⟩:Str)=KR i:=rfl;rw[en];refine gK O (by rw[i8,jJ];lia) ?_;have C:=J.nam e1 e2 e3 (KR i);rw[←KP]at C;have k1:Kq ln lr H (L2.upd G ln (.lst ((grown U i).map V.str++[.str (KR i)]))):=fun p o x1 x2 h=>aY x1 (Z p o x1 x2 h);generalize L2.upd G ln (.lst ((grown U i).map V.str++[.str (KR i)]))=G1 at C k1⊢;clear J O Z;have e':=C.nm;w_on;apply bS (.inl C.d) fG ?_;rw[i8,jJ];refine bS (.inl C.d) cB ?_;obtain ⟨vr,S,X⟩:=id C.rq;have c':=Paired.length X;rw[q4]at c';w_on;have m0:=Int.mul_nonneg (n9 t (show (2:Int)≠0 by decide)) (n9 (0+(i:Int)) (show (3:Int)≠0 by decide));generalize t%2*((0+(i:Int))%3)=pp at m0⊢;have t0:=n9 (t.fdiv 2+(0+(i:Int))*(0+(i:Int))) (show (9:Int)≠0 by decide);have t1:=m8 (t.fdiv 2+(0+(i:Int))*(0+(i:Int))) (show (0:Int)<9 by decide);generalize (t.fdiv 2+(0+(i:Int))*(0+(i:Int)))%9=M at t0 t1⊢;obtain ⟨x,Y⟩:∃x,(if ((U.length+(i+1):Nat):Int)-1-1-pp>0 then ((U.length+(i+1):Nat):Int)-1-1-pp else 0)=x:={_,rfl}
  rw[Y];have x0:0<=x:=by rw[←Y];split <;> lia
  have x1:x<U.length+((i+1:Nat):Int):=by rw[←Y];split <;> lia
  clear Y;generalize hy:((U.length+(i+1):Nat):Int)-1=y;refine bD fun p hp=>?_;have B:=aJ.new (o:=.tup [.int x,.int y,.int (1+M)]) hp;have R:=aC (H:=G1) (a:=p) (o:=.tup [.int x,.int y,.int (1+M)]);have k2:Kq ln lr H (L2.upd G1 p (.tup [.int x,.int y,.int (1+M)])):=fun a o x1 x2 h=>aO hp (k1 a o x1 x2 h);generalize L2.upd G1 p (.tup [.int x,.int y,.int (1+M)])=G2 at B R k2 ⊢;w_on;apply gK (B _ _ S) (by lia) ?_;have g2:=(C.sm B).rnn (x:=(x,y,1+M)) (B _ _ S) (Pd.imp X fun v b f=>f.tk B.tk) {p,rfl,R} e1 e4 e5;rw[E1]at g2;refine b' _ _ _ {m++[(x,y,1+M)],_,_,rfl,fun a o x1 x2 h=>aY x2 (k2 a o x1 x2 h),g2,by rw[q4,hl];rfl,fun r I=>?_};rcases w8.mp I with h|h
  ·have:=D r h;lia
  ·rw[i4.mp h];dsimp only;lia
 rintro σ G ⟨m,o5,o6,rfl,Z,J,hl,D⟩;w_on;exact q G _ m Z (by lia) J (by lia) (by intro r I;have:=D r I;lia)
include o1m o1r o1x o1v in
theorem Cd:bZ P w K mg base (k+1) "_law_here" ["_law_script","_law_most","_law_extra"] (GA K):=by
  refine bZ.of vE.d32 fL (by walk_at"ln") fun f R' A L' s H vs Q E O h=>?_;obtain ⟨a,ns,rfl,hS,S',q⟩:=h;refine {_,(aF (dL 3 fL.nd (aI o1r O rfl (aA (aI o1m O rfl (aA (pv 0) (aA aE aB))) aB)))
      (aF (dL 4 fL.nd (aI o1m O rfl (aA (pv 0) (aA aE aB))))
      (aF (dL 4 fL.nd (aK bH aE (aK bM (aK bE (pv 4) aE) (aN aS (bQ (aA aE (aA aE (aA aE (aA (aK mO aE aE) aB))))) (aK bM (pv 4) aE)))))
      (aF (dL 5 fL.nd (Bs (oN aL (pv 3) (oN aL (pv 4) (oN aL (bQ aB) (oN aL (bQ aB) (oN aL (bQ aB) Bo))))) rfl rfl (List.cons_ne_nil _ _) (A3 rfl)))
      (aF (gB A6 rfl (AW rfl T.z_range (aA aE (aA (aP (IT rfl) rfl T.z_max yQ (aA aE (aA (aP (PH rfl) rfl T.z_min EG (aA (aP fH rfl T.z_len eB (aA (pv 0) aB)) (aA (pv 1) aB))) aB))) aB))) (qQ 6 fL.nd) (aF (dL 7 fL.nd (aI o1m O rfl (aA (pv 0) (aA (pv 6) aB))))
      (aF (dL 8 fL.nd (aK bM (pv 7) aE))
      (aF (dL 9 fL.nd (aK bM (aK bE (pv 7) aE) (aP fH rfl T.z_len eB (aA (pv 3) aB))))
      (aF (dL 10 fL.nd (aK bM (aK bH (aK bH (pv 9) aE) (aK bM (aK bE (pv 7) aE) (aK jA (aP fH rfl T.z_len eB (aA (pv 3) aB)) aE))) (aP fH rfl T.z_len eB (aA (pv 3) aB))))
      (aH (cA (PW.pt (lG (aW sR (pv 8) aE) (iG (aW (dS O.units) (aQ O.u1 (pv 5) aL) (bQ aB))))) (aH (dM (jD E2 A1 A0 dD (aQ O.u1 (pv 5) aL) (aA (bB (aA (pv 9) (aA (pv 10) (aA (aI o1x O rfl (aA (aK bE (pv 7) aE) aB)) aB)))) aB)))) (aH (cA (aW sR (pv 8) aE) (aF (dL 11 fL.nd (aK bM (aK bE (pv 7) aE) (aN aS (bQ (aA aE (aA aE (aA aE (aA (aK mO aE aE) aB))))) (aK bM (aK bE (pv 7) aE) aE))))
      (aH (dM (jD E2 A1 A0 dD (aQ O.u1 (pv 5) aL) (aA (bB (aA (pv 9) (aA (pv 11) aB))) aB))))) (aF (dL 11 fL.nd (aK bM (aK bE (pv 7) aE) (aN aS (bQ (aA aE (aA aE (aA aE (aA (aK mO aE aE) aB))))) (aK bM (pv 10) aE))))
      (aH (dM (jD E2 A1 A0 dD (aQ O.u1 (pv 5) aL) (aA (bB (aA (aK bM (aK bE (pv 7) aE) (aP fH rfl T.z_len eB (aA (aQ O.u1 (pv 5) aL) aB))) (aA (pv 11) aB))) aB))))))))))))))
      (aF (dL 7 fL.nd (aK bE (aI o1m O rfl (aA (pv 0) (aA aE aB))) aE))
      (aF (cA (aW (dS O.units) (aK bM (pv 7) aE) aE) (aH (dM (aI o1v O rfl (aA (pv 5) (aA (aK bE (pv 7) aE) (aA (pv 2) aB)))))) bI)
      (aH (aU (pv 5)))))))))),?_}
  try dsimp only[aV,bC]
  w_on;apply {a,ns,1,rfl,hS,by decide,by decide,fun r1=>?_};apply {r1,rfl,fun ln H1 U E' s1 hU r' s' t' C' u'=>?_};apply {a,ns,2,rfl,s1.seq hS,by decide,by decide,fun r2=>?_};apply Ao ?_;refine cE fun l4 b'=>?_;have s2:=s1.trans (aJ.new (o:=.lst [V.int 1,V.int 12,V.int 60,V.int 1000000000000]) b');have a':=aO (o:=.lst [V.int 1,V.int 12,V.int 60,V.int 1000000000000]) b' hU;have R:=aC (H:=H1) (a:=l4) (o:=.lst [V.int 1,V.int 12,V.int 60,V.int 1000000000000]);generalize L2.upd H1 l4 (.lst [V.int 1,V.int 12,V.int 60,V.int 1000000000000])=H2 at s2 R a' ⊢;w_on;obtain ⟨t,et,ht⟩:=Rs (x0:=1) (x1:=12) (x2:=60) (x3:=1000000000000) (fun z=>0<z/\z<=10^12) (by decide) (by decide) (by decide) (by decide) (r2%4) (n9 _ (by decide)) (m8 _ (by decide));refine eV R et ?_;refine lE ht.1 ?_;have m0:=n9 (r2.fdiv 4) (show t≠0 by lia);have m1:=m8 (r2.fdiv 4) ht.1;generalize r2.fdiv 4%t=z at *;w_on;generalize hu:1+z=u;have u0:0<u:=by lia
  have u1:u<=10^12:=by lia
  clear R et hU m0 m1 ht hu;refine Aw fun Z d'=>?_;have sd:=aJ.new (o:=.dK []) d';w_on;apply cE fun X S=>?_;apply cE fun lp J=>?_;refine cE fun lt M=>?_;have i':H2 X=none:=sd.free S;have sr:=sd.trans (aJ.new (o:=.lst []) S);have h':H2 lp=none:=sr.free J;have sp:=sr.trans (aJ.new (o:=.lst []) J);have j':H2 lt=none:=sp.free M;have st:=sp.trans (aJ.new (o:=.lst []) M);have y':Z≠X:=aD aC S;have x':Z≠lp:=aD (aO S aC) J;have z':Z≠lt:=aD (aO J (aO S aC)) M;have J':X≠lp:=aD aC J;have K':X≠lt:=aD (aO J aC) M;have I':lp≠lt:=aD aC M;refine RN (aO M (aO J (aO S aC))) ?_;have G0:kM H2 (L2.upd (L2.upd (L2.upd (L2.upd (L2.upd H2 Z (.dK [])) X (.lst [])) lp (.lst [])) lt (.lst [])) Z (.dK (cP ln u X lp lt))) Z U u [] [] [] ln X lp lt 0:=
    {{u0,u1,r',s',(fun _ h=>nomatch h),(fun _ h=>nomatch h),(fun _ h=>nomatch h),j8 _},
     {{[],aC},aY (aD a' d') (st _ _ a'),{[],aY (q7 y') (aO M (aO J aC)),.nil},{[],aY (q7 x') (aO M aC),.nil},{[],aY (q7 z') aC,.nil}},
     Kp.upd.sm st d',i',h',j',J',K',I',(fun z=>nomatch z),aC}
  generalize L2.upd (L2.upd (L2.upd (L2.upd (L2.upd H2 Z (.dK [])) X (.lst [])) lp (.lst [])) lt (.lst [])) Z (.dK (cP ln u X lp lt))=H3 at G0⊢;have p':ln≠X:=aD a' i';have A':ln≠lp:=aD a' h';have B':ln≠lt:=aD a' j';have v':H Z=none:=s2.free d';clear sd sr sp st S J M y' x' z' b';w_on;apply CS (s2.trans G0.s |>.seq hS) ?_;rw[i8];generalize w':(if (if (23:Int)<(ns.length:Int) then 23 else (ns.length:Int))>4 then (if (23:Int)<(ns.length:Int) then 23 else (ns.length:Int)) else 4)=mx;have x0:4<=mx:=by rw[←w'];split <;> split at*<;> lia
  have x1:mx<=23:=by rw[←w'];split <;> split at*<;> lia
  refine NO (by decide) (by decide) (by lia) (by lia) ?_;refine rZ (n:=(mx-3).toNat) (fun i σ G=>∃(rs:List (Int×Int×Int)) (ps ts:List (Int×Int)) (o5 o6 o7 o8 o9 q':Option V),σ=[some (.ref a),some (.int 23),some (.int 36),some (.ref ln),some (.int u),some (.ref Z),o5,o6,o7,o8,o9,q']/\kM H2 G Z U u rs ps ts ln X lp lt i) {[],[],[],_,_,_,_,_,_,rfl,G0} ?_ ?_
  . intro P' X' Q' c'
    rintro i σ G hi ⟨rs,ps,ts,o5,o6,o7,o8,o9,q',rfl,g⟩;have sG:=s2.trans g.s;w_on;apply {a,ns,_,rfl,sG.seq hS,by lia,by lia,fun D=>?_};apply xG g.q.nm ?_;rw[i8];refine lE (by lia) ?_;have a0:=n9 (D.fdiv 8) (show (U.length:Int)≠0 by lia);have a1:=m8 (D.fdiv 8) (show (0:Int)<U.length by lia);generalize D.fdiv 8%(U.length:Int)=aa at *;w_on;apply xG g.q.nm ?_;rw[i8];refine lE (by lia) ?_;generalize D.fdiv 64%((U.length:Int)-1)=m';w_on;apply xG g.q.nm ?_;rw[i8];refine lE (by lia) ?_;have b0:=n9 (aa+1+m') (show (U.length:Int)≠0 by lia);have b1:=m8 (aa+1+m') (show (0:Int)<U.length by lia);generalize (aa+1+m')%(U.length:Int)=bb at *;w_on;refine mX (fun c1=>?_) (fun c1=>?_)
    . w_on
      refine bS (.inl g.q.d) cB ?_;obtain ⟨vr,C,I⟩:=id g.q.rq;have n':=Paired.length I;have e':=g.i.len;w_on;apply {_,rfl,fun tm G1 Y t0 t1=>?_};refine bD fun p hp=>?_;have B:=Y.trans (aJ.new (o:=.tup [.int aa,.int bb,.int tm]) hp);have N:=aC (H:=G1) (a:=p) (o:=.tup [.int aa,.int bb,.int tm]);generalize L2.upd G1 p (.tup [.int aa,.int bb,.int tm])=G2 at B N ⊢;w_on;apply gK (B _ _ C) (by lia) ?_;exact c' _ _ _ {_,_,_,_,_,_,_,_,_,rfl,(g.sm B).run (x:=(aa,bb,tm)) (B _ _ C) (Pd.imp I fun v b f=>f.tk B.tk) {p,rfl,N} {a0,a1,b0,b1,t0,t1} p'}
    . w_on
      refine bS (.inl g.q.d) cB ?_;obtain ⟨O',k',l'⟩:=id g.q.rq;w_on;refine mH fun le G0 U' se g'=>?_;have g0:=g.sm se;refine Lf (se _ _ k') (Pd.imp l' fun v b f=>f.tk se.tk) g' ?_;clear g' k' l' O';w_on;refine mX (fun f'=>?_) (fun f'=>?_)
      . w_on
        refine bS (.inl g0.q.d) cB ?_;obtain ⟨vr,C,I⟩:=id g0.q.rq;have n':=Paired.length I;have e':=g0.i.len;w_on;apply {_,rfl,fun tm G1 Y t0 t1=>?_};refine bD fun p hp=>?_;have B:=Y.trans (aJ.new (o:=.tup [.int aa,.int bb,.int tm]) hp);have N:=aC (H:=G1) (a:=p) (o:=.tup [.int aa,.int bb,.int tm]);generalize L2.upd G1 p (.tup [.int aa,.int bb,.int tm])=G2 at B N ⊢;w_on;apply gK (B _ _ C) (by lia) ?_;exact c' _ _ _ {_,_,_,_,_,_,_,_,_,rfl,(g0.sm B).run (x:=(aa,bb,tm)) (B _ _ C) (Pd.imp I fun v b f=>f.tk B.tk) {p,rfl,N} {a0,a1,b0,b1,t0,t1} p'}
      . w_on
        refine mX (fun c2=>?_) (fun c2=>?_)
        . w_on
          apply rY ?_;apply mH fun l4 G1 b' Y R=>?_;obtain ⟨t,et,ht⟩:=Rs (x0:=12) (x1:=12) (x2:=1000) (x3:=1000000000000000000000000000000) (fun z=>0<z/\z<=10^105) (by decide) (by decide) (by decide) (by decide) (D.fdiv 8%4) (n9 _ (by decide)) (m8 _ (by decide));refine eV R et ?_;refine lE ht.1 ?_;have m0:=n9 (D.fdiv 64) (show t≠0 by lia);have m1:=m8 (D.fdiv 64) ht.1;generalize D.fdiv 64%t=o' at *;have g1:=g0.sm Y;w_on;refine bS (.inl g1.q.d) oX ?_;obtain ⟨vr,C,I⟩:=id g1.q.pq;have n':=Paired.length I;have e':=g1.i.len;w_on;apply iE fun p G2 hp B N=>?_;apply gK (B _ _ C) (by lia) ?_;exact c' _ _ _ {_,_,_,_,_,_,_,_,_,rfl,(g1.sm B).pus (x:=(aa,o')) (B _ _ C) (Pd.imp I fun v b f=>f.tk B.tk) {p,rfl,N} {a0,a1,m0,by lia} A' f'}
        . w_on
          apply rY ?_;apply mH fun l4 G1 b' Y R=>?_;obtain ⟨t,et,ht⟩:=Rs (x0:=12) (x1:=30) (x2:=1000) (x3:=1000000000000000000000000000000) (fun z=>0<z/\z<=10^105) (by decide) (by decide) (by decide) (by decide) (bb%4) (n9 _ (by decide)) (m8 _ (by decide));refine eV R et ?_;refine lE ht.1 ?_;have m0:=n9 (D.fdiv 512) (show t≠0 by lia);have m1:=m8 (D.fdiv 512) ht.1;generalize D.fdiv 512%t=o' at *;have g1:=g0.sm Y;w_on;refine bS (.inl g1.q.d) mY ?_;obtain ⟨vr,C,I⟩:=id g1.q.tq;obtain ⟨vz,V',M'⟩:=id g1.q.rq;have n':=Paired.length I;have W':=Paired.length M';have e':=g1.i.len;have G':0<rs.length:=Q9.mpr f';w_on;apply bS (.inl g1.q.d) cB ?_;have w0:=n9 (D.fdiv 8) (show (vz.length:Int)≠0 by lia);generalize D.fdiv 8%(vz.length:Int)=wh at *;w_on;apply iE fun p G2 hp B N=>?_;apply gK (B _ _ C) (by lia) ?_;exact c' _ _ _ {_,_,_,_,_,_,_,_,_,rfl,(g1.sm B).tak (x:=(wh,o')) (B _ _ C) (Pd.imp I fun v b f=>f.tk B.tk) {p,rfl,N} {w0,m0,by lia} B' f'}
  rintro σ G ⟨rs,ps,ts,o5,o6,o7,o8,o9,q',rfl,g⟩;w_on;have hi:=g.i;have e':=hi.len;have G':0<rs.length:=Q9.mpr (g.m (by lia));apply {a,ns,2,rfl,(s2.trans g.s).seq hS,by decide,by decide,fun r3=>?_};refine mX (fun c=>?_) (fun c=>?_)
  . w_on
    apply {Z,U,u,rs,ps,ts,ln,X,lp,lt,_,rfl,g.q,r',s',by lia,p',A',B',g.n1,g.n2,fun H' i N' kq T' hQ hl F'=>?_};have D':H X=none:=s2.free g.f1;refine q Z H' (grown U i) u (rs++N') ps ts ln X lp lt v' (fun b o h=>kq b o (aD h E') (aD h D') ((s2.trans g.s) b o h)) {hi.u0,hi.u1,YB t' C' i,by rw[jJ];lia,by rw[jJ];lia,fun r O=>?_,fun r O=>?_,hi.tok,by rw[q4];lia,by rw[q4];lia,by lia,by lia,QP u' i} hQ (let ⟨vr,C,_⟩:=g.q.rq;kq _ _ (uR g.d0 g.q.nm) (uR g.d0 C) g.d0)
    . rw[jJ]
      rcases w8.mp O with h|h
      . have:=hi.rok r h
        lia
      . have:=F' r h
        lia
    . rw[jJ]
      have:=hi.pok r O;lia
  . w_on
    exact q Z G U u rs ps ts ln X lp lt v' (s2.trans g.s) {hi.u0,hi.u1,t',hi.n2,by lia,hi.rok,hi.pok,hi.tok,by lia,by lia,by lia,by lia,u'} g.q g.d0
include o2d in
theorem Jx:bZ P w K mg base (k+1) "_law_net" ["_law_here_here"] MJ:=by
 refine bZ.of vE.d33 US (by walk_at"ln") fun f g' A e' s H vs Q E D h=>?_;obtain ⟨dd,U,u,rs,ps,ts,ln,lr,lp,lt,rfl,hI,B,q⟩:=h;refine {_,(aF (dL 1 US.nd (aQ D.u1 (pv 0) aL))
   (aH (aU (eJ (cM (aG UU) ["_law_here_here","_law_names"] ["_law_a","_law_b","_law_time_here"] ["_law_names","_law_here_here"] [1,0]) rfl (cL (aQ D.u1 (pv 0) aL)) (fun _ _ _ _=>(mK (n:=3) rfl (bA (Zn ["_law_a","_law_b","_law_time_here","_law_names","_law_here_here"] 0) (bA (Zn ["_law_a","_law_b","_law_time_here","_law_names","_law_here_here"] 1) (bA (Zn ["_law_a","_law_b","_law_time_here","_law_names","_law_here_here"] 2) eI))))) (fun _ _ _ _=>(bB (aA (aN jB (pv 3) (pv 0)) (aA (aN jB (pv 3) (pv 1)) (aA (aI o2d D rfl (aA (pv 2) (aA (aQ D.u1 (pv 4) aL) aB))) aB))))) (fun _ _ _ _=>eG))))),?_}
 try dsimp only[aV,bC]
 w_on;apply bS (.inl B.d) fG ?_;refine bS (.inl B.d) cB ?_;obtain ⟨vr,I,X⟩:=id B.rq;have d':vr.length=rs.length:=Paired.length X;have f':=hI.rl;w_on;refine cK (cU.of I) ?_;refine sM (xs:=vr) (by lia) (fun c i J G=>Kp c H G/\Paired (nE G) J (kn (eM U u (rs.take i)))) (fun c g=>{Kp.new g,.nil}) ?_ ?_ ?_
 ·rintro c i J G g _ ⟨kp,_⟩;exact cU.of (kp _ _ (aD I g) I)
 ·rintro c i J G x g hx S Z ⟨kp,pn⟩;obtain ⟨r,D,p,rfl,hp⟩:=Paired.at X hx;obtain ⟨r0,r1,r2,r3,r4,r5⟩:=hI.rok r (o0 D);have b':G p=some (.tup [.int r.1,.int r.2.1,.int r.2.2]):=kp _ _ (aD hp g) hp;have m:=kp _ _ (aD B.nm g) B.nm;have a':=kp _ _ (aD B.d g) B.d;have M:=OF (U:=U) r0 r1;have O:=OF (U:=U) r2 r3;have C:=Cj (U:=U) (u:=u) D;generalize fE U r.1=s1 at M C;generalize fE U r.2.1=s2 at O C;have u0:=hI.u0;have u1:=hI.u1;apply {p,_,_,_,rfl,b',?_};apply eV m M ?_;apply eV m O ?_;apply bS (.inl a') uF ?_;refine {r.2.2,u,rfl,u0,Np (by lia) (by lia),Np (by lia) (by lia),fun t c'=>?_};have f1:cI (L2.upd G t (.tup [.int (eY r.2.2 u),.int (fB r.2.2 u)])) (.ref t) (j7 r.2.2 u):=cI.low (by lia) aC;have t1:=aJ.new (o:=.tup [.int (eY r.2.2 u),.int (fB r.2.2 u)]) c';generalize L2.upd G t (.tup [.int (eY r.2.2 u),.int (fB r.2.2 u)])=G1 at f1 t1⊢;w_on;refine bD fun q2 R=>?_;have Y:=t1.trans (aJ.new (o:=.tup [.str s1,.str s2,.ref t]) R);have h2:=aC (H:=G1) (a:=q2) (o:=.tup [.str s1,.str s2,.ref t]);have f2:=f1.tk (aJ.new (o:=.tup [.str s1,.str s2,.ref t]) R).tk;generalize L2.upd G1 q2 (.tup [.str s1,.str s2,.ref t])=G2 at Y h2 f2⊢;have tk:=TK.lst (o:=.lst (J++[.ref q2])) (Y _ _ Z);refine gD (h8.mp hx).1 S (Y _ _ Z) {(kp.trans Y.kp).trans Kp.upd,?_};rw[C];exact Pd.snoc (Pd.imp pn fun v b f=>(nE.tk f Y.tk).tk tk) {q2,.ref t,rfl,tk _ _ h2,f2.tk tk}
 rintro c J G g Z S ⟨kp,pn⟩;w_on;rw[d',K4]at pn;exact q c G g (fun b o h=>kp _ _ (aD h g) h) {J,Z,pn}
theorem QK:bZ P w K mg base (k+1) "_law_pushes" ["_law_here_here"] wJ:=by
 refine bZ.of vE.d34 AQ (by walk_at"ln") fun f p' A m' s H vs Q E I h=>?_;obtain ⟨dd,U,u,J,ps,ts,ln,lr,lp,lt,rfl,hI,hQ,q⟩:=h;refine {_,(aF (dL 1 AQ.nd (aK bH (eJ (cM (aG oH) ["_law_here_here","_law_used"] ["_law_a","_law_b","_law_time_here"] [] []) rfl (cL (aQ I.u1 (pv 0) aL)) (fun _ _ _ _=>(mK (n:=3) rfl (bA (Zn ["_law_a","_law_b","_law_time_here"] 0) (bA (Zn ["_law_a","_law_b","_law_time_here"] 1) (bA (Zn ["_law_a","_law_b","_law_time_here"] 2) eI))))) (fun _ _ _ _=>(pv 0)) (fun _ _ _ _=>eG)) (eJ (cM (aG oH) ["_law_here_here","_law_used"] ["_law_a","_law_b","_law_time_here"] [] []) rfl (cL (aQ I.u1 (pv 0) aL)) (fun _ _ _ _=>(mK (n:=3) rfl (bA (Zn ["_law_a","_law_b","_law_time_here"] 0) (bA (Zn ["_law_a","_law_b","_law_time_here"] 1) (bA (Zn ["_law_a","_law_b","_law_time_here"] 2) eI))))) (fun _ _ _ _=>(pv 1)) (fun _ _ _ _=>eG))))
   (aH (aU (eJ (cM (aG oH) ["_law_here_here","_law_used"] ["_law_a","_law_moment"] ["_law_used"] [1]) rfl (cL (aQ I.u1 (pv 0) aL)) (fun _ _ _ _=>(mK (n:=2) rfl (bA (Zn ["_law_a","_law_moment","_law_used"] 0) (bA (Zn ["_law_a","_law_moment","_law_used"] 1) eI)))) (fun _ _ _ _=>(bB (aA (pv 0) (aA (pv 1) aB)))) (fun _ _ _ _=>(iQ (aW xM (pv 0) (pv 2) (by with_unfolding_all rfl)))))))),?_}
 try dsimp only[aV,bC]
 obtain ⟨vr,O,Y⟩:=id hQ.rq;have i':vr.length=J.length:=Paired.length Y;have n':=hI.rl;have o':=hI.pl;w_on;apply bS (.inl hQ.d) cB ?_;refine cK (cU.of O) ?_;refine sM (xs:=vr) (by lia) (fun g i B G=>Kp g H G/\B=((J.take i).map (·.1)).map V.int) (fun g m=>{Kp.new m,rfl}) ?_ ?_ ?_
 ·rintro g i B G m _ ⟨kp,_⟩;exact cU.of (kp _ _ (aD O m) O)
 ·rintro g i B G x m R t M ⟨kp,rfl⟩;obtain ⟨r,I,p,rfl,hp⟩:=Paired.at Y R;have C:G p=some (.tup [.int r.1,.int r.2.1,.int r.2.2]):=kp _ _ (aD hp m) hp;apply {p,_,_,_,rfl,C,?_};exact gD (h8.mp R).1 t M {kp.trans Kp.upd,by rw[jZ I,z9,z9];rfl}
 rintro a1 r' G1 h1 Z c' ⟨k',rfl⟩;have s1:aJ H G1:=fun b o h=>k' _ _ (aD h h1) h;have g':=hQ.sm s1;have D:=s1 _ _ O;have f':=Pd.imp Y fun v b f=>f.tk s1.tk;w_on;apply bS (.inl g'.d) cB ?_;refine cK (cU.of D) ?_;refine sM (xs:=vr) (by lia) (fun g i B G=>Kp g G1 G/\B=((J.take i).map (·.2.1)).map V.int) (fun g m=>{Kp.new m,rfl}) ?_ ?_ ?_
 ·rintro g i B G m _ ⟨kp,_⟩;exact cU.of (kp _ _ (aD D m) D)
 ·rintro g i B G x m R t M ⟨kp,rfl⟩;obtain ⟨r,I,p,rfl,hp⟩:=Paired.at f' R;have C:G p=some (.tup [.int r.1,.int r.2.1,.int r.2.2]):=kp _ _ (aD hp m) hp;apply {p,_,_,_,rfl,C,?_};exact gD (h8.mp R).1 t M {kp.trans Kp.upd,by rw[jZ I,z9,z9];rfl}
 rintro a2 s' G2 h2 a' d' ⟨l',rfl⟩;have s2:aJ G1 G2:=fun b o h=>l' _ _ (aD h h2) h;rw[i',K4]at Z a' c' d';rw[i8,i8]at c' d';w_on;refine yU (s2 _ _ Z) a' (by simp;lia) fun a3 h3=>?_;rw[←z9,show (sf (fun x=>x.1) J++sf (fun x=>x.2.1) J:List Int)=lB J from rfl];have s3:=(s1.trans s2).trans (aJ.new (o:=.lst ((lB J).map V.int)) h3);have S:=aC (H:=G2) (a:=a3) (o:=.lst ((lB J).map V.int));generalize L2.upd G2 a3 (.lst ((lB J).map V.int))=G3 at s3 S ⊢;have b':=hQ.sm s3;obtain ⟨vp,X,e'⟩:=id b'.pq;have h':vp.length=ps.length:=Paired.length e';w_on;apply bS (.inl b'.d) oX ?_;refine cK (cU.of X) ?_;refine VJ (xs:=vp) (by lia) (fun g i B G=>Kp g G3 G/\Paired (fQ G) B (iH J (ps.take i))) (fun g m=>{Kp.new m,.nil}) ?_ ?_ ?_
 ·rintro g i B G m _ ⟨kp,_⟩;exact cU.of (kp _ _ (aD X m) X)
 ·rintro g i B G x m R t M ⟨kp,pn⟩;obtain ⟨r,I,p,rfl,hp⟩:=Paired.at e' R;have hi:=(h8.mp R).1;have C:G p=some (.tup [.int r.1,.int r.2]):=kp _ _ (aD hp m) hp;have j':=kp _ _ (aD S m) S;apply {p,_,_,rfl,C,?_};apply Fs j' ?_;refine mX (fun c=>?_) (fun c=>?_)
  ·w_on;refine iE fun q2 G4 q' t2 h2=>?_;have tk:=TK.lst (o:=.lst (B++[.ref q2])) (t2 _ _ M);refine kZ hi t (t2 _ _ M) {(kp.trans t2.kp).trans Kp.upd,?_};rw[Bj I c];exact Pd.snoc (Pd.imp pn fun v b f=>(f.tk t2.tk).tk tk) {q2,rfl,tk _ _ h2}
  ·w_on;refine jR hi t M {kp,?_};rw[Jf I c];exact pn
 rintro g B G m M t ⟨kp,pn⟩;w_on;rw[h',K4]at pn;exact q g G (s3.free m) (s3.trans fun b o h=>kp _ _ (aD h m) h) {B,M,pn}
theorem WN:bZ P w K mg base (k+1) "_law_taken" ["_law_here_here"] MA:=by
 refine bZ.of vE.d35 rS (by walk_at"ln") fun f d' A b' s H vs Q E C h=>?_;obtain ⟨dd,U,u,rs,ps,ts,ln,lr,lp,lt,rfl,X,hQ,q⟩:=h;refine {_,(aF (dL 1 rS.nd iW)
   (aF (gB A6 rfl (cL (aQ C.u1 (pv 0) aL)) (jO (n:=2) rfl (bA (qQ 2 rS.nd) (bA (qQ 3 rS.nd) eI))) (aH (gO C.u1 (pv 1) (pv 2) (aP (PH rfl) rfl T.z_min EG (aA (pv 3) (aA (gP C.u1 (pv 1) (pv 2) (pv 3) {rfl,rfl,rfl,rfl}) aB))) rfl)))
   (aH (aU (pv 1))))),?_}
 try dsimp only[aV,bC]
 have g':=X.tl;w_on;refine oJ fun d Z=>?_;obtain ⟨H0,zE,s0,I⟩:=Mf Z (.dK []);rw[zE];have G:=hQ.sm s0;obtain ⟨vt,t,M⟩:=id G.tq;have a':vt.length=ts.length:=Paired.length M;w_on;apply bS (.inl G.d) mY ?_;refine cK (cU.of t) ?_;have J:∀{p:c8}{o:HO},H0 p=some o->(∀kv,o≠.dK kv)->p≠d:=fun {p o} h n e=>by rw[e,I]at h;cases h;exact n _ rfl
 refine sI (xs:=vt) (fun i R B=>∃(N O:Option V)(D:AL aR Int),R=[some (.ref dd),some (.ref d),N,O]/\Kp d H0 B/\DQ IQ B d D/\Lx u D (jE u (ts.take i))/\D.length<=i/\∀x∈D,0<=x.2/\x.2<=10^105) {_,_,[],rfl,Kp.refl _ _,{[],I,.nil},fun k=>rfl,j8 _,fun _ h=>nomatch h} ?_ ?_ ?_
 ·rintro i R B _ ⟨N,O,D,rfl,kp,_⟩;exact cU.of (kp _ _ (J t (by intro kv z;cases z)) t)
 ·intro P' h' c' Y;rintro i x R B hx ⟨N,O,D,rfl,kp,⟨kv,m,kq⟩,TT,S,g⟩;obtain ⟨r,C,p,rfl,hp⟩:=Paired.at M hx;have hi:=(h8.mp hx).1;obtain ⟨r1,r2,r3⟩:=X.tok r (o0 C);have f':=kp _ _ (J hp (by intro kv z;cases z)) hp;w_on;apply {d,rfl,.inl {kv,.inl m},?_};refine {_,.inl {kv,i5 r.1,.inl m,rfl,rfl},?_};rw[oY kq];w_on;rw[Gi];have e':=kq.len;apply lF (c:=i5 r.1) m (by lia) ?_;refine Y _ _ _ {_,_,XF D r,rfl,kp.trans Kp.upd,{_,aC,(kq.put rfl).imp fun v b f=>f},?_,A5 (yS _ _ _) (by lia),OR (P:=fun z=>0<=z/\z<=10^105) g {r2,r3}};rw[Hc C];exact TT.step X.u0
 rintro R B ⟨N,O,D,rfl,kp,dq,TT,S,g⟩;w_on;rw[a',K4]at TT;exact q d B D Z (fun b o h=>kp _ _ (aD h Z) (s0 _ _ h)) dq TT g
include o1l o1t in
theorem Ka:bZ P w K mg base (k+1) "_law_due" ["_law_here_here"] Fb:=by
 refine bZ.of vE.d36 fP (by walk_at"ln") fun f ai A Ψ s H vs Q E C h=>?_;obtain ⟨dd,U,u,g,ps,R,ln,lr,lp,lt,rfl,O,hQ,q⟩:=h;refine {_,(aF (dL 1 fP.nd (aI o1t C rfl (aA (pv 0) aB)))
   (aF (dL 2 fP.nd iW)
   (aF (gB A6 rfl (cL (aI o1l C rfl (aA (pv 0) aB))) (jO (n:=2) rfl (bA (qQ 3 fP.nd) (bA (qQ 4 fP.nd) eI))) (aH (gO C.u1 (pv 2) (pv 3) (aP (PH rfl) rfl T.z_min EG (aA (pv 4) (aA (gP C.u1 (pv 2) (pv 3) (pv 4) {rfl,rfl,rfl,rfl}) aB))) rfl)))
   (aF (dL 5 fP.nd lI)
   (aF (sN A6 (eA (pv 5)) (aF (dL 5 fP.nd lI)
   (aF (dL 6 fP.nd (Br rfl rfl T.z_list rfl T.z_range (aA (aP fH rfl T.z_len eB (aA (aQ C.u1 (pv 0) aL) aB)) aB)))
   (aH (gB A6 rfl (cL (aK bH (pv 6) (Jk (pv 6)))) (qQ 7 fP.nd) (aF (JT (aN aS (aQ C.u1 (pv 0) aL) (pv 7)) (jO (n:=3) rfl (bA (qQ 8 fP.nd) (bA (qQ 9 fP.nd) (bA (qQ 10 fP.nd) eI)))))
   (aH (gB A6 rfl (cL (bQ (aA (bB (aA (pv 8) (aA (pv 9) aB))) (aA (bB (aA (pv 9) (aA (pv 8) aB))) aB)))) (jO (n:=2) rfl (bA (qQ 11 fP.nd) (bA (qQ 12 fP.nd) eI))) (aH (cA (tU (DC C.u1 (pv 11) (pv 2))) (aF (dL 13 fP.nd (aK bH (aQ C.u1 (pv 2) (pv 11)) (pv 10)))
   (aH (cA (PW.pt (jN (aW ON (pv 13) (gP C.u1 (pv 1) (pv 7) (pv 13) {rfl,rfl,rfl,rfl})) (gM (aW sR (pv 13) (gP C.u1 (pv 2) (pv 12) (aK bH (pv 13) aE) {rfl,rfl,rfl,rfl}))))) (aF (gO C.u1 (pv 2) (pv 12) (pv 13) rfl)
   (aH (dL 5 fP.nd lI))) bI))) bI))))))))))
   (aH (aU (pv 2)))))))),?_}
 try dsimp only[aV,bC]
 have ag:=O.pl;have ar:=O.rl;have au:=Bm g ps;w_on;apply {dd,U,u,g,ps,R,ln,lr,lp,lt,rfl,O,hQ,fun dT H1 TB am s1 tq TT al=>?_};refine oJ fun d hd=>?_;have N':H d=none:=s1.free hd;have B':=aJ.new (o:=.dK []) hd;have J':=aC (H:=H1) (a:=d) (o:=.dK []);have η:=tq.sm IQ.tk B';generalize L2.upd H1 d (.dK [])=H2 at B' J' η ⊢;have s2:=s1.trans B';have I':=hQ.sm s2;w_on;refine {dd,U,u,g,ps,R,ln,lr,lp,lt,rfl,O,I',fun lq H3 aq s3 Ξ=>?_};have K':=s3 _ _ J';have ae:=η.sm IQ.tk s3;have l':=I'.sm s3;have ad:=s2.trans s3;obtain ⟨vt,A',ζ⟩:=id Ξ;have ω:vt.length=(iH g ps).length:=Paired.length ζ;have c':∀{p:c8}{o:HO},H3 p=some o->(∀kv,o≠.dK kv)->p≠d:=fun {p o} h n e=>by rw[e,K']at h;cases h;exact n _ rfl
 have p':dT≠d:=by obtain ⟨kt,χ,_⟩:=tq;exact aD χ hd
 w_on;refine cK (cU.of A') ?_;refine sI (xs:=vt) (DuK dd dT d U u (iH g ps) H3) {_,_,[],rfl,Kp.refl _ _,{[],K',.nil},by funext p;exact Cm,j8 _,(fun _ h=>nomatch h),nodup_nil,fun _ h=>nomatch h} ?_ ?_ ?_
 ·rintro i σ H4 _ ⟨o2,o3,D,rfl,kp,_⟩;exact cU.of (kp _ _ (c' A' (by intro kv z;cases z)) A')
 ·intro P' ac ι w';rintro i x σ H1 M ⟨o2,o3,D,rfl,kp,⟨kv,B,kq⟩,TT,E',f',h',g'⟩;obtain ⟨r,C,p,rfl,hp⟩:=Paired.at ζ M;have hi:=(h8.mp M).1;obtain ⟨r1,r2,r3,r4⟩:=O.pok r (Bk (o0 C));have z':=kp _ _ (c' hp (by intro kv z;cases z)) hp;w_on;apply {d,rfl,.inl {kv,.inl B},?_};refine {_,.inl {kv,i5 r.1,.inl B,rfl,rfl},?_};rw[oY kq];w_on;rw[Gi];have υ:=kq.len;apply lF (c:=i5 r.1) B (by lia) ?_;refine w' _ _ _ {_,_,XF D r,rfl,kp.trans Kp.upd,{_,aC,(kq.put rfl).imp fun v b f=>f},?_,A5 (yS _ _ _) (by lia),OR (P:=fun z=>0<=z/\z<=10^105) f' {r3,r4},Kh h',Co (P:=fun k=>∃i:Nat,k=i5 (i:Int)/\i<U.length) g' {r.1.toNat,by congr 1;lia,by lia}};rw[Ji C];exact Kg O.nd O.u0 r1 r2 TT
 rintro σ H4 ⟨o2,o3,D0,rfl,Θ,ν,t',E',f',h',g'⟩;rw[ω,K4]at t';have ξ:zO U u g (oM U u (iH g ps)) (dC (jE u R)) D0:=zO.start h' g' f' t';clear t' E' f' h' g';have β:=Θ;have δ:dd≠d:=aD (s1 _ _ hQ.d) hd;obtain ⟨kT,τ,Λ⟩:=id ae;have ρ:∀{G:Hp},Kp d H3 G->aJ H G:=fun {G} k b o h=>k _ _ (aD h N') (ad _ _ h);have e2:∀{G G':Hp},Kp d H3 G->aJ G G'->Kp d H3 G':=fun {G G'} k s b o n h=>s _ _ (k b o n h);w_on;refine Nx (fun m=>Uu dd dT d H3 fun c D=>zO U u g (oM U u (iH g ps)) (dC (jE u R)) D/\(c=false->∀k,Mn (dC (jE u R)) u g k D)/\m=2*mu U.length D+(if c=true then 1 else 0)) {true,D0,_,_,_,_,_,_,_,_,_,_,rfl,β,ν,ξ,(fun z=>nomatch z),rfl} ?_;rintro m σ G ⟨c,D1,o3,o4,o6,o7,o8,o9,o',S,X,Y,rfl,kG,dG,u',κ,rfl⟩;cases c with
|false=>
  w_on;exact q d G D1 N' (ρ kG) dG u' (u'.falls O.nd O.u0 O.rok (κ rfl))
|true=>
  w_on;refine {Uu dd dT d H3 fun c D=>Ly U u g (oM U u (iH g ps)) (dC (jE u R)) D1 D c (∀k,Mn (dC (jE u R)) u g k D1),?_,?_}
  ·rintro aw G' ⟨c,D,o3,o4,o6,o7,o8,o9,o',S,X,Y,rfl,k',d',I⟩;refine {_,?_,c,D,_,_,_,_,_,_,_,_,_,_,rfl,k',d',I.d,fun z=>?_,rfl}
   ·cases c with
   |true=>
     have:=I.ch rfl;simp only[if_true];lia
   |false=>have:=I.le;simp only[if_true,K5,if_false];lia
   ·obtain ⟨e,cl⟩:=I.st z;rw[e];exact cl
  have aj:=l';obtain ⟨vr,m',ε⟩:=id l'.rq;have Y':vr.length=g.length:=Paired.length ε;have M':=kG _ _ δ l'.d;have X':G lr=some (.lst vr):=kG _ _ (c' m' (by intro kv z;cases z)) m';w_on;apply bS (.inl M') cB ?_;refine {g.length,by rw[Y'],by lia,fun l1 R'=>?_};obtain ⟨G1,zE,t1,v'⟩:=Mf R' (.lst (xE g.length));rw[zE];w_on;apply Od ?_;refine {l1,_,rfl,v',fun l2 S'=>?_};obtain ⟨G2,zE,t2,F'⟩:=Mf S' (.lst (xE g.length).reverse);rw[zE];w_on;refine yU (t2 _ _ v') F' (by simp[xE];lia) fun l3 y'=>?_;obtain ⟨L,hL⟩:∃L:List Nat,E7 g.length++(E7 g.length).reverse=L:={_,rfl}
  have eL:xE g.length++(xE g.length).reverse=L.map fun(k:Nat)=>V.int (k:Int):=by rw[←hL,z9,List.map_reverse];rfl
  have Lk:∀k∈L,k<g.length:=fun k hk=>by
   rw[←hL]at hk;rcases w8.mp hk with h|h
   ·exact nr.mp h
   ·exact nr.mp (List.mem_reverse.mp h)
  have θ:∀k,k<g.length->k∈L:=fun k hk=>by rw[←hL];exact D2 _ (nr.mpr hk)
  clear hL;rw[eL];obtain ⟨G3,zE,t3,H'⟩:=Mf y' (.lst (L.map fun(k:Nat)=>V.int (k:Int)));rw[zE];have e':=(t1.trans t2).trans t3;have α:=e2 kG e';have μ:=dG.sm IQ.tk e';have Φ:l3≠d:=by obtain ⟨_,z,_⟩:=id dG;exact q7 (aD ((t1.trans t2) _ _ z) y')
  clear t1 t2 t3 e' v' F' R' S' y' eL M' X';w_on;refine cK (cU.of H') ?_;refine sI (xs:=L.map fun(k:Nat)=>V.int (k:Int)) (fun i=>Uu dd dT d G3 fun c D=>Ly U u g (oM U u (iH g ps)) (dC (jE u R)) D1 D c (∀k∈L.take i,Mn (dC (jE u R)) u g k D1)) {false,D1,_,_,_,_,_,_,_,_,_,_,rfl,Kp.refl _ _,μ,{u',j8 _,(fun z=>nomatch z),fun _=>{rfl,fun k hk=>(by simp at hk)}}} ?_ ?_ ?_
  ·rintro i σ F _ ⟨c,D,o3,o4,o6,o7,o8,o9,o',S,X,Y,rfl,N,_⟩;exact cU.of (N _ _ Φ H')
  ·intro P' ac ι w';rintro i x σ F M ⟨c,D,o3,o4,o6,o7,o8,o9,o',S,X,Y,rfl,N,dF,I⟩;rw[m5]at M;cases hk:L[i]? with
  |none=>rw[hk]at M;cases M
  |some k=>
    rw[hk]at M;cases M;have φ:=Lk k (o0 hk);obtain ⟨r,C⟩:∃r,g[k]?=some r:={_,i3 φ}
    have Ω:=O.rok r (o0 C);obtain ⟨vx,Γ,p,rfl,hp⟩:=DB ε C;have n':Kp d H3 F:=α.trans N;have L':=n' _ _ δ l'.d;have s':F lr=some (.lst vr):=n' _ _ (c' m' (by intro kv z;cases z)) m';have ψ:=n' _ _ (c' hp (by intro kv z;cases z)) hp;w_on;apply bS (.inl L') cB ?_;apply eV s' (fZ Γ) ?_;apply bD fun p1 z'=>?_;apply bD fun p2 U'=>?_;refine cE fun l4 T'=>?_;have y1:=aJ.new (o:=.tup [.int r.1,.int r.2.1]) z';have y2:=aJ.new (o:=.tup [.int r.2.1,.int r.1]) U';have y3:=aJ.new (o:=.lst [.ref p1,.ref p2]) T';have z1:=y3 _ _ (y2 _ _ (aC (H:=F) (a:=p1) (o:=.tup [.int r.1,.int r.2.1])));have z2:=y3 _ _ (aC (H:=L2.upd F p1 (.tup [.int r.1,.int r.2.1])) (a:=p2) (o:=.tup [.int r.2.1,.int r.1]));have z3:=aC (H:=L2.upd (L2.upd F p1 (.tup [.int r.1,.int r.2.1])) p2 (.tup [.int r.2.1,.int r.1])) (a:=l4) (o:=.lst [.ref p1,.ref p2]);have a':=(y1.trans y2).trans y3;generalize L2.upd (L2.upd (L2.upd F p1 (.tup [.int r.1,.int r.2.1])) p2 (.tup [.int r.2.1,.int r.1])) l4 (.lst [.ref p1,.ref p2])=F3 at z1 z2 z3 a' ⊢;clear y1 y2 y3 z' U' T';have C':=dF.sm IQ.tk a';have Z':=e2 n' a';have Δ:Kp d G3 F3:=fun b o n h=>a' _ _ (N b o n h);have nf:∀{p:c8}{o:HO},F3 p=some o->(∀kv,o≠.dK kv)->p≠d:=fun {p o} h n e=>by obtain ⟨kv,z,_⟩:=id C';rw[e,z]at h;cases h;exact n _ rfl
    obtain ⟨J,x'⟩:∃J:Nat->Int×Int,J=fun j=>if j=0 then (r.1,r.2.1) else (r.2.1,r.1):={_,rfl}
    have d0:J 0=(r.1,r.2.1):=by rw[x'];rfl
    have d1:J 1=(r.2.1,r.1):=by rw[x'];rfl
    have O':∀(j:Nat)(x:V),([V.ref p1,.ref p2]:List V)[j]?=some x->∃t,x=.ref t/\F3 t=some (.tup [.int (J j).1,.int (J j).2])/\((r.1=(J j).1/\r.2.1=(J j).2)∨(r.2.1=(J j).1/\r.1=(J j).2)):=by
     intro j x M
     match j,M with
    |0,M=>cases M;exact {p1,rfl,by rw[d0];exact z1,.inl (by rw[d0];exact {rfl,rfl})}
    |1,M=>cases M;exact {p2,rfl,by rw[d1];exact z2,.inr (by rw[d1];exact {rfl,rfl})}
    |j+2,M=>simp at M
    clear x' z1 z2 dF N ψ L' s';w_on;refine cK (cU.of z3) ?_;refine sI (xs:=[V.ref p1,.ref p2]) (fun j=>DuM dd dT d k r F3 fun c D=>Ly U u g (oM U u (iH g ps)) (dC (jE u R)) D1 D c ((∀k∈L.take i,Mn (dC (jE u R)) u g k D1)/\∀j'<j,Ea (dC (jE u R)) u k r.2.2 (J j').1 (J j').2 D1)) {c,D,_,_,_,_,_,_,rfl,Kp.refl _ _,C',I.imp fun _ z=>{z,fun j' h=>absurd h (X8 _)}} ?_ ?_ ?_
    ·rintro j σ F _ ⟨c,D,o3,o4,o6,S,X,Y,rfl,N,_⟩;exact cU.of (N _ _ (nf z3 (by intro kv z;cases z)) z3)
    ·intro P2 av ah i';rintro j x σ F M ⟨c,D,o3,o4,o6,S,X,Y,rfl,N,⟨kv,B,kq⟩,I⟩;obtain ⟨t,rfl,ht,hj⟩:=O' j x M;have W':=N _ _ (nf ht (by intro kv z;cases z)) ht;have q':F dT=some (.dK kT):=N _ _ p' (Z' _ _ p' τ);have nx:∀{Z:Prop},Ea (dC (jE u R)) u k r.2.2 (J j).1 (J j).2 D->(c=false->D=D1)->Ly U u g (oM U u (iH g ps)) (dC (jE u R)) D1 D c ((∀k∈L.take i,Mn (dC (jE u R)) u g k D1)/\∀j'<j+1,Ea (dC (jE u R)) u k r.2.2 (J j').1 (J j').2 D1):=fun {Z} h _=>I.imp fun e z=>{z.1,fun j' ap=>by
      rcases mm j' j with h1|h1
      ·exact z.2 j' h1
      ·have:j'=j:=by lia
       subst this;rw[←e];exact h}
     generalize (J j).1=a at hj W' nx;generalize (J j).2=b at hj W' nx;have D':=I.d;w_on;refine Ft (.inl B) ?_;rcases kq.val (k:=i5 a) with ⟨e1,b'⟩|⟨va,v,e1,b',f1⟩
     ·rw[e1];w_on;exact i' _ _ _ {c,D,_,_,_,_,_,_,rfl,N,{kv,B,kq},nx (Z:=True) (Ll b') fun z=>(I.st z).1}
     ·rw[e1];cases (show va=.int v from f1);w_on;apply xH (.inl B) e1 ?_;apply {dT,rfl,.inl {kT,.inl q'},?_};refine {_,.inl {kT,i5 (k:Int),.inl q',rfl,rfl},?_};rw[oY Λ];w_on;have af:=O.n98;have υ:=kq.len;have ao:=D'.len;refine mX (fun c1=>?_) (fun c1=>?_)
      ·w_on;apply {d,rfl,.inl {kv,.inl B},?_};refine {_,.inl {kv,i5 b,.inl B,rfl,rfl},?_};rw[oY kq];w_on;refine mX (fun c2=>?_) (fun c2=>?_)
       ·w_on;apply lF (c:=i5 b) B (by lia) ?_;obtain ⟨ο,γ⟩:=D'.go O.nd O.u0 (by lia) C Ω hj b' ((OM O.u0 TT k _).mpr c1) fun w hw=>by rw[hw]at c2;exact c2
        exact i' _ _ _ {true,eS D (i5 b) (v+r.2.2),_,_,_,_,_,_,rfl,N.trans Kp.upd,{_,aC,(kq.put rfl).imp fun v b f=>f},ο,V6 (i7 γ I.le),fun _=>i7 γ I.le,fun z=>nomatch z}
       ·w_on;exact i' _ _ _ {c,D,_,_,_,_,_,_,rfl,N,{kv,B,kq},nx (Z:=True) (Qw b' c2) fun z=>(I.st z).1}
      ·w_on;exact i' _ _ _ {c,D,_,_,_,_,_,_,rfl,N,{kv,B,kq},nx (Z:=True) (Lm b' fun z=>c1 ((OM O.u0 TT k _).mp z)) fun z=>(I.st z).1}
    ·rintro σ F ⟨c,D,o3,o4,o6,S,X,Y,rfl,N,dF,I⟩;refine w' _ _ _ {c,D,_,_,_,_,_,_,_,_,_,_,rfl,Δ.trans N,dF,I.imp fun _ z k' Q'=>?_};rw[jZ hk]at Q';rcases w8.mp Q' with h|h
     ·exact z.1 k' h
     ·rw[i4.mp h];intro r' V';rw[C]at V';cases V';have c0:=z.2 0 (show 0<2 by decide);have c1:=z.2 1 (show 1<2 by decide);rw[d0]at c0;rw[d1]at c1;exact {c0,c1}
  ·rintro σ F ⟨c,D,o3,o4,o6,o7,o8,o9,o',S,X,Y,rfl,N,dF,I⟩;rw[i8,K4]at I;exact {c,D,_,_,_,_,_,_,_,_,_,_,rfl,α.trans N,dF,I.imp fun _ z k=>if h:k<g.length then z k (θ k h) else fun r C=>absurd (h8.mp C).1 h}
include o2d o1t in
theorem Cc:bZ P w K mg base (k+1) "_law_left" ["_law_here_here","_law_due_here","_law_k","_law_moment"] FY:=by
 refine bZ.of vE.d37 lZ (by walk_at"ln") fun f l' A i' s H vs Q E I h=>?_;obtain ⟨dd,U,u,rs,ps,ts,ln,lr,lp,lt,d,D,kk,r,m,rfl,C,hQ,b',du,R,m0,m1,q⟩:=h;refine {_,(aF (JT (aN aS (aQ I.u1 (pv 0) aL) (pv 2)) (jO (n:=3) rfl (bA (qQ 4 lZ.nd) (bA (qQ 5 lZ.nd) (bA (qQ 6 lZ.nd) eI)))))
   (aF (dL 7 lZ.nd (aI o1t I rfl (aA (pv 0) aB)))
   (aF (cA (aW HK (pv 3) (gP I.u1 (pv 7) (pv 2) (aK bH (pv 3) aE) {rfl,rfl,rfl,rfl})) (aH (aU dH)) bI)
   (aF (dL 8 lZ.nd (aP (IT rfl) rfl T.z_max yQ (aA aE (aA (aK jA (pv 3) (gP I.u1 (pv 1) (pv 4) (pv 3) {rfl,rfl,rfl,rfl})) aB))))
   (aF (dL 9 lZ.nd (aP (IT rfl) rfl T.z_max yQ (aA aE (aA (aK jA (pv 3) (gP I.u1 (pv 1) (pv 5) (pv 3) {rfl,rfl,rfl,rfl})) aB))))
   (aF (cA (aW HK (aK bH (pv 8) (pv 9)) (pv 6)) (aH (aU dH)) bI)
   (aH (aU (bB (aA (aI o2d I rfl (aA (pv 8) (aA (pv 6) aB))) (aA (aI o2d I rfl (aA (aK jA (pv 6) (pv 9)) (aA (pv 6) aB))) aB))))))))))),?_}
 try dsimp only[aV,bC]
 obtain ⟨vr,f',j'⟩:=id hQ.rq;obtain ⟨vx,g',p,rfl,hp⟩:=DB j' R;obtain ⟨r0,r1,r2,r3,r4,r5⟩:=C.rok r (o0 R);obtain ⟨kv,c',kq⟩:=id b';have u0:=C.u0;have u1:=C.u1;have o':=du.len;have k':=C.n98;have a':∀i v,bG D (i5 i)=some v->0<=v/\v<=10^108:=fun i v e=>by obtain ⟨a1,a2,_⟩:=du.val e;lia
 w_on;apply bS (.inl hQ.d) cB ?_;apply eV f' (fZ g') ?_;refine {dd,U,u,rs,ps,ts,ln,lr,lp,lt,rfl,C,hQ,fun dT Y TB n' s1 tq TT m'=>?_};obtain ⟨kT,O,h'⟩:=id tq;have g:=s1 _ _ c';rw[oQ C.nd r0 r1,oQ C.nd r2 r3,Hd TT,Nk u0 (by lia)]at q;w_on;apply {dT,rfl,.inl {kT,.inl O},?_};refine {_,.inl {kT,i5 (kk:Int),.inl O,rfl,rfl},?_};rw[oY h'];w_on;refine mX (fun c=>?_) (fun c=>?_)
 ·rw[if_pos c]at q;w_on;exact q _ _ s1 rfl
 ·rw[if_neg c]at q;have S:KQ IQ Y kv D:=kq.imp fun v b f=>f;have g0:∀i,0<=(bG D (i5 i)).getD m:=fun i=>by
   cases e:bG D (i5 i) with
  |none=>exact m0
  |some v=>exact (a' i v e).1
  have b1:=XA (m-(bG D (i5 r.1)).getD m);have b2:=XB (z:=m-(bG D (i5 r.1)).getD m) (b:=10^109) (by have:=g0 r.1;lia) (by decide);have b3:=XA (m-(bG D (i5 r.2.1)).getD m);have b4:=XB (z:=m-(bG D (i5 r.2.1)).getD m) (b:=10^109) (by have:=g0 r.2.1;lia) (by decide);w_on;apply {d,rfl,.inl {kv,.inl g},?_};refine {_,.inl {kv,i5 r.1,.inl g,rfl,rfl},?_};rw[oY S];w_on;apply {d,rfl,.inl {kv,.inl g},?_};refine {_,.inl {kv,i5 r.2.1,.inl g,rfl,rfl},?_};rw[oY S];w_on;rw[show (if m-(bG D (i5 r.1)).getD m>0 then m-(bG D (i5 r.1)).getD m else 0)=EX (m-(bG D (i5 r.1)).getD m) from rfl,show (if m-(bG D (i5 r.2.1)).getD m>0 then m-(bG D (i5 r.2.1)).getD m else 0)=EX (m-(bG D (i5 r.2.1)).getD m) from rfl];generalize EX (m-(bG D (i5 r.1)).getD m)=t at *;generalize EX (m-(bG D (i5 r.2.1)).getD m)=B at *;w_on;refine mX (fun c2=>?_) (fun c2=>?_)
  ·rw[if_pos c2]at q;w_on;exact q _ _ s1 rfl
  ·rw[if_neg c2]at q;w_on;refine {t,r.2.2,rfl,by lia,GJ (by lia),GJ (by lia),fun Z d'=>?_};have M:cI (L2.upd Y Z (.tup [.int (eY (t) (r.2.2)),.int (fB (t) (r.2.2))])) (.ref Z) (ut (r.2.2) (t)):=cI.low (by lia) aC;have X:=aJ.new (H:=Y) (o:=.tup [.int (eY (t) (r.2.2)),.int (fB (t) (r.2.2))]) d';generalize L2.upd Y Z (.tup [.int (eY (t) (r.2.2)),.int (fB (t) (r.2.2))])=H2 at M X ⊢;w_on;refine {(r.2.2-B),r.2.2,rfl,by lia,GJ (by lia),GJ (by lia),fun q2 e'=>?_};have N:cI (L2.upd H2 q2 (.tup [.int (eY ((r.2.2-B)) (r.2.2)),.int (fB ((r.2.2-B)) (r.2.2))])) (.ref q2) (ut (r.2.2) ((r.2.2-B))):=cI.low (by lia) aC;have J:=aJ.new (H:=H2) (o:=.tup [.int (eY ((r.2.2-B)) (r.2.2)),.int (fB ((r.2.2-B)) (r.2.2))]) e';generalize L2.upd H2 q2 (.tup [.int (eY ((r.2.2-B)) (r.2.2)),.int (fB ((r.2.2-B)) (r.2.2))])=H3 at N J ⊢;w_on;apply bD fun p5 G=>?_;exact q _ _ (((s1.trans X).trans J).trans (aJ.new G)) {p5,.ref Z,.ref q2,rfl,aC,(M.tk J.tk).tk (TK.new G),N.tk (TK.new G)}
include o1y in
theorem Ce:bZ P w K mg base (k+1) "_law_hall" ["_law_script"] (GB K):=by
 refine bZ.of vE.d38 NC (by walk_at"ln") fun f i' A f' s H vs Q E hr h=>?_;obtain ⟨a,ns,rfl,hS,c',q⟩:=h;refine {_,(aF (dL 1 NC.nd (aI o1y hr rfl (aA (pv 0) (aA aE (aA aE aB)))))
   (aF (gO hr.u1 (pv 1) aL (bQ aB) rfl)
   (aF (gO hr.u1 (pv 1) aL (bQ aB) rfl)
   (aF (gO hr.u1 (pv 1) aL aE rfl)
   (aH (aU (pv 1))))))),?_}
 try dsimp only[aV,bC]
 w_on;apply {a,ns,rfl,hS,c',fun t J U u rs ps ts ln B d' D Z s1 M hQ G=>?_};apply cE fun g I=>?_;have s2:=aJ.new (o:=.lst []) I;refine lF (c:=c9 "pushes") (s2 _ _ G) (A3 rfl) ?_;rw[show eK (cP ln u B d' D) (c9 "pushes") (.ref g)=cP ln u B g D by with_unfolding_all rfl];have Y:L2.upd (L2.upd J g (.lst [])) t (.dK (cP ln u B g D)) t=_:=aC;have xp:g≠t:=fun z=>by rw[z,G]at I;cases I
 have n2:L2.upd (L2.upd J g (.lst [])) t (.dK (cP ln u B g D)) g=some (.lst []):=aY xp aC;have k2:Kp t J (L2.upd (L2.upd J g (.lst [])) t (.dK (cP ln u B g D))):=s2.kp.trans Kp.upd;generalize L2.upd (L2.upd J g (.lst [])) t (.dK (cP ln u B g D))=X at *;w_on;apply cE fun m C=>?_;have s3:=aJ.new (o:=.lst []) C;refine lF (c:=c9 "takings") (s3 _ _ Y) (A3 rfl) ?_;rw[show eK (cP ln u B g D) (c9 "takings") (.ref m)=cP ln u B g m by with_unfolding_all rfl];have e3:L2.upd (L2.upd X m (.lst [])) t (.dK (cP ln u B g m)) t=_:=aC;have xt:m≠t:=fun z=>by rw[z,Y]at C;cases C
 have n3:L2.upd (L2.upd X m (.lst [])) t (.dK (cP ln u B g m)) m=some (.lst []):=aY xt aC;have k3:Kp t X (L2.upd (L2.upd X m (.lst [])) t (.dK (cP ln u B g m))):=s3.kp.trans Kp.upd;generalize L2.upd (L2.upd X m (.lst [])) t (.dK (cP ln u B g m))=R at *;w_on;refine lF (c:=c9 "now") e3 (A3 rfl) ?_;rw[show eK (cP ln u B g m) (c9 "now") (.int 0)=cP ln u B g m [(c9 "now",.int 0)] by with_unfolding_all rfl];have k4:Kp t J (L2.upd R t (.dK (cP ln u B g m [(c9 "now",.int 0)]))):=(k2.trans k3).trans Kp.upd;have p4:L2.upd R t (.dK (cP ln u B g m [(c9 "now",.int 0)])) g=some (.lst []):=aY xp (k3 _ _ xp n2);have t4:L2.upd R t (.dK (cP ln u B g m [(c9 "now",.int 0)])) m=some (.lst []):=aY xt n3;have e4:L2.upd R t (.dK (cP ln u B g m [(c9 "now",.int 0)])) t=_:=aC;have h':TK J (L2.upd R t (.dK (cP ln u B g m [(c9 "now",.int 0)]))):=fun p S e=>k4 _ _ (gX e G (by intro z;cases z)) e;generalize L2.upd R t (.dK (cP ln u B g m [(c9 "now",.int 0)]))=H4 at *;w_on;have N:∀{l:c8}{S:List V},J l=some (.lst S)->H4 l=some (.lst S):=fun e=>k4 _ _ (gX e G (by intro z;cases z)) e;have e':g≠m:=fun z=>by rw[←z,n2]at C;cases C
 have s4:aJ H H4:=fun b o e=>k4 _ _ (aD e Z) (s1 _ _ e);have a':H g=none:=s1.free I;have b':H m=none:=by
  cases z:H m with
 |none=>rfl
 |some o=>rw[k2 _ _ xt (s1 _ _ z)]at C;cases C
 obtain ⟨vr,O,g'⟩:=hQ.rq;have nx:∀{l:c8}{S:List V},J l=some (.lst S)->l≠g/\l≠m:=fun {l S} e=>by
  refine {aD e I,fun z=>?_};have Y:=k2 l _ (gX e G (by intro z;cases z)) e;rw[z,C]at Y;cases Y
 exact q t H4 U u rs ln B g m Z a' b' e' (nx hQ.nm).1 (nx hQ.nm).2 (nx O).1 (nx O).2 s4 {M.u0,M.u1,M.nd,M.n2,M.n98,M.rok,(fun _ z=>nomatch z),(fun _ z=>nomatch z),M.r1,M.rl,C9 _,C9 _,M.ns} {e4,{{_,e4},N hQ.nm,{vr,N O,Pd.imp g' fun v b f=>jU.tk f h'},{[],p4,.nil},{[],t4,.nil}}}
include o2d in
theorem QN:bZ P w K mg base (k+1) "_law_fallen" ["_law_here_here","_law_due_here"] wU:=by
 refine bZ.of vE.d39 tP (by walk_at"ln") fun f w' A t' s H vs Q E J h=>?_;obtain ⟨dd,d,U,u,rs,ps,ts,ln,lr,lp,lt,g,D,rfl,hN,m',v',nu,u0,u1,b',c',l',hU,q⟩:=h;refine {_,(aF (dL 2 tP.nd iW)
   (aF (OB A6 rfl (pv 1) (qQ 3 tP.nd) (aH (cA (aW ON (aQ J.u1 (pv 1) (pv 3)) (aQ J.u1 (pv 0) aL)) (aH (gO J.u1 (pv 2) (aN aS (aQ J.u1 (pv 0) aL) (pv 3)) (aI o2d J rfl (aA (aQ J.u1 (pv 1) (pv 3)) (aA (aQ J.u1 (pv 0) aL) aB))) rfl)) bI)))
   (aH (aU (pv 2))))),?_}
 try dsimp only[aV,bC]
 obtain ⟨B,m,qd⟩:=id m';have o':B.length=D.length:=qd.len;have r':(B.map (·.1)).Nodup:=by rw[qd.keys];exact c'
 w_on;refine oJ fun p hp=>?_;have s0:=aJ.new (o:=.dK []) hp;have p0:L2.upd H p (.dK []) p=_:=aC;have C:p≠d:=fun z=>by rw[z,m]at hp;cases hp
 have g':p≠dd:=fun z=>by rw[z,hN.d]at hp;cases hp
 w_on;apply VG d (nU.dK (s0 _ _ m)) ?_;refine {rfl,B,s0 _ _ m,fun o=>?_};have pF:L2.upd (L2.upd H p (.dK [])) d (.frz o (.dK B)) p=some (.dK []):=aY C p0;have dF:L2.upd (L2.upd H p (.dK [])) d (.frz o (.dK B)) d=_:=aC;have i':L2.upd (L2.upd H p (.dK [])) d (.frz o (.dK B)) dd=_:=aY v' (s0 _ _ hN.d);have M:L2.upd (L2.upd H p (.dK [])) d (.frz o (.dK B)) ln=_:=aY (fun z=>by have e:=hN.q.nm;rw[z,m]at e;cases e) (s0 _ _ hN.q.nm);have bk:∀G,Kp p (L2.upd (L2.upd H p (.dK [])) d (.frz o (.dK B))) G->aJ H (melt d G):=fun G k=>DK m (o:=o) fun c oc N=>by
  have cp:c≠p:=fun z=>by rw[z,aX C,hp]at N;cases N
  refine k c oc cp ?_;by_cases cd:c=d
  ·rw[cd,aC]at N ⊢;exact N
  ·rw[aX cd]at N ⊢;rw[aX cp];exact N
 generalize L2.upd (L2.upd H p (.dK [])) d (.frz o (.dK B))=F at *;refine NU (fun i σ G=>∃o3 t,σ=[some (.ref dd),some (.ref d),some (.ref p),o3]/\Kp p F G/\G p=some (.dK t)/\KQ cI G t (fA U u g (D.take i))) {_,[],rfl,Kp.refl _ _,pF,.nil} ?_ ?_ ?_
 ·rintro i σ G _ ⟨o3,t,rfl,kp,_⟩;exact kp _ _ (q7 C) dF
 ·rintro i k v σ G hx ⟨o3,t,rfl,kp,gp,O⟩;obtain ⟨⟨k',z⟩,hy,ek,ev⟩:=Paired.at qd hx;cases (show k=k' from ek);cases (show v=.int z from ev);obtain ⟨j,ej,hj⟩:=b' _ (o0 hy);cases (show k=i5 (j:Int) from ej);obtain ⟨z0,z1⟩:=l' _ (o0 hy);have z0:0<=z:=z0;have z1:z<=10^108:=z1;have vz:bP B (i5 (j:Int))=some (.int z):=CB r' hx;have dG:=kp _ _ (q7 C) dF;have I:=kp _ _ (q7 g') i';have a':i<D.length:=(h8.mp hy).1;have et:D.take (i+1)=D.take i++[(i5 (j:Int),z)]:=by
   rw[B5 a'];rw[i3 a']at hy;rw[j5 hy]
  w_on;apply xH (.inr {o,dG}) vz ?_;apply bS (.inl I) fF ?_;refine mX (fun c=>?_) (fun c=>?_)
  ·w_on;apply xH (.inr {o,dG}) vz ?_;apply bS (.inl I) uF ?_;refine {z,u,rfl,u0,GJ (by lia),GJ (by lia),fun q1 p'=>?_};have f1:cI (L2.upd G q1 (.tup [.int (eY z u),.int (fB z u)])) (.ref q1) (ut u z):=cI.low (by lia) aC;have R:=aJ.new (H:=G) (o:=.tup [.int (eY z u),.int (fB z u)]) p';generalize L2.upd G q1 (.tup [.int (eY z u),.int (fB z u)])=G1 at f1 R ⊢;have h':=R _ _ I;have Z:=R _ _ gp;have s':=R _ _ (kp _ _ (fun z=>by rw[z]at M;rw[M]at pF;cases pF) M);w_on;apply bS (.inl h') fG ?_;obtain ⟨y',X⟩:=mQ (U:=U) (i:=(j:Int)) (by lia) (by lia);have eU:U[j]?=some (fE U (j:Int)):=by rw[X,i3 hj];rfl
   refine eV s' (fZ (j:=j) (by rw[m5,eU];rfl)) ?_;w_on;have n':t.length<=1000:=by
    have e1:=O.len;have e2:(fA U u g (D.take i)).length<=(D.take i).length:=by unfold fA;rw[i8];exact jm ..
    rw[dy]at e2;lia
   apply lF (c:=c9 (fE U (j:Int))) Z n' ?_;have f':((D.take (i+1)).map (·.1)).Nodup:=c'.sublist ((yi _ _).map _);have no:bG (fA U u g (D.take i)) (c9 (fE U (j:Int)))=none:=by
    cases e:bG (fA U u g (D.take i)) (c9 (fE U (j:Int))) with
   |none=>rfl
   |some w=>
     exfalso;obtain ⟨x,q',d'⟩:=u8.mp (cQ e);have e':=(V5.mp q').1;obtain ⟨j',S,x'⟩:=b' x (fz e');rw[S]at d';have e3:fE U (j':Int)=fE U (j:Int):=by have:=congrArg Prod.fst d';exact fj this
     obtain ⟨_,Y⟩:=mQ (U:=U) (i:=(j':Int)) (by lia) (by lia);rw[X,Y]at e3;have e4:j'=j:=by
      have np:=gj.mp nu;rcases Nat.lt_trichotomy j' j with w1|w1|w1
      ·exact absurd e3 (np _ _ _ _ (by lia))
      ·exact w1
      ·exact absurd e3.symm (np _ _ _ _ (by lia))
     rw[et,z9,W3]at f';exact f'.2.2 x.1 (u8.mpr {x,e',rfl}) (i5 (j:Int)) (by simp) (by rw[S,e4])
   refine {_,eK t (c9 (fE U (j:Int))) (.ref q1),rfl,(kp.trans R.kp).trans Kp.upd,aC,?_};have ef:fA U u g (D.take (i+1))=eS (fA U u g (D.take i)) (c9 (fE U (j:Int))) (ut u z):=by rw[YZ no,et];unfold fA;rw[ph,vg (by simpa using c),wn,z9];rfl
   rw[ef];have tk:TK G1 (L2.upd G1 p (.dK (eK t (c9 (fE U (j:Int))) (.ref q1)))):=TK.dic Z;exact (KQ.put (k:=c9 (fE U (j:Int))) (O.imp fun v b f=>cI.tk f R.tk) f1).imp fun v b f=>cI.tk f tk
  ·w_on;refine {_,t,rfl,kp,gp,?_};rw[et];unfold fA;rw[ph,vh (by simpa using c),wn,L0];exact O
 ·rintro σ G ⟨o3,t,rfl,kp,gp,O⟩;refine VH ?_;have sm:=bk G kp;rw[o',K4]at O;have gm:melt d G p=some (.dK t):=gZ (fun _ _ z=>nomatch z) gp;have u':TK G (melt d G):=TK.melt;w_on;exact q p _ hp sm {t,gm,O.imp fun v b f=>cI.tk f u'}
include o2c in
theorem Cf:bZ P w K mg base (k+1) "_law_deed" ["_law_here_here","_law_due_here","_law_number_here"] UF:=by
 refine bZ.of vE.d40 kB (by walk_at"ln") fun f δ A Z' s H vs Q E I h=>?_;obtain ⟨dd,d,S',U,u,rs,ps,ts,ln,lr,lp,lt,c',D,rfl,hN,hI,J',β,du,n0,n1,q⟩:=h;refine {_,(aF (pM (i:=3) kB.nd rfl (by w_left) (cM (aG oI) ["_law_here_here","_law_due_here","_law_number_here","_law_standing_posts","_law_used","_law_whole_runs","_law_kind","_law_later"] ["_law_a"] ["_law_here_here","_law_due_here"] [0,1]) rfl (iI rfl T.z_range (aA (aP fH rfl T.z_len eB (aA (aQ I.u1 (pv 0) aL) aB)) aB)) (fun _ _ _ _=>(Zn ["_law_a","_law_here_here","_law_due_here"] 0)) (fun _ _ _ _=>(pv 0)) (fun _ _ _ _=>(iQ (aW WK (gP I.u1 (pv 2) (pv 0) (aK WL (aQ I.u1 (pv 1) aL) aE) {rfl,rfl,rfl,rfl}) (aQ I.u1 (pv 1) aL)))))
   (aF (dL 4 kB.nd (aK bH (eJ (cM (aG oI) ["_law_here_here","_law_due_here","_law_number_here","_law_standing_posts","_law_used","_law_whole_runs","_law_kind","_law_later"] ["_law_a","_law_b","_law_time_here"] [] []) rfl (cL (aQ I.u1 (pv 0) aL)) (fun _ _ _ _=>(mK (n:=3) rfl (bA (Zn ["_law_a","_law_b","_law_time_here"] 0) (bA (Zn ["_law_a","_law_b","_law_time_here"] 1) (bA (Zn ["_law_a","_law_b","_law_time_here"] 2) eI))))) (fun _ _ _ _=>(pv 0)) (fun _ _ _ _=>eG)) (eJ (cM (aG oI) ["_law_here_here","_law_due_here","_law_number_here","_law_standing_posts","_law_used","_law_whole_runs","_law_kind","_law_later"] ["_law_a","_law_b","_law_time_here"] [] []) rfl (cL (aQ I.u1 (pv 0) aL)) (fun _ _ _ _=>(mK (n:=3) rfl (bA (Zn ["_law_a","_law_b","_law_time_here"] 0) (bA (Zn ["_law_a","_law_b","_law_time_here"] 1) (bA (Zn ["_law_a","_law_b","_law_time_here"] 2) eI))))) (fun _ _ _ _=>(pv 1)) (fun _ _ _ _=>eG))))
   (aF (pM (i:=3) kB.nd rfl (by w_left) (cM (aG oI) ["_law_here_here","_law_due_here","_law_number_here","_law_standing_posts","_law_used","_law_whole_runs","_law_kind","_law_later"] ["_law_a"] ["_law_used"] [4]) rfl (cL (pv 3)) (fun _ _ _ _=>(Zn ["_law_a","_law_used"] 0)) (fun _ _ _ _=>(pv 0)) (fun _ _ _ _=>(iQ (aW xM (pv 0) (pv 1) (by with_unfolding_all rfl)))))
   (aF (pM (i:=5) kB.nd rfl (by w_left) (cM (aG oI) ["_law_here_here","_law_due_here","_law_number_here","_law_standing_posts","_law_used","_law_whole_runs","_law_kind","_law_later"] ["_law_k"] ["_law_here_here","_law_due_here"] [0,1]) rfl (iI rfl T.z_range (aA (aP fH rfl T.z_len eB (aA (aQ I.u1 (pv 0) aL) aB)) aB)) (fun _ _ _ _=>(Zn ["_law_k","_law_here_here","_law_due_here"] 0)) (fun _ _ _ _=>(pv 0)) (fun _ _ _ _=>(iQ (aW lK (aI o2c I rfl (aA (pv 1) (aA (pv 2) (aA (pv 0) (aA (aQ I.u1 (pv 1) aL) aB))))) dH))))
   (aF (dL 6 kB.nd (aK bM (pv 2) aE))
   (aF (dL 2 kB.nd (aK bE (pv 2) aE))
   (aF (cA (PW.pt (jN (aW sR (pv 6) aE) (gM (aW (oO I.units) (pv 3) (bQ aB))))) (aH (aU (bB (aA aL (aA (aN aS (pv 3) (aK bM (pv 2) (aP fH rfl T.z_len eB (aA (pv 3) aB)))) aB))))) bI)
   (aF (cA (PW.pt (jN (aW (dS I.units) (pv 6) aE) (gM (aW (oO I.units) (pv 5) (bQ aB))))) (aH (aU (bB (aA aL (aA (aN aS (pv 5) (aK bM (pv 2) (aP fH rfl T.z_len eB (aA (pv 5) aB)))) aB))))) bI)
   (aF (dL 7 kB.nd (aP LD rfl T.z_sorted lQ (aA (HJ (cM (aG oI) ["_law_here_here","_law_due_here","_law_number_here","_law_standing_posts","_law_used","_law_whole_runs","_law_kind","_law_later"] ["_law_post"] ["_law_here_here","_law_due_here"] [0,1]) rfl (pv 1) (fun _ _ _ _=>(Zn ["_law_post","_law_here_here","_law_due_here"] 0)) (fun _ _ _ _=>(aQ I.u1 (pv 2) (pv 0))) (fun _ _ _ _=>(iQ (aW WK (aQ I.u1 (pv 2) (pv 0)) (aQ I.u1 (pv 1) aL))))) aB)))
   (aF (cA (PW.pt (jN (aW (dS I.units) (pv 6) aE) (gM (aW (oO I.units) (pv 7) (bQ aB))))) (aH (aU (bB (aA aL (aA (aK jA (aN aS (pv 7) (aK bM (pv 2) (aP fH rfl T.z_len eB (aA (pv 7) aB)))) (aQ I.u1 (pv 0) aL)) aB))))) bI)
   (aH (aU (bB (aA aL (aA (aK bM (aK bE (pv 2) aE) (aN aS (bQ (aA aE (aA aE (aA aE (aA (aK mO aE aE) aB))))) (aK bM (pv 2) aE))) aB))))))))))))))),?_}
 try dsimp only[aV,bC]
 obtain ⟨kd,z',qd⟩:=id J';have η:kd.length=D.length:=qd.len;w_on;refine bS (.inl hN.d) fG ?_;have θ:=hN.q.nm;have γ:=hI.n98;have Y':(kd.map (·.1)).Nodup:=by rw[qd.keys];exact du.nd
 w_on;rw[i8];refine mG (by lia) (by lia) ?_;refine xI (n:=U.length) (by lia) (fun g i C G=>Kp g H G/\∃Z:List Nat,C=Z.map (fun j:Nat=>V.int (j:Int))/\∀j∈Z,j<U.length/\∀z,bG D (i5 (j:Int))=some z->c'<z) (fun g m=>{Kp.new m,[],rfl,fun _ B=>nomatch B}) ?_ ?_
 ·rintro g i C G m hi Y J ⟨kp,Z,rfl,e'⟩;have dG:=kp _ _ (aD z' m) z';have p':=kp _ _ (aD hN.d m) hN.d;w_on;apply {d,rfl,.inl {kd,.inl dG},?_};apply bS (.inl p') fF ?_;rw[oq];refine {_,.inl {kd,i5 (i:Int),.inl dG,rfl,rfl},?_};rw[oY qd];w_on;apply bS (.inl p') fF ?_;refine mX (fun c=>?_) (fun c=>?_)
  ·w_on;refine kZ hi Y J {kp.trans Kp.upd,Z++[i],by rw[z9];rfl,fun j hj=>?_};rcases w8.mp hj with hj|hj
   ·exact e' j hj
   ·rw[i4.mp hj];refine {hi,fun z e=>?_};rw[e]at c;exact c
  ·w_on;exact jR hi Y J {kp,Z,rfl,e'}
 rintro a0 χ G0 m J Y ⟨kp,Z,rfl,e'⟩;have s0:aJ H G0:=fun b o e=>kp _ _ (aD e m) e;have N0:=hN.sm s0;obtain ⟨vr,l',t'⟩:=id N0.q.rq;have κ:vr.length=rs.length:=Paired.length t';have ι:=hI.rl;w_on;apply bS (.inl N0.d) cB ?_;refine cK (cU.of l') ?_;refine sM (xs:=vr) (by lia) (fun g i O G=>Kp g G0 G/\∃C:List Int,O=C.map V.int/\C.length=i/\∀z∈C,∃r∈rs,r.1=z∨r.2.1=z) (fun g m=>{Kp.new m,[],rfl,rfl,fun _ B=>nomatch B}) ?_ ?_ ?_
 ·rintro g i O G m _ ⟨kp,_⟩;exact cU.of (kp _ _ (aD l' m) l')
 ·rintro g i O G x m hx t J ⟨kp,C,rfl,Y,f'⟩;obtain ⟨r,I,p,rfl,hp⟩:=Paired.at t' hx;have A':G p=some (.tup [.int r.1,.int r.2.1,.int r.2.2]):=kp _ _ (aD hp m) hp;apply {p,_,_,_,rfl,A',?_};refine gD (h8.mp hx).1 t J {kp.trans Kp.upd,C++[r.1],by simp,by rw[q4,Y];rfl,fun z B=>?_};rcases w8.mp B with B|B
  ·exact f' z B
  ·exact {r,o0 I,.inl (i4.mp B).symm}
 rintro a1 ρ G1 h1 E' μ ⟨O',z1,rfl,l1,m1⟩;have s1:aJ G0 G1:=fun b o h=>O' _ _ (aD h h1) h;have N1:=N0.sm s1;have d':=s1 _ _ l';have v':=Pd.imp t' fun v b f=>jU.tk f s1.tk;w_on;apply bS (.inl N1.d) cB ?_;refine cK (cU.of d') ?_;refine sM (xs:=vr) (by lia) (fun g i O G=>Kp g G1 G/\∃C:List Int,O=C.map V.int/\C.length=i/\∀z∈C,∃r∈rs,r.1=z∨r.2.1=z) (fun g m=>{Kp.new m,[],rfl,rfl,fun _ B=>nomatch B}) ?_ ?_ ?_
 ·rintro g i O G m _ ⟨kp,_⟩;exact cU.of (kp _ _ (aD d' m) d')
 ·rintro g i O G x m hx t J ⟨kp,C,rfl,Y,f'⟩;obtain ⟨r,I,p,rfl,hp⟩:=Paired.at v' hx;have A':G p=some (.tup [.int r.1,.int r.2.1,.int r.2.2]):=kp _ _ (aD hp m) hp;apply {p,_,_,_,rfl,A',?_};refine gD (h8.mp hx).1 t J {kp.trans Kp.upd,C++[r.2.1],by simp,by rw[q4,Y];rfl,fun z B=>?_};rcases w8.mp B with B|B
  ·exact f' z B
  ·exact {r,o0 I,.inr (i4.mp B).symm}
 rintro a2 τ G2 h2 F' ν ⟨P',z2,rfl,l2,m2⟩;have s2:aJ G1 G2:=fun b o h=>P' _ _ (aD h h2) h;w_on;refine yU (s2 _ _ E') F' (by rw[i8,i8];lia) fun a3 h3=>?_;rw[←z9];have s3:=((s0.trans s1).trans s2).trans (aJ.new (o:=.lst ((z1++z2).map V.int)) h3);have q':=(aJ.new (o:=.lst ((z1++z2).map V.int)) h3) _ _ (s2 _ _ (s1 _ _ J));have y':=aC (H:=G2) (a:=a3) (o:=.lst ((z1++z2).map V.int));have f':∀z∈z1++z2,∃r∈rs,r.1=z∨r.2.1=z:=fun z B=>(w8.mp B).elim (m1 z) (m2 z);generalize L2.upd G2 a3 (.lst ((z1++z2).map V.int))=G3 at *;have ο:(z1++z2).length<=250:=by rw[q4];lia
 generalize z1++z2=C at *;w_on;refine cK (cU.of q') ?_;have ζ:Z.length<=98:=by rw[i8]at Y;lia
 refine sL (xs:=Z.map (fun j:Nat=>V.int (j:Int))) (by rw[i8];lia) (fun g i O G=>Kp g G3 G/\∃js:List Nat,O=js.map (fun j:Nat=>V.int (j:Int))/\∀j∈js,j∈Z/\(j:Int)∈C) (fun g m=>{Kp.new m,[],rfl,fun _ B=>nomatch B}) ?_ ?_ ?_
 ·rintro g i O G m _ ⟨kp,_⟩;exact cU.of (kp _ _ (aD q' m) q')
 ·rintro g i O G x m hx t J ⟨kp,js,rfl,a'⟩;rw[m5]at hx;obtain ⟨j,hj,rfl⟩:=A8.mp hx;have hi:i<(Z.map (fun j:Nat=>V.int (j:Int))).length:=by rw[i8];exact (h8.mp hj).1
  have X':=kp _ _ (aD y' m) y';w_on;apply Fs X' ?_;refine mX (fun c=>?_) (fun c=>?_)
  ·w_on;refine kZ hi t J {kp.trans Kp.upd,js++[j],by rw[z9];rfl,fun j' h'=>?_};rcases w8.mp h' with h'|h'
   ·exact a' j' h'
   ·rw[i4.mp h'];exact {o0 hj,c}
  ·w_on;exact jR hi t J {kp,js,rfl,a'}
 rintro a4 υ G4 h4 H' W' ⟨Q',js,rfl,a'⟩;rw[i8,i8]at W';have s4:aJ H G4:=s3.trans fun b o h=>Q' _ _ (aD h h4) h;have N4:=hN.sm s4;obtain ⟨α,M',w'⟩:=id N4.q.rq;have L':α.length=rs.length:=Paired.length w';w_on;apply bS (.inl N4.d) cB ?_;rw[L'];refine mG (by lia) (by lia) ?_;refine xI (n:=rs.length) (by lia) (fun g i O G=>Kp g G4 G/\∃ks:List Nat,O=ks.map (fun j:Nat=>V.int (j:Int))/\∀k∈ks,∃r,rs[k]?=some r/\CF (mT U u D (c9 (fE U r.1))) (mT U u D (c9 (fE U r.2.1))) (dC (jE u ts) k) (ut u r.2.2) (ut u c')≠none) (fun g m=>{Kp.new m,[],rfl,fun _ B=>nomatch B}) ?_ ?_
 ·rintro g i O G m hi t J ⟨kp,ks,rfl,r'⟩;have sG:aJ G4 G:=fun b o e=>kp _ _ (aD e m) e;have s5:=s4.trans sG;have N5:=hN.sm s5;w_on;apply bS (.inl N5.d) fF ?_;rw[oq];apply {dd,U,u,rs,ps,ts,ln,lr,lp,lt,d,D,i,rs[i],c',rfl,hI,N5.q,J'.sm IQ.tk s5,du,i3 hi,n0,by lia,fun v G' sg lv=>?_};cases e:CF (mT U u D (c9 (fE U rs[i].1))) (mT U u D (c9 (fE U rs[i].2.1))) (dC (jE u ts) i) (ut u rs[i].2.2) (ut u c') with
 |none=>
   rw[e]at lv;cases (show v=.non from lv);w_on;exact jR hi t (sg _ _ J) {kp.trans sg.kp,ks,rfl,r'}
 |some x=>
   rw[e]at lv;obtain ⟨p,w1,w2,rfl,_⟩:=lv;w_on;refine kZ hi t (sg _ _ J) {(kp.trans sg.kp).trans Kp.upd,ks++[i],by rw[z9];rfl,fun k hk=>?_};rcases w8.mp hk with hk|hk
   ·exact r' k hk
   ·rw[i4.mp hk];exact {rs[i],i3 hi,by rw[e];exact fun z=>nomatch z}
 rintro a5 φ G5 h5 T' ξ ⟨R',ks,rfl,r'⟩;have s5:aJ G4 G5:=fun b o h=>R' _ _ (aD h h5) h;have B':=s4.trans s5;have K':∀j∈js,j<U.length/\(∃r∈rs,r.1=(j:Int)∨r.2.1=(j:Int))/\∀z,bG D (i5 (j:Int))=some z->c'<z:=fun j hj=>{(e' j (a' j hj).1).1,f' _ (a' j hj).2,(e' j (a' j hj).1).2}
 have g4:=s5 _ _ H';clear M' w' N4 J E' F' y' N0 N1 d' v' t' l' kp O' P' Q' R' s0 s1 s2 s3 s4 s5 a' f' e' m h1 h2 h3 h4 H' q'
 walk_at"gos"
 refine uY ?_;refine jM ?_
 walk_at"gos"
 refine uY ?_;refine jM ?_
 walk_at"gos"
 generalize S'%8=n';generalize S'.fdiv 8=nm;refine uY ?_;refine jM ?_;refine sK (fun σ F=>∃o,σ=[some (.ref dd),some (.ref d),some (.int nm),some (.ref a4),some (.ref a3),some (.ref a5),some (.int n'),o]/\aJ G5 F) ?_ ?_
 ·rintro σ F ⟨o,rfl,sF⟩;refine uY ?_;refine jM ?_;refine sK (fun σ F=>∃o,σ=[some (.ref dd),some (.ref d),some (.int nm),some (.ref a4),some (.ref a3),some (.ref a5),some (.int n'),o]/\aJ G5 F) ?_ ?_
  ·rintro σ F ⟨o,rfl,sF⟩;have s6:=B'.trans sF;have i':=s6 _ _ z';have N6:=hN.sm s6;w_on;apply NV d (nU.dK i') ?_;refine {rfl,kd,i',fun o'=>?_};have g':L2.upd F d (.frz o' (.dK kd)) d=some (.frz o' (.dK kd)):=aC;have x':L2.upd F d (.frz o' (.dK kd)) dd=_:=aY β N6.d;have u':∀G',aJ (L2.upd F d (.frz o' (.dK kd))) G'->aJ F (melt d G'):=fun G s=>DK i' s;generalize L2.upd F d (.frz o' (.dK kd))=HF at g' x' u' ⊢;have ε:=du.len;refine VN (by lia) (fun g i O G=>Kp g HF G/\∃C:List Int,O=C.map V.int/\∀z∈C,c'<z/\∃y∈D,y.2=z) (fun g h=>{Kp.new h,[],rfl,fun _ B=>nomatch B}) ?_ ?_ ?_
   ·intro g i O G M _ ⟨kp,_⟩;exact kp _ _ (aD g' M) g'
   ·rintro g i O G k0 v0 M hx t J ⟨kp,C,rfl,s'⟩;have hi:=(h8.mp hx).1;obtain ⟨⟨k',z⟩,hy,ek,ev⟩:=Paired.at qd hx;cases (show k0=k' from ek);cases (show v0=.int z from ev);obtain ⟨j,ej,hj⟩:=du.ky _ (o0 hy);cases (show k0=i5 (j:Int) from ej);have vz:bP kd (i5 (j:Int))=some (.int z):=CB Y' hx;have dG:=kp _ _ (aD g' M) g';have p':=kp _ _ (aD x' M) x';w_on;apply xH (.inr {o',dG}) vz ?_;apply bS (.inl p') fF ?_;refine mX (fun c=>?_) (fun c=>?_)
    ·w_on;apply xH (.inr {o',dG}) vz ?_;refine kZ hi t J {kp.trans Kp.upd,C++[z],by rw[z9];rfl,fun y m'=>?_};rcases w8.mp m' with m'|m'
     ·exact s' y m'
     ·rw[i4.mp m'];exact {c,_,o0 hy,rfl}
    ·w_on;exact jR hi t J {kp,C,rfl,s'}
   ·rintro g O G M J t ⟨kp,C,rfl,s'⟩;have sG:aJ F (melt d G):=u' G fun b o e=>kp _ _ (aD e M) e;have I':melt d G g=some (.lst (C.map V.int)):=gZ (fun _ _ z=>nomatch z) J;generalize melt d G=G6 at sG I' ⊢;rw[i8]at t;w_on;refine {g,C,rfl,I',by lia,fun l ws hl U'=>?_};have s7:=(s6.trans sG).trans (aJ.new (o:=.lst (ws.map V.int)) hl);have V':∀z∈ws,c'<z/\∃y∈D,y.2=z:=fun z B=>s' z (U'.mem_iff.mp B);have gl:L2.upd G6 l (.lst (ws.map V.int)) l=_:=aC;generalize L2.upd G6 l (.lst (ws.map V.int))=G7 at s7 gl⊢;have N7:=hN.sm s7
    walk_at"gos"
    refine uY ?_;refine jM ?_;refine sK (fun σ F=>∃o,σ=[some (.ref dd),some (.ref d),some (.int nm),some (.ref a4),some (.ref a3),some (.ref a5),some (.int n'),o]/\aJ G7 F) ?_ ?_
    ·rintro σ F ⟨o,rfl,sF⟩;w_on;apply rY ?_;refine cE fun l9 b'=>?_;have R:=aJ.new (o:=.lst (([4,12,1000,1000000000000000000000000000000]:List Int).map V.int)) b';have g9:=aC (H:=F) (a:=l9) (o:=.lst (([4,12,1000,1000000000000000000000000000000]:List Int).map V.int));w_on;obtain ⟨e,he,ee⟩:=VZ (S:=[4,12,1000,1000000000000000000000000000000]) (i:=nm%4) (n9 _ (by decide)) (m8 _ (by decide));refine eV g9 ee ?_;have e2:4<=e/\e<=1000000000000000000000000000000:=by
      simp only[w6,N9,or_false]at he;lia
     w_on;apply bD fun p hp=>?_;have b0:=n9 (nm.fdiv 4) (show e≠0 by lia);have b1:=m8 (nm.fdiv 4) (show 0<e by lia);have sE:=(s7.trans sF).trans R;exact q p _ _ _ (sE.free hp) (sE.trans (aJ.new hp)) aC (.inr (.inr {rfl,b0,.inr (by lia)}))
    ·intro NX X;w_on;refine mX (fun c=>?_) (fun c=>?_)
     ·w_on;refine cE fun l9 b'=>?_;have R:=aJ.new (o:=.lst []) b';apply WZ (R _ _ gl) aC ?_;by_cases hw:ws=[]
      ·subst hw;w_on;exact X _ _ {_,rfl,R}
      ·have N':0<ws.length:=Q9.mpr hw;have D':=R _ _ gl;have C':=(hN.sm (s7.trans R)).d;rw[V8.mpr hw];generalize L2.upd G7 l9 (.lst [])=G9 at R D' C' ⊢;w_on;rw[i8];refine lE (by lia) ?_;obtain ⟨z,B,ez⟩:=VZ (S:=ws) (i:=nm%(ws.length:Int)) (n9 _ (by lia)) (m8 _ (by lia));refine eV D' ez ?_;obtain ⟨z0,y,hy,ey⟩:=V' z B;w_on;apply bS (.inl C') fF ?_;apply bD fun p hp=>?_;have sE:=s7.trans R;exact q p _ _ _ (sE.free hp) (sE.trans (aJ.new hp)) aC (.inr (.inr {rfl,by lia,.inl {y,hy,by lia}}))
     ·w_on;exact X _ _ {_,rfl,aJ.refl _}
  ·intro NX X;w_on;refine mX (fun c=>?_) (fun c=>?_)
   ·w_on;refine cE fun l9 b'=>?_;have R:=aJ.new (o:=.lst []) b';have g9:=R _ _ (sF _ _ T');apply KD g9 aC ?_;by_cases hw:ks=[]
    ·subst hw;w_on;exact X _ _ {_,rfl,sF.trans R}
    ·have N':0<ks.length:=Q9.mpr hw;rw[V8.mpr hw];generalize L2.upd F l9 (.lst [])=G9 at R g9⊢;w_on;rw[i8];refine lE (by lia) ?_;obtain ⟨k,hk,ek⟩:=JU (z:=nm) hw;apply eV g9 ek ?_;apply bD fun p hp=>?_;have sE:=(B'.trans sF).trans R;obtain ⟨r,I,hs⟩:=r' k hk;exact q p _ _ _ (sE.free hp) (sE.trans (aJ.new hp)) aC (.inr (.inl {rfl,k,r,rfl,I,hs}))
   ·w_on;exact X _ _ {_,rfl,sF}
 ·intro NX X;w_on;refine mX (fun c=>?_) (fun c=>?_)
  ·w_on;refine cE fun l9 b'=>?_;have R:=aJ.new (o:=.lst []) b';have g9:=R _ _ g4;apply KD g9 aC ?_;by_cases hw:js=[]
   ·subst hw;w_on;exact X _ _ {_,rfl,R}
   ·have N':0<js.length:=Q9.mpr hw;rw[V8.mpr hw];generalize L2.upd G5 l9 (.lst [])=G9 at R g9⊢;w_on;rw[i8];refine lE (by lia) ?_;obtain ⟨k,hk,ek⟩:=JU (z:=nm) hw;apply eV g9 ek ?_;apply bD fun p hp=>?_;have sE:=B'.trans R;obtain ⟨k1,k2,k3⟩:=K' k hk;exact q p _ _ _ (sE.free hp) (sE.trans (aJ.new hp)) aC (.inl {rfl,k,rfl,k1,k2,k3})
  ·w_on;exact X _ _ {_,rfl,aJ.refl _}
theorem Kb:bZ P w K mg base (k+1) "_law_did" ["_law_here_here","_law_deed_here"] Fc:=by
 refine bZ.of vE.d41 Hl (by walk_at"ln") fun f d' A a' s H vs Q E Y h=>?_;obtain ⟨dd,U,u,rs,ps,ts,ln,lr,I,J,m,pd,w,x,rfl,hN,hp,n1,n2,n3,n4,n5,h⟩:=h;refine {_,(aH (cA (aW (dS Y.units) (aN aS (pv 1) aE) aL) (aH (dM (jD E2 A1 A0 dD (aQ Y.u1 (pv 0) aL) (aA (bB (aA (aN aS (pv 1) aE) (aA (aQ Y.u1 (pv 0) aL) aB))) aB)))) (aH (cA (aW (dS Y.units) (aN aS (pv 1) aE) aL) (aH (dM (jD E2 A1 A0 dD (aQ Y.u1 (pv 0) aL) (aA (bB (aA (aN aS (pv 1) aE) (aA (aQ Y.u1 (pv 0) aL) aB))) aB)))) (aH (gO Y.u1 (pv 0) aL (aK bH (aQ Y.u1 (pv 0) aL) (aN aS (pv 1) aE)) rfl)))))),?_}
 try dsimp only[aV,bC]
 obtain ⟨B,X⟩:=hN;obtain ⟨vp,C,R⟩:=id X.pq;obtain ⟨vt,D,S⟩:=id X.tq;have b':vp.length=ps.length:=Paired.length R;have c':vt.length=ts.length:=Paired.length S;have dp:dd≠I:=xV B C;have dt:dd≠J:=xV B D;rcases h with ⟨rfl,hl,q⟩|⟨rfl,hl,q⟩|⟨rfl,q⟩
 ·w_on;apply oW (beq_self_eq_true _) ?_;apply bS (.inl B) oX ?_;apply bS (.inl B) fF ?_;apply bD fun p t=>?_;have N:=aJ.new (o:=.tup [.int x,.int m]) t;apply gK (N _ _ C) (by lia) ?_;have Z:p≠I:=fun z=>by rw[z,C]at t;cases t
  have O:TK H (L2.upd (L2.upd H p (.tup [.int x,.int m])) I (.lst (vp++[.ref p]))):=N.tk.trans (TK.lst (N _ _ C));have g:∀{b:c8}{o:HO},b≠I->H b=some o->L2.upd (L2.upd H p (.tup [.int x,.int m])) I (.lst (vp++[.ref p])) b=some o:=fun nb e=>aY nb (N _ _ e);have new:LQ fQ (L2.upd (L2.upd H p (.tup [.int x,.int m])) I (.lst (vp++[.ref p]))) I (ps++[(x,m)]):={_,aC,Pd.snoc (Pd.imp R fun v b f=>fQ.tk f O) {p,rfl,aY Z aC}}
  obtain ⟨vr,G,M⟩:=id X.rq;exact q _ ((aJ.kpL N).trans (.upd (.tail _ (.head _)))) {g dp B,{{_,g dp B},g n1 X.nm,{vr,g n3 G,Pd.imp M fun v b f=>jU.tk f O},new,{vt,g (q7 n5) D,Pd.imp S fun v b f=>fQ.tk f O}}}
 ·w_on;apply gC (by k_is) ?_;apply oW (beq_self_eq_true _) ?_;apply bS (.inl B) mY ?_;apply bS (.inl B) fF ?_;apply bD fun p t=>?_;have N:=aJ.new (o:=.tup [.int x,.int m]) t;apply gK (N _ _ D) (by lia) ?_;have Z:p≠J:=fun z=>by rw[z,D]at t;cases t
  have O:TK H (L2.upd (L2.upd H p (.tup [.int x,.int m])) J (.lst (vt++[.ref p]))):=N.tk.trans (TK.lst (N _ _ D));have g:∀{b:c8}{o:HO},b≠J->H b=some o->L2.upd (L2.upd H p (.tup [.int x,.int m])) J (.lst (vt++[.ref p])) b=some o:=fun nb e=>aY nb (N _ _ e);have new:LQ fQ (L2.upd (L2.upd H p (.tup [.int x,.int m])) J (.lst (vt++[.ref p]))) J (ts++[(x,m)]):={_,aC,Pd.snoc (Pd.imp S fun v b f=>fQ.tk f O) {p,rfl,aY Z aC}}
  obtain ⟨vr,G,M⟩:=id X.rq;exact q _ ((aJ.kpL N).trans (.upd (.tail _ (.tail _ (.head _))))) {g dt B,{{_,g dt B},g n2 X.nm,{vr,g n4 G,Pd.imp M fun v b f=>jU.tk f O},{vp,g n5 C,Pd.imp R fun v b f=>fQ.tk f O},new}}
 ·w_on;apply gC (by k_is) ?_;apply gC (by k_is) ?_;apply bS (.inl B) fF ?_;refine lF (c:=c9 "now") B (A3 rfl) ?_;rw[show eK (cP ln u lr I J [(c9 "now",.int m)]) (c9 "now") (.int (m+x))=cP ln u lr I J [(c9 "now",.int (m+x))] by with_unfolding_all rfl];w_on;have O:TK H (L2.upd H dd (.dK (cP ln u lr I J [(c9 "now",.int (m+x))]))):=TK.dic B;have g:∀{b:c8}{xs:List V},H b=some (.lst xs)->L2.upd H dd (.dK (cP ln u lr I J [(c9 "now",.int (m+x))])) b=some (.lst xs):=fun e=>aY (q7 (xV B e)) e;obtain ⟨vr,G,M⟩:=id X.rq;exact q _ (.upd (.head _)) {aC,{{_,aC},g X.nm,{vr,g G,Pd.imp M fun v b f=>jU.tk f O},{vp,g C,Pd.imp R fun v b f=>fQ.tk f O},{vt,g D,Pd.imp S fun v b f=>fQ.tk f O}}}
include o1h in
theorem tY:jG rL P w K mg base (k+1) cC "has_come" ["self","moment"] (UG cC):=by
 refine jG.of vE.d42 tQ (by walk_at"ln") fun f t A g s H S Q E C h=>?_;obtain ⟨h,M,ln,O,R,D,J,v,m,o,rfl,N,B,c,G,I,q⟩:=h;refine {_,(aH (aU (tV (gU lK (pv 1) dH) (mM (JW (aI o1h C rfl (aA (dQ (pv 0) dO) (aA (pv 1) aB)))))))),?_}
 try dsimp only[aV,bC]
 cases o with
|none=>
  cases (show v=.non from c);w_on;exact q
|some r=>obtain ⟨p,rfl,hp⟩:=id c;w_on;apply {D,.ref p,m,r,rfl,B,c,G,I r rfl,?_};exact q
theorem qU:jG rL P w K mg base (k+1) cC "falls_told" ["self"] (uL cC):=by
 refine jG.of vE.d43 qK (by walk_at"ln") fun f l' A j' s H vs Q E hr h=>?_;obtain ⟨h,dx,ln,lp,lt,vm,dm,n,ps,ts,D,M,U,mo,ys,rfl,ho,hI,Z,q⟩:=h;refine {_,(aH (aU (eJ (cM (aG gJ) ["self"] ["post"] ["self"] [0]) rfl (cL (aP (LE rfl) rfl T.z_sorted lQ (aA (dQ (pv 0) dO) aB))) (fun _ _ _ _=>(Zn ["post","self"] 0)) (fun _ _ _ _=>(bB (aA aL (aA (aQ hr.u1 (OI (pv 1) dO) (pv 0)) (aA (pv 0) aB))))) (fun _ _ _ _=>(iQ (aW lK (aQ hr.u1 (OI (pv 1) dO) (pv 0)) dH)))))),?_}
 try dsimp only[aV,bC]
 have dq:=Z.dq;obtain ⟨kd,b',qd⟩:=id dq;have h':ys.length<=200:=A5 (kR Z.nd fun x hx=>hI.nm x ((Z.mem x).mp hx)) hI.u2;have f':kd.map (·.1)=ys.map c9:=by rw[qd.keys,W4];rfl
 w_on;refine {dm,kd,ys,rfl,b',f',by lia,fun ls X g' d'=>?_};have o':X.length<=200:=by rw[d'.length_eq];exact h'
 have s1:=aJ.new (o:=.lst (X.map V.str)) g';have t:L2.upd H ls (.lst (X.map V.str)) ls=some (.lst (X.map V.str)):=aC;have m:=s1 _ _ b';have c':=s1 _ _ ho;have M1:=Z.mv (fun o e=>s1 _ _ e) s1.tk;generalize L2.upd H ls (.lst (X.map V.str))=H1 at *;refine cK (cU.of t) ?_;refine sL (xs:=X.map V.str) (by rw[i8];lia) (fun g i Y G=>Kp g H1 G/\∀z∈Y,SN (2*D) G z) (fun g C=>{Kp.new C,fun z S=>nomatch S}) ?_ ?_ ?_
 ·intro g i Y G C _ ⟨kp,_⟩;exact cU.of (kp _ _ (aD t C) t)
 ·intro g i Y G x C hx I hG ⟨kp,pr⟩;rw[m5]at hx;obtain ⟨y,hy,rfl⟩:=A8.mp hx;have hi:i<(X.map V.str).length:=by rw[i8];exact (h8.mp hy).1
  have i':y∈names n:=(Z.mem y).mp (d'.mem_iff.mp (o0 hy));have J:G dm=some (.dK kd):=kp _ _ (aD m C) m;have m':G h=some (.ins cC dx (cF ln lp lt vm dm)):=kp _ _ (aD c' C) c';have k':TK H1 G:=fun p xs e=>kp _ _ (aD e C) e;rcases M1.get m y with ⟨_,v,ev,qv⟩|⟨z,_⟩
  ·have B:=fM.tk qv k';w_on;refine sJ (c:=c9 y) (.inl J) ev ?_;cases e:mo (c9 y) with
  |none=>
    rw[e]at B;cases (show v=.non from B);w_on;exact jR hi I hG {kp,pr}
  |some r=>
    rw[e]at B;obtain ⟨pv,rfl,n'⟩:=id (show cI G v r from B);w_on;apply sJ (c:=c9 y) (.inl J) ev ?_;refine bD fun t1 O=>?_;have a':=aO (o:=.tup [.str "falls",.ref pv,.str y]) O hG;refine kZ hi I a' {Kp.trans (Kp.trans kp (fun b o _ e=>aO O e)) Kp.upd,?_};have tk:TK (L2.upd G t1 (.tup [.str "falls",.ref pv,.str y])) (L2.upd (L2.upd G t1 (.tup [.str "falls",.ref pv,.str y])) g (.lst (Y++[.ref t1]))):=TK.lst a';have e':=(TK.new (o:=.tup [.str "falls",.ref pv,.str y]) O).trans tk;intro z S;rcases w8.mp S with S|S
    ·exact (pr z S).tk e'
    ·rw[i4.mp S];have b:=Z.bd _ _ e;exact {t1,_,_,_,rfl,tk _ _ aC,r,cI.tk B e',Qt b,(hI.R.sz b).mono (by decide)}
  ·exact absurd i' z
 ·intro g Y G C hG I ⟨kp,pr⟩;w_on;have sG:aJ H1 G:=fun b o e=>kp _ _ (aD e C) e;rw[i8]at I;exact q g G Y (s1.free C) (s1.trans sG) hG (by lia) pr
include o0h o0u in
theorem oP:jG rL P w K mg base (k+1) cC "endings_told" ["self"] (wV cC):=by
 refine jG.of vE.d44 cJ (by walk_at"ln") fun f M' A F' s H vs Q E hr h=>?_;obtain ⟨h,dx,ln,lp,lt,vm,dm,n,ps,ts,D,M,U,mo,ys,rfl,ho,J,hM,q⟩:=h;refine {_,(aF (dL 1 cJ.nd (aI o0h hr rfl (aA (dQ (pv 0) dO) aB)))
   (aF (dL 2 cJ.nd (bQ aB))
   (aF (gB A6 rfl (OG rfl T.z_enumerate (aA (dQ (pv 0) dO) aB)) (jO (n:=2) rfl (bA (qQ 3 cJ.nd) (bA (qQ 4 cJ.nd) eI))) (aF (dL 5 cJ.nd (aI o0u hr rfl (aA (pv 4) (aA (dQ (pv 0) dO) (aA (HI hr.u1 (pv 1) (pv 3) {rfl,rfl,rfl,rfl}) aB)))))
   (aH (cA (aW (dS hr.units) (aN aS (pv 5) aE) aL) (aH (dM (jD E2 A1 A0 dD (pv 2) (aA (bB (aA aL (aA (aN aS (pv 5) aE) (aA (pv 3) (aA (aN aS (pv 5) aE) aB))))) aB)))) (aH (cA (aW (dS hr.units) (aN aS (pv 5) aE) aL) (aH (dM (jD E2 A1 A0 dD (pv 2) (aA (bB (aA aL (aA (aN aS (pv 5) aE) (aA (pv 3) aB)))) aB)))) bI))))))
   (aH (aU (pv 2)))))),?_}
 try dsimp only[aV,bC]
 obtain ⟨vn,k',u'⟩:=id J.nq.lq;have D':vn.length=n.length:=by rw[Paired.length u'];unfold kn;exact i8 ..
 have Q':n.length<=120:=by have:=J.nq.len;unfold kn at this;rw[i8]at this;exact this
 have dq:=hM.dq;obtain ⟨kd,i',qd⟩:=id dq;have zF:∀p f,mo p=some f->Sz 400 f:=fun p f e=>J.R.sz (hM.bd p f e);w_on;refine {lt,ts,rfl,J.tq,A5 J.tl (by decide),fun x hx=>(J.tz x hx).mono (by decide),fun dT H3 P' s3 tq=>?_};obtain ⟨kt,z',qt⟩:=tq;have S':=s3 _ _ ho;w_on;refine cE fun l hl=>?_;have s4:=aJ.new (o:=.lst []) hl;have j':L2.upd H3 l (.lst []) l=some (.lst []):=aC;have m:=s3.trans s4;have B':=m _ _ ho;have f':=m _ _ k';have O:=m _ _ i';have S:=s4 _ _ z';have J':=qt.imp fun v b f=>cI.tk f s4.tk;have v':=Pd.imp u' fun v b f=>nE.tk f m.tk;have M4:=hM.mv (fun o e=>m _ _ e) m.tk;have C:H l=none:=s3.free hl;generalize L2.upd H3 l (.lst [])=H4 at *;w_on;refine {ln,rfl,{vn,cU.of f'},?_};refine VF (xs:=vn) (fun i σ G=>∃o1 o2 o3 g,σ=[some (.ref h),some (.ref dT),some (.ref l),o1,o2,o3]/\Kp l H4 G/\G l=some (.lst g)/\g.length<=i/\∀z∈g,SN (2*D) G z) {_,_,_,[],rfl,Kp.refl _ _,j',j8 _,fun z Z=>nomatch Z} ?_ ?_ ?_
 ·rintro i σ G _ ⟨o1,o2,o3,g,rfl,kp,_⟩;exact cU.of (kp _ _ (fun z=>by rw[z]at k';rw[k']at C;cases C) f')
 ·rintro i x T σ G hx hT ⟨o1,o2,o3,g,rfl,kp,hG,b',pr⟩;have hi:i<n.length:=by rw[←D'];exact (h8.mp hx).1
  obtain ⟨r',t',c,u,rfl,q',ft⟩:=Paired.at v' hx;have p':n[i]?=some n[i]:=i3 hi;have n':(kn n)[i]?=some (c9 n[i].1,c9 n[i].2.1,n[i].2.2):=by unfold kn;rw[m5,p'];rfl
  rw[n']at t';cases t';have X:=K7 hi;generalize n[i]=r at n' q' ft X p';have bT:=J.nq.bd _ (u8.mpr {r,X,rfl});have pT:(0:Rat)<r.2.2:=J.nq.pos _ (u8.mpr {r,X,rfl});have x':r.1∈names n:=D2 _ (u8.mpr {r,X,rfl});have y':r.2.1∈names n:=u9 _ (u8.mpr {r,X,rfl});obtain ⟨va,ea,qa⟩:∃v,bP kd (c9 r.1)=some v/\fM H4 v (mo (c9 r.1)):=by
   rcases M4.get O r.1 with ⟨_,x⟩|⟨x,_⟩
   ·exact x
   ·exact absurd x' x
  obtain ⟨vb,eb,qb⟩:∃v,bP kd (c9 r.2.1)=some v/\fM H4 v (mo (c9 r.2.1)):=by
   rcases M4.get O r.2.1 with ⟨_,x⟩|⟨x,_⟩
   ·exact x
   ·exact absurd y' x
  have l':∀{b:c8}{o:HO},H4 b=some o->b≠l->L2.upd G T (.tup [.int i,.ref c]) b=some o:=fun e ne=>aO hT (kp _ _ ne e);have L':TK H4 G:=fun p xs e=>kp _ _ (gX e j' (by intro z;cases z)) e;have a':TK H4 (L2.upd G T (.tup [.int i,.ref c])):=L'.trans (TK.new hT);have xh:h≠l:=fun z=>by rw[z,C]at ho;cases ho
  have xd:dm≠l:=fun z=>by rw[z,C]at i';cases i'
  have xt:dT≠l:=fun z=>by rw[z,j']at S;cases S
  have C':=l' B' xh;have m':=l' O xd;have e':=l' S xt;have s':=a' _ _ q';have A':=aO (o:=.tup [.int i,.ref c]) hT hG;have E':Kp l H4 (L2.upd G T (.tup [.int i,.ref c])):=kp.trans (fun b o _ e=>aO hT e);have G':∀z∈g,SN (2*D) (L2.upd G T (.tup [.int i,.ref c])) z:=fun z Z=>(pr z Z).tk (TK.new hT);have O':L2.upd G T (.tup [.int i,.ref c]) T=_:=aC;have w':=cI.tk ft a';have H':=fM.tk qa a';have I':=fM.tk qb a';have K':=J'.imp fun v b f=>cI.tk f a';generalize L2.upd G T (.tup [.int i,.ref c])=G1 at *;have ot:fM G1 ((bP kt (i5 (i:Int))).getD .non) (dC ts i):=by
   unfold dC;rcases K'.val (k:=i5 (i:Int)) with ⟨e1,e2⟩|⟨v1,r1,e1,e2,f1⟩
   ·rw[e1,e2];rfl
   ·rw[e1,e2];exact f1
  have zt:∀f,dC ts i=some f->Sz 400 f:=fun f e=>J.tz _ (mS (cQ e));w_on;apply {dT,rfl,.inl {kt,.inl e'},?_};refine {bP kt (i5 (i:Int)),.inl {kt,i5 (i:Int),.inl e',rfl,rfl},?_};generalize (bP kt (i5 (i:Int))).getD .non=vk at ot⊢;w_on;refine {c,dm,vk,r.1,r.2.1,u,r.2.2,kd,_,_,_,va,vb,rfl,s',w',m',ea,H',eb,I',ot,pT,J.R.sz (bT.mono (by lia)),zF _,zF _,zt,fun v G2 N s2=>?_};have dn:=De (a:=r.1) (b:=r.2.1) (T:=r.2.2) J.R.ne bT.1 (fun f e=>(hM.bd (c9 r.1) f e).1) (fun f e=>(hM.bd (c9 r.2.1) f e).1);have dz:=YK (a:=r.1) (b:=r.2.1) (T:=r.2.2) (J.R.sz (bT.mono (by lia))) (zF (c9 r.1)) (zF (c9 r.2.1));have I:=s2 _ _ A';have c':Kp l H4 G2:=E'.trans s2.kp;have d':∀z∈g,SN (2*D) G2 z:=fun z Z=>(G' z Z).tk s2.tk;have R':=s2 _ _ C';have g':∀(B:c8)(sg:Str)(w:V)(dE:List V)(t:Rat),G2 B=none->cI G2 w t->t.den∣2*D->Sz 2000 t->∀oz,∃o1 o2 o3 h',[some (V.ref h),some (V.ref dT),some (V.ref l),some (V.int i),some (V.ref c),oz]=[some (V.ref h),some (V.ref dT),some (V.ref l),o1,o2,o3]/\Kp l H4 (L2.upd (L2.upd G2 B (.tup (.str sg::w::dE))) l (.lst (g++[.ref B])))/\L2.upd (L2.upd G2 B (.tup (.str sg::w::dE))) l (.lst (g++[.ref B])) l=some (.lst h')/\h'.length<=i+1/\∀z∈h',SN (2*D) (L2.upd (L2.upd G2 B (.tup (.str sg::w::dE))) l (.lst (g++[.ref B]))) z:=fun B sg w dE t ht fw d2 z2 oz=>by
   have o':=aO (o:=.tup (.str sg::w::dE)) ht I;have ZM:=(TK.new (o:=.tup (.str sg::w::dE)) ht).trans (TK.lst (o:=.lst (g++[.ref B])) o');refine {_,_,_,g++[.ref B],rfl,(c'.trans (fun b o _ e=>aO ht e)).trans Kp.upd,aC,by rw[q4];show _+1<=_;lia,fun z Z=>?_};rcases w8.mp Z with Z|Z
   ·exact (d' z Z).tk ZM
   ·rw[i4.mp Z];exact {B,sg,w,dE,rfl,TK.lst o' _ _ aC,t,fw.tk ZM,d2,z2}
  rcases Dg (e:=zK r.1 r.2.1 (mo (c9 r.1)) (mo (c9 r.2.1)) r.2.2) (tk:=dC ts i) with ⟨t,e⟩|e
  ·rw[e]at N;obtain ⟨p,w,rfl,hp,fw⟩:=N;w_on;apply gC (by k_is) ?_;apply gC (by k_is) ?_;exact {_,_,_,g,rfl,c',I,oo b',d'}
  ·rw[e]at N;cases e2:zK r.1 r.2.1 (mo (c9 r.1)) (mo (c9 r.2.1)) r.2.2 with
  |stands=>
    rw[e2]at N;obtain ⟨p,rfl,hp⟩:=N;w_on;apply gC (by k_is) ?_;apply gC (by k_is) ?_;exact {_,_,_,g,rfl,c',I,oo b',d'}
  |taken t=>
    rw[e2]at N;obtain ⟨p,w,rfl,hp,fw⟩:=N;w_on;apply gC (by k_is) ?_;apply gC (by k_is) ?_;exact {_,_,_,g,rfl,c',I,oo b',d'}
  |swept s t=>
    rw[e2]at N dn dz;obtain ⟨p,w,rfl,hp,fw⟩:=N;w_on;apply gC (by k_is) ?_;apply oW (beq_self_eq_true _) ?_;apply bD fun B Y=>?_;apply gK (aO Y I) (by lia) ?_;exact g' B _ w _ t Y fw (dn t rfl) (dz t rfl) _
  |met t sh=>rw[e2]at N dn dz;obtain ⟨p,w,w2,rfl,hp,fw,N'⟩:=N;w_on;apply oW (beq_self_eq_true _) ?_;apply bD fun B Y=>?_;apply gK (aO Y I) (by lia) ?_;exact g' B _ w _ t Y fw (dn t rfl) (dz t rfl) _
 ·rintro σ G ⟨o1,o2,o3,g,rfl,kp,hG,b',pr⟩;w_on;exact q l G g C (fun b o e=>kp _ _ (aD e C) (m _ _ e)) hG (by lia) pr
include o1u o1h o0x o0y o0f o0d o0b in
theorem KB:jG (EU P w) P w K mg base (k+1) cC "go" ["self","time"] (Nl K cC x0):=by
 refine jG.ofX vE.d45 mD (by walk_at"ln") fun f I' A E' s H vs Q E hr h=>?_;obtain ⟨h,dx,ln,Z,lt,vm,X,v,m,n,ps,ts,D,M,U,mo,ys,rfl,ho,hI,hM,hm,zm,hT,q⟩:=h;refine {_,(aF (cA (kQ (eA (aI o0x hr rfl (aA (pv 1) aB)))) (aH (lH (fun _ _ _ _ _ _ _ _ I m q=>wA I m q) rfl rfl W.m_NoNumber R0.e (aA aL aB))) bI)
   (aF (dL 2 mD.nd (dQ (pv 0) dO))
   (aF (qN (pv 0) (aI o1u hr rfl (aA (pv 2) (aA (pv 1) aB))) rfl)
   (aF (dL 3 mD.nd (aK bH (qR o0d HC.cl hr lJ (pv 0)) (qR o0b HC.cl hr lJ (pv 0))))
   (aF (pM (i:=4) mD.nd rfl (by w_left) (cM (aG pK) ["self","time","before","told","fresh"] ["each"] ["self","before"] [0,2]) rfl (cL (pv 3)) (fun _ _ _ _=>(Zn ["each","self","before"] 0)) (fun _ _ _ _=>(pv 0)) (fun _ _ _ _=>(iQ (PW.pt (jN (eA (aI o1h hr rfl (aA (pv 2) (aA (aN jB (pv 0) aE) aB)))) (gM (eA (sO o0f HC.cl hr lJ (pv 1) (aA (aN jB (pv 0) aE) aB)))))))))
   (aH (aU (aI o0y hr rfl (aA (eJ (cM (aG pK) ["self","time","before","told","fresh"] ["each"] [] []) rfl (cL (pv 4)) (fun _ _ _ _=>(Zn ["each"] 0)) (fun _ _ _ _=>(aN jB (pv 0) aE)) (fun _ _ _ _=>eG)) (aA (pv 4) aB)))))))))),?_}
 try dsimp only[aV,bC]
 have z4:Sz 400 m:=hI.R.sz (zm.mono (by lia));rcases q with ⟨hv,q⟩|⟨t,fv,t0,zt,H',q⟩
 ·w_on;apply {v,false,rfl,hv,?_};exact {by decide,q}
 w_on;apply {v,true,rfl,.of fv t0 (zt.mono (by decide)),?_};refine {vm,v,m,t,rfl,hm,fv,z4.mono (by decide),zt.mono (by decide),fun g H1 y' s1=>?_};have k':=s1 _ _ ho;have T1:LT H1:=rH.same hT s1;w_on;rw[YA];have xd:X≠h:=fun z=>by
  obtain ⟨kd,c',_⟩:=hM.dq;rw[z,ho]at c';cases c'
 have k1:jT [h] H (L2.upd H1 h (.ins cC dx (cF ln Z lt g X))):=(aJ.kpL s1).trans (.upd (.head _));have g':L2.upd H1 h (.ins cC dx (cF ln Z lt g X)) h=_:=aC;have t1:TK H (L2.upd H1 h (.ins cC dx (cF ln Z lt g X))):=s1.tk.trans (wC k');have I2:dA (L2.upd H1 h (.ins cC dx (cF ln Z lt g X))) ln Z lt n ps ts D M U:=hI.mv (fun l xs e=>k1.app1 (fun z=>by rw[z,ho]at e;cases e) e) t1;have M2:dJ (L2.upd H1 h (.ins cC dx (cF ln Z lt g X))) X n ps ts D M mo ys:=hM.mv (fun o e=>k1.app1 xd e) t1;have n':cI (L2.upd H1 h (.ins cC dx (cF ln Z lt g X))) g (m+t):=y'.tk (wC k');have w':=hm.tk t1;have T2:LT (L2.upd H1 h (.ins cC dx (cF ln Z lt g X))):=T1.ins k';generalize L2.upd H1 h (.ins cC dx (cF ln Z lt g X))=H2 at *;refine {h,dx,ln,Z,lt,g,X,n,ps,ts,D,M,U,mo,ys,rfl,g',I2,M2,fun p3 H3 zs J' s3 g3 l3 t'=>?_};have B':=s3 _ _ g';w_on;refine {h,dx,ln,Z,lt,g,X,n,ps,ts,D,M,U,mo,ys,rfl,B',I2.sm s3,M2.mv (fun o e=>s3 _ _ e) s3.tk,fun p4 H4 S K' s4 g4 l4 u'=>?_};have A':=s4 _ _ g3;w_on;refine yU A' g4 (by lia) fun p5 D'=>?_;have s5:=aJ.new (o:=.lst (zs++S)) D';have g5:L2.upd H4 p5 (.lst (zs++S)) p5=_:=aC;have h':=(s3.trans s4).trans s5;have m':∀z∈zs++S,SN (2*D) (L2.upd H4 p5 (.lst (zs++S))) z:=fun z B=>by
  rcases w8.mp B with B|B
  ·exact (t' z B).tk (s4.trans s5).tk
  ·exact (u' z B).tk s5.tk
 have ll:(zs++S).length<=400:=by rw[q4];lia
 generalize L2.upd H4 p5 (.lst (zs++S))=H5 at *;generalize zs++S=es at *;have p':=h' _ _ g';w_on;refine cK (cU.of g5) ?_;refine sL (xs:=es) (by lia) (fun J i fs G=>Kp J H5 G/\∀z∈fs,z∈es) (fun J h0=>{Kp.new h0,fun z B=>nomatch B}) ?_ ?_ ?_
 ·intro J i fs G h0 _ ⟨kp,_⟩;exact cU.of (kp _ _ (aD g5 h0) g5)
 ·intro J i fs G x h0 hx j' hG ⟨kp,pr⟩;have hi:i<es.length:=(h8.mp hx).1;have s':=o0 hx;obtain ⟨p,sg,u,dE,rfl,hp,r,fr,dr,zr⟩:=m' x s';have O:TK H5 G:=fun p xs e=>kp _ _ (aD e h0) e;have q':=O _ _ hp;have C':G h=some (.ins cC dx (cF ln Z lt g X)):=kp _ _ (aD p' h0) p';have o':=fr.tk O;have x':=w'.tk (h'.tk.trans O);have z':=n'.tk (h'.tk.trans O);have i':yI es.length J (fun i fs G=>Kp J H5 G/\∀z∈fs,z∈es) fs i G:=jR hi j' hG {kp,pr};have f':vD (V.str sg::u::dE) 1=some u:=fZ (j:=1) rfl;w_on;apply NP q' f' ?_;apply {vm,u,m,r,rfl,x',o',z4.mono (by decide),zr.mono (by decide),?_};refine mX (fun c=>?_) (fun c=>?_)
  ·w_on;apply NP q' f' ?_;refine {h,dx,ln,Z,lt,g,X,u,m+t,some r,rfl,C',z',o',(hI.R.sz (H'.mono (by lia))).mono (by decide),fun r' e'=>by cases e';exact zr.mono (by decide),?_};w_on;cases IM (m+t) (some r) with
  |true=>
    w_on;refine kZ hi j' hG {kp.trans Kp.upd,fun z B=>?_};rcases w8.mp B with B|B
    ·exact pr z B
    ·rw[i4.mp B];exact s'
  |false=>w_on;exact i'
  ·w_on;exact i'
 ·intro J fs G h0 hG j' ⟨kp,pr⟩;have s6:aJ H5 G:=fun b o e=>kp _ _ (aD e h0) e;have v':∀z∈fs,SN (2*D) G z:=fun z B=>(m' z (pr z B)).tk s6.tk;have F':=h'.trans s6;w_on;refine cK (cU.of hG) ?_;refine mI (xs:=fs) (by lia) (fun C i ws G'=>Kp C G G'/\∀x∈ws,Md (2*D) G' x) (fun C h0=>{Kp.new h0,fun z B=>nomatch B}) ?_ ?_ ?_
  ·rintro C i ws G' b' _ ⟨Y,_⟩;exact cU.of (Y _ _ (aD hG b') hG)
  ·rintro C i ws G' x b' hx l' ha ⟨Y,pw⟩;obtain ⟨p,sg,u,dE,rfl,hp,fu⟩:=v' x (o0 hx);have O:TK G G':=fun p xs e=>Y _ _ (aD e b') e;have f':vD (V.str sg::u::dE) 1=some u:=fZ (j:=1) rfl;w_on;refine NP (O _ _ hp) f' ?_;refine gD (h8.mp hx).1 l' ha {Y.trans Kp.upd,fun z B=>?_};have tk:=TK.lst (o:=.lst (ws++[u])) ha;rcases w8.mp B with B|B
   ·exact (pw z B).tk tk
   ·rw[i4.mp B];exact fu.tk (O.trans tk)
  ·rintro C ws G' b' ha l' ⟨Y,pw⟩;have s7:aJ G G':=fun b o e=>Y _ _ (aD e b') e;have a':=F'.trans s7;have T7:LT G':=rH.same T2 a';w_on;refine {C,J,ws,fs,2*D,rfl,ha,s7 _ _ hG,l',by lia,by have:=hI.R.ne;lia,by have:=hI.R.d3;exact i7 (show 2*D<2^301 by rw[pow_succ];lia) (W1 (by decide) (by decide)),pw,T7,fun p8 H8 N' L' k8 T8 M' g8=>?_};w_on;have t8:=Sd k8 T7;have d':∀{b:c8}{o:HO},H2 b=some o->(∀ps,o≠.tbl ps)->H8 b=some o:=fun e ne=>kT k8 T7 (a' _ _ e) ne;refine q _ g H8 (fun b o nb e=>?_) T8 (d' g' (fun _ z=>nomatch z)) (n'.tk (a'.tk.trans t8)) (I2.mv (fun l xs e=>d' e (fun _ z=>nomatch z)) (a'.tk.trans t8)) (M2.mv (fun o e=>?_) (a'.tk.trans t8))
   ·exact k8 _ _ (fun z=>nb (by rw[z];exact .tail _ (.head _))) (a' _ _ (k1 _ _ (fun z=>nb (by rw[i4.mp z];exact .head _)) e))
   ·obtain ⟨kd,c',_⟩:=M2.dq;rw[c']at e;cases e;exact d' c' (fun _ z=>nomatch z)
include o0j in
theorem xS:jG rL P w K mg base (k+1) cC "reckon" ["self"] (FR cC):=by
 refine jG.of vE.d46 wY (by walk_at"ln") fun f S A G s H vs Q E B h=>?_;obtain ⟨h,dx,ln,Z,J,vm,dm,n,ps,ts,D,M,U,rfl,I,c,q⟩:=h;refine {_,(aH (qN (pv 0) (aI o0j.f B rfl (aA (dQ (pv 0) dO) (aA (dQ (pv 0) dO) (aA (dQ (pv 0) dO) aB)))) rfl)),?_}
 try dsimp only[aV,bC]
 w_on;refine {ln,n,Z,ps,.ref J,ts,D,M,U,rfl,c.nq,c.pq,{.inr {J,rfl,c.tq},c.tl,fun r B=>(c.tz r B).mono (by decide)},c.R.r8,c.u2,c.nm,fun d H1 F ys g N X Y O nd C=>?_};have t:=N _ _ I;w_on;rw[XZ];have m:d≠h:=fun z=>by rw[z,I]at g;cases g
 exact q d _ _ ys g (N.kpL.trans (.upd (.head _))) aC ((dJ.of X Y O nd C).mv (fun o z=>aY m z) (wC t))
include o1e o0h o0k in
theorem yY:jG (EU P w) P w K mg base (k+1) cC "tiles" ["self","number"] (CH K cC x8):=by
 refine jG.ofX vE.d47 pX (by walk_at"ln") fun f h' A g' s H vs Q E Y h=>?_;obtain ⟨h,dx,ln,lp,lt,vm,dm,v,m,n,ps,ts,D,M,U,mo,ys,rfl,ho,g,X,hm,zm,q⟩:=h;refine {_,(aF (cA (PW.pt (lG (kQ (eA (aI o1e Y rfl (aA (pv 1) aB)))) (iG (kQ (VU ON sR aE (pv 1) (aP fH rfl T.z_len eB (aA (dQ (pv 0) dO) aB))))))) (aH (lH (fun _ _ _ _ _ _ _ _ I m q=>wA I m q) rfl rfl W.m_NoRun R8.e (aA aL aB))) bI)
   (aF (dL 2 pX.nd (HI Y.u1 (aI o0h Y rfl (aA (dQ (pv 0) dO) aB)) (pv 1) {rfl,rfl,rfl,rfl}))
   (aH (aU (aI o0k Y rfl (aA (aN aS (dQ (pv 0) dO) (pv 1)) (aA (dQ (pv 0) dO) (aA (pv 2) (aA (dQ (pv 0) dO) aB))))))))),?_}
 try dsimp only[aV,bC]
 obtain ⟨vn,e',S⟩:=id g.nq.lq;have l':vn.length=n.length:=by rw[Paired.length S];unfold kn;exact i8 ..
 have j':=g.nq.len;rcases q with ⟨⟨t,a,b,ty,ea,eb,e0⟩|⟨z,rfl,hz⟩,q⟩|⟨B,r,rfl,J,q⟩
 ·w_on;refine {v,t,a,b,rfl,ty,ea,eb,?_};rw[e0];w_on;exact {by decide,q}
 ·w_on;refine {_,_,_,_,rfl,.int z,iX,hV,?_};rw[show (true&&!false)=true from rfl];w_on;apply HB ?_;refine {_,rfl,?_};refine mX (fun c=>?_) (fun c=>?_)
  ·w_on;exact {by decide,q}
  ·w_on;exact {by decide,q}
 ·have i':B<n.length:=(h8.mp J).1;have c':(kn n)[B]?=some (c9 r.1,c9 r.2.1,r.2.2):=by
   unfold kn;rw[m5,J];rfl
  have o:=o0 J;obtain ⟨vr,f',pr,u,rfl,d',ft⟩:=DB S c';have bT:=g.nq.bd _ (u8.mpr {r,o,rfl});have pT:(0:Rat)<r.2.2:=g.nq.pos _ (u8.mpr {r,o,rfl});have a':r.1∈names n:=D2 _ (u8.mpr {r,o,rfl});have b':r.2.1∈names n:=u9 _ (u8.mpr {r,o,rfl});have dq:=X.dq;obtain ⟨kd,G,qd⟩:=id dq;obtain ⟨va,ea,qa⟩:∃v,bP kd (c9 r.1)=some v/\fM H v (mo (c9 r.1)):=by
   rcases X.get G r.1 with ⟨_,x⟩|⟨x,_⟩
   ·exact x
   ·exact absurd a' x
  obtain ⟨vb,eb,qb⟩:∃v,bP kd (c9 r.2.1)=some v/\fM H v (mo (c9 r.2.1)):=by
   rcases X.get G r.2.1 with ⟨_,x⟩|⟨x,_⟩
   ·exact x
   ·exact absurd b' x
  have zF:∀p f,mo p=some f->Sz 400 f:=fun p f e=>g.R.sz (X.bd p f e);w_on;refine {_,_,_,_,rfl,.int _,iX,hV,?_};rw[show (true&&!false)=true from rfl];w_on;apply HB ?_;refine {_,rfl,?_};apply Kz (by lia) ?_;refine {lt,ts,rfl,g.tq,A5 g.tl (by decide),fun x hx=>(g.tz x hx).mono (by decide),fun dT H3 _ C tq=>?_};obtain ⟨O,N,qt⟩:=tq;apply {dT,rfl,.inl {O,.inl N},?_};refine {bP O (i5 (B:Int)),.inl {O,i5 (B:Int),.inl N,rfl,rfl},?_};have ot:fM H3 ((bP O (i5 (B:Int))).getD .non) (dC ts B):=by
   unfold dC;rcases qt.val (k:=i5 (B:Int)) with ⟨Z,e2⟩|⟨v1,r1,Z,e2,f1⟩
   ·rw[Z,e2];rfl
   ·rw[Z,e2];exact f1
  have zt:∀f,dC ts B=some f->Sz 400 f:=fun f e=>g.tz _ (mS (cQ e));generalize (bP O (i5 (B:Int))).getD .non=vk at ot⊢;have k':=C _ _ ho;w_on;apply eV (C _ _ e') (fZ f') ?_;apply {pr,dm,vk,vm,r.1,r.2.1,u,r.2.2,m,kd,_,_,_,va,vb,rfl,C _ _ d',ft.tk C.tk,C _ _ G,ea,qa.tk C.tk,eb,qb.tk C.tk,ot,hm.tk C.tk,nz pT,g.R.sz (bT.mono (by lia)),g.R.sz (zm.mono (by lia)),zF _,zF _,zt,fun v H4 lv s4=>?_};exact q v H4 (C.trans s4) lv
include o0p o0s in
theorem DI:jG (EU P w) P w K mg base (k+1) cC "take" ["self","number"] (TU K cC x8 x9):=by
 refine jG.ofX vE.d48 CP (by walk_at"ln") fun f j' A g' s H vs Q E hr h=>?_;obtain ⟨h,dx,ln,Y,g,t,dm,v,m,n,ps,ts,D,M,U,mo,ys,rfl,N,c,hM,X,zm,hl,q⟩:=h;refine {_,(aF (cA (aW kD (sO o0s HC.cl hr Gf (pv 0) (aA (pv 1) aB)) dH) (aH (lH (fun _ _ _ _ _ _ _ _ I m q=>wA I m q) rfl rfl W.m_Gone R9.e (aA aL aB))) bI)
   (aF (dM (jD E2 A1 A0 dD (dQ (pv 0) dO) (aA (bB (aA (pv 1) (aA (dQ (pv 0) dO) aB))) aB)))
   (aH (dM (qR o0p HC.cl hr lJ (pv 0)))))),?_}
 try dsimp only[aV,bC]
 have z4:Sz 400 m:=c.R.sz (zm.mono (by lia));rcases q with ⟨hn,q⟩|⟨B,r,rfl,d',q⟩
 ·w_on;exact {h,dx,ln,Y,g,t,dm,v,m,n,ps,ts,D,M,U,mo,ys,rfl,N,c,hM,X,zm,.inl {hn,q}}
 w_on;refine {h,dx,ln,Y,g,t,dm,_,m,n,ps,ts,D,M,U,mo,ys,rfl,N,c,hM,X,zm,.inr {B,r,rfl,d',fun w G s0 lv=>?_}};rcases q with ⟨e,q⟩|⟨e,q⟩
 ·rw[e]at lv;cases (show w=.non from lv);w_on;exact {by decide,q _ s0}
 have c:=c.sm s0;have N:=s0 _ _ N;have X:=X.tk s0.tk;obtain ⟨p0,rfl⟩:∃p,w=.ref p:=by
  cases z:CF (mo (c9 r.1)) (mo (c9 r.2.1)) (dC ts B) r.2.2 m with
 |none=>exact absurd z e
 |some x=>rw[z]at lv;obtain ⟨p,u,w1,rfl,_⟩:=lv;exact {p,rfl}
 w_on;obtain ⟨J,C,b'⟩:=id c.tq;have k':J.length=ts.length:=Paired.length b';apply VO C ?_;apply bD fun p hp=>?_;have S:=aJ.new (o:=.tup [.int (B:Int),t]) hp;refine gK (S _ _ C) (by lia) ?_;have e':h≠g:=fun z=>by rw[z,C]at N;cases N
 have t1:TK G (L2.upd (L2.upd G p (.tup [.int (B:Int),t])) g (.lst (J++[.ref p]))):=S.tk.trans (TK.lst (S _ _ C));have Z:L2.upd (L2.upd G p (.tup [.int (B:Int),t])) g (.lst (J++[.ref p])) h=some (.ins cC dx (cF ln Y g t dm)):=aY e' (S _ _ N);have h':p≠g:=fun z=>by rw[z,C]at hp;cases hp
 have a':∀{b:c8}{o:HO},b≠g->G b=some o->L2.upd (L2.upd G p (.tup [.int (B:Int),t])) g (.lst (J++[.ref p])) b=some o:=fun nb e=>aY nb (S _ _ e);have kq:vY (L2.upd (L2.upd G p (.tup [.int (B:Int),t])) g (.lst (J++[.ref p]))) (.ref p) (i5 (B:Int),m):={p,t,rfl,aY h' aC,X.tk t1}
 have I1:dA (L2.upd (L2.upd G p (.tup [.int (B:Int),t])) g (.lst (J++[.ref p]))) ln Y g n ps (ts++[(i5 (B:Int),m)]) D M U:=
  {{LQ.mv c.nq.lq nE.tk (fun o e=>a' c.n2 e) t1,c.nq.len,c.nq.bd,c.nq.pos},{LQ.mv c.pq.lq vY.tk (fun o e=>a' c.n3 e) t1,c.pq.len,c.pq.bd},{_,aC,Paired.snoc (Pd.imp b' fun v b f=>vY.tk f t1) kq},by rw[q4];show _+1<=_;lia,fun r hr=>by
   rcases w8.mp hr with z|z
   ·exact c.tz r z
   ·rw[i4.mp z];exact z4,c.R,c.u2,c.nm,c.n1,c.n2,c.n3}
 have k1:jT [h,g] H (L2.upd (L2.upd G p (.tup [.int (B:Int),t])) g (.lst (J++[.ref p]))):=(aJ.kpL (s0.trans S)).trans (.upd (.tail _ (.head _)));generalize L2.upd (L2.upd G p (.tup [.int (B:Int),t])) g (.lst (J++[.ref p]))=H1 at Z I1 k1 ⊢;w_on;apply {h,dx,ln,Y,g,t,dm,n,ps,_,D,M,U,rfl,Z,I1,fun d H2 f' i' O k2 o2 M2=>?_};have t2:TK H1 H2:=k2.tk fun b hb xs e=>by rw[i4.mp hb,Z]at e;cases e
 have c':H d=none:=k1.fr (fun z=>by
  rcases w6.mp z with e|z
  ·rw[e,Z]at O;cases O
  ·rw[i4.mp z]at O;obtain ⟨_,e,_⟩:=I1.tq;rw[e]at O;cases O) O
 exact q d H2 f' i' c' (k1.trans (k2.mono fun x hx=>by rw[i4.mp hx];exact .head _)) o2 (I1.mv (fun l xs e=>k2 _ _ (fun z=>by rw[i4.mp z,Z]at e;cases e) e) t2) M2
theorem mP:jG (EU P w) P w K mg base (k+1) cC "refuse_no_post" ["self","post"] (FU K cC x6):=by
 refine jG.ofX vE.d49 mC (by walk_at"ln") fun f o A g s H U Q E C h=>?_;obtain ⟨h,J,ln,O,R,S,G,v,N,rfl,M,B,D⟩:=h;refine {_,(aH (cA (PW.pt (lG (kQ (eA (aP (pP (T:="str")) rfl T.z_isinstance bL (aA (pv 1) (aA (sP (v:=.ty "str") rfl T.z_str Lp rfl) aB))))) (iG (tU (tW C.u1 (pv 1) (dQ (pv 0) dO)))))) (aH (lH (fun _ _ _ _ _ _ _ _ I m q=>wA I m q) rfl rfl W.m_NoPost R6.e (aA aL aB))) bI)),?_}
 try dsimp only[aV,bC]
 rcases D with ⟨⟨t,ty,e⟩,q⟩|⟨y,rfl,q⟩
 ·w_on;apply qM ty e ?_;exact {by decide,q}
 ·w_on;apply qM (.str y) IA ?_;refine VI (c:=c9 y) (.inl B) ?_;rcases q with ⟨e,q⟩|⟨u,e,q⟩
  ·rw[e];w_on;exact {by decide,q}
  ·rw[e];w_on;exact q
include o0f o0p o0a in
theorem DJ:jG (EU P w) P w K mg base (k+1) cC "push" ["self","post"] (TW K cC x6 x7):=by
 refine jG.ofX vE.d50 CQ (by walk_at"ln") fun f i' A f' s H vs Q E Z h=>?_;obtain ⟨h,X,ln,t,O,B,S,v,m,n,ps,ts,D,M,U,mo,ys,rfl,N,g,hM,hm,zm,hl,q⟩:=h;refine {_,(aF (dM (sO o0a HC.cl Z Gf (pv 0) (aA (pv 1) aB)))
   (aF (cA (eA (sO o0f HC.cl Z lJ (pv 0) (aA (aQ Z.u1 (dQ (pv 0) dO) (pv 1)) aB))) (aH (lH (fun _ _ _ _ _ _ _ _ I m q=>wA I m q) rfl rfl W.m_Fallen R7.e (aA aL aB))) bI)
   (aF (dM (jD E2 A1 A0 dD (dQ (pv 0) dO) (aA (bB (aA (pv 1) (aA (dQ (pv 0) dO) aB))) aB)))
   (aH (dM (qR o0p HC.cl Z lJ (pv 0))))))),?_}
 try dsimp only[aV,bC]
 have dq:=hM.dq;obtain ⟨kd,C,qd⟩:=id dq;have z8:Sz 8000 m:=(g.R.sz (zm.mono (by lia))).mono (by decide);rcases q with ⟨hn,q⟩|⟨y,rfl,q⟩
 ·w_on;exact {h,X,ln,t,O,B,S,v,kd,rfl,N,C,.inl {hn,q}}
 rcases hM.get C y with ⟨hy,u,eu,qu⟩|⟨hy,eu⟩
 ·w_on;apply {h,X,ln,t,O,B,S,_,kd,rfl,N,C,.inr {y,rfl,.inr {u,eu,?_}}};apply sJ (c:=c9 y) (.inl C) eu ?_;apply {h,X,ln,t,O,B,S,u,m,_,rfl,N,hm,qu,z8,fun r e=>(g.R.sz (hM.bd _ r e)).mono (by decide),?_};rcases q with ⟨z,_⟩|⟨_,hc,q⟩|⟨_,hc,q⟩
  ·exact absurd hy z
  ·rw[hc];w_on;exact {by decide,q}
  ·rw[hc];w_on;obtain ⟨J,G,b'⟩:=id g.pq.lq;have j':J.length=ps.length:=Paired.length b';apply VO G ?_;apply bD fun p hp=>?_;have s1:=aJ.new (o:=.tup [.str y,B]) hp;refine gK (s1 _ _ G) (by lia) ?_;have d':h≠t:=fun z=>by rw[z,G]at N;cases N
   have t1:TK H (L2.upd (L2.upd H p (.tup [.str y,B])) t (.lst (J++[.ref p]))):=s1.tk.trans (TK.lst (s1 _ _ G));have o1:L2.upd (L2.upd H p (.tup [.str y,B])) t (.lst (J++[.ref p])) h=some (.ins cC X (cF ln t O B S)):=aY d' (s1 _ _ N);have g':p≠t:=fun z=>by rw[z,G]at hp;cases hp
   have a':∀{b:c8}{o:HO},b≠t->H b=some o->L2.upd (L2.upd H p (.tup [.str y,B])) t (.lst (J++[.ref p])) b=some o:=fun nb e=>aY nb (s1 _ _ e);have kq:vY (L2.upd (L2.upd H p (.tup [.str y,B])) t (.lst (J++[.ref p]))) (.ref p) (c9 y,m):={p,B,rfl,aY g' aC,hm.tk t1}
   have I1:dA (L2.upd (L2.upd H p (.tup [.str y,B])) t (.lst (J++[.ref p]))) ln t O n (ps++[(c9 y,m)]) ts D M U:=
    {{LQ.mv g.nq.lq nE.tk (fun o e=>a' g.n1 e) t1,g.nq.len,g.nq.bd,g.nq.pos},{{_,aC,Paired.snoc (Pd.imp b' fun v b f=>vY.tk f t1) kq},by rw[q4];show _+1<=_;lia,fun r Z=>by
     rcases w8.mp Z with z|z
     ·exact g.pq.bd r z
     ·rw[i4.mp z];exact zm},LQ.mv g.tq vY.tk (fun o e=>a' (q7 g.n3) e) t1,g.tl,g.tz,g.R,g.u2,g.nm,g.n1,g.n2,g.n3}
   have k1:jT [h,t] H (L2.upd (L2.upd H p (.tup [.str y,B])) t (.lst (J++[.ref p]))):=(aJ.kpL s1).trans (.upd (.tail _ (.head _)));generalize L2.upd (L2.upd H p (.tup [.str y,B])) t (.lst (J++[.ref p]))=H1 at o1 I1 k1 ⊢;w_on;apply {h,X,ln,t,O,B,S,n,_,ts,D,M,U,rfl,o1,I1,fun d H2 e' h' Y k2 o2 M2=>?_};have t2:TK H1 H2:=k2.tk fun b hb xs e=>by rw[i4.mp hb,o1]at e;cases e
   have c':H d=none:=k1.fr (fun z=>by
    rcases w6.mp z with e|z
    ·rw[e,o1]at Y;cases Y
    ·rw[i4.mp z]at Y;obtain ⟨_,e,_⟩:=I1.pq.lq;rw[e]at Y;cases Y) Y
   exact q d H2 e' h' c' (k1.trans (k2.mono fun x hx=>by rw[i4.mp hx];exact .head _)) o2 (I1.mv (fun l xs e=>k2 _ _ (fun z=>by rw[i4.mp z,o1]at e;cases e) e) t2) M2
 ·rcases q with ⟨_,q⟩|⟨z,_⟩|⟨z,_⟩
  ·w_on;exact {h,X,ln,t,O,B,S,_,kd,rfl,N,C,.inr {y,rfl,.inl {eu,q}}}
  ·exact absurd z hy
  ·exact absurd z hy
include o2d o1i o0w o0v in
theorem Px:bZ P w K mg base (k+1) "_law_do" ["_law_hall_here","_law_here_here","_law_deed_here"] (Nn K cC):=by
 refine bZ.of vE.d51 Nu (by walk_at"ln") fun f e' A b' s H vs Q E g h=>?_;obtain ⟨h,dd,pd,w,c,Y,B,C,G,vm,X,m,n,ps,ts,D,M,U,mo,ys,u,rs,h',j',ln,lr,lp,lt,g',rfl,hp,ho,hI,hM,hm,zm,hT,hN,u0,u1,hh⟩:=h;refine {_,(aF (cA (aW (dS g.units) (aN aS (pv 2) aE) aL) (aH (aU (sO o0v HC.cl g OK (pv 0) (aA (aN aS (aQ g.u1 (pv 1) aL) (aN aS (pv 2) aE)) aB)))) bI)
   (aF (cA (aW (dS g.units) (aN aS (pv 2) aE) aL) (aH (aU (sO o0w HC.cl g OK (pv 0) (aA (aN aS (pv 2) aE) aB)))) bI)
   (aH (aU (sO o1i HC.cl g OK (pv 0) (aA (aI o2d g rfl (aA (aN aS (pv 2) aE) (aA (aQ g.u1 (pv 1) aL) aB))) aB)))))),?_}
 try dsimp only[aV,bC]
 rcases hh with ⟨rfl,hl,i,y,rfl,ey,hy,hc,q⟩|⟨rfl,hl,kk,r,rfl,g,hs,q⟩|⟨rfl,x0,x1,d',q⟩
 ·w_on;apply oW (beq_self_eq_true _) ?_;apply bS (.inl hN.d) fG ?_;refine eV hN.q.nm (fZ (by rw[m5,ey];rfl)) ?_;w_on;apply {h,Y,B,C,G,vm,X,_,m,n,ps,ts,D,M,U,mo,ys,rfl,ho,hI,hM,hm,zm,hl,.inr {y,rfl,.inr (.inr {hy,hc,fun d N I J Z k o O R=>?_})}};exact q d N I J Z k o O R
 ·w_on;apply gC (by k_is) ?_;apply oW (beq_self_eq_true _) ?_;apply {h,Y,B,C,G,vm,X,_,m,n,ps,ts,D,M,U,mo,ys,rfl,ho,hI,hM,hm,zm,hl,.inr {kk,r,rfl,g,.inr {hs,fun d N I J Z k o O R=>?_}}};exact q d N I J Z k o O R
 ·w_on;apply gC (by k_is) ?_;apply gC (by k_is) ?_;apply bS (.inl hN.d) uF ?_;refine {c,u,rfl,u0,GJ (by lia),GJ (by lia),fun q1 a'=>?_};have f1:cI (L2.upd H q1 (.tup [.int (eY c u),.int (fB c u)])) (.ref q1) (ut u c):=cI.low (by lia) aC;have t:=aJ.new (H:=H) (o:=.tup [.int (eY c u),.int (fB c u)]) a';generalize L2.upd H q1 (.tup [.int (eY c u),.int (fB c u)])=H1 at f1 t⊢;have z1:Sz 400 (ut u c):=Ni u0 (by lia) (by lia);have S:0<=(ut u c).num:=Ki x0 u0;w_on;apply {h,Y,B,C,G,vm,X,_,m,n,ps,ts,D,M,U,mo,ys,rfl,t _ _ ho,hI.sm t,hM.mv (fun o e=>t _ _ e) t.tk,hm.tk t.tk,zm,rH.same hT t,.inr {ut u c,f1,S,z1.mono (by decide),d',fun v c' N k T' o' f' O R=>?_}};exact q v c' N ((aJ.kpL t).trans k) T' o' f' O R
theorem WQ:EQ P w K mg base (k+1) "_law_kinds" ["_law_e"] (AJ K xt x0 x1 x2 x3 x4 x5 x6 x7 x8 x9 x10 x11):=by
 refine EQ.of vE.d52 oC (by walk_at"ln") fun y f U A m s H vs Q hr hh h=>?_;obtain ⟨C,i,rfl,J,c,R,q⟩:=h;refine {_,(aF (dL 1 oC.nd (bQ (aA (aP eQ rfl T.z_isinstance bL (aA (pv 0) (aA (fX (v:=.ref x7) rfl W.m_Fallen rfl) aB))) (aA (aP eQ rfl T.z_isinstance bL (aA (pv 0) (aA (fX (v:=.ref x6) rfl W.m_NoPost rfl) aB))) (aA (aP eQ rfl T.z_isinstance bL (aA (pv 0) (aA (fX (v:=.ref x9) rfl W.m_Gone rfl) aB))) (aA (aP eQ rfl T.z_isinstance bL (aA (pv 0) (aA (fX (v:=.ref x8) rfl W.m_NoRun rfl) aB))) aB))))))
   (aF (dL 1 oC.nd (aK bH (pv 1) (bQ (aA (aP eQ rfl T.z_isinstance bL (aA (pv 0) (aA (fX (v:=.ref x0) rfl W.m_NoNumber rfl) aB))) (aA (aP eQ rfl T.z_isinstance bL (aA (pv 0) (aA (sP (v:=.ty "ValueError") rfl W.zV zM rfl) aB))) aB)))))
   (aF (dL 2 oC.nd (bQ (aA (aP eQ rfl T.z_isinstance bL (aA (pv 0) (aA (fX (v:=.ref x2) rfl W.m_NoBell rfl) aB))) (aA (aP eQ rfl T.z_isinstance bL (aA (pv 0) (aA (fX (v:=.ref x1) rfl W.m_NoNet rfl) aB))) (aA (aP eQ rfl T.z_isinstance bL (aA (pv 0) (aA (fX (v:=.ref x10) rfl W.m_NoRow rfl) aB))) (aA (aP eQ rfl T.z_isinstance bL (aA (pv 0) (aA (fX (v:=.ref x3) rfl W.m_NoSum rfl) aB))) aB))))))
   (aF (dL 2 oC.nd (aK bH (pv 2) (bQ (aA (aP eQ rfl T.z_isinstance bL (aA (pv 0) (aA (fX (v:=.ref x5) rfl W.m_NoText rfl) aB))) (aA (aP eQ rfl T.z_isinstance bL (aA (pv 0) (aA (fX (v:=.ref x11) rfl W.m_NoWish rfl) aB))) (aA (aP eQ rfl T.z_isinstance bL (aA (pv 0) (aA (fX (v:=.ref x4) rfl W.m_TooMany rfl) aB))) aB))))))
   (aH (aU (aK bH (pv 1) (bQ (aA (gU AZ lI (pv 2) (by with_unfolding_all rfl)) aB))))))))),?_}
 try dsimp only[aV,bC]
 w_on;apply iZ c R.x R.k7 ?_;apply iZ c R.x R.k6 ?_;apply iZ c R.x R.k9 ?_;apply iZ c R.x R.k8 ?_;refine cE fun l1 X=>?_;have M:=aJ.new (o:=.lst [.bl (B0 7 i),.bl (B0 6 i),.bl (B0 9 i),.bl (B0 8 i)]) X;have E:=M _ _ c;w_on;apply iZ E R.x R.k0 ?_;apply Ic E R.x R.v ?_;refine cE fun l2 Y=>?_;have t:=aJ.new (o:=.lst [.bl (B0 0 i),.bl true]) Y;refine yU (t _ _ aC) aC (A3 rfl) fun l3 Z=>?_;have N:=aJ.new (o:=.lst ([.bl (B0 7 i),.bl (B0 6 i),.bl (B0 9 i),.bl (B0 8 i)]++[.bl (B0 0 i),.bl true])) Z;have g:=N _ _ (t _ _ E);w_on;apply iZ g R.x R.k2 ?_;apply iZ g R.x R.k1 ?_;apply iZ g R.x R.k10 ?_;apply iZ g R.x R.k3 ?_;refine cE fun l4 h4=>?_;have B:=aJ.new (o:=.lst [.bl (B0 2 i),.bl (B0 1 i),.bl (B0 10 i),.bl (B0 3 i)]) h4;have G:=B _ _ g;w_on;apply iZ G R.x R.k5 ?_;apply iZ G R.x R.k11 ?_;apply iZ G R.x R.k4 ?_;refine cE fun l5 h5=>?_;have D:=aJ.new (o:=.lst [.bl (B0 5 i),.bl (B0 11 i),.bl (B0 4 i)]) h5;refine yU (D _ _ aC) aC (A3 rfl) fun l6 h6=>?_;have O:=aJ.new (o:=.lst ([.bl (B0 2 i),.bl (B0 1 i),.bl (B0 10 i),.bl (B0 3 i)]++[.bl (B0 5 i),.bl (B0 11 i),.bl (B0 4 i)])) h6;w_on;have no:Qi (.bl true) ([.bl (B0 2 i),.bl (B0 1 i),.bl (B0 10 i),.bl (B0 3 i)]++[.bl (B0 5 i),.bl (B0 11 i),.bl (B0 4 i)])=false:=by rcases J with rfl|rfl|rfl|rfl|rfl <;> rfl
 refine {l6,_,rfl,.inl (cU.of aC),rfl,?_,?_}
 ·rcases J with rfl|rfl|rfl|rfl|rfl <;> rfl
 rw[if_neg j4,no];w_on;refine cE fun l7 h7=>?_;have S:=aJ.new (o:=.lst [.bl false]) h7;apply yU (S _ _ (O _ _ (D _ _ (B _ _ aC)))) aC (A3 rfl) fun l8 I=>?_;have sA:=M.trans (t.trans (N.trans (B.trans (D.trans (O.trans S)))));exact q l8 _ (sA.free I) (sA.trans (aJ.new I)) aC
theorem Cb:bZ P w K mg base (k+1) "_law_only" ["_law_place"] FT:=by
 refine bZ.of vE.d53 Aj (by walk_at"ln") fun f O A I s H X Q E M h=>?_;obtain ⟨i,U,rfl,D,q⟩:=h;refine {_,(aH (aU (eJ (cM (aG JO) ["_law_place"] ["_law_k"] ["_law_place"] [0]) rfl (iI rfl T.z_range (aA aE aB)) (fun _ _ _ _=>(Zn ["_law_k","_law_place"] 0)) (fun _ _ _ _=>(Ge (gU (dS M.units) (pv 0) (pv 1)) (mM (gU (dS M.units) (pv 0) aE)))) (fun _ _ _ _=>eG)))),?_}
 try dsimp only[aV,bC]
 obtain ⟨D,rfl⟩:=D;have R:DV i=(E7 7).map fun j=>decide (((j:Nat):Int)=mW i)||decide (((j:Nat):Int)=5):=by rcases D with rfl|rfl|rfl|rfl|rfl <;> decide
 w_on;refine mG (by decide) (by decide) ?_;refine Az (n:=7) (by decide) (fun g j B G=>Kp g H G/\B=((E7 j).map fun j=>decide (((j:Nat):Int)=mW i)||decide (((j:Nat):Int)=5)).map V.bl) (fun g t=>{Kp.new t,rfl}) ?_ ?_
 ·rintro g j B G t S J C ⟨kp,rfl⟩;have m:∀b,b=(decide (((j:Nat):Int)=mW i)||decide (((j:Nat):Int)=5))->yP 7 g (fun j B G=>Kp g H G/\B=((E7 j).map fun j=>decide (((j:Nat):Int)=mW i)||decide (((j:Nat):Int)=5)).map V.bl) (((E7 j).map fun j=>decide (((j:Nat):Int)=mW i)||decide (((j:Nat):Int)=5)).map V.bl) j (.bl b) G:=fun b e=>by
   refine gD S J C {kp.trans Kp.upd,?_};rw[wk,z9,z9,e];rfl
  w_on;rw[oq];refine mX (fun c=>?_) (fun c=>?_)
  ·exact m true (by rw[decide_eq_true c];rfl)
  ·w_on;refine m _ ?_;rw[decide_eq_false c];rfl
 ·rintro g B G t C J ⟨kp,rfl⟩;w_on;refine q g G t (fun b o e=>kp _ _ (aD e t) e) ?_;rw[R];exact C
include o1i o0s o0w o0v o1q in
theorem WS:bZ P w K mg base (k+1) "_law_asked" ["_law_hall_here","_law_row"] (MY K cC):=by
 refine bZ.of vE.d54 rV (by walk_at"ln") fun f h' A g' s H vs Q E O h=>?_;obtain ⟨h,pr,Y,ln,lp,lt,vm,X,w,v,i,m,n,ps,ts,D,M,U,mo,ys,rfl,e',ho,hI,hM,hm,zm,hT,Z,b',f',q⟩:=h;refine {_,(aF (dL 2 rV.nd (bQ aB))
   (aF (Jg (i:=3) rfl rfl rfl rfl W.t rV.nd rfl rfl (VS (fun _ _ z=>z) (aW (dS O.units) (aN aS (pv 1) aE) aL) (vJ (CV o0v HC.cl rfl (fun _ _ z=>z) O (pv 0) (aA (aN aS (pv 1) aE) aB))) (VS (fun _ _ z=>z) (aW (dS O.units) (aN aS (pv 1) aE) aL) (vJ (CV o0w HC.cl rfl (fun _ _ z=>z) O (pv 0) (aA (aN aS (pv 1) aE) aB))) (VS (fun _ _ z=>z) (aW (dS O.units) (aN aS (pv 1) aE) aL) (vJ (CV o0s HC.cl rfl (fun _ _ z=>z) O (pv 0) (aA (aN aS (pv 1) aE) aB))) (vJ (CV o1i HC.cl rfl (fun _ _ z=>z) O (pv 0) (aA (aN aS (pv 1) aE) aB)))))) (fun y=>(aH (dL 2 rV.nd (WG o1q (O.h _) rfl rfl (aA (pv 3) aB))))))
   (aH (aU (pv 2))))),?_}
 try dsimp only[aV,bC]
 w_on;refine cE fun l0 d'=>?_;have g:=aJ.new (o:=.lst []) d';have G:=g _ _ ho;have S:=hI.sm g;have M1:=hM.mv (fun o e=>g _ _ e) g.tk;have C:=hm.tk g.tk;have i':=g _ _ e';have T1:LT _:=rH.same hT g;generalize L2.upd H l0 (.lst [])=H1 at *;rcases f' with ⟨rfl,rfl,R⟩|⟨rfl,rfl,y0,rfl,a',hc⟩|⟨rfl,rfl,R⟩|⟨rfl,rfl,kk,r,rfl,O,hs⟩|⟨rfl,rfl,R⟩|⟨rfl,rfl,R⟩
 ·w_on;apply nN ?_;apply oW (beq_self_eq_true _) ?_;rcases R with R|⟨y0,rfl,a'⟩
  ·refine {h,Y,ln,lp,lt,vm,X,_,m,n,ps,ts,D,M,U,mo,ys,rfl,G,S,M1,C,zm,Z,.inl {R _ g,?_}};apply qL R6.t fun y B=>?_;apply {x6,6,rfl,by decide,aC,R6,fun N I c sm J=>?_};exact q N I (g.free ((aJ.new B).free c)) ((g.trans (aJ.new B)).trans sm) J
  ·refine {h,Y,ln,lp,lt,vm,X,_,m,n,ps,ts,D,M,U,mo,ys,rfl,G,S,M1,C,zm,Z,.inr {y0,rfl,.inl {a',?_}}};apply qL R6.t fun y B=>?_;apply {x6,6,rfl,by decide,aC,R6,fun N I c sm J=>?_};exact q N I (g.free ((aJ.new B).free c)) ((g.trans (aJ.new B)).trans sm) J
 ·w_on;apply nN ?_;apply oW (beq_self_eq_true _) ?_;refine {h,Y,ln,lp,lt,vm,X,_,m,n,ps,ts,D,M,U,mo,ys,rfl,G,S,M1,C,zm,Z,.inr {y0,rfl,.inr (.inl {a',hc,?_})}};apply qL R7.t fun y B=>?_;apply {x7,7,rfl,by decide,aC,R7,fun N I c sm J=>?_};exact q N I (g.free ((aJ.new B).free c)) ((g.trans (aJ.new B)).trans sm) J
 ·w_on;apply nN ?_;apply gC (by k_is) ?_;apply nN ?_;apply oW (beq_self_eq_true _) ?_;refine {h,Y,ln,lp,lt,vm,X,_,m,n,ps,ts,D,M,U,mo,ys,rfl,G,S,M1,C,zm,b',.inl {R _ g,?_}};apply qL R8.t fun y B=>?_;apply {x8,8,rfl,by decide,aC,R8,fun N I c sm J=>?_};exact q N I (g.free ((aJ.new B).free c)) ((g.trans (aJ.new B)).trans sm) J
 ·w_on;apply nN ?_;apply gC (by k_is) ?_;apply nN ?_;apply oW (beq_self_eq_true _) ?_;refine {h,Y,ln,lp,lt,vm,X,_,m,n,ps,ts,D,M,U,mo,ys,rfl,G,S,M1,C,zm,b',.inr {kk,r,rfl,O,.inl {hs,fun H2 s2=>?_}}};have c':=g.trans s2;apply qL R9.t fun y B=>?_;apply {x9,9,rfl,by decide,aC,R9,fun N I c sm J=>?_};exact q N I (c'.free ((aJ.new B).free c)) ((c'.trans (aJ.new B)).trans sm) J
 ·w_on;apply nN ?_;apply gC (by k_is) ?_;apply nN ?_;apply gC (by k_is) ?_;apply nN ?_;apply oW (beq_self_eq_true _) ?_;refine {h,Y,ln,lp,lt,vm,X,_,m,n,ps,ts,D,M,U,mo,ys,rfl,G,S,M1,C,zm,.inl {R _ g,?_}};apply qL R8.t fun y B=>?_;apply {x8,8,rfl,by decide,aC,R8,fun N I c sm J=>?_};exact q N I (g.free ((aJ.new B).free c)) ((g.trans (aJ.new B)).trans sm) J
 ·w_on;apply nN ?_;apply gC (by k_is) ?_;apply nN ?_;apply gC (by k_is) ?_;apply nN ?_;apply gC (by k_is) ?_;refine {h,Y,ln,lp,lt,vm,X,_,m,n,ps,ts,D,M,U,mo,ys,rfl,G,S,M1,C,zm,T1,.inl {R _ g,?_}};apply qL R0.t fun y B=>?_;apply {x0,0,rfl,by decide,aC,R0,fun N I c sm J=>?_};exact q N I (g.free ((aJ.new B).free c)) ((g.trans (aJ.new B)).trans sm) J
include o2c in
theorem xP:bZ P w K mg base (k+1) "_law_refused_row" ["_law_here_here","_law_due_here","_law_number_here"] (AC K):=by
 refine bZ.of vE.d55 cO (by walk_at"ln") fun f Z' A V' s H vs Q E J h=>?_;obtain ⟨dd,d,F',U,u,I,ps,ts,ln,lr,lp,lt,g',D,rfl,hN,hI,w',ξ,du,n0,n1,q⟩:=h;refine {_,(aF (dL 3 cO.nd (aK bM (pv 2) aE))
   (aF (dL 2 cO.nd (aK bE (pv 2) aE))
   (aF (pM (i:=4) cO.nd rfl (by w_left) (cM (aG iP) ["_law_here_here","_law_due_here","_law_number_here","_law_kind","_law_gone","_law_empty","_law_some","_law_count"] ["_law_a"] ["_law_here_here","_law_due_here"] [0,1]) rfl (cL (aP (yO rfl) rfl T.z_sorted lQ (aA (pv 1) aB))) (fun _ _ _ _=>(Zn ["_law_a","_law_here_here","_law_due_here"] 0)) (fun _ _ _ _=>(aN jB (aQ J.u1 (pv 1) aL) (pv 0))) (fun _ _ _ _=>(iQ (aW ON (aQ J.u1 (pv 2) (pv 0)) (aQ J.u1 (pv 1) aL)))))
   (aF (pM (i:=5) cO.nd rfl (by w_left) (cM (aG iP) ["_law_here_here","_law_due_here","_law_number_here","_law_kind","_law_gone","_law_empty","_law_some","_law_count"] ["_law_k"] ["_law_here_here","_law_due_here"] [0,1]) rfl (iI rfl T.z_range (aA (aP fH rfl T.z_len eB (aA (aQ J.u1 (pv 0) aL) aB)) aB)) (fun _ _ _ _=>(Zn ["_law_k","_law_here_here","_law_due_here"] 0)) (fun _ _ _ _=>(pv 0)) (fun _ _ _ _=>(iQ (aW kD (aI o2c J rfl (aA (pv 1) (aA (pv 2) (aA (pv 0) (aA (aQ J.u1 (pv 1) aL) aB))))) dH))))
   (aF (cA (PW.pt (jN (aW (dS J.units) (pv 3) aE) (gM (aW (oO J.units) (pv 4) (bQ aB))))) (aH (aU (bB (aA (bB (aA aL (aA (aN aS (pv 4) (aK bM (pv 2) (aP fH rfl T.z_len eB (aA (pv 4) aB)))) aB))) (aA aE aB))))) bI)
   (aF (cA (PW.pt (jN (aW (dS J.units) (pv 3) aE) (gM (aW (oO J.units) (pv 5) (bQ aB))))) (aH (aU (bB (aA (bB (aA aL (aA (aN aS (pv 5) (aK bM (pv 2) (aP fH rfl T.z_len eB (aA (pv 5) aB)))) aB))) (aA aE aB))))) bI)
   (aF (@cA _ _ _ _ _ _ _ _ (@aW _ _ _ _ _ _ _ _ (dS J.units) (pv 3) (@aE _ _ _ _) (WV _)) (@aF _ _ _ _ _ (@VW _ _ (i:=6) _ _ _ _ cO.nd rfl (by w_left) (@bQ _ _ _ _ (@aA _ _ _ _ _ (@dH _ _ _) (@aA _ _ _ _ _ (@aE _ _ _ _) (@aA _ _ _ _ _ (@lI _ _ _ _) (@aA _ _ _ _ _ (@aL _ _ _ _) (@aA _ _ _ _ _ (@aL _ _ _ _) (@aA _ _ _ _ _ (@bQ _ _ _ _ (@aA _ _ _ _ _ (@aL _ _ _ _) aB (by rfl))) (@aA _ _ _ _ _ (@bB _ _ _ _ _ (@aA _ _ _ _ _ (@aL _ _ _ _) aB (by rfl))) (@aA _ _ _ _ _ (@aK _ _ _ _ _ _ _ _ bH (@aN _ _ _ _ _ _ _ aS (@aQ _ _ _ _ _ _ J.u1 (pv 0) (@aL _ _ _ _) (fun _ _=>rfl)) (@aE _ _ _ _) (fun _ _=>rfl)) (@aL _ _ _ _)) (@aA _ _ _ _ _ (@aL _ _ _ _) (@aA _ _ _ _ _ (@iW _ _) (@aA _ _ _ _ _ (@aL _ _ _ _) (@aA _ _ _ _ _ (@bB _ _ _ _ _ (@aA _ _ _ _ _ (@aE _ _ _ _) (@aA _ _ _ _ _ (@aE _ _ _ _) aB (by rfl)) (by rfl))) aB (by rfl)) (by rfl)) (by rfl)) (by rfl)) (by rfl)) (by rfl)) (by rfl)) (by rfl)) (by rfl)) (by rfl)) (by rfl)) (by rfl))) (by rfl) (by w_means)) (@aH _ _ _ (@aU _ _ _ _ (@bB _ _ _ _ _ (@aA _ _ _ _ _ (@bB _ _ _ _ _ (@aA _ _ _ _ _ (@aL _ _ _ _) (@aA _ _ _ _ _ (@aN _ _ _ _ _ _ _ aS (pv 6) (@aK _ _ _ _ _ _ _ _ bM (pv 2) (@aE _ _ _ _)) (fun _ _=>rfl)) aB (by rfl)) (by rfl))) (@aA _ _ _ _ _ (@aE _ _ _ _) aB (by rfl)) (by rfl)))))) (@bI _))
   (aF (@cA _ _ _ _ _ _ _ _ (@aW _ _ _ _ _ _ _ _ (dS J.units) (pv 3) (@aE _ _ _ _) (WV _)) (@aF _ _ _ _ _ (@VW _ _ (i:=7) _ _ _ _ cO.nd rfl (by w_left) (@aP _ _ _ _ _ _ _ _ _ fH rfl T.z_len eB (@aA _ _ _ _ _ (@aQ _ _ _ _ _ _ J.u1 (pv 0) (@aL _ _ _ _) (fun _ _=>rfl)) aB (by rfl)) (by decide) (by decide) (by rfl) (by rfl)) (by rfl) (by w_means)) (@aF _ _ _ _ _ (@VW _ _ (i:=6) _ _ _ _ cO.nd rfl (by w_left) (@bQ _ _ _ _ (@aA _ _ _ _ _ (@dH _ _ _) (@aA _ _ _ _ _ (@AX _ _ _ _ _ _ tM (@aE _ _ _ _)) (@aA _ _ _ _ _ (pv 7) (@aA _ _ _ _ _ (@aK _ _ _ _ _ _ _ _ bH (pv 7) (@aK _ _ _ _ _ _ _ _ bM (@aK _ _ _ _ _ _ _ _ bE (pv 2) (@aE _ _ _ _)) (@aK _ _ _ _ _ _ _ _ mO (@aE _ _ _ _) (@aE _ _ _ _)))) (@aA _ _ _ _ _ (@lI _ _ _ _) (@aA _ _ _ _ _ (@lI _ _ _ _) (@aA _ _ _ _ _ (@aL _ _ _ _) (@aA _ _ _ _ _ (@bQ _ _ _ _ (@aA _ _ _ _ _ (@aE _ _ _ _) aB (by rfl))) (@aA _ _ _ _ _ (@bB _ _ _ _ _ (@aA _ _ _ _ _ (@aE _ _ _ _) (@aA _ _ _ _ _ (@aE _ _ _ _) aB (by rfl)) (by rfl))) (@aA _ _ _ _ _ (@aK _ _ _ _ _ _ _ _ jA (@aE _ _ _ _) (pv 7)) (@aA _ _ _ _ _ (@iW _ _) (@aA _ _ _ _ _ (@aL _ _ _ _) aB (by rfl)) (by rfl)) (by rfl)) (by rfl)) (by rfl)) (by rfl)) (by rfl)) (by rfl)) (by rfl)) (by rfl)) (by rfl)) (by rfl))) (by rfl) (by w_means)) (@aH _ _ _ (@aU _ _ _ _ (@bB _ _ _ _ _ (@aA _ _ _ _ _ (@bB _ _ _ _ _ (@aA _ _ _ _ _ (@aN _ _ _ _ _ _ _ aS (@bQ _ _ _ _ (@aA _ _ _ _ _ (@aL _ _ _ _) (@aA _ _ _ _ _ (@aL _ _ _ _) aB (by rfl)) (by rfl))) (@aK _ _ _ _ _ _ _ _ bM (@aK _ _ _ _ _ _ _ _ bE (pv 2) (@aE _ _ _ _)) (@aE _ _ _ _)) (fun _ _=>rfl)) (@aA _ _ _ _ _ (@aN _ _ _ _ _ _ _ aS (pv 6) (@aK _ _ _ _ _ _ _ _ bM (pv 2) (@aE _ _ _ _)) (fun _ _=>rfl)) aB (by rfl)) (by rfl))) (@aA _ _ _ _ _ (@aE _ _ _ _) aB (by rfl)) (by rfl))))))) (@bI _))
   (aF (@VW _ _ (i:=6) _ _ _ _ cO.nd rfl (by w_left) (@bQ _ _ _ _ (@aA _ _ _ _ _ (@dH _ _ _) (@aA _ _ _ _ _ (@aE _ _ _ _) (@aA _ _ _ _ _ (@lI _ _ _ _) (@aA _ _ _ _ _ (@aL _ _ _ _) (@aA _ _ _ _ _ (@bB _ _ _ _ _ (@aA _ _ _ _ _ (@AX _ _ _ _ _ _ tM (@aE _ _ _ _)) (@aA _ _ _ _ _ (@aE _ _ _ _) aB (by rfl)) (by rfl))) (@aA _ _ _ _ _ (@bB _ _ _ _ _ (@aA _ _ _ _ _ (@aK _ _ _ _ _ _ _ _ jA (@aK _ _ _ _ _ _ _ _ jA (@aE _ _ _ _) (@aE _ _ _ _)) (@aK _ _ _ _ _ _ _ _ bM (@aK _ _ _ _ _ _ _ _ bE (pv 2) (@aE _ _ _ _)) (@aK _ _ _ _ _ _ _ _ mO (@aE _ _ _ _) (@aE _ _ _ _)))) (@aA _ _ _ _ _ (@aE _ _ _ _) aB (by rfl)) (by rfl))) (@aA _ _ _ _ _ (@bB _ _ _ _ _ (@aA _ _ _ _ _ (@aE _ _ _ _) (@aA _ _ _ _ _ (@aE _ _ _ _) aB (by rfl)) (by rfl))) (@aA _ _ _ _ _ (@bB _ _ _ _ _ (@aA _ _ _ _ _ (@aE _ _ _ _) (@aA _ _ _ _ _ (@aE _ _ _ _) aB (by rfl)) (by rfl))) (@aA _ _ _ _ _ (@bB _ _ _ _ _ (@aA _ _ _ _ _ (@aE _ _ _ _) (@aA _ _ _ _ _ (@AX _ _ _ _ _ _ tM (@aE _ _ _ _)) aB (by rfl)) (by rfl))) (@aA _ _ _ _ _ (@bQ _ _ _ _ (@aA _ _ _ _ _ (@aE _ _ _ _) (@aA _ _ _ _ _ (@aE _ _ _ _) aB (by rfl)) (by rfl))) (@aA _ _ _ _ _ (@bB _ _ _ _ _ (@aA _ _ _ _ _ (@aE _ _ _ _) aB (by rfl))) (@aA _ _ _ _ _ (@bB _ _ _ _ _ aB) aB (by rfl)) (by rfl)) (by rfl)) (by rfl)) (by rfl)) (by rfl)) (by rfl)) (by rfl)) (by rfl)) (by rfl)) (by rfl)) (by rfl))) (by rfl) (by w_means))
   (aH (aU (bB (aA (bB (aA aL (aA (aN aS (pv 6) (aK bM (pv 2) aE)) aB))) (aA aE aB)))))))))))))),?_}
 try dsimp only[aV,bC]
 obtain ⟨kd,x',qd⟩:=id w';obtain ⟨xs,p'⟩:=BF du.ky;have γ:kd.length=D.length:=qd.len;have α:=du.len;have X':=hI.n98;have β:=hI.n2;have ι:=hI.rl;have κ:xs.length=D.length:=by have:=congrArg Z6 p';rw[i8,i8]at this;exact this.symm
 have P':(eM U u I).length=I.length:=i8 ..;w_on;generalize F'%5=m';generalize F'.fdiv 5=Y;refine VC x' (qd.keys.trans p') (by lia) fun l2 ys H2 n' S g2 pm=>?_;have d':=S _ _ x';have N2:=hN.sm S;have q':=pm.length_eq;w_on;refine cK (cU.of g2) ?_;refine sL (xs:=ys.map V.int) (by rw[i8];lia) (fun C i zs G=>Kp C H2 G/\∃ss:List Str,zs=ss.map V.str/\∀s∈ss,s∈names (eM U u I)/\IM (ut u g') (mT U u D (c9 s))=true) (fun C Z=>{Kp.new Z,[],rfl,fun _ h=>nomatch h}) ?_ ?_ ?_
 ·rintro C i zs G Z _ ⟨kp,_⟩;exact cU.of (kp _ _ (aD g2 Z) g2)
 ·rintro C i zs G x Z hx B' hG ⟨kp,ss,rfl,i'⟩;have hi:=(h8.mp hx).1;rw[m5]at hx;obtain ⟨y,hy,rfl⟩:=A8.mp hx;obtain ⟨v,X⟩:=Cr p' (pm.mem_iff.mp (o0 hy));have M':=kp _ _ (aD d' Z) d';have s':=kp _ _ (aD N2.d Z) N2.d;have U':=kp _ _ (aD N2.q.nm Z) N2.q.nm;obtain ⟨v0,v1,y0,y1⟩:=du.val X;have e2:bP kd (i5 y)=some (.int v):=by
   rcases qd.val (k:=i5 y) with ⟨_,e⟩|⟨w,v',e3,e4,e5⟩
   ·rw[X]at e;cases e
   ·rw[X]at e4;cases e4;rw[e3,show w=.int v from e5]
  w_on;apply xH (.inl M') e2 ?_;apply bS (.inl s') fF ?_;refine mX (fun c=>?_) (fun c=>?_)
  ·w_on;apply bS (.inl s') fG ?_;refine eV U' (OF y0 y1) ?_;refine kZ hi B' hG {kp.trans Kp.upd,ss++[fE U y],by rw[z9];rfl,fun s hs=>?_};rcases w8.mp hs with hs|hs
   ·exact i' s hs
   ·rw[i4.mp hs];have em:mT U u D (c9 (fE U y))=some (ut u v):=by
     rw[oQ hI.nd y0 y1,X];rfl
    refine {YX (du.sn _ _ em),?_};rw[em];show (!decide (ut u g'<ut u v))=true;rw[decide_eq_false (by rw[iV hI.u0];lia)];rfl
  ·w_on;exact jR hi B' hG {kp,ss,rfl,i'}
 rintro a3 ο G3 h3 u' μ ⟨C',ss,rfl,i'⟩;have s3:aJ H2 G3:=fun b o h=>C' _ _ (aD h h3) h;have j':=S.trans s3;have N3:=hN.sm j';obtain ⟨vr,R',I'⟩:=id N3.q.rq;have Q':vr.length=I.length:=Paired.length I';w_on;apply bS (.inl N3.d) cB ?_;rw[Q'];refine mG (by lia) (by lia) ?_;refine xI (n:=I.length) (by lia) (fun C i ys G=>Kp C G3 G/\∃ks:List Nat,ys=ks.map (fun j:Nat=>V.int (j:Int))/\∀k∈ks,∃r,I[k]?=some r/\CF (mT U u D (c9 (fE U r.1))) (mT U u D (c9 (fE U r.2.1))) (dC (jE u ts) k) (ut u r.2.2) (ut u g')=none) (fun C Z=>{Kp.new Z,[],rfl,fun _ hz=>nomatch hz}) ?_ ?_
 ·rintro C i ys G Z hi q' hG ⟨kp,ks,rfl,h'⟩;have sG:aJ G3 G:=fun b o e=>kp _ _ (aD e Z) e;have s5:=j'.trans sG;have N5:=hN.sm s5;w_on;apply bS (.inl N5.d) fF ?_;rw[oq];apply {dd,U,u,I,ps,ts,ln,lr,lp,lt,d,D,i,I[i],g',rfl,hI,N5.q,w'.sm IQ.tk s5,du,i3 hi,n0,by lia,fun v G' sg lv=>?_};cases e:CF (mT U u D (c9 (fE U I[i].1))) (mT U u D (c9 (fE U I[i].2.1))) (dC (jE u ts) i) (ut u I[i].2.2) (ut u g') with
 |none=>
   rw[e]at lv;cases (show v=.non from lv);w_on;refine kZ hi q' (sg _ _ hG) {(kp.trans sg.kp).trans Kp.upd,ks++[i],by rw[z9];rfl,fun k hk=>?_};rcases w8.mp hk with hk|hk
   ·exact h' k hk
   ·rw[i4.mp hk];exact {I[i],i3 hi,e}
 |some x=>rw[e]at lv;obtain ⟨p,w1,w2,rfl,_⟩:=lv;w_on;exact jR hi q' (sg _ _ hG) {kp.trans sg.kp,ks,rfl,h'}
 rintro a5 ρ G5 h5 L' ν ⟨D',ks,rfl,h'⟩;have s5:aJ G3 G5:=fun b o h=>D' _ _ (aD h h5) h;have k':=j'.trans s5;have g3:=s5 _ _ u';have N5:=hN.sm k';obtain ⟨W',A',J'⟩:=id N5.q.rq;have z':W'.length=I.length:=Paired.length J';clear R' I' N3 u' C' D' s3 s5 j' h3 h5 N2 S g2 d' n'
 walk_at"gos"
 refine uY ?_;refine jM ?_;refine sK (fun σ F=>∃o1 o2,σ=[some (.ref dd),some (.ref d),some (.int Y),some (.int m'),some (.ref a3),some (.ref a5),o1,o2]/\aJ G5 F) ?_ ?_
 ·rintro σ F ⟨o1,o2,rfl,sF⟩;refine uY ?_;refine jM ?_;refine sK (fun σ F=>∃o1 o2,σ=[some (.ref dd),some (.ref d),some (.int Y),some (.int m'),some (.ref a3),some (.ref a5),o1,o2]/\aJ G5 F) ?_ ?_
  ·clear sF;rintro σ F ⟨o1,o2,rfl,sF⟩;have s6:=k'.trans sF;have N6:=hN.sm s6;have Y':=sF _ _ A';have e':=n9 Y (show (12:Int)≠0 by decide);have f':=m8 Y (show (0:Int)<12 by decide);w_on;refine mX (fun c=>?_) (fun c=>?_)
   ·w_on;apply mH fun l1 F1 h1 t1 g1=>?_;refine iE fun l2 F2 h2 S g2=>?_;have s2:=s6.trans (t1.trans S);w_on;apply bS (.inl (hN.sm s2).d) fG ?_;refine eV (hN.sm s2).q.nm (OF (U:=U) (i:=0) (by decide) (by lia)) ?_;have O':fE U 0∈U:=by
     obtain ⟨h,e⟩:=mQ (U:=U) (i:=0) (by decide) (by lia);rw[e];exact K7 h
    w_on;refine oK (by have:=(hI.ns _ O').2.2.2.2.2;rw[LC]at this;exact A5 (Nat.add_le_add_right this _) (by k_is)) ?_;w_on;refine oJ fun l3 h3=>?_;obtain ⟨F3,zE,t3,K'⟩:=Mf h3 (.dK []);rw[zE];w_on;apply iE fun l4 F4 h4 t4 g4=>?_;refine JQ fun l5 F5 h5 M g5=>?_;have R:=s2.trans (t3.trans (t4.trans M));have nn:∀y:Str,¬Dy y->y∉names (eM U u I):=fun y h m=>h (hI.ns y (xW hI y m));obtain ⟨v,gv,X⟩:=WB g5 e' f' (fun v=>(∀g,aJ F5 g->Dz K g v)∨∃y:Str,v=.str y/\y∉names (eM U u I)) fun v hv=>by
     simp only[w6,N9,or_false]at hv;rcases hv with rfl|rfl|rfl|rfl|rfl|rfl|rfl|rfl|rfl|rfl|rfl|rfl
     ·exact .inl fun g s=>{_,.non,uC}
     ·exact .inl fun g s=>{_,.int _,IB}
     ·exact .inl fun g s=>{_,.bl _,DU}
     ·exact .inr {_,rfl,nn _ fun h=>h.2.1 rfl}
     ·exact .inr {_,rfl,nn _ fun h=>h.2.2.1 rfl}
     ·exact .inl fun g s=>{_,.lst (s _ _ (M _ _ (t4 _ _ (t3 _ _ (S _ _ g1))))),DP}
     ·exact .inl fun g s=>{_,.tup (s _ _ (M _ _ (t4 _ _ (t3 _ _ g2)))),qD}
     ·exact .inr {_,rfl,fun m=>WW hI.ns _ (xW hI _ m)}
     ·exact .inr {_,rfl,nn _ fun h=>h.2.2.2.1 rfl}
     ·exact .inl fun g s=>{_,.dK (s _ _ (M _ _ (t4 _ _ K'))),DS}
     ·exact .inr {_,rfl,nn _ fun h=>h.2.2.2.2.1 rfl}
     ·exact .inl fun g s=>{_,.tup (s _ _ (M _ _ g4)),qD}
    w_on;apply eV g5 X ?_;apply bD fun p1 B=>?_;apply bD fun p hp=>?_;have t:=aJ.new (o:=.tup [.str "push",v]) B;refine q p p1 "push" v 6 _ ((R.trans t).free hp) ((R.trans t).trans (aJ.new hp)) aC (aO hp aC) (by decide) (.inl {rfl,rfl,?_});rcases gv with gv|gv
    ·exact .inl fun g s=>gv g ((t.trans (aJ.new hp)).trans s)
    ·exact .inr gv
   ·w_on;refine mX (fun c=>?_) (fun c=>?_)
    ·w_on;apply bS (.inl N6.d) cB ?_;rw[z'];have x0:=n9 (Y.fdiv 24) (show (1000000000:Int)≠0 by decide);generalize Y.fdiv 24%1000000000=nx at x0⊢;apply mH fun l1 F1 N' t1 g1=>?_;apply iE fun l2 F2 n' S g2=>?_;refine oJ fun l3 y'=>?_;obtain ⟨F3,zE,t3,g3⟩:=Mf y' (.dK []);rw[zE];w_on;refine JQ fun l5 F5 h5 M g5=>?_;have R:=s6.trans (t1.trans (S.trans (t3.trans M)));obtain ⟨v,gv,X⟩:=WB g5 e' f' (fun v=>∀g,aJ F5 g->BX K g v (eM U u I).length) fun v hv=>by
      intro g s;rw[P'];simp only[w6,N9,or_false]at hv;rcases hv with rfl|rfl|rfl|rfl|rfl|rfl|rfl|rfl|rfl|rfl|rfl|rfl
      ·exact .inl {_,_,_,.non,lP,kE,rfl}
      ·exact .inr {_,rfl,by lia}
      ·exact .inr {_,rfl,by lia}
      ·exact .inr {_,rfl,by lia}
      ·exact .inl {_,_,_,.bl _,mV,kY,rfl}
      ·exact .inl {_,_,_,.bl _,mV,kY,rfl}
      ·exact .inl {_,_,_,.str _,oU,mU,rfl}
      ·exact .inl {_,_,_,.lst (s _ _ (M _ _ (t3 _ _ (S _ _ g1)))),DR,zD,rfl}
      ·exact .inl {_,_,_,.tup (s _ _ (M _ _ (t3 _ _ g2))),zB,yB,rfl}
      ·exact .inr {_,rfl,by lia}
      ·exact .inl {_,_,_,.dK (s _ _ (M _ _ g3)),DT,zH,rfl}
      ·exact .inl {_,_,_,.str _,oU,mU,rfl}
     w_on;apply mH fun l6 F6 h6 t g6=>?_;obtain ⟨w,hw,ew⟩:=WA (xs:=[.str "take",.str "tiles"]) (i:=Y.fdiv 12%2) (n9 _ (by decide)) (m8 _ (by decide));apply eV g6 ew ?_;refine eV (t _ _ g5) X ?_;obtain ⟨wd,rfl,T'⟩:∃wd:Str,w=.str wd/\(wd="take"∨wd="tiles"):=by
      simp only[w6,N9,or_false]at hw;rcases hw with rfl|rfl
      ·exact {_,rfl,.inl rfl}
      ·exact {_,rfl,.inr rfl}
     w_on;apply bD fun p1 B=>?_;apply bD fun p hp=>?_;have O:=aJ.new (o:=.tup [.str wd,v]) B;have t':∀g,aJ (L2.upd (L2.upd F6 p1 (.tup [.str wd,v])) p (.tup [.ref p1,.int 3])) g->BX K g v (eM U u I).length:=fun g s=>gv g ((t.trans (O.trans (aJ.new hp))).trans s);refine q p p1 wd v 8 _ ((R.trans (t.trans O)).free hp) ((R.trans (t.trans O)).trans (aJ.new hp)) aC (aO hp aC) (by decide) ?_;rcases T' with rfl|rfl
     ·exact .inr (.inr (.inl {rfl,rfl,t'}))
     ·exact .inr (.inr (.inr (.inr (.inl {rfl,rfl,t'}))))
    ·w_on;apply iE fun l1 F1 N' t1 g1=>?_;have x0:=n9 (Y.fdiv 12) (show (1000000000:Int)≠0 by decide);have x1:=m8 (Y.fdiv 12) (show (0:Int)<1000000000 by decide);generalize Y.fdiv 12%1000000000=nx at x0 x1⊢;apply iE fun l2 F2 n' S g2=>?_;apply iE fun l3 F3 y' t3 g3=>?_;apply iE fun l4 F4 δ t4 g4=>?_;apply iE fun l5 F5 ε M g5=>?_;apply mH fun l6 F6 ζ t g6=>?_;apply iE fun l7 F7 η O g7=>?_;apply iE fun l8 F8 θ t8 g8=>?_;refine JQ fun l9 F9 h9 t9 g9=>?_;have R:=s6.trans (t1.trans (S.trans (t3.trans (t4.trans (M.trans (t.trans (O.trans (t8.trans t9))))))));have l':∀z:Int,z.natAbs<=10^30->Sm 8000 z:=fun z h=>E3 h (by decide);have E':∀(g:Hp)(p:c8)(a:Int),g p=some (.tup [.int a,.int 1])->a<0->a.natAbs<=10^30->vF K g (.ref p) false:=fun g p a e h h2=>by
      have:=vF.fr (K:=K) e (by show (decide ((1:Int)<=1)&&decide (n6 a 1=1))=true;rw[Int.gcd_one_right];rfl) (l' a h2) (l' 1 (by decide));rw[decide_eq_false (by lia)]at this;exact this
     have r':∀(g:Hp)(p:c8)(a b:Int),g p=some (.tup [.int a,.int b])->Lc (.int a) (.int b)=false->a.natAbs<=10^30->b.natAbs<=10^30->vF K g (.ref p) false:=fun g p a b e h h1 h2=>.no (.inr (.inr {p,_,_,rfl,e,rfl,rfl,(fun a' b' e1 e2=>by cases e1;cases e2;exact {l' _ h1,l' _ h2}),h.symm}));obtain ⟨v,gv,X⟩:=WB g9 e' f' (fun v=>∀g,aJ F9 g->vF K g v false) fun v hv=>by
      intro g s;simp only[w6,N9,or_false]at hv;rcases hv with rfl|rfl|rfl|rfl|rfl|rfl|rfl|rfl|rfl|rfl|rfl|rfl
      ·exact .no (.inl {.non,rfl})
      ·exact .no (.inl {.int _,rfl})
      ·exact .no (.inl {.bl _,rfl})
      ·exact .no (.inl {.str _,rfl})
      ·exact E' g _ _ (s _ _ (t9 _ _ (t8 _ _ (O _ _ (t _ _ (M _ _ (t4 _ _ (t3 _ _ (S _ _ g1))))))))) (by decide) (by decide)
      ·exact E' g _ _ (s _ _ (t9 _ _ (t8 _ _ (O _ _ (t _ _ (M _ _ (t4 _ _ (t3 _ _ g2)))))))) (by lia) (by lia)
      ·exact r' g _ _ _ (s _ _ (t9 _ _ (t8 _ _ (O _ _ (t _ _ (M _ _ (t4 _ _ g3))))))) (by k_is) (by decide) (by decide)
      ·exact r' g _ _ _ (s _ _ (t9 _ _ (t8 _ _ (O _ _ (t _ _ (M _ _ g4)))))) (by k_is) (by decide) (by decide)
      ·exact r' g _ _ _ (s _ _ (t9 _ _ (t8 _ _ (O _ _ (t _ _ g5))))) (by k_is) (by decide) (by decide)
      ·exact .no (.inl {.lst (s _ _ (t9 _ _ (t8 _ _ (O _ _ g6)))),rfl})
      ·exact .no (OY 1 (s _ _ (t9 _ _ (t8 _ _ g7))) rfl (by decide))
      ·exact .no (OY 0 (s _ _ (t9 _ _ g8)) rfl (by decide))
     w_on;apply eV g9 X ?_;apply bD fun p1 B=>?_;apply bD fun p hp=>?_;have O:=aJ.new (o:=.tup [.str "go",v]) B;exact q p p1 "go" v 0 _ ((R.trans O).free hp) ((R.trans O).trans (aJ.new hp)) aC (aO hp aC) (by decide) (.inr (.inr (.inr (.inr (.inr {rfl,rfl,fun g s=>gv g ((O.trans (aJ.new hp)).trans s)})))))
  ·intro NX c';w_on;refine mX (fun c=>?_) (fun c=>?_)
   ·w_on;refine cE fun l9 o'=>?_;have s9:=aJ.new (o:=.lst []) o';have g9:=s9 _ _ (sF _ _ L');apply KD g9 aC ?_;by_cases hw:ks=[]
    ·subst hw;w_on;exact c' _ _ {_,_,rfl,sF.trans s9}
    ·have S':0<ks.length:=Q9.mpr hw;rw[V8.mpr hw];generalize L2.upd F l9 (.lst [])=G9 at s9 g9⊢;w_on;rw[i8];refine lE (by lia) ?_;obtain ⟨k,hk,ek⟩:=JU (z:=Y) hw;apply eV g9 ek ?_;apply bD fun p1 B=>?_;apply bD fun p hp=>?_;have R:=(k'.trans sF).trans s9;have t:=aJ.new (o:=.tup [.str "take",.int (k:Int)]) B;obtain ⟨r,J,hs⟩:=h' k hk;refine q p p1 "take" _ 9 _ ((R.trans t).free hp) ((R.trans t).trans (aJ.new hp)) aC (aO hp aC) (by decide) (.inr (.inr (.inr (.inl {rfl,rfl,k,(fE U r.1,fE U r.2.1,ut u r.2.2),rfl,?_,hs}))));unfold eM;rw[m5,J];rfl
   ·w_on;exact c' _ _ {_,_,rfl,sF}
 ·intro NX c';w_on;refine mX (fun c=>?_) (fun c=>?_)
  ·w_on;refine cE fun l9 o'=>?_;have s9:=aJ.new (o:=.lst []) o';have g9:=s9 _ _ g3;apply Ke g9 aC ?_;by_cases hw:ss=[]
   ·subst hw;w_on;exact c' _ _ {_,_,rfl,s9}
   ·have S':0<ss.length:=Q9.mpr hw;rw[V8.mpr hw];generalize L2.upd G5 l9 (.lst [])=G9 at s9 g9⊢;w_on;rw[i8];refine lE (by lia) ?_;obtain ⟨v,hv,X⟩:=WA (xs:=ss.map V.str) (i:=Y%(ss.length:Int)) (n9 _ (by lia)) (by rw[i8];exact m8 _ (by lia));refine eV g9 X ?_;obtain ⟨s,hs,rfl⟩:=u8.mp hv;obtain ⟨k1,k2⟩:=i' s hs;w_on;apply bD fun p1 B=>?_;apply bD fun p hp=>?_;have R:=k'.trans s9;have t:=aJ.new (o:=.tup [.str "push",.str s]) B;exact q p p1 "push" _ 7 _ ((R.trans t).free hp) ((R.trans t).trans (aJ.new hp)) aC (aO hp aC) (by decide) (.inr (.inl {rfl,rfl,s,rfl,k1,k2}))
  ·w_on;exact c' _ _ {_,_,rfl,aJ.refl _}
include o0f in
theorem xT:jG rL P w K mg base (k+1) cC "fallen" ["self"] (GC cC):=by
 refine jG.of vE.d56 wZ (by walk_at"ln") fun f n' A j' s H vs Q E hr h=>?_;obtain ⟨h,dx,ln,lp,lt,vm,g,m,n,ps,ts,D,M,U,mo,ys,rfl,ho,hI,hM,hm,zm,q⟩:=h;refine {_,(aH (aU (jI (rE rfl) rfl T.z_dict EI (aA (WF (cM (aG kO) ["self"] ["post","moment"] ["self"] [0]) rfl (dQ (pv 0) dO) (fun _ _ _ _=>(mK (n:=2) rfl (bA (Zn ["post","moment","self"] 0) (bA (Zn ["post","moment","self"] 1) eI)))) (fun _ _ _ _=>(bB (aA (pv 0) (aA (pv 1) aB)))) (fun _ _ _ _=>(iQ (eA (sO o0f HC.cl hr lJ (pv 2) (aA (pv 1) aB)))))) aB)))),?_}
 try dsimp only[aV,bC]
 have dq:=hM.dq;obtain ⟨kd,t,qd⟩:=id dq;have z8:Sz 8000 m:=(hI.R.sz (zm.mono (by lia))).mono (by decide);have p':ys.length<=200:=A5 (kR hM.nd fun x hx=>hI.nm x ((hM.mem x).mp hx)) hI.u2;have g':kd.length=ys.length:=by rw[qd.len,i8]
 w_on;apply Ba g (.dK t) ?_;refine {g,rfl,rfl,kd,t,fun o=>?_};have xh:h≠g:=fun z=>by rw[z,t]at ho;cases ho
 have s0:TK H (L2.upd H g (.frz o (.dK kd))):=TK.dic t;have b':L2.upd H g (.frz o (.dK kd)) h=_:=aY xh ho;refine VL (by lia) (fun c i zs G=>Kp c (L2.upd H g (.frz o (.dK kd))) G/\Paired (vY G) zs (fallen m mo (ys.take i))) (fun c C=>{Kp.new C,.nil}) ?_ ?_ ?_
 ·intro c i zs G C _ ⟨kp,_⟩;exact kp _ _ (aD aC C) aC
 ·intro c i zs G T k v C hx B hG hT ⟨kp,pr⟩;obtain ⟨⟨k',o'⟩,hy,ek,ov⟩:=Paired.at qd hx;rw[m5]at hy;cases hy1:ys[i]? with
 |none=>rw[hy1]at hy;cases hy
 |some y=>
   rw[hy1]at hy;cases hy;cases (show k=c9 y from ek);have hi:i<ys.length:=(h8.mp hy1).1;have m':TK H G:=s0.trans fun p xs e=>kp _ _ (aD e C) e;have e':TK H (L2.upd G T (.tup [kV (c9 y),v])):=m'.trans (TK.new hT);have i':L2.upd G T (.tup [kV (c9 y),v]) h=some (.ins cC dx (cF ln lp lt vm g)):=aO hT (kp _ _ (aD b' C) b');have Z:ys.take (i+1)=ys.take i++[y]:=by rw[B5 hi];rw[i3 hi]at hy1;rw[j5 hy1]
   have I:=aO (o:=.tup [kV (c9 y),v]) hT hG;have S:Kp c (L2.upd H g (.frz o (.dK kd))) (L2.upd G T (.tup [kV (c9 y),v])):=Kp.trans kp fun b o _ e=>aO hT e;have Y:=Pd.imp pr fun w x f=>vY.tk f (TK.new (o:=.tup [kV (c9 y),v]) hT);have X:=fM.tk ov e';have h':=hm.tk e';generalize L2.upd G T (.tup [kV (c9 y),v])=G1 at *;w_on;apply {h,dx,ln,lp,lt,vm,g,v,m,mo (c9 y),rfl,i',h',X,z8,fun r e=>(hI.R.sz (hM.bd _ r e)).mono (by decide),?_};cases e:mo (c9 y) with
  |none=>
    w_on;refine jR (by lia) B I {S,?_};rw[Z,iT,qZ,e];dsimp only;rw[L0];exact Y
  |some r=>
    show if (!decide (m<r))=true then _ else _
    by_cases hc:m<r
    ·rw[decide_eq_true hc];w_on;refine jR (by lia) B I {S,?_};rw[Z,iT,qZ,e];dsimp only;rw[if_pos hc,L0];exact Y
    ·rw[decide_eq_false hc];w_on;refine bD fun t1 O=>?_;have a':=aO (o:=.tup [kV (c9 y),v]) O I;refine kZ (by lia) B a' {Kp.trans (Kp.trans S (fun b o _ e=>aO O e)) Kp.upd,?_};have tk:TK (L2.upd G1 t1 (.tup [kV (c9 y),v])) (L2.upd (L2.upd G1 t1 (.tup [kV (c9 y),v])) c (.lst (zs++[.ref t1]))):=TK.lst a';have d':=(TK.new (o:=.tup [kV (c9 y),v]) O).trans tk;rw[Z,iT,qZ,e];dsimp only;rw[if_neg hc];rw[e]at X;exact Pd.snoc (Pd.imp Y fun v x f=>vY.tk f d') {t1,v,rfl,tk _ _ aC,cI.tk X d'}
 ·intro c zs G C hG B ⟨kp,pr⟩;rw[g',K4]at pr;have sG:aJ H (melt g G):=DK t (fun b o e=>kp _ _ (aD e C) e);have f':melt g G c=some (.lst zs):=gZ (fun _ _ z=>nomatch z) hG;have l':=Pd.imp pr fun v x f=>vY.tk f (TK.melt (a:=g));generalize melt g G=G1 at *;obtain ⟨k0,pa,c'⟩:=sQ (R:=cI) (Pd.imp l' fun v x ⟨p,u,e,hp,f⟩=>{p,u,e,hp,f});w_on;refine {c,zs,k0,rfl,f',pa,by lia,fun dR J=>?_};rw[lM (by rw[Q3,c'.keys];exact kH hM.nd),Q3];w_on;exact q dR _ (sG.free J) (sG.trans (aJ.new J)) {k0,aC,c'.imp fun v b f=>f.tk (TK.new J)}
theorem HU:jG rL P w K mg base (k+1) cC "now" ["self"] (Eu cC):=by
 refine jG.of vE.d57 GV (by walk_at"ln") fun f g A c s H I Q E B h=>?_;obtain ⟨h,o,ln,C,D,G,m,rfl,t,q⟩:=h;refine {_,(aH (aU (dQ (pv 0) dO))),?_}
 try dsimp only[aV,bC]
 w_on;exact q
include o0s o0o o1c in
theorem Bz:bZ P w K mg base (k+1) "_law_told" ["_law_hall_here","_law_here_here","_law_number_here"] (FM cC):=by
 refine bZ.of vE.d58 NB (by walk_at"ln") fun f o' A m' s H vs Q E hr h=>?_;obtain ⟨h,dd,dx,a',b',c',vm,dm,c,m,n,ps,ts,D,M,U,mo,ys,U',u,C,w',x',ln,lr,lp,lt,v',rfl,ho,hI,hM,hm,zm,hN,t',s',q⟩:=h;refine {_,(aF (dL 3 NB.nd (bQ (aA (aK bM (pv 2) (aP fH rfl T.z_len eB (aA (aQ hr.u1 (pv 1) aL) aB))) (aA (aK bM (aK bE (pv 2) aE) (aP fH rfl T.z_len eB (aA (aQ hr.u1 (pv 1) aL) aB))) aB))))
   (aH (aU (bQ (aA (qR o1c HC.cl hr lJ (pv 0)) (aA (qR o0o HC.cl hr lJ (pv 0)) (aA (eJ (cM (aG JN) ["_law_hall_here","_law_here_here","_law_number_here","_law_some"] ["_law_k"] ["_law_hall_here"] [0]) rfl (cL (pv 3)) (fun _ _ _ _=>(Zn ["_law_k","_law_hall_here"] 0)) (fun _ _ _ _=>(sO o0s HC.cl hr OK (pv 1) (aA (pv 0) aB))) (fun _ _ _ _=>eG)) aB))))))),?_}
 try dsimp only[aV,bC]
 obtain ⟨vr,u',n'⟩:=id hN.q.rq;have j':vr.length=C.length:=Paired.length n';have p':n.length<=120:=by have:=hI.nq.len;unfold kn at this;rw[i8]at this;exact this
 have e':(0:Int)<C.length:=by lia
 have m1:=n9 c (b:=(C.length:Int)) (by lia);have m2:=m8 c e';have m3:=n9 (c.fdiv 7) (b:=(C.length:Int)) (by lia);have m4:=m8 (c.fdiv 7) e';w_on;apply bS (.inl hN.d) cB ?_;apply bS (.inl hN.d) cB ?_;rw[j'];refine cE fun l0 i'=>?_;obtain ⟨t,e1⟩:∃t:Nat,c%(C.length:Int)=t:={(c%(C.length:Int)).toNat,by lia}
 obtain ⟨B,e2⟩:∃B:Nat,c.fdiv 7%(C.length:Int)=B:={(c.fdiv 7%(C.length:Int)).toNat,by lia}
 have t1:(c%(C.length:Int)).toNat=t:=by lia
 have t2:(c.fdiv 7%(C.length:Int)).toNat=B:=by lia
 have g':t<n.length:=by lia
 have h':B<n.length:=by lia
 rw[e1,e2];have s1:=aJ.new (o:=.lst [.int (t:Int),.int (B:Int)]) i';have g1:L2.upd H l0 (.lst [.int (t:Int),.int (B:Int)]) l0=_:=aC;have X:=s1 _ _ ho;generalize L2.upd H l0 (.lst [.int (t:Int),.int (B:Int)])=H1 at *;w_on;apply {h,dx,a',b',c',vm,dm,rfl,X,?_};refine {h,dx,a',b',c',vm,dm,m,n,ps,ts,D,M,U,mo,ys,rfl,X,hI.sm s1,hM.mv (fun o e=>s1 _ _ e) s1.tk,hm.tk s1.tk,zm,fun d H2 hd s2 dq=>?_};have q':=s2 _ _ X;have f':=s1.trans s2;w_on;refine cK (cU.of (s2 _ _ g1)) ?_;refine mI (xs:=[.int (t:Int),.int (B:Int)]) (A3 rfl) (fun g i zs G=>Kp g H2 G/\((i=0/\zs=[])∨(i=1/\∃I,zs=[I]/\iY G I (Kl n mo ts m t))∨(i=2/\∃I w2,zs=[I,w2]/\iY G I (Kl n mo ts m t)/\iY G w2 (Kl n mo ts m B)))) (fun g S=>{Kp.new S,.inl {rfl,rfl}}) ?_ ?_ ?_
 ·intro g i zs G S _ ⟨kp,_⟩;exact cU.of (kp _ _ (aD (s2 _ _ g1) S) (s2 _ _ g1))
 ·intro g i zs G x S Y Z hG ⟨kp,hz⟩;have sG:aJ H2 G:=fun b o e=>kp _ _ (aD e S) e;have s3:=f'.trans sG;have J:∀(kk:Nat),kk<n.length->∀R:V->Hp->Prop,(∀w O,aJ G O->iY O w (Kl n mo ts m kk)->R w O)->CH K cC x8 [.ref h,.int (kk:Int)] G R E0:=fun kk d' R hR=>by
   refine {h,dx,a',b',c',vm,dm,_,m,n,ps,ts,D,M,U,mo,ys,rfl,s3 _ _ ho,hI.sm s3,hM.mv (fun o e=>s3 _ _ e) s3.tk,hm.tk s3.tk,zm,.inr {kk,n[kk],rfl,i3 d',fun w O sg lv=>hR w O sg ?_}};unfold Kl;rw[i3 d'];exact lv
  have r':=s3 _ _ ho
  match i,Y with
 |0,Y=>
   cases Y;rcases hz with ⟨_,rfl⟩|⟨z,_⟩|⟨z,_⟩
   ·w_on;apply J t g' _ fun w O sg lv=>?_;have tk:=TK.lst (o:=.lst ([]++[w])) (sg _ _ hG);exact gD (A3 rfl) Z (sg _ _ hG) {(kp.trans sg.kp).trans Kp.upd,.inr (.inl {rfl,w,rfl,lv.tk tk})}
   ·cases z
   ·cases z
 |1,Y=>
   cases Y;rcases hz with ⟨z,_⟩|⟨_,I,rfl,lw⟩|⟨z,_⟩
   ·cases z
   ·w_on;apply J B h' _ fun w O sg lv=>?_;have tk:=TK.lst (o:=.lst ([I]++[w])) (sg _ _ hG);exact gD (A3 rfl) Z (sg _ _ hG) {(kp.trans sg.kp).trans Kp.upd,.inr (.inr {rfl,I,w,rfl,lw.tk (sg.tk.trans tk),lv.tk tk})}
   ·cases z
 |i+2,Y=>simp at Y
 ·intro g zs G S hG Z ⟨kp,hz⟩;rcases hz with ⟨z,_⟩|⟨z,_⟩|⟨_,I,w2,rfl,k',l'⟩
  ·cases z
  ·cases z
  have sG:aJ H2 G:=fun b o e=>kp _ _ (aD e S) e;w_on;apply cE fun l hl=>?_;have s4:=aJ.new (o:=.lst [vm,.ref d,.ref g]) hl;have sA:=(f'.trans sG)
  exact q l d g I w2 _ (sA.free hl) (sA.trans s4) aC (dq.sm cI.tk (sG.trans s4)) (s4 _ _ hG) (by rw[t1];exact k'.tk s4.tk) (by rw[t2];exact l'.tk s4.tk)
include o0j in
theorem tZ:jG rL P w K mg base (k+1) cC "__init__" ["self","net"] (wQ cC):=by
 refine jG.of vE.d59 tS (by walk_at"ln") fun f h' A g' s H vs Q E hr h=>?_;obtain ⟨h,dx,l,n,D,M,U,rfl,ho,c,hR,hU,N,q⟩:=h;refine {_,(aF (qN (pv 0) (jI Ln rfl T.z_list PJ (aA (pv 1) aB)) rfl)
   (aF (qN (pv 0) (bQ aB) rfl)
   (aF (qN (pv 0) (bQ aB) rfl)
   (aF (qN (pv 0) (bB (aA aE (aA aE aB))) rfl)
   (aH (qN (pv 0) (WH o0j hr rfl (aA (dQ (pv 0) dO) (aA (bQ aB) aB))) rfl)))))),?_}
 try dsimp only[aV,bC]
 obtain ⟨vn,a',R⟩:=id c.lq;w_on;apply Qe a' fun ln O=>?_;obtain ⟨G1,e1,k1,n1,o1,x1⟩:=CG (o:=.lst vn) (fs':=gN "net" (.ref ln) []) O ho;rw[e1];apply cE fun B m=>?_;obtain ⟨G2,e2,k2,n2,o2,x2⟩:=CG (o:=.lst []) (fs':=gN "pushes" (.ref B) (gN "net" (.ref ln) [])) m o1;rw[e2];apply cE fun I g=>?_;obtain ⟨G3,e3,k3,n3,o3,x3⟩:=CG (o:=.lst []) (fs':=gN "takings" (.ref I) (gN "pushes" (.ref B) (gN "net" (.ref ln) []))) g o2;rw[e3];apply bD fun p hp=>?_;obtain ⟨J,e4,X,n4,o4,x4⟩:=CG (o:=.tup [.int 0,.int 1]) (fs':=gN "moment" (.ref p) (gN "takings" (.ref I) (gN "pushes" (.ref B) (gN "net" (.ref ln) [])))) hp o3;rw[e4];have b':B≠ln:=fun z=>by rw[z,n1]at m;cases m
 have m2:=k2.app1 x1 n1;have c':I≠ln:=fun z=>by rw[z,m2]at g;cases g
 have d':I≠B:=fun z=>by rw[z,n2]at g;cases g
 have m4:=X.app1 x1 (k3.app1 x1 m2);have p4:=X.app1 x2 (k3.app1 x2 n2);have t4:=X.app1 x3 n3;have Y:=k1.trans (k2.trans (k3.trans X));clear e1 e2 e3 e4;apply cE fun l2 Z=>?_;have s5:=aJ.new (o:=.lst []) Z;have i':∀{b:c8}{o:HO},b≠h->H b=some o->J b=some o:=fun n e=>Y.app1 n e;have t0:TK H J:=Y.tk fun b hb xs e=>by rw[i4.mp hb,ho]at e;cases e
 have f':tJ J ln (kn n) D M:={{vn,m4,Pd.imp R fun v b f=>nE.tk f t0},c.len,c.bd,c.pos}
 refine {ln,n,l2,[],.non,[],D,M,U,rfl,f'.sm s5,{{[],aC,.nil},C9 _,(fun _ z=>nomatch z)},{.inl {rfl,rfl},C9 _,(fun _ z=>nomatch z)},hR.r8,hU,N,fun S H1 F ys hd s1 dq fo bF nd e'=>?_};have C:=s5.trans s1;have o5:=C _ _ o4;have t:J S=none:=s5.free hd;have xd:S≠h:=fun z=>by rw[z,o4]at t;cases t
 have t6:TK J (L2.upd H1 h (.ins cC dx (cF ln B I (.ref p) S))):=C.tk.trans (wC o5);w_on;have fr:∀{b:c8}{G:Hp},b≠h->jT [h] H G->G b=none->H b=none:=fun n k e=>k.fr (fun z=>n (i4.mp z)) e;refine q _ ln B I (.ref p) S _ ys (Y.trans ((aJ.kpL C).trans (.upd (.head _)))) O (fr x2 k1 m) (fr x3 (k1.trans k2) g) (fr xd Y t) aC {p,rfl,aY x4 (C _ _ n4)} {{{vn,aY x1 (C _ _ m4),Pd.imp R fun v b f=>nE.tk f (t0.trans t6)},c.len,c.bd,c.pos},{{[],aY x2 (C _ _ p4),.nil},C9 _,(fun _ z=>nomatch z)},{[],aY x3 (C _ _ t4),.nil},C9 _,(fun _ z=>nomatch z),hR,hU,N,q7 b',q7 c',q7 d'} ((dJ.of dq fo bF nd e').mv (fun o z=>aY xd z) (wC o5))
include o1m o2f o2e o2a o1k o2b o2g o2h o1z o1p o0l o0o o1w o0g in
theorem Jz{f:c8}{fd:K6}(F:Rz K "law" "law" rW f fd):nG P w K mg base rL (k+1) f fd ["_law_script"] (MP K):=by
 refine F.ok kN (by walk_at"ln") fun Ω A ω s H vs Q E O h=>?_;obtain ⟨a,ns,rfl,hS,β,hT,q⟩:=h;refine {_,(aF (dL 1 kN.nd (aI o2a O rfl (aA (pv 0) aB)))
   (aF (dL 2 kN.nd (Jm o0g HC.mks HC.kp O lJ rfl HC.m (aA (aI o2f O rfl (aA (pv 1) aB)) aB)))
   (aF (gB A6 rfl (AW rfl T.z_range (aA aE (aA (aP (IT rfl) rfl T.z_max yQ (aA aE (aA (aP (PH rfl) rfl T.z_min EG (aA (aP fH rfl T.z_len eB (aA (pv 0) aB)) (aA (aK bH aE (aK cV aE (jI Qx rfl T.z_int YU (aA (gU sR (aP fH rfl T.z_len eB (aA (aQ O.u1 (pv 1) aL) aB)) aE) aB)))) aB))) aB))) aB))) (qQ 3 kN.nd) (aF (dL 4 kN.nd (aI o1m O rfl (aA (pv 0) (aA (pv 3) aB))))
   (aF (dL 5 kN.nd (aI o2e O rfl (aA (pv 1) aB)))
   (aF (JT (aI o0l O rfl (aA (pv 1) (aA (pv 5) (aA (aK bE (pv 4) aE) aB)))) (jO (n:=2) rfl (bA (qQ 6 kN.nd) (bA (qQ 7 kN.nd) eI))))
   (aF (dL 8 kN.nd (aI o1w O rfl (aA (pv 2) (aA (pv 1) (aA (pv 4) aB)))))
   (aF (cA (PW.pt (lG (aW (oO O.units) (aI o1p O rfl (aA (pv 2) (aA (pv 6) aB))) (aI o1z O rfl (aA (pv 7) aB))) (iG (aW (Jq O.units) (aI o1w O rfl (aA (pv 2) (aA (pv 1) (aA (pv 4) aB)))) (pv 8))))) (aH (aU lI)) bI)
   (aF (dL 9 kN.nd (aI o2b O rfl (aA (pv 1) (aA (pv 5) (aA (pv 4) aB)))))
   (aF (dM (aI o2h O rfl (aA (pv 2) (aA (pv 1) (aA (pv 9) aB)))))
   (aF (dM (aI o2g O rfl (aA (pv 1) (aA (pv 9) aB))))
   (aH (cA (aW (Jr O.units) (qR o0o HC.cl O lJ (pv 2)) (aI o1k O rfl (aA (pv 1) (aA (aI o2e O rfl (aA (pv 1) aB)) aB)))) (aH (aU lI)) bI)))))))))))
   (aH (aU lI))))),?_}
 try dsimp only[aV,bC]
 w_on;apply {a,ns,rfl,hS,β,fun dd H1 U u rs ln lr lp lt ζ ν ξ n5 n1 n2 n3 n4 s1 hJ hN=>?_};apply {dd,U,u,rs,[],[],ln,lr,lp,lt,rfl,hJ,hN.q,fun l H2 hl s2 nq=>?_};intro h dx hh O' S';have u0:=hJ.u0;have u1:=hJ.u1;have ah:=hJ.rl;have M':=hJ.n98;have sA:aJ H2 (L2.upd (L2.upd H2 dx (.own h)) h (.ins cC dx [])):=(aJ.new O').trans (aJ.new (by rw[aX (q7 S')];exact hh));have oA:=aC (H:=L2.upd H2 dx (.own h)) (a:=h) (o:=.ins cC dx []);generalize L2.upd (L2.upd H2 dx (.own h)) h (.ins cC dx [])=HA at sA oA⊢;refine {h,dx,l,eM U u rs,u.toNat,Mk 0,U,rfl,oA,Kd (nq.sm nE.tk sA) (by rw[KG];lia) (fun r O=>?_) (Kf hJ),NL u0 u1 (by decide),by lia,xW hJ,fun H3 b' R X vm dm mo ys k3 f1 f2 f3 f4 o3 m3 I3 M3=>{rfl,?_}}
 ·obtain ⟨x,M,rfl⟩:=u8.mp O;have:=hJ.rok x M;exact YW u0 (by lia) (show x.2.2<=((10^31:Nat):Int) by lia)
 have s':aJ H HA:=(s1.trans s2).trans sA;have NA:=hN.sm (s2.trans sA);have Q':H h=none:=(s1.trans s2).free hh;have tA:TK HA H3:=k3.tk fun p hp xs e=>by rw[i4.mp hp,oA]at e;cases e
 have nA:∀{b:c8}{o:HO},H1 b=some o->b∉[h]:=fun e z=>by rw[i4.mp z]at e;rw[s2.free hh]at e;cases e
 obtain ⟨_,er,_⟩:=id hN.q.rq;obtain ⟨_,ep,_⟩:=id hN.q.pq;obtain ⟨_,et,_⟩:=id hN.q.tq;have N3:=NA.kl k3 tA (nA hN.d) (nA hN.q.nm) (nA er) (nA ep) (nA et);have Y:∀{b c:c8}{o:HO},H1 b=some o->HA c=none->b≠c:=fun e z=>aD ((s2.trans sA) _ _ e) z;have ES:Rw ln lr lp lt b' R X:={n1,n2,n3,n4,n5,Y hN.q.nm f2,Y er f2,Y ep f2,Y et f2,Y hN.q.nm f3,Y er f3,Y ep f3,Y et f3,q7 (Y ep f1),q7 (Y et f1)}
 have T3:LT H3:=LT.kl (rH.same hT s') k3 fun p z=>by rw[i4.mp z];exact .inr (.inl {_,_,_,oA})
 have s3:aJ H H3:=fun b o e=>k3 _ _ (fun z=>by rw[i4.mp z,Q']at e;cases e) (s' _ _ e);have nV:∀x∈[h,R,X,dd,lp,lt],H x=none:=fun x z=>by
  simp only[w6,N9,or_false]at z;rcases z with rfl|rfl|rfl|rfl|rfl|rfl
  ·exact Q'
  ·exact s'.free f2
  ·exact s'.free f3
  ·exact ζ
  ·exact ν
  ·exact ξ
 have S3:vZ cC H3 dd h dx ln lr lp lt b' R X U u rs [] [] 0 [] [] 0 vm dm mo ys (Mk 0):={N3,o3,I3,M3,by rw[CC];exact m3,YW u0 (qi _) (Int.natCast_nonneg _),T3,q7 (Y hN.d f4)}
 have K':=s3.seq hS;clear N3 T3 I3 M3 m3 o3 nA Y f1 f2 f3 f4 k3 tA er ep et NA sA oA nq s2 s1 hh O' S' hl hN;w_on;apply CS K' ?_;apply bS (.inl S3.N.d) cB ?_;obtain ⟨vr,U',Δ⟩:=id S3.N.q.rq;apply xG U' ?_;rw[i8];refine NO (by decide) (by decide) (by (repeat' split) <;> lia) (by (repeat' split) <;> lia) ?_;generalize H':Int.toNat _=NN;have Ξ:NN<=20:=by rw[←H'];(repeat' split) <;> lia
 clear H' U' Δ;have V':Kp tT H H3:=s3.kp;refine rZ (LwI cC a dd h dx ln lr lp lt b' R X U u rs H) {_,_,_,_,_,_,_,[],[],0,vm,dm,mo,ys,rfl,S3,V',hJ,(fun _ z=>nomatch z),j8 _,j8 _,qi _} ?_ ?_
 ·intro P' aj Ψ γ;clear S3 V' s3 K' vm dm mo ys;rintro i σ G hi ⟨o3,o4,o5,o6,o7,o8,o9,ps,ts,C,vm,dm,mo,ys,rfl,S,kG,J,us,pl,tl,n0⟩;have L':=cU.kt hS hT kG;have ag:(oM U u ps).length<=20:=by unfold oM;rw[i8];lia
  have ai:(jE u ts).length<=20:=by unfold jE;rw[i8];lia
  have nb:C<=10^105:=by
   have e1:=SS u0 S.z;have e2:((Mk i:Nat):Int)<=10^92:=by have:=ZE (i:=i) (by lia);lia
   have e3:((Mk i:Nat):Int)*u<=10^92*10^12:=uj e2 u1 (by lia) (by decide);exact ow e1 (ow e3 (by decide))
  w_on;apply {a,ns,_,rfl,L',by lia,by lia,fun r'=>?_};refine {dd,U,u,rs,ps,ts,ln,lr,lp,lt,rfl,J,S.N.q,fun d G1 D hd t1 dq du A'=>?_};have S1:=S.sm t1;have w':mo=mT U u D:=by rw[OA us]at A';exact S.Mo.fal.uniq A'
  subst w';have W':dd≠d:=aD S.N.d hd;w_on;refine {dd,d,_,U,u,rs,ps,ts,ln,lr,lp,lt,C,D,rfl,S1.N,J,dq,W',du,n0,by lia,fun p pr w v ii G2 hp t2 gp G' η ref=>?_};have S2:=S1.sm t2;w_on;refine {h,dd,dx,b',R,X,vm,dm,r',ut u C,eM U u rs,oM U u ps,jE u ts,u.toNat,Mk i,U,mT U u D,ys,U,u,rs,ps,ts,ln,lr,lp,lt,C,rfl,S2.o,S2.I,S2.Mo,S2.m,S2.z,S2.N,KG ..,J.r1,fun l1 d1 l2 w1 w2 G3 θ t3 g1 g2 g3 g4 g5=>?_};have S3:=S2.sm t3;w_on;refine {h,pr,dx,b',R,X,vm,dm,w,v,ii,ut u C,eM U u rs,oM U u ps,jE u ts,u.toNat,Mk i,U,mT U u D,ys,rfl,t3 _ _ G',S3.o,S3.I,S3.Mo,S3.m,S3.z,S3.T,by lia,by lia,ref.sm t3,fun l3 G4 ι t4 B'=>?_};have S4:=S3.sm t4;w_on;refine {ii,_,rfl,{η,rfl},fun l4 G5 κ t5 C'=>?_};have S5:=S4.sm t5;w_on;apply Ck (t5 _ _ B') C' ?_;refine {h,dd,dx,b',R,X,vm,dm,r',ut u C,eM U u rs,oM U u ps,jE u ts,u.toNat,Mk i,U,mT U u D,ys,U,u,rs,ps,ts,ln,lr,lp,lt,C,rfl,S5.o,S5.I,S5.Mo,S5.m,S5.z,S5.N,KG ..,J.r1,fun l5 d2 l6 w3 w4 G6 μ t6 k1 k2 k3 k4 k5=>?_};have S6:=S5.sm t6;have i':=(t4.trans t5).trans t6;w_on;refine {l5,l1,_,_,rfl,rfl,k1,i' _ _ g1,rfl,fun j x y M hy=>?_,?_}
  ·match j,M,hy with
  |0,M,hy=>
    cases M;cases hy;exact .inl {_,uG S6.m,uG S6.m,by simp[Dl,uW,iL]}
  |1,M,hy=>
    cases M;cases hy;exact Ls k2 (g2.sm cI.tk i') (kH S.Mo.nd)
  |2,M,hy=>
    cases M;cases hy;exact Du k3 (i' _ _ g3) k4 k5 (g4.tk i'.tk) (g5.tk i'.tk)
  |j+3,M,_=>simp at M
  w_on;have y':=(t2.trans t3).trans i';refine {dd,d,r',U,u,rs,ps,ts,ln,lr,lp,lt,C,D,rfl,S6.N,J,dq.sm IQ.tk y',W',du,n0,by lia,fun p2 wd x2 G7 q' t7 E' δ=>?_};have S7:=S6.sm t7;have k7:Kp tT H G7:=kG.trans (((t1.trans y').trans t7).kp);clear S1 S2 S3 S4 S5 S6 t1 t2 t3 t4 t5 t6 t7 y' i' g1 g2 g3 g4 g5 k1 k2 k3 k4 k5 B' C' gp G' θ ι κ μ hp q' ref dq L' hd
  walk_at"gos"
  refine uY ?_;refine jM ?_;have M1:Mk i<=Mk (i+1):=by rw[ER];lia
  have R1:nR u.toNat (Mk (i+1)):=NL u0 u1 (by lia);have S8:=S7.up M1 R1;have Φ:∀t:Int,0<=t->Bd u.toNat (Mk (i+1)) (ut u t)->t<=10^105:=fun t t0 hb=>by
   have e1:=SS u0 hb;have e2:((Mk (i+1):Nat):Int)<=10^92:=by have:=ZE (i:=i+1) (by lia);lia
   have e3:((Mk (i+1):Nat):Int)*u<=10^92*10^12:=uj e2 u1 (by lia) (by decide);exact ow e1 (ow e3 (by decide))
  refine sK (LwD cC a dd h dx ln lr lp lt b' R X U u rs H i [some (.ref a),some (.ref dd),some (.ref h),some (.int (23+(i:Int))),some (.int r'),some (.ref d),some (.ref pr),some (.int (mW ii)),some (.ref l1),some (.ref p2)] p2 x2 wd ps ts C) ?_ ?_
  ·rintro σ F ⟨c',g',Z,a',n',p',e',rfl,gF,SF,kF,st,J',j',l'⟩;refine uY ?_;refine jM ?_;refine sK (LwE cC a dd h dx ln lr lp lt b' R X U u rs H i [some (.ref a),some (.ref dd),some (.ref h),some (.int (23+(i:Int))),some (.int r'),some (.ref d),some (.ref pr),some (.int (mW ii)),some (.ref l1),some (.ref p2)]) ?_ ?_
   ·clear SF kF st J' j' l' gF c' g' Z a' n' p' e';rintro σ F ⟨c',g',Z,a',n',p',e',rfl,SF,kF,J',j',Γ,Θ,l'⟩;have SFo:=SF.o;w_on;refine {h,dx,b',R,X,c',g',ut u e',eM U u rs,oM U u n',jE u p',u.toNat,Mk (i+1),U,Z,a',rfl,SF.o,SF.I,SF.Mo,SF.m,SF.z,fun d3 F1 ad t1 q3=>?_};have u':=SF.sm t1;w_on;refine {dd,U,u,rs,n',p',ln,lr,lp,lt,rfl,J',u'.N.q,fun d4 F2 D' ε t2 X' k' t'=>?_};have z':=u'.sm t2;have w':Z=mT U u D':=by
     rw[OA j']at t';exact SF.Mo.fal.uniq t'
    subst w';have M':=J'.n98;have ac:=k'.len;w_on;refine {dd,d4,U,u,rs,n',p',ln,lr,lp,lt,e',D',rfl,z'.N,X',aD u'.N.d ε,J'.nd,u0,u1,k'.ky,k'.nd,(fun x M=>by have:=k'.bd x M;lia),by lia,fun d5 F3 ae t3 q5=>?_};w_on;apply Gh (q3.sm cI.tk (t2.trans t3)) q5 (kH SF.Mo.nd) (RM J'.nd k') (Cz J'.nd u0 k' SF.Mo.mem) ?_;exact γ _ _ _ {_,_,_,_,_,_,_,n',p',e',c',g',_,a',rfl,z'.sm t3,kF.trans ((t1.trans t2).trans t3).kp,J',j',Γ,Θ,l'}
   ·intro NX h';have x':∀{F':Hp},jT [dd,lp,lt] F F'->Kp tT H F':=fun k=>OU kF k fun x z=>.inr (nV x (by
     simp only[w6,N9,or_false]at z ⊢;rcases z with rfl | rfl | rfl <;> simp))
    w_on;refine {dd,U,u,rs,ps,ts,ln,lr,lp,lt,C,p2,wd,x2,rfl,SF.N,gF,ES.n1,ES.n2,ES.n3,ES.n4,ES.n5,?_};rcases st with ⟨rfl,rfl,rfl,rfl⟩|⟨rfl,rfl,rfl,rfl⟩|⟨rfl,rfl,rfl,rfl⟩
    ·apply .inl {rfl,by lia,fun F' k N'=>?_};exact h' _ _ {c',g',Z,a',_,_,_,rfl,SF.did ES k N',x' k,J',j',by rw[q4];show _+1<=_;lia,by lia,l'}
    ·apply .inr (.inl {rfl,by lia,fun F' k N'=>?_});exact h' _ _ {c',g',Z,a',_,_,_,rfl,SF.did ES k N',x' k,J',j',by lia,by rw[q4];show _+1<=_;lia,l'}
    ·apply .inr (.inr {rfl,fun F' k N'=>?_});exact h' _ _ {c',g',Z,a',_,_,_,rfl,SF.did ES k N',x' k,J',j',by lia,by lia,l'}
  ·intro NX h';have ρ:∀{F':Hp},jT [h,R] G7 F'->Kp tT H F':=fun k=>OU k7 k fun x z=>.inr (nV x (by
    simp only[w6,N9,or_false]at z ⊢;rcases z with rfl | rfl <;> simp))
   have τ:∀{F':Hp},jT [h,X] G7 F'->Kp tT H F':=fun k=>OU k7 k fun x z=>.inr (nV x (by
    simp only[w6,N9,or_false]at z ⊢;rcases z with rfl | rfl <;> simp))
   have υ:∀{F':Hp},jT [h,tT] G7 F'->Kp tT H F':=fun k=>OU k7 k fun x z=>by
    rcases w6.mp z with rfl|z
    ·exact .inr (nV _ (by simp))
    ·exact .inl (i4.mp z)
   have q':∀{L:List c8}{F':Hp},jT L G7 F'->(∀x∈L,∃o,G7 x=some o/\∀xs,o≠.tup xs)->F' p2=some (.tup [.str wd,.int x2]):=fun k hL=>Mr k hL _ _ E';obtain ⟨_,Y',_⟩:=id S8.I.pq.lq;obtain ⟨_,Z',_⟩:=id S8.I.tq;obtain ⟨_,eT⟩:=S8.T.ex;have φ:∀x∈[h,R],∃o,G7 x=some o/\∀xs,o≠.tup xs:=fun x z=>by
    rcases w6.mp z with rfl|z
    ·exact {_,S8.o,fun _ z=>nomatch z}
    ·rw[i4.mp z];exact {_,Y',fun _ z=>nomatch z}
   have χ:∀x∈[h,X],∃o,G7 x=some o/\∀xs,o≠.tup xs:=fun x z=>by
    rcases w6.mp z with rfl|z
    ·exact {_,S8.o,fun _ z=>nomatch z}
    ·rw[i4.mp z];exact {_,Z',fun _ z=>nomatch z}
   have ψ:∀x∈[h,tT],∃o,G7 x=some o/\∀xs,o≠.tup xs:=fun x z=>by
    rcases w6.mp z with rfl|z
    ·exact {_,S8.o,fun _ z=>nomatch z}
    ·rw[i4.mp z];exact {_,eT,fun _ z=>nomatch z}
   w_on;refine {h,dd,p2,wd,x2,dx,b',R,X,vm,dm,ut u C,eM U u rs,oM U u ps,jE u ts,u.toNat,Mk (i+1),U,mT U u D,ys,u,rs,ps,ts,ln,lr,lp,lt,C,rfl,E',S8.o,S8.I,S8.Mo,S8.m,S8.z,S8.T,S8.N,u0,u1,?_};rcases δ with ⟨rfl,j,rfl,hj,⟨r,O,ο⟩,hz⟩|⟨rfl,k,r,rfl,O,hs⟩|⟨rfl,x0,M⟩
   ·have R':(j:Int)∈lB rs:=by
     rcases ο with e|e
     ·exact D2 _ (u8.mpr {r,O,e})
     ·exact u9 _ (u8.mpr {r,O,e})
    obtain ⟨af,α⟩:=mQ (U:=U) (i:=(j:Int)) (by lia) (by lia);have hc:IM (ut u C) (mT U u D (c9 (fE U (j:Int))))=false:=by
     rw[oQ J.nd (by lia) (by lia)];cases e:bG D (i5 (j:Int)) with
    |none=>rfl
    |some z=>show (!decide (ut u C<ut u z))=false;rw[decide_eq_true ((iV u0).mpr (hz z e))];rfl
    refine .inl {rfl,by lia,j,fE U (j:Int),rfl,by rw[α];exact i3 _,LS R',hc,fun d' F' Z a' fd k o' I' m'=>?_};w_on;have ep:=(VY U u ps ((j:Int),C)).symm;rw[ep]at I' m';refine h' _ _ {vm,d',Z,a',ps++[((j:Int),C)],ts,C,rfl,q' k φ,S8.pushed ES fd k o' I' m',ρ k,.inl {rfl,rfl,rfl,rfl},{J.u0,J.u1,J.nd,J.n2,J.n98,J.rok,fun x M=>?_,J.tok,J.r1,J.rl,by rw[q4];show _+1<=_;lia,J.tl,J.ns},fun x M=>?_,n0}
    ·rcases w8.mp M with M|M
     ·exact J.pok x M
     ·rw[i4.mp M];exact {by lia,by lia,n0,nb}
    ·rcases w8.mp M with M|M
     ·exact us x M
     ·rw[i4.mp M];exact R'
   ·refine .inr (.inl {rfl,by lia,k,(fE U r.1,fE U r.2.1,ut u r.2.2),rfl,by unfold eM;rw[m5,O];rfl,hs,fun d' F' Z a' fd kk o' I' m'=>?_});w_on;have ep:=(SU u ts ((k:Int),C)).symm;rw[ep]at I' m';refine h' _ _ {vm,d',Z,a',ps,ts++[((k:Int),C)],C,rfl,q' kk χ,S8.took ES fd kk o' I' m',τ kk,.inr (.inl {rfl,rfl,rfl,rfl}),{J.u0,J.u1,J.nd,J.n2,J.n98,J.rok,J.pok,fun x M=>?_,J.r1,J.rl,J.pl,by rw[q4];show _+1<=_;lia,J.ns},us,n0};rcases w8.mp M with M|M
    ·exact J.tok x M
    ·rw[i4.mp M];exact {by lia,n0,nb}
   ·have Λ:D.length<=98:=by have:=du.len;lia
    have zb:Bd u.toNat (Mk (i+1)) (ut u (C+x2))/\x2<=10^109:=by
     rcases M with ⟨y,hy,ey⟩|M
     ·obtain ⟨j,ej,hj⟩:=du.ky y hy;obtain ⟨yk,yz⟩:=y;cases (show yk=i5 (j:Int) from ej);have ea:bG D (i5 (j:Int))=some yz:=eC du.nd hy;have em:mT U u D (c9 (fE U (j:Int)))=some (ut u yz):=by
       rw[oQ J.nd (by lia) (by lia),ea];rfl
      have b:=S7.Mo.bd _ _ em;have b2:=(du.bd _ hy).2;dsimp only at ey b2;rw[ey];exact {b.mono (by rw[ER];lia),by lia}
     ·have b:=S7.z.add (by have:=u0;lia) (YW (u:=u) (z:=x2) (B:=10^30) u0 x0 (by lia));rw[tK]at b;have g:=Rh i;exact {b.mono (by rw[ER];lia),by lia}
    refine .inr (.inr {rfl,x0,zb.2,by rw[tK];exact zb.1,fun v' c' F' kk T' o' f' I' m'=>?_});rw[tK]at f';w_on;exact h' _ _ {c',dm,_,ys,ps,ts,C+x2,rfl,q' kk ψ,S8.went kk T' o' f' zb.1 I' m',υ kk,.inr (.inr {rfl,rfl,rfl,rfl}),J,us,by lia}
 ·rintro σ G ⟨o3,o4,o5,o6,o7,o8,o9,ps,ts,C,vm,dm,mo,ys,rfl,S,_⟩;w_on;exact q _
end
local macro_rules | `(↑$x) => `(($x).mono (by decide))
theorem all_mk{l:oh}{w:y6}{K:v9}{h:A7}{mg:Str->Option c7}{fa:c8}(X:K.In h)(G:h.Ns B8 mg)(hfa:mg "law"=some (.ref fa)){f3:c8}{oc3:c7}{od3 an3:Option c8}{sl3:Array (Option c7)}{kV3 dc3 pm3 cd3 ct3:c7}{dT3:c8}{dO3:Obj}{dN3:Nat}{dK3:Tok}{f11:c8}{oc11:c7}{od11 an11:Option c8}{sl11:Array (Option c7)}{kV11 dc11 pm11 cd11 ct11:c7}{f17:c8}{oc17:c7}{od17 an17:Option c8}{sl17:Array (Option c7)}{kV17 dc17 pm17 cd17 ct17:c7}{dT17:c8}{dO17:Obj}{dN17:Nat}{f18:c8}{oc18:c7}{od18 an18:Option c8}{sl18:Array (Option c7)}{kV18 dc18 pm18 cd18 ct18:c7}{dT18:c8}{dO18:Obj}{dN18:Nat}{f60:c8}{oc60:c7}{od60 an60:Option c8}{sl60:Array (Option c7)}{kV60 dc60 pm60 cd60 ct60:c7}{xt x0 x1 x2 x3 x4 x5 x6 x7 x8 x9 x10 x11:c8}{cC:c8}(T:Bl mg)(W:Xm mg xt x0 x1 x2 x3 x4 x5 x6 x7 x8 x9 x10 x11)(R0:Xr K xt x0 x1 x2 x3 x4 x5 x6 x7 x8 x9 x10 x11 x0 0)(R6:Xr K xt x0 x1 x2 x3 x4 x5 x6 x7 x8 x9 x10 x11 x6 6)(R7:Xr K xt x0 x1 x2 x3 x4 x5 x6 x7 x8 x9 x10 x11 x7 7)(R8:Xr K xt x0 x1 x2 x3 x4 x5 x6 x7 x8 x9 x10 x11 x8 8)(R9:Xr K xt x0 x1 x2 x3 x4 x5 x6 x7 x8 x9 x10 x11 x9 9)(HC:Rn K mg cC)(vE:EV K mg cC)(a3:nsIn K B8 "fraction"=some (some (.ref f3)))(l3:K.lookup f3=some {oc3,od3,.func (gr "fraction" "fraction" (cY iD) (bV iD) (aG iD) (.ref dT3) kV3 dc3 pm3 an3 cd3 ct3),sl3})(c3:D8 K cd3 "fraction"=true)(k3:B3 K (.ref f3)=true)(t3:K.lookup dT3=some dO3)(u3:dO3.data=.seq #[.int 1 dK3] dN3)(a11:nsIn K B8 "sorted_by"=some (some (.ref f11)))(l11:K.lookup f11=some {oc11,od11,.func (gr "sorted_by" "sorted_by" (cY fD) (bV fD) (aG fD) .none kV11 dc11 pm11 an11 cd11 ct11),sl11})(c11:D8 K cd11 "sorted_by"=true)(k11:B3 K (.ref f11)=true)(tb11:jy K 258 256=true)(tc11:cd11=.ref 258)(a17:nsIn K B8 "falls_of"=some (some (.ref f17)))(l17:K.lookup f17=some {oc17,od17,.func (gr "falls_of" "falls_of" (cY gA) (bV gA) (aG gA) (.ref dT17) kV17 dc17 pm17 an17 cd17 ct17),sl17})(c17:D8 K cd17 "falls_of"=true)(k17:B3 K (.ref f17)=true)(t17:K.lookup dT17=some dO17)(u17:dO17.data=.seq #[.none] dN17)(a18:nsIn K B8 "fall_moments"=some (some (.ref f18)))(l18:K.lookup f18=some {oc18,od18,.func (gr "fall_moments" "fall_moments" (cY dZ) (bV dZ) (aG dZ) (.ref dT18) kV18 dc18 pm18 an18 cd18 ct18),sl18})(c18:D8 K cd18 "fall_moments"=true)(k18:B3 K (.ref f18)=true)(t18:K.lookup dT18=some dO18)(u18:dO18.data=.seq #[.none] dN18)(a60:nsIn K B8 "law"=some (some (.ref f60)))(l60:K.lookup f60=some {oc60,od60,.func (gr "law" "law" (cY rW) (bV rW) (aG rW) .none kV60 dc60 pm60 an60 cd60 ct60),sl60})(c60:D8 K cd60 "law"=true)(k60:B3 K (.ref f60)=true):
  ∃fd:K6,(∀(s:f9)(v:c7),W6 s fd {[v],[]} [("_law_script",v)])/\∀base:A7,K.In base->base.Ns B8 mg->zQ mg base->nG l.prog w K mg base rL 9 fa fd ["_law_script"] (MP K):=by
 have e:=hfa.symm.trans (mg_of X G a60);cases e;have d_fraction:Gv K mg "fraction" iD ["top","bottom"] [.int 1]:=LB (ds:=[.int 1 dK3]) X G a3 l3 c3 k3 t3 u3 (fun sh us hg hl=>by refine el_2 (P:=fun us=>W6 sh _ {us,[]} (ke ["top","bottom"] us)) ?_ us hl;exact fun _ _=>.of_defaults rfl hg u3 rfl rfl) (.cons {_,rfl} .nil) (fun sh us hg hl=>by refine el_1 (P:=fun us=>W6 sh _ {us,[]} (ke ["top","bottom"] (us++[.int 1 dK3]))) ?_ us (show us.length=1 by simpa using hl);exact fun _=>.of_defaults rfl hg u3 rfl rfl);subst tc11;have d_sorted_by:Sa K mg "sorted_by" fD ["fractions","things"] 258 256:=Lg X G a11 l11 c11 k11 tb11 (el_2 fun _ _=>rfl);have d_falls_of:Gv K mg "falls_of" gA ["net","pushes","takings"] [.non]:=LB (ds:=[.none]) X G a17 l17 c17 k17 t17 u17 (fun sh us hg hl=>by refine el_3 (P:=fun us=>W6 sh _ {us,[]} (ke ["net","pushes","takings"] us)) ?_ us hl;exact fun _ _ _=>.of_defaults rfl hg u17 rfl rfl) (.cons rfl .nil) (fun sh us hg hl=>by refine el_2 (P:=fun us=>W6 sh _ {us,[]} (ke ["net","pushes","takings"] (us++[.none]))) ?_ us (show us.length=2 by simpa using hl);exact fun _ _=>.of_defaults rfl hg u17 rfl rfl);have d_fall_moments:Gv K mg "fall_moments" dZ ["net","pushes","takings"] [.non]:=LB (ds:=[.none]) X G a18 l18 c18 k18 t18 u18 (fun sh us hg hl=>by refine el_3 (P:=fun us=>W6 sh _ {us,[]} (ke ["net","pushes","takings"] us)) ?_ us hl;exact fun _ _ _=>.of_defaults rfl hg u18 rfl rfl) (.cons rfl .nil) (fun sh us hg hl=>by refine el_2 (P:=fun us=>W6 sh _ {us,[]} (ke ["net","pushes","takings"] (us++[.none]))) ?_ us (show us.length=2 by simpa using hl);exact fun _ _=>.of_defaults rfl hg u18 rfl rfl);have FL:=Lb (st:=rW) l60 c60 k60;refine {gr "law" "law" (cY rW) (bV rW) (aG rW) .none kV60 dc60 pm60 an60 cd60 ct60,fun s v=>.of_eq rfl,fun base _ _ BB=>?_};have o1e:=HP l.prog w base 0 T W R0 R6 R7 R8 R9 HC vE ;have o0e:=sS l.prog w base 0 T W R0 R6 R7 R8 R9 HC vE ;have o0q:=xQ l.prog w base 1 T W R0 R6 R7 R8 R9 HC vE  ↑o1e ↑o0e;have o1d:=HR l.prog w base 1 T W R0 R6 R7 R8 R9 HC vE d_fraction ↑o1e ↑o0e;have o1u:=WT l.prog w base 1 T W R0 R6 R7 R8 R9 HC vE  ↑o0e;have o0z:=HN l.prog w base 2 T W R0 R6 R7 R8 R9 HC vE  ↑o1u;have o1o:=WM l.prog w base 2 T W R0 R6 R7 R8 R9 HC vE  ↑o1d;have o1j:=JZ l.prog w base 2 T W R0 R6 R7 R8 R9 HC vE  ↑o1d;have o1h:=JY l.prog w base 0 T W R0 R6 R7 R8 R9 HC vE ;have o0x:=DG l.prog w base 2 T W R0 R6 R7 R8 R9 HC vE  ↑o0q;have o0r:=yX l.prog w base 1 T W R0 R6 R7 R8 R9 HC vE  ↑o0e;have o0y:=DE l.prog w base 2 T W R0 R6 R7 R8 R9 HC vE d_sorted_by ↑o0r BB;have o1b:=HM l.prog w base 0 T W R0 R6 R7 R8 R9 HC vE ;have o0n:=xO l.prog w base 0 T W R0 R6 R7 R8 R9 HC vE ;have o0h:=tX l.prog w base 1 T W R0 R6 R7 R8 R9 HC vE  ↑o1h;have o1n:=QM l.prog w base 1 T W R0 R6 R7 R8 R9 HC vE  ↑o1h;have o0m:=xR l.prog w base 1 T W R0 R6 R7 R8 R9 HC vE  ↑o1h;have o1a:=HS l.prog w base 2 T W R0 R6 R7 R8 R9 HC vE d_falls_of ↑o1u ↑o1h ↑o0n ↑o0h ↑o1n ↑o0m;have o0j:=vA l.prog w base 3 T W R0 R6 R7 R8 R9 HC vE d_fall_moments ↑o1b ↑o1a
 have o0i:=uZ l.prog w base 3 T W R0 R6 R7 R8 R9 HC vE  ↑o0z ↑o1j ↑o1h;have o0k:=xN l.prog w base 4 T W R0 R6 R7 R8 R9 HC vE  ↑o0z ↑o1h ↑o0i;have o1f:=HQ l.prog w base 2 T W R0 R6 R7 R8 R9 HC vE  ↑o1u ↑o1h;have o0c:=qS l.prog w base 3 T W R0 R6 R7 R8 R9 HC vE  ↑o1u ↑o0z ↑o1o ↑o1j ↑o1f;have o0t:=DF l.prog w base 0 T W R0 R6 R7 R8 R9 HC vE ;have o0u:=DH l.prog w base 4 T W R0 R6 R7 R8 R9 HC vE  ↑o1h ↑o0c ↑o0t;have o1g:=KA l.prog w base 0 T W R0 R6 R7 R8 R9 HC vE ;have o1s:=WP l.prog w base 0 T W R0 R6 R7 R8 R9 HC vE ;have o1m:=QL l.prog w base 1 T W R0 R6 R7 R8 R9 HC vE  ↑o1g ↑o1s;have o2d:=Jy l.prog w base 0 T W R0 R6 R7 R8 R9 HC vE ;have o1r:=WO l.prog w base 0 T W R0 R6 R7 R8 R9 HC vE ;have o1x:=Ca l.prog w base 0 T W R0 R6 R7 R8 R9 HC vE ;have o1v:=WR l.prog w base 0 T W R0 R6 R7 R8 R9 HC vE ;have o1y:=Cd l.prog w base 2 T W R0 R6 R7 R8 R9 HC vE  ↑o1m ↑o1r ↑o1x ↑o1v;have o2f:=Jx l.prog w base 1 T W R0 R6 R7 R8 R9 HC vE  ↑o2d;have o1l:=QK l.prog w base 0 T W R0 R6 R7 R8 R9 HC vE ;have o1t:=WN l.prog w base 0 T W R0 R6 R7 R8 R9 HC vE ;have o2e:=Ka l.prog w base 1 T W R0 R6 R7 R8 R9 HC vE  ↑o1l ↑o1t;have o2c:=Cc l.prog w base 1 T W R0 R6 R7 R8 R9 HC vE  ↑o2d ↑o1t;have o2a:=Ce l.prog w base 3 T W R0 R6 R7 R8 R9 HC vE  ↑o1y;have o1k:=QN l.prog w base 1 T W R0 R6 R7 R8 R9 HC vE  ↑o2d;have o2b:=Cf l.prog w base 2 T W R0 R6 R7 R8 R9 HC vE  ↑o2c;have o2g:=Kb l.prog w base 0 T W R0 R6 R7 R8 R9 HC vE ;have o0f:=tY l.prog w base 1 T W R0 R6 R7 R8 R9 HC vE  ↑o1h;have o0d:=qU l.prog w base 0 T W R0 R6 R7 R8 R9 HC vE ;have o0b:=oP l.prog w base 5 T W R0 R6 R7 R8 R9 HC vE  ↑o0h ↑o0u;have o1i:=KB l.prog w base 6 T W R0 R6 R7 R8 R9 HC vE  ↑o1u ↑o1h ↑o0x ↑o0y ↑o0f ↑o0d ↑o0b;have o0p:=xS l.prog w base 4 T W R0 R6 R7 R8 R9 HC vE  ↑o0j;have o0s:=yY l.prog w base 5 T W R0 R6 R7 R8 R9 HC vE  ↑o1e ↑o0h ↑o0k;have o0w:=DI l.prog w base 6 T W R0 R6 R7 R8 R9 HC vE  ↑o0p ↑o0s;have o0a:=mP l.prog w base 0 T W R0 R6 R7 R8 R9 HC vE ;have o0v:=DJ l.prog w base 5 T W R0 R6 R7 R8 R9 HC vE  ↑o0f ↑o0p ↑o0a;have o2h:=Px l.prog w base 7 T W R0 R6 R7 R8 R9 HC vE  ↑o2d ↑o1i ↑o0w ↑o0v;have o1q:=WQ l.prog w base 0 T W R0 R6 R7 R8 R9 HC vE ;have o1z:=Cb l.prog w base 0 T W R0 R6 R7 R8 R9 HC vE ;have o1p:=WS l.prog w base 7 T W R0 R6 R7 R8 R9 HC vE  ↑o1i ↑o0s ↑o0w ↑o0v ↑o1q;have o0l:=xP l.prog w base 2 T W R0 R6 R7 R8 R9 HC vE  ↑o2c;have o0o:=xT l.prog w base 2 T W R0 R6 R7 R8 R9 HC vE  ↑o0f;have o1c:=HU l.prog w base 0 T W R0 R6 R7 R8 R9 HC vE ;have o1w:=Bz l.prog w base 6 T W R0 R6 R7 R8 R9 HC vE  ↑o0s ↑o0o ↑o1c;have o0g:=(tZ l.prog w base 4 T W R0 R6 R7 R8 R9 HC vE  ↑o0j).toMk;exact Jz l.prog w base 8 T W R0 R6 R7 R8 R9 HC vE ↑o1m ↑o2f ↑o2e ↑o2a ↑o1k ↑o2b ↑o2g ↑o2h ↑o1z ↑o1p ↑o0l ↑o0o ↑o1w ↑o0g FL
theorem walk{l:oh}{q:m7}{loose:List Str}{XP:(Str->Option c7)->A7->Prop}{YP:y6->A7->Prop}{d:DefRec}{K:Params->v9}(hn:l.most=some 63)(hdf:d.params.defaults=[])(hY:∀(w:y6)(h:A7),YP w h->(K w.params).In h/\h.get? 256=some (wg #[]))(hC:∀P,jy (K P) 258 256=true)(hKT:∀P,(K P).lookup 256=none)
  (F:∀(w:y6)(mg:Str->Option c7)(fa:c8)(h:A7),(K w.params).In h->h.Ns B8 mg->mg d.name=some (.ref fa) ->
   ∃fd:K6,(∀(s:f9)(u:c7),W6 s fd {[u],[]} [("_law_script",u)])/\∀base:A7,(K w.params).In base->base.Ns B8 mg->zQ mg base->nG l.prog w (K w.params) mg base rL 9 fa fd ["_law_script"] (MP (K w.params))) :
  PySem.W.WalkO q loose XP YP l.row.toRowW d [] (fun f vs=>PySem.call f vs):=
 L2.walk_ofT (n:=63) (k:=9) (x:="_law_script") (CX:=fun _=>rL) (sp:=fun w=>MP (K w.params)) hn (by decide) hdf {rfl,by decide,by decide,rfl} hY hC hKT F (fun _ _ a ns hl hT hS=>{a,ns,rfl,hS,hl,.inl hT,fun _=>rfl}) fun _ _ _ _ _ z=>z
end Lw
end
open PySem PySem.W PyProof.Rows
set_option maxRecDepth 100000 in
set_option maxHeartbeats 0 in
theorem PySem.Challenge.cw_tilefall_k82_hands_refused_holds : PySem.Challenge.rw_tilefall_k82_hands_refused.Holds := by
  w_on; o_law; km_head; (case hw => w_witness2)
  k_fill
  refine Lw.walk (l := PySem.Challenge.rw_tilefall_k82_hands_refused) rfl rfl (fun w h Y => ⟨PySem.W.km_in_of Y, PySem.W.km_tabs_of Y 256 (by simp)⟩) (fun _ => by kernel_rfl) (fun _ => by kernel_rfl) ?F
  case F =>
    intro w mg fa h KX G hmg
    refine' Lw.all_mk KX G hmg ?T ?W ?R_NoNumber ?R_NoPost ?R_Fallen ?R_NoRun ?R_Gone ?HC ?vE ?a3 ?l3 ?c3 ?k3 ?t3 ?u3 ?a11 ?l11 ?c11 ?k11 ?tb11 ?tc11 ?a17 ?l17 ?c17 ?k17 ?t17 ?u17 ?a18 ?l18 ?c18 ?k18 ?t18 ?u18 ?a60 ?l60 ?c60 ?k60   
    (case T => constructor <;> exact PySem.W.mg_none_of KX G (by k_is))
    (case W => constructor <;> first | (refine PySem.W.mg_of KX G ?_; k_is) | (refine PySem.W.mg_none_of KX G ?_; k_is))
    (case R_NoNumber|R_NoPost|R_Fallen|R_NoRun|R_Gone => refine' ⟨⟨?_, ?_, ?_, ?_, ?_, ?_⟩, .ve ?_, ?_, ?_, ?_, ?_, ?_, ?_, ?_, ?_, ?_, ?_, ?_, ?_, ?_, ?_⟩; k_is; k_is; k_is; k_is; k_is; (first | k_is | kernel_rfl); k_exc; kit_is; kts_exm; all_goals kit_is)
    (case HC => refine' ⟨PySem.W.mg_of KX G ?_, ⟨?_, ?_, ?_, ?_⟩, ?_, ?_, ?_, ?_, ?_, ?_, ?_⟩ <;> first | k_is | kernel_rfl | (show PySem.W.findIn _ _ _ = _; first | k_is | kernel_rfl))
    (case vE => constructor <;> first | (refine' L2.df_mk KX G ?a ?l ?c ?k ?b; (case a => k_is); (case l|c|k => k_is); (case b => first | exact Lw.el_1 fun _ => rfl | exact Lw.el_2 fun _ _ => rfl | exact Lw.el_3 fun _ _ _ => rfl | exact Lw.el_4 fun _ _ _ _ => rfl)) | (refine' L2.dfc2_mk ?a ?l ?c ?i ?k ?b; (case a => k_is); (case l|c => k_is); (case i => first | k_is | kernel_rfl); (case k => k_is); (case b => first | exact Lw.el_1 fun _ => rfl | exact Lw.el_2 fun _ _ => rfl | exact Lw.el_3 fun _ _ _ => rfl | exact Lw.el_4 fun _ _ _ _ => rfl)))
    (case a3|l3|c3|k3|t3|a11|l11|c11|k11|a17|l17|c17|k17|t17|a18|l18|c18|k18|t18|a60|l60|c60|k60 => k_is)
    (case u3 => exact rfl)
    (case tb11 => first | k_is | kernel_rfl); (case tc11 => exact rfl)
    (case u17 => exact rfl)
    (case u18 => exact rfl)
