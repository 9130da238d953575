import PyProof.Rows.All
import Wide.All
import OpenK.AllK
import Wide.FinOn
import Lean
import PyProof.EqAt
import PyProof.EqKinds
import PyProof.TupleCall
import PyProof.NeKinds
import KE.KTryMore
import KE.RegKTryMore
import KE.RegKIsAll
import PyProof.ExcBaseAll.ValueError
import PyProof.ExcBaseAll.Exception
import PyProof.ExcAttrAll.ValueError
import KE.KRevSl
import PyProof.ZipIter
import KE.KPairComp
import PyProof.DictItemsLoops
import KE.KLam
import KE.KNestM
import KE.KSortKey
import PyProof.ZipIter
import PyProof.SeqI3
import PySem.Challenge.RW_tilefall_k83_whole_told_ahead
set_option Elab.async false
set_option linter.all false
set_option maxRecDepth 100000
section
local macro_rules | `(tactic| k_is) => `(tactic| decide +kernel)
local macro_rules | `(tactic| o_law) => `(tactic| ((try dsimp only at *); omega))
open List (all_cons any_append any_cons any_eq_true append_assoc append_nil cons_append filterMap_append filterMap_cons filter_append filter_cons find?_cons foldl_cons foldl_nil forIn_cons length_append length_cons length_drop length_eq_zero_iff length_filterMap_le length_filter_le length_map length_nil length_pos_iff length_range length_replicate length_singleton length_take length_zip lookup_cons map_append map_cons map_map map_nil mem_append mem_append_left mem_append_right mem_cons mem_cons_of_mem mem_cons_self mem_filter mem_filterMap mem_map mem_of_getElem? mem_range mem_singleton nil_append nodup_append nodup_cons nodup_nil not_lt not_mem_nil of_mem_zip pairwise_map size_toArray sum_append sum_cons sum_nil take_add_one take_length take_of_length_le take_sublist take_succ_eq_append_getElem)
open Nat (dvd_trans le_add_right le_antisymm le_of_ble_eq_true le_of_dvd le_of_eq le_of_lt le_refl le_succ le_trans lt_irrefl lt_of_le_of_lt lt_of_lt_of_le lt_or_ge lt_succ_of_lt lt_succ_self lt_trans min_self mod_lt mul_le_mul_left ne_of_gt ne_of_lt not_lt not_lt_zero pow_le_pow_right pow_pos pow_succ zero_le)
open PySem.W (CodeHd Frag InstAt callWith_K cellsFrom_some codeHdIn codeHd_of_K emptyDict fnOf handedIn hasDictIn instObj keq_ne kia_one kitOne kitx_dict kitx_list kla_fn kla_obj lookIn methodCall_KW methodObj mg_of mroIn nsIn plainGet plainGet_of plainOver tabObj takerIn typeIn)
open PySem.F (entry_dict_get plainAttrs_dict plainAttrs_list slot_dict_get slot_dict_pop slot_tuple_add type_dict_get)
open PySem.Heap (get?_push_of_some get?_push_size get?_update_other get?_update_self lt_size size_push size_update)
def PySem.W.Fast.tw9463337546345731085:=0
def PySem.W.Fast.tw16631036938512473050:=0
def PySem.W.Fast.tw15273323090195997399:=0
def PySem.W.Fast.tw16343348255201491704:=0
def PySem.W.Fast.tw5026148272692730775:=0
def PySem.W.Fast.tw1678119216339973192:=0
def PySem.W.Fast.tw6148912284654766673:=0
def PySem.W.Fast.tw10913960863646492414:=0
def PySem.W.Fast.tw7531142687830508576:=0
def PySem.W.Fast.tw8754438863398214190:=0
def PySem.W.Fast.tw4013692204130365590:=0
def PySem.W.Fast.tw8923803872884412333:=0
def PySem.W.Fast.tw17884267232722904176:=0
def PySem.W.Fast.tw3843542232762398068:=0
def PySem.W.Fast.tw8565350594736078673:=0
def PySem.W.Fast.tw675554586971947024:=0
def PySem.W.Fast.tw3518033386625671735:=0
def PySem.W.Fast.tw17739235494750105080:=0
def PySem.W.Fast.tw15153666124639563221:=0
def PySem.W.Fast.tw18021713615899466046:=0
def PySem.W.Fast.tw2938644367422749686:=0
def PySem.W.Fast.tw9695329064213646930:=0
def PySem.W.Fast.tw5900242025197220184:=0
def PySem.W.Fast.tw15992013536787384384:=0
def PySem.W.Fast.tw5366157173394142284:=0
def PySem.W.Fast.tw4257315462626762806:=0
def PySem.W.Fast.tw13305701675586035448:=0
def PySem.W.Fast.tw16643373861928611789:=0
def PySem.W.Fast.tw11457213182935837593:=0
def PySem.W.Fast.tw828836077226381884:=0
def PySem.W.Fast.tw13879871015378156840:=0
def PySem.W.Fast.tw10833367017112856330:=0
def PySem.W.Fast.tw12657151901685134999:=0
def PySem.W.Fast.tw436199394657790494:=0
def PySem.W.Fast.tw731767545537092934:=0
def PySem.W.Fast.tw2344167281875062748:=0
def PySem.W.Fast.tw10976488742741920298:=0
def PySem.W.Fast.tw6053650291568822386:=0
def PySem.W.Fast.tw8146116498101259740:=0
def PySem.W.Fast.tw7014360983215287823:=0
def PySem.W.Fast.tw8934988527963750778:=0
def PySem.W.Fast.tw13215429276629088337:=0
def PySem.W.Fast.tw16827976174983902748:=0
def PySem.W.Fast.tw14700234290788767575:=0
def PySem.W.Fast.tw8677783069881373159:=0
def PySem.W.Fast.tw17688247536178908737:=0
def PySem.W.Fast.tw6695769244218127534:=0
def PySem.W.Fast.tw6626060314033330624:=0
def PySem.W.Fast.tw11934239082495433285:=0
def PySem.W.Fast.tw9514358921447984533:=0
def PySem.W.Fast.tw1761507690788073983:=0
def PySem.W.Fast.tw9004061400061221175:=0
def PySem.W.Fast.tw1581498911635599964:=0
def PySem.W.Fast.tw14936232031496330648:=0
def PySem.W.Fast.tw1568551736497422857:=0
def PySem.W.Fast.tw8204737972302551252:=0
def PySem.W.Fast.tw7309359082811466563:=0
def PySem.W.Fast.tw7107442329975745480:=0
def PySem.W.Fast.tw6422398029566223459:=0
def PySem.W.Fast.tw17718983772431250375:=0
def PySem.W.Fast.tw7278292202190839010:=0
def PySem.W.Fast.tw16897444876390418396:=0
def PySem.W.Fast.tw11970735783536723677:=0
def PySem.W.Fast.tw9114884834999415426:=0
def PySem.W.Fast.tw2261785500552487099:=0
def PySem.W.Fast.tw16014145543577382102:=0
def PySem.W.Fast.tw18339152260493148431:=0
def PySem.W.Fast.tw641867987898952603:=0
def PySem.W.Fast.tw8909392108508642818:=0
def PySem.W.Fast.tw4179514499276700140:=0
def PySem.W.Fast.tw5352035918479002493:=0
def PySem.W.Fast.tw1608531123715663581:=0
def PySem.W.Fast.tw13525992021782899817:=0
def PySem.W.Fast.tw12107765327512591176:=0
def PySem.W.Fast.tw15140417661896836542:=0
def PySem.W.Fast.tw12221250469500678494:=0
def PySem.W.Fast.tw13843109980534833689:=0
def PySem.W.Fast.tw3463696296444230699:=0
def PySem.W.Fast.tw17531172495156936105:=0
def PySem.W.Fast.tw17737829842520941186:=0
def PySem.W.Fast.tw12019339223701681324:=0
def PySem.W.Fast.tw16144506709532957278:=0
def PySem.W.Fast.tw18134932142741384781:=0
def PySem.W.Fast.tw10824213108240007249:=0
def PySem.W.Fast.tw749792819607016199:=0
def PySem.W.Fast.tw17284378206199582434:=0
def PySem.W.Fast.tw3623742971728317823:=0
def PySem.W.Fast.tw2948590100492735318:=0
def PySem.W.Fast.tw5121188814024839182:=0
def PySem.W.Fast.tw5036173220360549455:=0
def PySem.W.Fast.tw9224315094639443675:=0
def PySem.W.Fast.tw4510615523108661070:=0
def PySem.W.Fast.tw1459903509614290078:=0
def PySem.W.Fast.tw2531044140530008552:=0
def PySem.W.Fast.tw6046625965663536021:=0
def PySem.W.Fast.tw15230006636359787779:=0
def PySem.W.Fast.tw1078184731705399657:=0
def PySem.W.Fast.tw7796853805158831289:=0
def PySem.W.Fast.tw12958098225667739718:=0
def PySem.W.Fast.tw4639901554500880417:=0
def PySem.W.Fast.tw5862768292801410074:=0
def PySem.W.Fast.tw670216888145876751:=0
def PySem.W.Fast.tw14970385570704638756:=0
def PySem.W.Fast.tw16336104976339320723:=0
def PySem.W.Fast.tw16242624473854302578:=0
def PySem.W.Fast.tw16841322446412826426:=0
def PySem.W.Fast.tw8316290423267682609:=0
def PySem.W.Fast.tw11721676964820554248:=0
def PySem.W.Fast.tw2481870249475349115:=0
def PySem.W.Fast.tw11170556730740367873:=0
def PySem.W.Fast.tw2252201115989598940:=0
def PySem.W.Fast.tw3713461683525017080:=0
def PySem.W.Fast.tw5694343688500826729:=0
def PySem.W.Fast.tw15515128100759398386:=0
def PySem.W.Fast.tw4257686257487070463:=0
def PySem.W.Fast.tw6794194218556690571:=0
def PySem.W.Fast.tw5465522329984316872:=0
def PySem.W.Fast.tw17934223795597534461:=0
def PySem.W.Fast.tw11585334866932749581:=0
def PySem.W.Fast.tw16159845686271594076:=0
def PySem.W.Fast.tw1308825313721305263:=0
def PySem.W.Fast.tw13156773750909090618:=0
def PySem.W.Fast.tw11571550271687949604:=0
def PySem.W.Fast.tw2835508765490315648:=0
def PySem.W.Fast.tw7350734374958604725:=0
def PySem.W.Fast.tw1648286812983911173:=0
def PySem.W.Fast.tw16652857449019662386:=0
def PySem.W.Fast.tw16630495565945476055:=0
def PySem.W.Fast.tw9416456763868119038:=0
def PySem.W.Fast.tw9060161099186450668:=0
def PySem.W.Fast.tw8482445707028545167:=0
def PySem.W.Fast.tw11108143991698566346:=0
def PySem.W.Fast.tw642111729439465288:=0
def PySem.W.Fast.tw10906667093324933115:=0
def PySem.W.Fast.tw10281939724700973751:=0
def PySem.W.Fast.tw4390557347310076933:=0
def PySem.W.Fast.tw10603515912844624884:=0
def PySem.W.Fast.tw5120620366991729131:=0
def PySem.W.Fast.tw10187670202435320701:=0
def PySem.W.Fast.tw16300352522847175119:=0
def PySem.W.Fast.tw3395644740409533552:=0
def PySem.W.Fast.tw15918847754662734011:=0
def PySem.W.Fast.tw3569922768422497132:=0
def PySem.W.Fast.tw17754014974159681776:=0
def PySem.W.Fast.tw14849455184786139295:=0
def PySem.W.Fast.tw5588609360267040243:=0
def PySem.W.Fast.tw13363853448555830118:=0
def PySem.W.Fast.tw3415982966518964875:=0
def PySem.W.Fast.tw7937335954890320465:=0
def PySem.W.Fast.tw47589827714849743:=0
def PySem.W.Fast.tw2814902626736438520:=0
def PySem.W.Fast.tw2638097248579785798:=0
def PySem.W.Fast.tw9966185409458650291:=0
open PySem renaming wpAny_bind→a7,Value→a8,Addr→b8,Shared→c5,wpAny_pure→c6,wpAny→e9,model→h9,sizeLine→j0,Program→j2,starEach→j8,World→k6,sizeLine_eq→p7,Around→q4,mainGlobals→r9,Heap→u9,bootBuiltins→x9,compareOp→A0,Stmt→A1,Expr→A6,codeAny_builtin→A8,wpAny_holding→B2,rawInt→B3,SetTable→B9,Builtin→C0,wpAny_mono→C6,eval→C8,FuncData→D4,BindsTo→E4,plainId_quiet→E8,wpAny_truthy_bool→F4,wpAny_newObj_type→F5,cLine→F6,setField→J6,backTo→K3,wpAny_call_entry→K6,attributeBase→M6,Spec→N2,binaryOp→O1,wpAny_Call_Name_kw→O4,tupleKind_room_in1→O5,pyNext→O6,wpAny_updateSeq→O8,wpAny_passesOwn→O9,builtinLookup_eq_fast→P1,wpAny_setState_of→P3,foldedSetIterable→P4,mem_of_lookup→P7,wpAny_rule→P9,PyData→R3,codeAny→S2,keywordEach→T9,wpAny_typeOf→U5,wpAny_setField→U6,valueAt→U7,Scope→V5,assignEach→V9,behindInMarks→W2,unsupported→W4,NameKind→W6,wpAny_specialOf→X1,typeLookup_type→X2,letOwnedTupleGo→X3,codeAny_mono→Y3,wpAny_load→Z4,wpAny_field→ao,wpAny_Call_method→aq,wpAny_standAt→aw,call→ax,wpAny_isInstance→bo,wpAny_callSpecial?_slot→bp,updateSeq→bq,tupleKind→br,raiseNew→bt,backToKw→ce,ZipApart→cf,typeLookup→cu,standAt→cw,setNextDrawn→cx,setNext→cy,holding→da,call_meetsIn→db,Keyword→dg,wpAny_execs_nil→dv,wpAny_runValue→fi,recursionLimit→fj,isSubtype_type→fx,Within→gg,swapsWith→gh,seqItems?→gi,scanBound→gj,pickOrder→gn,getMethod→gs,wpAny_newList→ik,wpAny_attempt→il,closureFor→iu,builtinsNs→iw,wpAny_pyIter_slot→je,wpAny_pyIter_list→jf,relayAll→jh,relabel→ji,getItem→jn,fits_of_scanBound→jo,entryFor→jp,collect→jq,callerA→jr,wpAny_pyHash_str→kr,wpAny_askSetting→ku,stored→kx,newExc→lc,entryFor_of_tree→lf,assign→lg,Builtin→mf,subscripted→ml,wpAny_call→ny,wpAny_Name→nz,pyIter→om,callWith→oo,bindArgs→oq,atKey→ow,IsPair→pi,wpAny_comprehension_free→qm,assignInOrder→qr,putSet_of→rf,bindL→rg,bindC→rh,wpAny_pyNext_list_item→ri,wpAny_nextOf_list_item→rj,setAddHashed→rk,newList→ro,cellOf→rz,argsOk→si,wpAny_pyNext_list_end→sj,wpAny_notOrdered_dict→sk,wpAny_isTrue_Compare1→so,wpAny_newFunctionEnv→ss,wpAny_loadName_local→su,codeAny_extend_loopS→tf,bindName→tj,wpAny_setEntries_of→ua,Code→uc
open Sum renaming inr→a9,inl→c7
open List renaming getElem?_eq_some_iff→b9,getElem?_eq_getElem→c8,mem_singleton→f9,length_map→g7,mem_of_getElem?→i3,size_toArray→i4,getElem?_map→i7,length_append→i9,mem_map→j1,range→k9,mem_append→m9,mem_cons→n6,mem_append_right→o0,map_append→u7,replicate→x8,mem_append_left→z9,take_length→A2,take_succ_eq_append_getElem→A5,mem_cons_of_mem→A7,length_cons→B7,cons_append→C2,getElem_mem→C5,map_cons→D3,append_nil→D6,filter_append→D7,getElem?_append_right→E3,mem_cons_self→E9,zip→J0,getElem?_of_mem→J1,nil_append→J5,append_assoc→K4,length_replicate→K7,getElem?_append_left→K8,length_eq_zero_iff→K9,find?_cons→L0,map_map→L1,lookup→L5,pairwise_map→L9,length_filterMap_le→N9,not_mem_nil→Q0,nodup_cons→Q1,any_cons→Q3,mem_filterMap→R5,mem_range→T6,filter_cons→U0,any_eq_true→U1,nodup_append→U8,length_pos_iff→U9,filterMap_cons→V2,pairwise_iff_getElem→X7,isEmpty_eq_false_iff→X8,getElem?_zip_eq_some→X9,take_add_one→Y0,length_range→Y1,filterMap_cons_some→Y6,filterMap_cons_none→Y7,length_nil→Z6,getElem?_cons_zero→Z8,getElem?_cons_succ→Z9,take_of_length_le→ar,lookup_cons→au,length_take→av,getElem?_eq_none→bn,length_singleton→bw,length_filter_le→bx,filterMap_append→bz,mem_of_mem_take→cq,mem_filter→cz,Perm→df,getElem_of_mem→eh,getElem_map→ip,of_mem_zip→iq,foldl_cons→ir,take_sublist→jg,map→kj,filterMap_eq_nil_iff→mh,getElem?_replicate→my,pairwise_lt_range→nj,length_pos_of_mem→np,getElem?_set_self→nr,sum_append→og,length_zip→on,mem_iff_getElem?→pf,mem_of_mem_drop→qh,length→qi,getElem?_set_ne→qj,getElem?_range→rc,map_nil→rp,length_drop→sx,all_cons→tu
open PySem.Heap renaming get?_push_of_some→c4,get?_push_size→j5,lt_size→j6,get?_update_other→A4,get?_update_self→C1,size_push→J3,SameBut→L6,size_update→W5,get?_none_of_le→qk
open Nat renaming lt_of_lt_of_le→c9,le_refl→i5,ne_of_lt→j4,lt_succ_of_lt→q7,le_trans→u8,le_of_ble_eq_true→v9,ne_of_gt→y6,zero_le→y8,lt_of_le_of_lt→B8,lt_succ_self→D2,toDigits→L7,le_succ→M0,le_mul_of_pos_right→M7,le_of_lt→Q2,pow_le_pow_right→Q8,mul_le_mul_left→S0,not_lt_zero→T5,le_add_right→V0,eq_of_mul_eq_mul_right→X6,lt_trans→bu,lt_or_ge→bv,mul_le_mul_right→de,le_antisymm→fk,lt_irrefl→gq,ofDigitChars_ten_toDigits→jc,min_self→jl,le_of_eq→jm,le_of_dvd→ld,log2_lt→qz
open Bool renaming false_ne_true→h7,and_eq_true→M5,false_eq_true→O0,and_true→O2,eq_iff_iff→Q9,beq_eq_decide_eq→U4,or_false→Z3,and_false→cr,false_and→ko
open Option.some renaming inj→h8,injEq→V6
open Rat renaming divInt→i0,num_divInt_den→y0,le_trans→E6,le_refl→K0,divInt_eq_divInt_iff→L8,divInt_mul_divInt→O7,le_of_lt→P6,ne_of_gt→S8,div_def→V4,not_lt→X5,not_le→az,le_iff→fz,neg_num→ja,le_antisymm→jv,intCast_lt_intCast→pc,divInt_add_divInt→qc,neg_den→qw,add_le_add_right→qx
open PySem.Value renaming ref→i6,none→F7,isStrOf_shape→J7,isStrOf→J8,type→K1,str→W3,int→cm,bool→jt,float→ox
open Int renaming gcd→i8,emod_lt_of_pos→j9,emod_nonneg→m8,natAbs_mul→C4,mul_comm→J9,natCast_dvd_natCast→M8,gcd_dvd_left→P8,mul_nonpos_of_nonpos_of_nonneg→R4,gcd_dvd_right→S9,gcd_comm→T4,mul_ne_zero→W0,toNat_natCast→Y8,mul_pos→Y9,mul_fdiv_cancel_left→Z7,lt_or_le→bc,le_trans→bf,natAbs_dvd_natAbs→cg,le_refl→dh,toNat_of_nonneg→ei,gcd_eq_zero_iff→ew,mul_assoc→fc,le_of_dvd→fh,zero_add→ig,gcd_mul_right→ii,ofNat→iy,mul_le_mul→mi,gcd_sub_mul_right_left→mj,gcd_dvd_natAbs_right→mz,dvd_trans→ng,dvd_mul_of_dvd_right→ni,pos_of_mul_pos_left→nu,le_of_lt→pj,mul_one→re
open Ne renaming symm→j3
open Option renaming map_eq_some_iff→j7,isSome_map→fb
open PySem.F renaming type_list_append→l0,slot_list_append→l7,plainAttrs_list→y9,plain_extend_loop→M9,plain_list_iadd→P0,called_set→Q5,plainAttrs_dict→R9,slot_dict_get→W1,slot_zip_next→W7,slot_list_getattribute→am,plain_proto_collect→di,entry_proto_collect→dj,entry_dict_get→fy,type_dict_setdefault→ia,slot_dict_setdefault→ib,entry_list_iadd→iz,args_tuple_add_2→jw,slot_dict_items→ke,entry_tuple_add→kf,args_dict_get_3→kh,args_dict_get_2→ki,entry_extend_loop→sq
open PySem.Obj renaming mapSeq→l8,data_mapFields→K5,putSet→ba,cls_mapFields→ic,data_mapDictKeys→qy
open PySem.W renaming Frag→m7,keepIn→n7,codeIn→w8,findIn→G8,kitOne→R0,fnOf→V1,emptyDict→V8,kia_one→Y2,codeHdIn→cc,instObj→gr,makesIn→gu,OpenLaw→gx,isFn→me,tabObj→oe,nsIn→rn,plainGet_of→sv,plainGet→sw
open PySem.PassesOwn renaming never→n9
open PySem.Around renaming under_plainId→w4,under→mq
open PySem.SeqAt renaming EqAt→w6,RcNeAt→aa,RcAt→ju
open PyProof.Rows renaming seqObj→A3,callWith_type1→I0,StrsAre→S5,envOfC→X4,size_push'→Z5,subscriptTail_builtinR→cv,AllBare→dk,IntsAre→gt,listUpdate_at→im,assignInOrder_cons→ix,arrOf→mm,get?_update_seq→mr,entry_list_sort→mw,slot_list_sort→oj,Subscript_→pb,IsTup→ph,subscriptTail→qo,plain_sorted→rm,entry_sorted→rr,call_function_entry_kw→sf,kind_sorted→sy,wpAny_call_entry_kw→ub
open Or renaming inr→A9,inl→B6
open PySem.Heap.SameBut renaming update→B0
open PySem.Str renaming ofString→B4,cps_append→al,join→gy
open List.cons renaming inj→B5,injEq→C3
open Array renaming getElem?_eq_getElem→C7,length_toList→C9,toList_push→R8,toList_append→V7,forIn_toList→W8,toArray_toList→ci,getElem_toList→cj,mem_toList_iff→pk
open PySem.Builtin.List renaming listExtendWith→D5,listSameRef→E7,listLengthHint→J2
open Pure renaming pure→D8
open PySem.SetTable renaming below→D9,grown→O3,has→jy
open ForInStep renaming yield→E2
open PySem.Builtin.SmallTypes renaming ownedTupleIsFree→F8,nextOf→S6
open True renaming intro→F9
open False renaming elim→K2
open PySem.Calls renaming spliced_cons→N8,spliced_nil→R6,callWith_builtin→R7,evalArgs_plain→V3,Name_function_global→jx
open PySem.SetTable.below renaming go→P5
open PySem.PyData renaming showable→Q4,showableAll→Q7,shown_int→U2,shown_str→Y5,shownAll_cons→bj,shownAll_nil→cn,shown_tuple→dw,int→dy,str→jb,tuple→mn
open Sum.inr renaming inj→Q6
open PySem.Shared renaming TypeIs→U3
open PySem.Txt renaming slice→W9,slice_le→oy
open Char renaming toNat→X0
open PySem.SeqAt.EqAt renaming same→Y4,str_int→bg,of_refs→bh,int_str→bi,none_bool→jz,bool_none→ka,bool_bool→kc,str_none→li,str_bool→lj,none_str→lm,none_int→lu,int_none→lw,int_bool→ly,bool_str→ma,bool_int→md
open Sum.inl renaming inj→ay
open PySem.Builtin.Dict renaming updateFrom→ij
open PySem.SeqAt.RcAt renaming lists_lengths→io
open PySem.NameKind renaming free→jd
open PySem.pickOrder renaming go→jk
open PySem.Builtin.Int renaming intBits→km
open PySem.Code renaming isFrame→nv
open Prod renaming snd→qe,fst→qf,ext→qg
namespace L2
open PySem PySem.Spec PyProof.Rows
noncomputable abbrev aM:=Sum Int Str
noncomputable def AT:aM->a8->Bool
|.inl k,v=>a8.isInt k v
|.inr x,v=>J8 x v
noncomputable def Qq(w:k6):aM->Int
|.inl k=>hashInt k
|.inr x=>hashStr w x
theorem dO:∀{k:aM}{v:a8},AT k v=true->(∃ i t,k=c7 i/\v=cm i t)∨(∃ x t,k=a9 x/\v=W3 x t)
|.inl i,v,h=>by
  obtain ⟨t,e⟩:=a8.isInt_shape (k:=i) (v:=v) h;exact .inl ⟨i,t,rfl,e⟩
|.inr x,v,h=>by
  obtain ⟨t,e⟩:=J7 (x:=x) (v:=v) h;exact .inr ⟨x,t,rfl,e⟩
theorem QG(i:Int)(t:Tok):AT (.inl i) (.int i t)=true:=by simp [AT,a8.isInt]
theorem QF(x:Str)(t:Tok):AT (.inr x) (.str x t)=true:=by simp [AT,J8]
theorem Io(a b:Int):decide ((c7 a:aM)=c7 b)=(a==b):=by
 by_cases e:a=b
 ·subst e; simp
 ·have h:¬ (c7 a:aM)=c7 b:=fun q=>e (ay q)
  rw [decide_eq_false h];exact (beq_eq_false_iff_ne.mpr e).symm
theorem Ik(a b:Str):decide ((a9 a:aM)=a9 b)=decide (a=b):=by
 by_cases e:a=b
 ·subst e; simp
 ·have h:¬ (a9 a:aM)=a9 b:=fun q=>e (Q6 q)
  rw [decide_eq_false h,decide_eq_false e]
theorem Im(a:Int)(b:Str):decide ((c7 a:aM)=a9 b)=false:=decide_eq_false (fun q=>nomatch q)
theorem Il(a:Str)(b:Int):decide ((a9 a:aM)=c7 b)=false:=decide_eq_false (fun q=>nomatch q)
noncomputable def bR(prog:j2)(w:k6):PySem.KeyKind prog w aM where
 is:=AT
 hash:=Qq w
 inj:=fun v a b ha hb=>by
  rcases dO ha with ⟨i,t,rfl,rfl⟩|⟨x,t,rfl,rfl⟩
  ·rcases dO hb with ⟨j,u,rfl,e⟩|⟨y,u,rfl,e⟩
   ·injection e with e1 _; rw [e1]
   ·exact nomatch e
  ·rcases dO hb with ⟨j,u,rfl,e⟩|⟨y,u,rfl,e⟩
   ·exact nomatch e
   ·injection e with e1 _; rw [e1]
 byValue:=fun k v h=>by
  rcases dO h with ⟨i,t,rfl,rfl⟩|⟨x,t,rfl,rfl⟩ <;> rfl
 pyHash:=fun hv h=>by
  rcases dO hv with ⟨i,t,rfl,rfl⟩|⟨x,t,rfl,rfl⟩
  ·exact wpAny_pyHash_int h
  ·exact kr h
 eqBool:=fun hu hv h=>by
  rcases dO hu with ⟨i,t,rfl,rfl⟩|⟨x,t,rfl,rfl⟩
  ·rcases dO hv with ⟨j,u,rfl,rfl⟩|⟨y,u,rfl,rfl⟩
   ·rw [Io] at h; exact wpAny_eqBool_int h
   ·rw [Im] at h; exact bi i t y u _ _ _ _ h
  ·rcases dO hv with ⟨j,u,rfl,rfl⟩|⟨y,u,rfl,rfl⟩
   ·rw [Il] at h; exact bg x t j u _ _ _ _ h
   ·rw [Ik] at h; exact wpAny_eqBool_str h
 «strs»:=fun k x t v h=>by
  rcases dO h with ⟨i,u,rfl,e⟩|⟨y,u,rfl,e⟩
  ·exact nomatch e
  ·injection e with e1 _
   subst e1;cases v <;> rfl
theorem HL(prog:j2)(w:k6)(i:Int)(t:Tok):(bR prog w).is (.inl i) (.int i t)=true:=QG i t
theorem HK(prog:j2)(w:k6)(x:Str)(t:Tok):(bR prog w).is (.inr x) (.str x t)=true:=QF x t
inductive V where
|non|bl (b:Bool)|int (i:Int)|str (x:Str)|byt (b:Array UInt8)|flt (b:UInt64)|ref (a:b8)|ty (n:String)
 deriving DecidableEq
noncomputable def bG:V->a8->Prop
|.non,u=>u=F7
|.bl b,u=>u=jt b
|.int i,u=>∃ t,u=cm i t
|.str x,u=>∃ t,u=W3 x t
|.byt b,u=>∃ t,u=a8.bytes b t
|.flt b,u=>∃ t,u=ox b t
|.ref a,u=>u=i6 a
|.ty n,u=>u=K1 n
noncomputable abbrev bO:List V->List a8->Prop:=Paired bG
theorem bO.length(r:bO xs us):xs.length=us.length:=Paired.length r
theorem bO.get:∀{xs:List V}{us:List a8}{i:Nat}{x:V},bO xs us->xs[i]?=some x->∃ u,us[i]?=some u/\bG x u
|_,_,_,_,.nil,e=>by simp at e
|_,_,0,_,.cons r _,e=>by simp at e; subst e; exact ⟨_,rfl,r⟩
|_,_,i+1,x,.cons _ t,e=>by
  obtain ⟨u,b,f⟩:=bO.get (i:=i) (x:=x) t (by simpa using e);exact ⟨u,by simpa using b,f⟩
theorem bO.append:∀{xs ys:List V}{us b:List a8},bO xs us->bO ys b->bO (xs++ys) (us++b)
|_,_,_,_,.nil,s=>s
|_,_,_,_,.cons r t,s=>.cons r (bO.append t s)
noncomputable def nD:Option V->Option a8->Prop
|some v,some u=>bG v u
|none,none=>True
|_,_=>False
noncomputable def KV{κ:Type}:List (κ×V)->List (κ×a8)->Prop:=Paired fun(p:κ×V)(q:κ×a8)=>p.1=q.1/\bG p.2 q.2
noncomputable def kV:aM->V
|.inl i=>.int i
|.inr x=>.str x
inductive HO where
 |lst (xs:List V)
 |tup (xs:List V)
 |dK (kvs:List (aM×V))|dT (kvs:List (List aM×V))
 |set (S:Int->Bool) (n:Nat)
 |ins (C dx:b8) (fs:List (Str×V))
 |own (x:b8)
 |xd (fs:List (Str×V))
 |met (f x:b8)
 |rng (lo hi:Int)
 |frz (o:Obj) (u:HO)
 |tbl (ps:Array a8)
 |ext (φ:u9->Prop)
noncomputable abbrev Hp:=b8->Option HO
noncomputable def upd(H:Hp)(a:b8)(o:HO):Hp:=fun b=>if b=a then some o else H b
theorem aC:upd H a o a=some o:=by unfold upd; rw [if_pos rfl]
theorem aZ(h:b≠a):upd H a o b=H b:=by unfold upd; rw [if_neg h]
theorem YO:upd (upd H a o) a u=upd H a u:=by
 funext b; unfold upd; split <;> rfl
theorem iE{H:Hp}(h:H a=some o)(h':H b=some u)(d:o≠u):a≠b:=by
 intro e; subst e; rw [h] at h'; exact d (h8 h')
theorem aB{H:Hp}(h:H a=some o)(h':H b=none):a≠b:=by
 intro e; subst e; rw [h] at h'; cases h'
section
variable (P:j2)(w:k6)
noncomputable def dH(H:Hp)(h:u9)(a:b8):HO->Prop
|.lst xs=>xs.length<=j0/\∃(its:List a8)(n:Nat),bO xs its/\h.get? a=some { cls:=.type "list",data:=.seq its.toArray n }
|.tup xs=>(xs.length<=j0/\∃ o,h.get? a=some o/\o.dict=none)/\∃ its:List a8,bO xs its/\ph h a its.toArray
|.dK kvs=>kvs.length<=j0/\(a==sysModules)=false/\∃ vs,KV kvs vs/\h.DictOf (bR P w) a vs
|.dT kvs=>kvs.length<=j0/\(a==sysModules)=false/\∃ xs:List (List aM×b8×a8),
   Paired (fun(p:List aM×V)(q:List aM×b8×a8)=>p.1=q.1/\H q.2.1=some (.tup (p.1.map kV))/\bG p.2 q.2.2) kvs xs /\
   ∃ o es ep,h.get? a=some o/\o.ExactDict/\o.data=.dict es ep/\es.toList=xs.map (entryOfKey (br (bR P w)))/\(xs.map (·.1)).Nodup
|.set S n=>h.SetOf (intKind P w) a S n
|.ins C dx fs=>H dx=some (.own a)/\fs.length<=1000/\dx≠a/\h.get? a=some (gr C dx) /\
   ∃ mA,h.Ns1 dx mA/\(∀ f,nD (fs.lookup f) (mA f))/\gg mA (fs.map (·.1))
|.own _=>∃ o,h.get? a=some o
|.xd fs=>∃ mA,h.Ns1 a mA/\∀ f,nD (fs.lookup f) (mA f)
|.rng lo hi=>∃ t u v,h.get? a=some { cls:=.type "range",data:=.fields #[.int lo t,.int hi u,.int 1 v] }
|.frz o u=>h.get? a=some o/\dH H h a u
|.tbl ps=>h.get? a=some { cls:=.none,data:=.fields ps }
|.met f x=>h.get? a=some (methodObj (.ref f) (.ref x))
|.ext φ=>φ h/\(∃ o,h.get? a=some o)/\∀ h1 h2:u9,φ h1->(∀ o,h1.get? a=some o->h2.get? a=some o)->φ h2
noncomputable def pQ(H:Hp)(h:u9):Prop:=∀ a o,H a=some o->dH P w H h a o
end
section
variable {P:j2}{w:k6}{H H':Hp}{h h':u9}{a:b8}{o:HO}
theorem dH.lt(x:dH P w H h a o):a < h.objs.size:=by
 cases o with
|lst i=>obtain ⟨_,_,_,_,e⟩:=x; exact j6 e
|tup i=>obtain ⟨_,_,_,p⟩:=x; exact p.lt
|dK b=>obtain ⟨_,_,_,_,o,_,_,e,_⟩:=x; exact j6 e
|dT b=>obtain ⟨_,_,_,_,o,_,_,e,_⟩:=x; exact j6 e
|set S n=>obtain ⟨o,_,_,_,e,_⟩:=x; exact j6 e
|ins C m g=>obtain ⟨_,_,_,e,_⟩:=x; exact j6 e
|own y=>obtain ⟨_,e⟩:=x; exact j6 e
|xd g=>obtain ⟨_,⟨_,_,_,e,_⟩,_⟩:=x; exact j6 e
|rng lo q=>obtain ⟨_,_,_,e⟩:=x; exact j6 e
|frz s u=>obtain ⟨e,_⟩:=x; exact j6 e
|tbl A=>exact j6 (show h.get? a=some _ from x)
|met f y=>exact j6 (show h.get? a=some _ from x)
|ext B=>obtain ⟨_,⟨_,e⟩,_⟩:=x; exact j6 e
theorem Paired.mapP{g i:Type}{F G:g->i->Prop}:∀{l₁:List g}{l₂:List i},Paired F l₁ l₂->(∀ a b,F a b->G a b)->Paired G l₁ l₂
|_,_,.nil,_=>.nil
|_,_,.cons r t,f=>.cons (f _ _ r) (Paired.mapP t f)
theorem dH.stay(x:dH P w H h a o)(k:∀ b u,(b=a∨H b=some (.own a))->h.get? b=some u->h'.get? b=some u)(M:∀ b,H b=some (.own a)->H' b=some (.own a))(N:∀ b xs,H b=some (.tup xs)->H' b=some (.tup xs)):dH P w H' h' a o:=by
 induction o with
|lst xs=>obtain ⟨z,s,n,r,e⟩:=x; exact ⟨z,s,n,r,k _ _ (.inl rfl) e⟩
|tup xs=>obtain ⟨⟨z,Q,I,G⟩,s,r,g,e,c⟩:=x; exact ⟨⟨z,Q,k _ _ (.inl rfl) I,G⟩,s,r,g,k _ _ (.inl rfl) e,c⟩
|dK A=>obtain ⟨z,y,R,r,g,m,i,e,c⟩:=x; exact ⟨z,y,R,r,g,m,i,k _ _ (.inl rfl) e,c⟩
|dT A =>
  obtain ⟨z,y,xs,r,g,m,i,e,c⟩:=x;exact ⟨z,y,xs,Paired.mapP r fun p q z=>⟨z.1,N _ _ z.2.1,z.2.2⟩,g,m,i,k _ _ (.inl rfl) e,c⟩
|set S n=>obtain ⟨g,m,i,t,e,c⟩:=x; exact ⟨g,m,i,t,k _ _ (.inl rfl) e,c⟩
|ins C T K =>
  obtain ⟨d,z,O,e,B,⟨D,m,i,J,c⟩,r⟩:=x;exact ⟨M _ d,z,O,k _ _ (.inl rfl) e,B,⟨D,m,i,k _ _ (.inr d) J,c⟩,r⟩
|own y=>obtain ⟨g,e⟩:=x; exact ⟨g,k _ _ (.inl rfl) e⟩
|xd K=>obtain ⟨B,⟨D,m,i,e,c⟩,r⟩:=x; exact ⟨B,⟨D,m,i,k _ _ (.inl rfl) e,c⟩,r⟩
|rng lo U=>obtain ⟨t,u,v,e⟩:=x; exact ⟨t,u,v,k _ _ (.inl rfl) e⟩
|frz g u ih=>obtain ⟨e,q⟩:=x; exact ⟨k _ _ (.inl rfl) e,ih q⟩
|tbl E =>
  have e:h.get? a=some { cls:=.none,data:=.fields E }:=x;show h'.get? a=some { cls:=.none,data:=.fields E };exact k a _ (.inl rfl) e
|met f y =>
  have e:h.get? a=some (methodObj (.ref f) (.ref y)):=x;show h'.get? a=some (methodObj (.ref f) (.ref y));exact k a _ (.inl rfl) e
|ext W=>obtain ⟨p,⟨o,e⟩,st⟩:=x; exact ⟨st _ _ p fun o q=>k _ _ (.inl rfl) q,⟨o,k _ _ (.inl rfl) e⟩,st⟩
theorem pQ.lt(x:pQ P w H h)(e:H a=some o):a < h.objs.size:=(x a o e).lt
theorem pQ.fresh(x:pQ P w H h)(e:h.objs.size<=a):H a=none:=by
 cases q:H a with
|none=>rfl
|some u=>exact absurd (c9 (x.lt q) e) (gq _)
theorem pQ.kept(x:pQ P w H h)(k:∀ b u,h.get? b=some u->h'.get? b=some u):pQ P w H h':=fun a o e =>
 (x a o e).stay (fun b u _ q=>k b u q) (fun _ q=>q) fun _ _ q=>q
theorem pQ.laid(x:pQ P w H h)(k:∀ b u,h.get? b=some u->h'.get? b=some u)(hp:h.objs.size<=a)(new:dH P w (upd H a o) h' a o):pQ P w (upd H a o) h':=fun b u e=>by
 have hn:=x.fresh hp;by_cases f:b=a
 ·subst f; rw [aC] at e; cases e; exact new
 ·rw [aZ f] at e
  exact (x b u e).stay (fun c v _ q=>k c v q) (fun c q=>by rw [aZ (aB q hn)]; exact q) fun c g q=>by rw [aZ (aB q hn)]; exact q
end
noncomputable def Rd(H:Hp)(a:b8)(u:HO):Prop:=H a=some u∨∃ o,H a=some (.frz o u)
theorem Rd.ok(r:Rd H a u)(x:pQ P w H h):dH P w H h a u:=by
 rcases r with r|⟨o,r⟩
 ·exact x a u r
 ·obtain ⟨_,q⟩:=x a _ r
  exact q
noncomputable def Ov:Option HO->Prop
|some (.lst _)=>True
|some (.dK _)=>True
|some (.dT _)=>True
|some (.set _ _)=>True
|some (.ins _ _ _)=>True
|some (.ext _)=>True
|_=>False
section
variable {P:j2}{w:k6}{H:Hp}{h h':u9}{x e:b8}{o':HO}
theorem pQ.write(ok:pQ P w H h)(mu:Ov (H x))(A:e=x∨H e=some (.own x))(k:∀ b u,b≠e->h.get? b=some u->h'.get? b=some u)(s:∃ u,h'.get? e=some u)(new:dH P w (upd H x o') h' x o'):pQ P w (upd H x o') h':=fun b u q=>by
 have g:∀ c y,H c=some (.own y)->c≠x:=fun c y r z=>by subst z; rw [r] at mu; exact mu
 have i:∀ c xs,H c=some (.tup xs)->c≠x:=fun c xs r z=>by subst z; rw [r] at mu; exact mu
 by_cases m:b=x
 ·subst m; rw [aC] at q; cases q; exact new
 ·rw [aZ m] at q
  by_cases f:b=e
  ·have B:H b=some (.own x):=by
    rcases A with z|z
    ·exact absurd (f.trans z) m
    ·rw [f]; exact z
   rw [q] at B; cases B;obtain ⟨v,C⟩:=s;exact ⟨v,by rw [f]; exact C⟩
  ·refine (ok b u q).stay (fun c v o r=>k c v ?_ r) (fun c r=>by rw [aZ (g c b r)]; exact r) fun c xs r=>by rw [aZ (i c xs r)]; exact r
   rcases o with rfl|o
   ·exact f
   ·rintro rfl
    rcases A with z|z
    ·exact g c b o z
    ·rw [o] at z; cases z; exact m rfl
end
structure Un(fs ex:List b8)(H H':Hp)(h h':u9):Prop where
 keep:∀ b o,h.get? b=some o->H b=none->b∉fs->b∉ex->h'.get? b=some o
 slot:∀ b o,h.get? b=some o->H b=none->b∈fs->b∉ex->∃ sl,h'.get? b=some { o with slots:=sl }
 free:∀ b o,h.get? b=some o->H b=none->b∉ex->H' b=none
 there:∀ b o,h.get? b=some o->b∉ex->∃ o',h'.get? b=some o'
 tups:∀ b xs,H b=some (.tup xs)->H' b=some (.tup xs)
 frzs:∀ b o u,H b=some (.frz o u)->H' b=some (.frz o u)
 tbls:∀ b ps,H b=some (.tbl ps)->∃ more,H' b=some (.tbl (ps++more))
section
variable {fs fs' ex ex':List b8}{H H1 H2:Hp}{h h1 h2 h':u9}{a x e:b8}{o:HO}
theorem Un.any(u:Un fs ex H H1 h h1)(q:h.get? b=some ob)(n:H b=none)(g:b∉ex):∃ i,h1.get? b=some { ob with slots:=i }:=by
 by_cases f:b∈fs
 ·exact u.slot b ob q n f g
 ·exact ⟨ob.slots,u.keep b ob q n f g⟩
theorem Un.trans(a:Un fs ex H H1 h h1)(b:Un fs ex H1 H2 h1 h2):Un fs ex H H2 h h2 where
 keep:=fun c g q n m f=>b.keep c g (a.keep c g q n m f) (a.free c g q n f) m f
 slot:=fun c g q n m f=>by
  obtain ⟨G,i⟩:=a.slot c g q n m f;obtain ⟨B,w⟩:=b.slot c _ i (a.free c g q n f) m f;exact ⟨B,w⟩
 free:=fun c g q n f=>by
  obtain ⟨A,i⟩:=a.there c g q f;exact b.free c A i (a.free c g q n f) f
 there:=fun c g q f=>by
  obtain ⟨A,i⟩:=a.there c g q f;exact b.there c A i f
 tups:=fun c s q=>b.tups c s (a.tups c s q)
 frzs:=fun c g s q=>b.frzs c g s (a.frzs c g s q)
 tbls:=fun c E q=>by
  obtain ⟨C,i⟩:=a.tbls c E q;obtain ⟨D,w⟩:=b.tbls c _ i;exact ⟨C++D,by rw [w,Array.append_assoc]⟩
theorem Un.kept(k:∀ b u,h.get? b=some u->h'.get? b=some u):Un fs ex H H h h':=
 ⟨fun b f q _ _ _=>k b f q,fun b f q _ _ _=>⟨f.slots,k b f q⟩,fun _ _ _ n _=>n,fun b f q _=>⟨f,k b f q⟩,fun _ _ q=>q,fun _ _ _ q=>q,fun _ g q=>⟨#[],by rw [q]; simp⟩⟩
theorem Un.refl:Un fs ex H H h h:=Un.kept fun _ _ q=>q
theorem Un.laid(k:∀ b u,h.get? b=some u->h'.get? b=some u)(hp:h.objs.size<=a)(hn:H a=none):Un fs ex H (upd H a o) h h' where
 keep:=fun b u q _ _ _=>k b u q
 slot:=fun b u q _ _ _=>⟨u.slots,k b u q⟩
 free:=fun b u q n _=>by rw [aZ (j4 (c9 (j6 q) hp))]; exact n
 there:=fun b u q _=>⟨u,k b u q⟩
 tups:=fun b f q=>by rw [aZ (aB q hn)]; exact q
 frzs:=fun b u f q=>by rw [aZ (aB q hn)]; exact q
 tbls:=fun b g q=>⟨#[],by rw [aZ (aB q hn),q]; simp⟩
theorem Un.write(mu:Ov (H x))(w:e=x∨H e=some (.own x))(k:∀ b u,b≠e->h.get? b=some u->h'.get? b=some u)(g:∃ u,h'.get? e=some u):Un fs ex H (upd H x o) h h':=by
 have s:∀ b,H b=none->b≠x:=fun b n z=>by subst z; rw [n] at mu; exact mu
 have m:∀ b,H b=none->b≠e:=fun b n z=>by
  subst z;rcases w with r|r
  ·exact s b n r
  ·rw [n] at r; cases r
 have i:∀ b u,H b=some u->¬ Ov (some u)->b≠x:=fun b u q A z=>by subst z; rw [q] at mu; exact A mu
 refine ⟨fun b u q n _ _=>k b u (m b n) q,fun b u q n _ _=>⟨u.slots,k b u (m b n) q⟩,fun b u q n _=>by rw [aZ (s b n)]; exact n,fun b u q _=>?_,
  fun b B q=>by rw [aZ (i b _ q fun z=>z)]; exact q,fun b u B q=>by rw [aZ (i b _ q fun z=>z)]; exact q,fun b C q=>⟨#[],by rw [aZ (i b _ q fun z=>z),q]; simp⟩⟩
 by_cases f:b=e
 ·subst f; exact g
 ·exact ⟨u,k b u f q⟩
end
noncomputable def Pc(h:u9)(H:Hp):List b8:=(k9 h.objs.size).filter fun a=>(H a).isSome
noncomputable def yY(h:u9)(H:Hp):u9:=PySem.W.hideAll h (Pc h H)
theorem QK(h:u9)(H:Hp):(yY h H).objs.size=h.objs.size:=PySem.W.hideAll_size _ _
theorem WP(e:h.get? b=some o)(n:H b=none):(yY h H).get? b=some o:=
 PySem.W.hideAll_get _ e fun f=>by
  have q:(H b).isSome=true:=(cz.mp f).2;rw [n] at q; simp at q
theorem Ao(e:(yY h H).get? b=some o):h.get? b=some o/\H b=none:=by
 have f:h.get? b=some o:=PySem.W.of_hideAll (Pc h H) e;refine ⟨f,?_⟩;cases q:H b with
|none=>rfl
|some x =>
  have g:b∈Pc h H:=cz.mpr ⟨T6.mpr (j6 f),by simp [q]⟩;have z:(yY h H).get? b=none:=PySem.W.hideAll_none (Pc h H) g;rw [z] at e; cases e
noncomputable def Bp(g h:u9)(L:b8):List (b8×Obj):=(k9 h.objs.size).filterMap fun a=>if a=L∨(g.get? a).isSome=true then none else (h.get? a).map fun o=>(a,o)
noncomputable def jC(g h:u9)(L d:b8):List (b8×Obj):=(Bp g h L).filter fun p=>decide (p.1≠d)
structure Mod(K:m7)(mg:Str->Option a8)(base:u9):Prop where
 kin:K.In base
 glob:base.Ns r9 mg
 blt:∃ mb,base.Ns iw mb/\∀ x:Str,x≠"__name__"->mb x=x9 x
 nolimit:base.NoLimit
set_option genInjectivity false in
set_option genSizeOfSpec false in
structure Cx where
 prog:j2
 w:k6
 K:m7
 mg:Str->Option a8
 base:u9
 A:q4
 N:List Str
 s₀:c5
 H₀:Hp
 env:Env
 outer:List Env
 stack:List Env
 ex:List b8
 fn:Str->Bool
 calm:Bool
 pn:List (b8×Obj)
 xe:a8->c5->Prop
noncomputable def DC(l:List Env):List b8:=l.filterMap (·.frame)
noncomputable abbrev Cx.fs(X:Cx):List b8:=DC X.outer
noncomputable def Pj(sc:V5)(x:Str):Prop:=sc.names.lookup x=some .local∨sc.names.lookup x=some .cell∨sc.names.lookup x=some .free
noncomputable def Ju(sc:V5)(x:Str):Prop:=sc.names.lookup x=some .local∨sc.names.lookup x=some .cell
noncomputable def Rj(env:Env)(h:u9)(m:Str->Option a8)(x:Str)(u:a8):Prop:=
 (env.kindOf x=some .local/\m x=some u)∨((env.kindOf x=some .cell∨env.kindOf x=some .free)/\∃ c,env.cells.lookup x=some c/\h.IsCell c (some u))
structure Cx.Ok(X:Cx):Prop where
 mod:Mod X.K X.mg X.base
 kind:X.env.scope.kind=.function
 glob:X.env.globals=r9
 blt:X.env.builtins=iw
 above:X.s₀.heap.objs.size<=X.env.locals
 inj:∀ x y c,X.env.cells.lookup x=some c->X.env.cells.lookup y=some c->x=y
 has:∀ x,(X.env.kindOf x=some .cell∨X.env.kindOf x=some .free)->∃ c,X.env.cells.lookup x=some c
 cab:∀ x c,X.fn x=true->X.env.cells.lookup x=some c->X.s₀.heap.objs.size<=c
 hd:X.calm=true->X.A.handled=none
 frames:X.A.frames=some X.stack
 stk:X.stack=X.outer∨(X.stack=X.env::X.outer/\X.env.frame=some X.env.locals)
 exf:∀ b∈X.ex,b≠X.env.locals/\∀ x c,X.env.cells.lookup x=some c->c≠b
 bs:∀ b o,X.base.get? b=some o->X.s₀.heap.get? b=some o/\X.H₀ b=none
 bsz:X.base.objs.size<=X.s₀.heap.objs.size
 noex:∀ b o,X.base.get? b=some o->b∉X.ex
 exfs:∀ b∈X.ex,b∉X.fs
 funs:X.s₀.heap.FunFrames X.base X.outer
 frf:∀ b∈X.fs,X.H₀ b=none
structure bB(X:Cx)(ud:List (b8×Obj))(σ:List (Option V))(H:Hp)(s:c5):Prop where
 ok:X.Ok
 os:s.os=X.s₀.os
 bare:dk s.gens
 base:Un X.fs X.ex X.H₀ H X.s₀.heap s.heap
 loc:∃ m,s.heap.Ns X.env.locals m/\∀(i:Nat)(x:Str)(v:V),X.N[i]?=some x->σ[i]?=some (some v)->Pj X.env.scope x->∃ u,bG v u/\Rj X.env s.heap m x u
 cell:∀ x c,X.env.cells.lookup x=some c->∃ v,s.heap.IsCell c v
 free:H X.env.locals=none
 freeC:∀ x c,X.env.cells.lookup x=some c->H c=none
 pin:∀ p∈X.pn++ud,s.heap.get? p.1=some p.2/\H p.1=none/\p.1≠X.env.locals/\p.1∉X.fs/\∀ v,p.2.data≠.cell v
 hok:pQ X.prog X.w H s.heap
 len:σ.length=X.N.length
section
variable {X:Cx}{ud:List (b8×Obj)}{σ:List (Option V)}{H H':Hp}{s:c5}{h':u9}
theorem Cx.Ok.nofr(ok:X.Ok)(e:X.base.get? b=some o):b∉X.fs:=fun f=>by
 have:=(ok.funs.mem f).1;rw [e] at this; cases this
theorem bB.bs(I:bB X ud σ H s):∀ b o,X.base.get? b=some o->s.heap.get? b=some o/\H b=none:=fun b o e =>
 ⟨I.base.keep b o (I.ok.bs b o e).1 (I.ok.bs b o e).2 (I.ok.nofr e) (I.ok.noex b o e),I.base.free b o (I.ok.bs b o e).1 (I.ok.bs b o e).2 (I.ok.noex b o e)⟩
theorem bB.bk(I:bB X ud σ H s):∀ b o,X.base.get? b=some o->s.heap.get? b=some o:=fun b o e=>(I.bs b o e).1
theorem bB.mod(I:bB X ud σ H s):Mod X.K X.mg X.base:=I.ok.mod
theorem bB.kIn(I:bB X ud σ H s):X.K.In s.heap:=I.ok.mod.kin.keeps I.bk
theorem bB.lt(I:bB X ud σ H s):X.env.locals < s.heap.objs.size:=let ⟨_,hn,_⟩:=I.loc; hn.lt
theorem bB.sz(I:bB X ud σ H s):X.s₀.heap.objs.size<=s.heap.objs.size:=u8 I.ok.above (Q2 I.lt)
theorem bB.nofs(I:bB X ud σ H s)(h:s.heap.objs.size<=a):a∉X.fs:=fun b=>by
 obtain ⟨_,o,f,_⟩:=I.ok.funs.mem b;exact absurd (c9 (j6 f) (u8 I.sz h)) (gq _)
theorem bB.cne(I:bB X ud σ H s):∀ x c,X.env.cells.lookup x=some c->c≠X.env.locals:=fun x c e z=>by
 obtain ⟨v,o,i,g⟩:=I.cell x c e;obtain ⟨m,⟨A,w,q,f,b,_⟩,_⟩:=I.loc;rw [z,f] at i; cases i; rw [b] at g; cases g
theorem bB.funs(I:bB X ud σ H s):s.heap.FunFrames X.base X.outer:=by
 have f:∀(l:List Env),(∀ b∈DC l,b∈X.fs)->X.s₀.heap.FunFrames X.base l->s.heap.FunFrames X.base l:=by
  intro l
  induction l with
 |nil=>intro _ _; trivial
 |cons q r ih =>
   intro hs A;obtain ⟨hk,⟨L,o,m,hn,B,w⟩,C⟩:=A;have g:L∈X.fs:=hs L (by unfold DC; rw [V2,m]; exact E9);obtain ⟨D,e⟩:=I.base.slot L o B (I.ok.frf L g) g fun z=>I.ok.exfs L z g;exact ⟨hk,⟨L,_,m,hn,e,w⟩,ih (fun b i=>hs b (by unfold DC; rw [V2,m]; exact A7 _ i)) C⟩
 exact f X.outer (fun _ i=>i) I.ok.funs
theorem bB.stack(I:bB X ud σ H s):s.heap.FunFrames X.base X.stack:=by
 rcases I.ok.stk with e|⟨e,b⟩
 ·rw [e]; exact I.funs
 ·rw [e]
  obtain ⟨m,hn,_⟩:=I.loc;refine .cons (by rw [I.ok.kind]; decide) b hn ?_ I.funs;exact qk (u8 I.ok.bsz I.ok.above)
theorem bB.stkSub(I:bB X ud σ H s):∀ b∈DC X.stack,b∈X.env.locals::X.fs:=fun b f=>by
 rcases I.ok.stk with e|⟨e,g⟩
 ·rw [e] at f; exact A7 _ f
 ·rw [e] at f
  unfold DC at f;rw [V2,g] at f;exact f
theorem bB.stkFree(I:bB X ud σ H s):∀ b∈DC X.stack,H b=none:=fun b f=>by
 rcases n6.mp (I.stkSub b f) with e|f
 ·rw [e]; exact I.free
 ·obtain ⟨_,o,g,_⟩:=I.ok.funs.mem f
  exact I.base.free b o g (I.ok.frf b f) fun z=>I.ok.exfs b z f
theorem bB.step{g':Array GenState}{t':Nat}{d':Drawn}{ch:List b8}(I:bB X ud σ H s)(B:∀ b∈ch,(b∈X.ex∨X.s₀.heap.objs.size<=b)/\b≠X.env.locals/\(∀ x c,X.env.cells.lookup x=some c->c≠b)/\∀ p∈X.pn++ud,p.1≠b)(C:∀ b o,b≠X.env.locals->b∉X.fs->b∉ch->s.heap.get? b=some o->H b=none->h'.get? b=some o)(slot:∀ b o,b≠X.env.locals->b∈X.fs->b∉ch->s.heap.get? b=some o->H b=none->∃ W,h'.get? b=some { o with slots:=W })(g:∀ b o,b∉ch->s.heap.get? b=some o->H b=none->H' b=none)(K:∀ b o,b∉ch->s.heap.get? b=some o->∃ Q,h'.get? b=some Q)(S:∀ b xs,H b=some (.tup xs)->H' b=some (.tup xs))(O:∀ b o u,H b=some (.frz o u)->H' b=some (.frz o u))(R:∀ b ps,H b=some (.tbl ps)->∃ more,H' b=some (.tbl (ps++more)))(ns:∀ m,s.heap.Ns X.env.locals m->h'.Ns X.env.locals m)(U:pQ X.prog X.w H' h')(hg:dk g'):
  bB X ud σ H' { s with heap:=h',gens:=g',drawn:=d',toks:=t' }:=by
 have P:∀ b o,X.s₀.heap.get? b=some o->b≠X.env.locals:=fun b o e=>j4 (c9 (j6 e) I.ok.above);have G:∀ b o,X.s₀.heap.get? b=some o->b∉X.ex->b∉ch:=fun b o e f J=>by
  rcases (B b J).1 with z|z
  ·exact f z
  ·exact absurd (c9 (j6 e) z) (gq _)
 have A:∀ x c,X.env.cells.lookup x=some c->∀ v,s.heap.IsCell c v->h'.IsCell c v:=fun x c e v ⟨o,M,T⟩=>by
  have D:c∉ch:=fun z=>(B c z).2.2.1 x c e rfl;by_cases Z:c∈X.fs
  ·obtain ⟨W,q⟩:=slot c o (I.cne x c e) Z D M (I.freeC x c e)
   exact ⟨_,q,T⟩
  ·exact ⟨o,C c o (I.cne x c e) Z D M (I.freeC x c e),T⟩
 refine ⟨I.ok,I.os,hg,⟨fun b o e n J f=>?_,fun b o e n J f=>?_,fun b o e n f=>?_,fun b o e f=>?_,fun b xs e=>S b xs (I.base.tups b xs e),fun b o xs e=>O b o xs (I.base.frzs b o xs e),fun b ps e=>?_⟩,?_,fun x c e=>?_,?_,fun x c e=>?_,fun p hp=>?_,U,I.len⟩
 ·exact C b o (P b o e) J (G b o e f) (I.base.keep b o e n J f) (I.base.free b o e n f)
 ·obtain ⟨W,E⟩:=I.base.slot b o e n J f
  obtain ⟨Y,N⟩:=slot b _ (P b o e) J (G b o e f) E (I.base.free b o e n f);exact ⟨Y,N⟩
 ·obtain ⟨Q,E⟩:=I.base.there b o e f
  exact g b Q (G b o e f) E (I.base.free b o e n f)
 ·obtain ⟨Q,E⟩:=I.base.there b o e f
  exact K b Q (G b o e f) E
 ·obtain ⟨m1,E⟩:=I.base.tbls b ps e
  obtain ⟨m2,N⟩:=R b _ E;exact ⟨m1++m2,by rw [N,Array.append_assoc]⟩
 ·obtain ⟨m,hn,hl⟩:=I.loc
  refine ⟨m,ns m hn,fun i x v E N e3=>?_⟩;obtain ⟨u,r,l⟩:=hl i x v E N e3;refine ⟨u,r,?_⟩;rcases l with l|⟨k,c,e,z⟩
  ·exact .inl l
  ·exact .inr ⟨k,c,e,A x c e _ z⟩
 ·obtain ⟨v,z⟩:=I.cell x c e
  exact ⟨v,A x c e v z⟩
 ·obtain ⟨m,⟨o,_,_,M,_⟩,_⟩:=I.loc
  exact g _ o (fun z=>(B _ z).2.1 rfl) M I.free
 ·obtain ⟨v,o,M,T⟩:=I.cell x c e
  exact g c o (fun z=>(B c z).2.2.1 x c e rfl) M (I.freeC x c e)
 ·obtain ⟨e,n,ne,nf,d⟩:=I.pin p hp
  have D:p.1∉ch:=fun z=>(B p.1 z).2.2.2 p hp rfl;exact ⟨C p.1 p.2 ne nf D e n,g p.1 p.2 D e n,ne,nf,d⟩
theorem bB.un(I:bB X ud σ H s)(u:Un X.fs [] H H' s.heap h')(A:pQ X.prog X.w H' h'):bB X ud σ H' { s with heap:=h',toks:=t' }:=by
 obtain ⟨m,⟨o,J,G,B,r⟩,_⟩:=id I.loc;obtain ⟨N,C⟩:=u.any B I.free (by simp);exact I.step (g':=s.gens) (d':=s.drawn) (ch:=[]) (fun _ z=>nomatch z) (fun b o _ q _ e n=>u.keep b o e n q (by simp)) (fun b o _ q _ e n=>u.slot b o e n q (by simp)) (fun b o _ e n=>u.free b o e n (by simp)) (fun b o _ e=>u.there b o e (by simp)) u.tups u.frzs u.tbls (fun K D=>by
  obtain ⟨M,i,g,f,E⟩:=D;rw [B] at f; cases f;exact ⟨_,i,g,C,E⟩) A I.bare
theorem bB.call(I:bB X ud σ H s)(u:Un (DC X.stack) ch H H' s.heap h')(C:pQ X.prog X.w H' h')(G:dk g')(g:∀ b∈ch,(b∈X.ex∨X.s₀.heap.objs.size<=b)/\b≠X.env.locals/\(∀ x c,X.env.cells.lookup x=some c->c≠b)/\∀ p∈X.pn++ud,p.1≠b):
  bB X ud σ H' { s with heap:=h',gens:=g',drawn:=d',toks:=t' }:=by
 obtain ⟨m,⟨o,N,M,D,r⟩,_⟩:=id I.loc;obtain ⟨Q,B⟩:=u.any D I.free fun z=>(g _ z).2.1 rfl;exact I.step (ch:=ch) g (fun b o B E f e n=>u.keep b o e n (fun z=>(n6.mp (I.stkSub b z)).elim B E) f) (fun b o _ _ f e n=>u.any e n f) (fun b o f e n=>u.free b o e n f) (fun b o f e=>u.there b o e f) u.tups u.frzs u.tbls (fun O J=>by
  obtain ⟨P,A,q,i,K⟩:=J;rw [D] at i; cases i;exact ⟨_,A,q,B,K⟩) C G
theorem bB.turned(I:bB X ud σ H s)(k:∀ b o,b≠it->s.heap.get? b=some o->h'.get? b=some o)(hn:H it=none)(i:it≠X.env.locals)(B:it∈X.ex∨X.s₀.heap.objs.size<=it)(C:∀ x c,X.env.cells.lookup x=some c->c≠it)(D:∀ p∈X.pn++ud,p.1≠it):bB X ud σ H { s with heap:=h',toks:=t' }:=by
 have g:∀ b u,H b=some u->b≠it:=fun b u e z=>by rw [z,hn] at e; cases e
 refine I.step (g':=s.gens) (d':=s.drawn) (ch:=[it]) (fun b E=>?_) (fun b o _ _ f e _=>k b o (fun z=>f (by simp [z])) e) (fun b o _ _ f e _=>⟨o.slots,k b o (fun z=>f (by simp [z])) e⟩) (fun _ _ _ _ n=>n)
  (fun b o f e=>⟨o,k b o (fun z=>f (by simp [z])) e⟩) (fun _ _ e=>e) (fun _ _ _ e=>e) (fun b K e=>⟨#[],by rw [e]; simp⟩) (fun m G=>?_) (fun b u e=>?_) I.bare
 ·have e:b=it:=by simpa using E
  subst e;exact ⟨B,i,C,D⟩
 ·obtain ⟨o,A,w,J,r⟩:=G
  exact ⟨o,A,w,k _ o (j3 i) J,r⟩
 ·refine (I.hok b u e).stay (fun c v f q=>k c v ?_ q) (fun _ q=>q) fun _ _ q=>q
  rcases f with z|z
  ·rw [z]; exact g b u e
  ·exact g c _ z
theorem bB.tok(I:bB X ud σ H s)(t:Nat):bB X ud σ H { s with toks:=t }:=I.un (h':=s.heap) (t':=t) Un.refl I.hok
theorem bB.kept(I:bB X ud σ H s)(k:∀ b u,s.heap.get? b=some u->h'.get? b=some u):bB X ud σ H { s with heap:=h',toks:=t' }:=I.un (Un.kept k) (I.hok.kept k)
theorem bB.laid(I:bB X ud σ H s)(k:∀ b u,s.heap.get? b=some u->h'.get? b=some u)(hp:s.heap.objs.size<=a)(new:dH X.prog X.w (upd H a o) h' a o):
  bB X ud σ (upd H a o) { s with heap:=h',toks:=t' }:=I.un (Un.laid k hp (I.hok.fresh hp)) (I.hok.laid k hp new)
theorem bB.write(I:bB X ud σ H s)(mu:Ov (H x))(g:e=x∨H e=some (.own x))(k:∀ b u,b≠e->s.heap.get? b=some u->h'.get? b=some u)(f:∃ u,h'.get? e=some u)(new:dH X.prog X.w (upd H x o) h' x o):bB X ud σ (upd H x o) { s with heap:=h',toks:=t' }:=I.un (Un.write mu g k f) (I.hok.write mu g k f new)
theorem bB.pins_of(I:bB X ud σ H s)(h:∀ p∈pins',s.heap.get? p.1=some p.2/\H p.1=none/\p.1≠X.env.locals/\p.1∉X.fs/\∀ v,p.2.data≠.cell v):bB X pins' σ H s:=
 ⟨I.ok,I.os,I.bare,I.base,I.loc,I.cell,I.free,I.freeC,fun p hp=>(m9.mp hp).elim (fun z=>I.pin p (z9 _ z)) (h p),I.hok,I.len⟩
theorem HG{N:List Str}(m:N.Nodup){i j:Nat}{x:Str}(a:N[i]?=some x)(b:N[j]?=some x):i=j:=by
 obtain ⟨o,f⟩:=b9.mp a;obtain ⟨q,g⟩:=b9.mp b;exact (List.getElem_inj m).mp (f.trans g.symm)
theorem zJ(I:bB X ud σ H s)(hN:X.N.Nodup)(W:X.N[i]?=some x)(C:Ju X.env.scope x)(r:bG v u)(h:∀ s',bB X ud (σ.set i (some v)) H s'->(∃ a,L6 a s.heap s'.heap/\(a=X.env.locals∨X.env.cells.lookup x=some a))->Q () s')(hf:X.fn x=true∨X.env.scope.names.lookup x=some .local:=by first|exact .inl rfl|exact .inr rfl|assumption):e9 M A (storeName X.env x u) Q E s:=by
 obtain ⟨m,hn,hl⟩:=id I.loc;have U:(X.env.scope.kind==.class || (X.env.scope.kind==.module&&X.env.locals !=X.env.globals))=false:=by rw [I.ok.kind]; rfl
 have J:i < σ.length:=by rw [I.len]; exact (b9.mp W).1
 have K:=I.cne;have g:∀{a:b8}{h':u9},(∃ o,s.heap.get? a=some o/\H a=none)->L6 a s.heap h'->pQ X.prog X.w H h':=fun {a h'} ha hs b ob e=>by
  obtain ⟨_,_,D⟩:=ha;refine (I.hok b ob e).stay (fun c w' B q=>(hs.2 c ?_).trans q) (fun _ q=>q) fun _ _ q=>q;rintro rfl;rcases B with rfl|B
  ·rw [D] at e; cases e
  ·rw [D] at B; cases B
 rcases C with hk|hk
 ·refine wpAny_storeName_local hk hn (fun h' hn' hs=>?_) U
  obtain ⟨oL,_,_,hoL,_⟩:=id hn;refine h _ ⟨I.ok,I.os,I.bare,⟨fun b o e n O C=>?_,fun b o e n O C=>?_,I.base.free,fun b o e C=>?_,I.base.tups,I.base.frzs,I.base.tbls⟩,⟨_,hn',fun j y v' f G e3=>?_⟩,fun y c e=>?_,I.free,I.freeC,fun p hp=>?_,g ⟨oL,hoL,I.free⟩ hs,by simpa using I.len⟩ ⟨_,hs,.inl rfl⟩
  ·exact (hs.2 b (j4 (c9 (j6 e) I.ok.above))).trans (I.base.keep b o e n O C)
  ·obtain ⟨sl,f⟩:=I.base.slot b o e n O C
   exact ⟨sl,(hs.2 b (j4 (c9 (j6 e) I.ok.above))).trans f⟩
  ·obtain ⟨o',f⟩:=I.base.there b o e C
   exact ⟨o',(hs.2 b (j4 (c9 (j6 e) I.ok.above))).trans f⟩
  ·by_cases R:j=i
   ·subst R
    rw [W] at f; cases f;rw [nr J] at G;cases G;exact ⟨u,r,.inl ⟨hk,by simp⟩⟩
   ·rw [qj (j3 R)] at G
    obtain ⟨u',r',q⟩:=hl j y v' f G e3;refine ⟨u',r',?_⟩;rcases q with ⟨k,e⟩|⟨k,c,e,z⟩
    ·refine .inl ⟨k,?_⟩
     have:y≠x:=fun e=>R (HG hN f (e ▸ W));simp [this,e]
    ·exact .inr ⟨k,c,e,z.sameBut hs (K y c e)⟩
  ·obtain ⟨w',z⟩:=I.cell y c e
   exact ⟨w',z.sameBut hs (K y c e)⟩
  ·obtain ⟨e,n,ne,nf,d⟩:=I.pin p hp
   exact ⟨(hs.2 p.1 ne).trans e,n,ne,nf,d⟩
 ·have P:X.fn x=true:=by
   rcases hf with z|z
   ·exact z
   ·rw [z] at hk; cases hk
  obtain ⟨c,B⟩:=I.ok.has x (.inl hk);obtain ⟨w',z⟩:=I.cell x c B;refine wpAny_storeName_cell I.ok.kind hk B z (fun h' S hs=>?_);obtain ⟨oc,Y,Z⟩:=id z;refine h { s with heap:=h' } ⟨I.ok,I.os,I.bare,⟨fun b o e n O C=>?_,fun b o e n O C=>?_,I.base.free,fun b o e C=>?_,I.base.tups,I.base.frzs,I.base.tbls⟩,⟨m,hn.sameBut hs (j3 (K x c B)),fun j y v' f G e3=>?_⟩,fun y c' e=>?_,I.free,I.freeC,fun p hp=>?_,g ⟨oc,Y,I.freeC x c B⟩ hs,by simpa using I.len⟩ ⟨c,hs,.inr B⟩
  ·exact (hs.2 b (j4 (c9 (j6 e) (I.ok.cab x c P B)))).trans (I.base.keep b o e n O C)
  ·obtain ⟨sl,f⟩:=I.base.slot b o e n O C
   exact ⟨sl,(hs.2 b (j4 (c9 (j6 e) (I.ok.cab x c P B)))).trans f⟩
  ·obtain ⟨o',f⟩:=I.base.there b o e C
   exact ⟨o',(hs.2 b (j4 (c9 (j6 e) (I.ok.cab x c P B)))).trans f⟩
  ·by_cases R:j=i
   ·subst R
    rw [W] at f; cases f;rw [nr J] at G;cases G;exact ⟨u,r,.inr ⟨.inl hk,c,B,S⟩⟩
   ·rw [qj (j3 R)] at G
    obtain ⟨u',r',q⟩:=hl j y v' f G e3;refine ⟨u',r',?_⟩;rcases q with q|⟨k,c',e,z'⟩
    ·exact .inl q
    ·refine .inr ⟨k,c',e,z'.sameBut hs ?_⟩
     rintro rfl;exact R (HG hN f (I.ok.inj _ _ _ e B ▸ W))
  ·by_cases T:c'=c
   ·subst T; exact ⟨_,S⟩
   ·obtain ⟨w2,z2⟩:=I.cell y c' e
    exact ⟨w2,z2.sameBut hs T⟩
  ·obtain ⟨e,n,ne,nf,d⟩:=I.pin p hp
   refine ⟨(hs.2 p.1 ?_).trans e,n,ne,nf,d⟩;intro q;rw [q,Y] at e;have q':oc=p.2:=h8 e;exact d w' (by rw [← q']; exact Z)
theorem rD(I:bB X ud σ H s)(g:X.N.Nodup)(o:X.N[i]?=some x)(q:Ju X.env.scope x)(r:bG v u)(h:∀ b,bB X ud (σ.set i (some v)) H b->Q () b)(m:X.fn x=true∨X.env.scope.names.lookup x=some .local:=by first|exact .inl rfl|exact .inr rfl|assumption):e9 M A (storeName X.env x u) Q E s:=
 zJ I g o q r (fun b f _=>h b f) m
theorem bB.call'(I:bB X ud σ H s)(A:s'.os=s.os)(u:Un (DC X.stack) ch H H' s.heap s'.heap)(g:pQ X.prog X.w H' s'.heap)(q:dk s'.gens)(f:∀ b∈ch,(b∈X.ex∨X.s₀.heap.objs.size<=b)/\b≠X.env.locals/\(∀ x c,X.env.cells.lookup x=some c->c≠b)/\∀ p∈X.pn++ud,p.1≠b):bB X ud σ H' s':=by
 obtain ⟨h',m,i,o,B⟩:=s';have e:B=s.os:=A;subst e;exact I.call (g':=m) (t':=o) (d':=i) u g q f
end
noncomputable abbrev XK:=a8->Option b8->Hp->Prop
noncomputable abbrev St:=List (Option V)
noncomputable abbrev VK:=V->Hp->Prop
noncomputable abbrev TE:=St->Hp->VK->Prop
noncomputable abbrev TT:=St->Hp->(Bool->Hp->Prop)->Prop
noncomputable abbrev TA:=St->Hp->(List V->Hp->Prop)->Prop
structure iI where
 nx:St->Hp->Prop
 rt:VK
 bk:St->Hp->Prop:=fun _ _=>False
 ct:St->Hp->Prop:=fun _ _=>False
noncomputable abbrev TS:=iI->St->Hp->Prop
noncomputable def EP(X:Cx)(ud:List (b8×Obj))(σ:St)(Q:VK)(u:a8)(s':c5):Prop:=∃ v H',bB X ud σ H' s'/\bG v u/\Q v H'
noncomputable def TP(X:Cx)(ud:List (b8×Obj))(σ:St)(Q:Bool->Hp->Prop)(b:Bool)(s':c5):Prop:=∃ H',bB X ud σ H' s'/\Q b H'
noncomputable def AP(X:Cx)(ud:List (b8×Obj))(σ:St)(Q:List V->Hp->Prop)(us:List a8)(s':c5):Prop:=∃ vs H',bB X ud σ H' s'/\bO vs us/\Q vs H'
noncomputable def SP(X:Cx)(ud:List (b8×Obj))(D:iI)(f:Flow)(s':c5):Prop:=
 match f with
|.next=>∃ σ' H',bB X ud σ' H' s'/\D.nx σ' H'
|.brk=>∃ σ' H',bB X ud σ' H' s'/\D.bk σ' H'
|.cont=>∃ σ' H',bB X ud σ' H' s'/\D.ct σ' H'
|.ret u=>∃ v σ' H',bB X ud σ' H' s'/\bG v u/\D.rt v H'
noncomputable def PE(X:Cx)(e:A6)(t:TE):Prop:=
 ∀(ud:List (b8×Obj)) (s:c5) (σ:St) (H:Hp) (Q:VK),bB X ud σ H s->t σ H Q->e9 (h9 X.prog X.w) X.A (C8 e X.env) (EP X ud σ Q) X.xe s
noncomputable def PT(X:Cx)(e:A6)(t:TT):Prop:=
 ∀(ud:List (b8×Obj)) (s:c5) (σ:St) (H:Hp) (Q:Bool->Hp->Prop),bB X ud σ H s->t σ H Q->e9 (h9 X.prog X.w) X.A (isTrue e X.env (C8 e X.env)) (TP X ud σ Q) X.xe s
noncomputable def PW(X:Cx)(e:A6)(t:TT):Prop:=
 ∀(whole:Sem a8)(ud:List (b8×Obj)) (s:c5) (σ:St) (H:Hp) (Q:Bool->Hp->Prop),bB X ud σ H s->t σ H Q->e9 (h9 X.prog X.w) X.A (isTrue e X.env whole) (TP X ud σ Q) X.xe s
theorem PW.pt(h:PW X e t):PT X e t:=h _
noncomputable def PA(X:Cx)(es:List A6)(t:TA):Prop:=
 ∀(pos:Pos)(ud:List (b8×Obj)) (s:c5) (σ:St) (H:Hp) (Q:List V->Hp->Prop),bB X ud σ H s->t σ H Q->e9 (h9 X.prog X.w) X.A (spliced (K3 pos (j8 es X.env))) (AP X ud σ Q) X.xe s
noncomputable def PS(X:Cx)(st:A1)(t:TS):Prop:=
 ∀(ud:List (b8×Obj)) (s:c5) (σ:St) (H:Hp) (D:iI),bB X ud σ H s->t D σ H->e9 (h9 X.prog X.w) X.A (exec st X.env) (SP X ud D) X.xe s
noncomputable def BH(X:Cx)(st:List A1)(t:TS):Prop:=
 ∀(ud:List (b8×Obj)) (s:c5) (σ:St) (H:Hp) (D:iI),bB X ud σ H s->t D σ H->e9 (h9 X.prog X.w) X.A (execs st X.env) (SP X ud D) X.xe s
theorem cY{f:Type}{t:Sem f}{Q b:f->c5->Prop}{M:Model}{A:q4}{E:a8->c5->Prop}{s:c5}(h:e9 M A t Q E s)(g:∀ a s,Q a s->b a s):e9 M A t b E s:=C6 h g fun _ _ x=>x
section
variable {X:Cx}
noncomputable def Fc(i:Nat):TE:=fun σ H Q=>∃ v,σ[i]?=some (some v)/\Q v H
noncomputable def tC(v:V):TE:=fun _ H Q=>Q v H
theorem Hc(A:X.N[i]?=some x)(D:Pj X.env.scope x)(q:(x==("__debug__":Str))=false:=by decide)(o:(x==("__classdict__":Str))=false:=by decide):PE X (.Name x pos) (Fc i):=by
 intro g s E H Q I h;obtain ⟨v,e,h⟩:=h;obtain ⟨m,hn,B⟩:=I.loc;obtain ⟨u,r,l⟩:=B i x v A e D;have f:EP X g E Q u s:=⟨v,H,I,r,h⟩
 rcases l with ⟨hk,C⟩|⟨hk,c,w,b⟩
 ·exact nz (su I.ok.kind hk hn C f) q
 ·rcases hk with hk|hk
  ·exact nz (wpAny_loadName_cell I.ok.kind hk w b f) q
  ·exact nz (wpAny_loadName_free I.ok.kind hk w b f o) q
theorem aF{i j pos}:PE X (.Constant (.int i) j pos) (tC (.int i)):=fun _ _ _ H _ I h=>wpAny_Constant_int ⟨.int i,H,I.tok _,⟨_,rfl⟩,h⟩
theorem sI{b j pos}:PE X (.Constant (.bool b) j pos) (tC (.bl b)):=fun _ _ _ H _ I h=>Constant_bool ⟨.bl b,H,I,rfl,h⟩
theorem dZ{j pos}:PE X (.Constant .none j pos) (tC .non):=fun _ _ _ H _ I h=>Constant_none ⟨.non,H,I,rfl,h⟩
theorem aP{x j pos}:PE X (.Constant (.str x) j pos) (tC (.str x)):=fun _ _ _ H _ I h=>Calls.Constant_str ⟨.str x,H,I.tok _,⟨_,rfl⟩,h⟩
noncomputable def Gl(X:Cx)(x:Str):Prop:=X.env.kindOf x=some .globalImplicit
theorem NK(I:bB X ud σ H s)(f:Gl X x)(g:X.mg x=some u)(h:Q u s)(b:(x==("__debug__":Str))=false:=by decide):e9 (h9 X.prog X.w) X.A (C8 (.Name x pos) X.env) Q E s:=
 jx I.ok.kind f (Calls.loadGlobal_global (by rw [I.ok.glob]; exact I.mod.glob.keeps I.bk) g h) b
theorem lM(I:bB X ud σ H s)(i:Gl X x)(m:X.mg x=none)(o:x9 x=some u)(h:Q u s)(hn:x≠"__name__":=by decide)(g:(x==("__debug__":Str))=false:=by decide):e9 (h9 X.prog X.w) X.A (C8 (.Name x pos) X.env) Q E s:=by
 obtain ⟨q,b,f⟩:=I.mod.blt;exact jx I.ok.kind i (Calls.loadGlobal_builtin (by rw [I.ok.glob]; exact I.mod.glob.keeps I.bk) m (by rw [I.ok.blt]; exact b.keeps I.bk) ((f x hn).trans o) h) g
theorem vK(f:Gl X x)(g:X.mg x=none)(i:x9 x=some u)(r:bG v u)(hn:x≠"__name__":=by decide)(b:(x==("__debug__":Str))=false:=by decide):PE X (.Name x pos) (tC v):=
 fun _ _ _ H _ I h=>lM I f g i ⟨v,H,I,r,h⟩ hn b
variable {a b:A6}{ta tb:TE}{pos:Pos}
noncomputable def PC(X:Cx)(op:CmpOp)(a b:A6)(t:TE):Prop:=
 ∀(ud:List (b8×Obj)) (s:c5) (σ:St) (H:Hp) (Q:VK),bB X ud σ H s->t σ H Q ->
  e9 (h9 X.prog X.w) X.A (C8 a X.env) (fun v s₁=>e9 (h9 X.prog X.w) X.A (C8 b X.env) (fun u s₂=>e9 (h9 X.prog X.w) X.A (A0 op v u) (EP X ud σ Q) X.xe s₂) X.xe s₁) X.xe s
noncomputable def tB(t:TE):TT:=fun σ H Q=>t σ H fun x H1=>∃ c,x=.bl c/\Q c H1
theorem He(h:PC X op a b t)(g:W2 op b=false:=by first|exact nobehind _ (by decide) (by decide)|rfl):PE X (.Compare a [op] [b] pos) t:=fun f s m H Q I i=>wpAny_Compare1 (h f s m H Q I i) g
theorem tO(h:PC X op a b t)(g:W2 op b=false:=by first|exact nobehind _ (by decide) (by decide)|rfl):PT X (.Compare a [op] [b] pos) (tB t):=by
 intro f s C H Q I w;refine so (cY (h f s C H _ I w) fun v D g=>cY g fun u E o=>cY o fun c G ⟨x,i,m,B,A⟩=>?_) g;obtain ⟨d,rfl,q⟩:=A;cases B;exact F4 ⟨i,m,q⟩
theorem cS(h:PE X e t)(m:∀ whole,isTrue e X.env whole=(do let v ← whole; cw e.pos; da [v] (truthy v)):=by intro _; rfl):PT X e (tB t):=by
 intro f s B H Q I o;refine isTrue_plain (cY (h f s B H _ I o) fun v C ⟨x,g,i,A,w⟩=>?_) (m _);obtain ⟨d,rfl,q⟩:=w;cases A;exact F4 ⟨g,i,q⟩
variable {tA tB':TT}{jC:List A6}
noncomputable def Kw(t u:TT):TT:=fun σ H Q=>t σ H fun c H1=>if c=true then u σ H1 Q else Q false H1
noncomputable def Rm(t u:TT):TT:=fun σ H Q=>t σ H fun c H1=>if c=true then Q true H1 else u σ H1 Q
noncomputable def Ks(t:TT):TT:=fun σ H Q=>t σ H fun c H1=>Q (!c) H1
theorem fU(g:PT X a tA):PW X (.BoolOp .And [a] pos) tA:=by
 intro o f s i H Q I h;refine isTrue_and (cY (g f s i H Q I h) fun c m e=>?_);cases c with
|true=>exact isTrue_and_nil e
|false=>exact e
theorem jG(g:PT X a tA):PW X (.BoolOp .Or [a] pos) tA:=by
 intro o f s i H Q I h;refine isTrue_or (cY (g f s i H Q I h) fun c m e=>?_);cases c with
|false=>exact isTrue_or_nil e
|true=>exact e
theorem jH(q:PT X a tA)(w:PW X (.BoolOp .And (b::jC) pos) tB'):PW X (.BoolOp .And (a::b::jC) pos) (Kw tA tB'):=by
 intro B f s o H Q I h;refine isTrue_and (cY (q f s o H _ I h) fun c A ⟨g,i,m⟩=>?_);cases c with
|true=>exact w B f A o g Q i m
|false=>exact ⟨g,i,m⟩
theorem nN(q:PT X a tA)(w:PW X (.BoolOp .Or (b::jC) pos) tB'):PW X (.BoolOp .Or (a::b::jC) pos) (Rm tA tB'):=by
 intro B f s o H Q I h;refine isTrue_or (cY (q f s o H _ I h) fun c A ⟨g,i,m⟩=>?_);cases c with
|true=>exact ⟨g,i,m⟩
|false=>exact w B f A o g Q i m
theorem iB(i:PT X a tA):PT X (.UnaryOp .Not a pos) (Ks tA):=by
 intro f s m H Q I h;exact isTrue_not (i f s m H (fun c g=>Q (!c) g) I h)
noncomputable def Ch(ta tb:TE):TE:=fun σ H Q=>ta σ H fun x H1=>∃ c,x=.bl c/\if c=true then tb σ H1 Q else Q (.bl false) H1
noncomputable def Ko(ta tb:TE):TE:=fun σ H Q=>ta σ H fun x H1=>∃ c,x=.bl c/\if c=true then Q (.bl true) H1 else tb σ H1 Q
noncomputable def Bz(ta:TE):TE:=fun σ H Q=>ta σ H fun x H1=>∃ c,x=.bl c/\Q (.bl (!c)) H1
theorem lI{op}(h:PE X a t):PE X (.BoolOp op [a] pos) t:=fun f s i H Q I g=>BoolOp_one (h f s i H Q I g)
theorem tP(q:PE X a ta)(w:PE X (.BoolOp .And (b::jC) pos) tb):PE X (.BoolOp .And (a::b::jC) pos) (Ch ta tb):=by
 intro f s o H Q I h;refine BoolOp_and (cY (q f s o H _ I h) fun v B ⟨x,i,m,A,g⟩=>?_);obtain ⟨c,rfl,g⟩:=g;cases A;refine F4 ?_;cases c with
|true=>exact w f B o i Q m g
|false=>exact ⟨.bl false,i,m,rfl,g⟩
theorem Nd(q:PE X a ta)(w:PE X (.BoolOp .Or (b::jC) pos) tb):PE X (.BoolOp .Or (a::b::jC) pos) (Ko ta tb):=by
 intro f s o H Q I h;refine BoolOp_or (cY (q f s o H _ I h) fun v B ⟨x,i,m,A,g⟩=>?_);obtain ⟨c,rfl,g⟩:=g;cases A;refine F4 ?_;cases c with
|false=>exact w f B o i Q m g
|true=>exact ⟨.bl true,i,m,rfl,g⟩
theorem JE(o:PE X a ta):PE X (.UnaryOp .Not a pos) (Bz ta):=by
 intro f s w H Q I h;refine UnaryOp_ (cY (o f s w H _ I h) fun v A ⟨x,i,m,q,g⟩=>?_);obtain ⟨c,rfl,g⟩:=g;cases q;exact not_of (F4 ⟨.bl (!c),i,m,rfl,g⟩)
noncomputable def Rn(t:TT)(ta tb:TE):TE:=fun σ H Q=>t σ H fun c H1=>if c=true then ta σ H1 Q else tb σ H1 Q
theorem xG(B:PT X c tA)(w:PE X a ta)(A:PE X b tb):PE X (.IfExp c a b pos) (Rn tA ta tb):=by
 intro f s g H Q I h;refine wpAny_IfExp (cY (B f s g H _ I h) fun d q ⟨i,m,o⟩=>?_);cases d with
|true=>exact w f q g i Q m o
|false=>exact A f q g i Q m o
end
noncomputable def cP(K:m7)(H:Hp)(a:b8)(xs:List V):Prop:=
 Rd H a (.lst xs) ∨
  ∃(o:Obj)(its:Array a8)(n:Nat),K.lookup a=some o/\o.cls=.type "list"/\o.dict=none/\o.data=.seq its n/\its.size<=j0/\bO xs its.toList
noncomputable def EC(K:m7)(H:Hp)(a:b8)(xs:List V):Prop:=
 Rd H a (.tup xs) ∨
  ∃(o:Obj)(its:Array a8)(n:Nat),K.lookup a=some o/\o.cls=.type "tuple"/\o.data=.seq its n/\its.size<=j0/\bO xs its.toList
noncomputable def Qy:a8->Option V
|.none=>some .non
|.bool b=>some (.bl b)
|.int i _=>some (.int i)
|.str x _=>some (.str x)
|.bytes b _=>some (.byt b)
|.float b _=>some (.flt b)
|.ref a=>some (.ref a)
|.type n=>some (.ty n)
|_=>none
theorem bG.abs(r:bG x u):Qy u=some x:=by
 cases x with
|non=>cases r; rfl
|bl _=>cases r; rfl
|int _=>obtain ⟨t,rfl⟩:=r; rfl
|str _=>obtain ⟨t,rfl⟩:=r; rfl
|byt _=>obtain ⟨t,rfl⟩:=r; rfl
|flt _=>obtain ⟨t,rfl⟩:=r; rfl
|ref _=>cases r; rfl
|ty _=>cases r; rfl
theorem bG.inj(r:bG x u)(q:bG y u):x=y:=h8 (r.abs.symm.trans q.abs)
theorem bO.inj:∀{xs ys:List V}{us:List a8},bO xs us->bO ys us->xs=ys
|_,_,_,.nil,.nil=>rfl
|_,_,_,.cons r t,.cons b t'=>by rw [r.inj b,bO.inj t t']
section
variable {X:Cx}{ud:List (b8×Obj)}{σ:St}{H:Hp}{s:c5}{a:b8}{xs ys:List V}
theorem cP.of{K:m7}(h:H a=some (.lst xs)):cP K H a xs:=.inl (.inl h)
theorem EC.of{K:m7}(h:H a=some (.tup xs)):EC K H a xs:=.inl (.inl h)
theorem bB.list(I:bB X ud σ H s)(h:cP X.K H a xs):∃ b:List a8,bO xs b/\PlainL s.heap a b.toArray/\xs.length<=j0:=by
 rcases h with h|⟨o,b,n,hk,f,g,hs,i,r⟩
 ·obtain ⟨z,b,n,r,e⟩:=h.ok I.hok
  exact ⟨b,r,⟨_,n,e,rfl,rfl,rfl⟩,z⟩
 ·refine ⟨b.toList,r,⟨o,n,I.kIn a o hk,f,g,by simpa using hs⟩,?_⟩
  have e:=r.length;simp only [C9] at e;lia
theorem bB.tuple(I:bB X ud σ H s)(h:EC X.K H a xs):∃ b:List a8,bO xs b/\ph s.heap a b.toArray/\xs.length<=j0:=by
 rcases h with h|⟨o,b,n,hk,f,hs,g,r⟩
 ·obtain ⟨z,b,r,p⟩:=h.ok I.hok
  exact ⟨b,r,p,z.1⟩
 ·refine ⟨b.toList,r,⟨o,I.kIn a o hk,f,n,by simpa using hs⟩,?_⟩
  have e:=r.length;simp only [C9] at e;lia
theorem bB.list_inj(I:bB X ud σ H s)(h:cP X.K H a xs)(h':cP X.K H a ys):xs=ys:=by
 obtain ⟨f,r,⟨o,n,e,_,_,d⟩,_⟩:=I.list h;obtain ⟨b,m,⟨w,q,i,_,_,g⟩,_⟩:=I.list h';rw [e] at i; cases i;rw [d] at g;injection g with d1 _
 have:f=b:=by simpa using congrArg Array.toList d1
 subst this;exact r.inj m
end
noncomputable abbrev Cx.wish(X:Cx)(E:a8->c5->Prop):Cx:={ X with xe:=E }
noncomputable abbrev Cx.nox(X:Cx):Cx:=X.wish fun _ _=>False
theorem Cx.Ok.wish{X:Cx}(ok:X.Ok)(E:a8->c5->Prop):(X.wish E).Ok:=
 ⟨ok.mod,ok.kind,ok.glob,ok.blt,ok.above,ok.inj,ok.has,ok.cab,ok.hd,ok.frames,ok.stk,ok.exf,ok.bs,ok.bsz,ok.noex,ok.exfs,ok.funs,ok.frf⟩
theorem Cx.Ok.unwish{X:Cx}{E:a8->c5->Prop}(ok:(X.wish E).Ok):X.Ok:=
 ⟨ok.mod,ok.kind,ok.glob,ok.blt,ok.above,ok.inj,ok.has,ok.cab,ok.hd,ok.frames,ok.stk,ok.exf,ok.bs,ok.bsz,ok.noex,ok.exfs,ok.funs,ok.frf⟩
section
variable {X:Cx}{ud:List (b8×Obj)}{σ:St}{H:Hp}{s:c5}{E:a8 -> c5 -> Prop}
theorem bB.wish(I:bB X ud σ H s)(E:a8->c5->Prop):bB (X.wish E) ud σ H s:=⟨I.ok.wish E,I.os,I.bare,I.base,I.loc,I.cell,I.free,I.freeC,I.pin,I.hok,I.len⟩
theorem bB.unwish(I:bB (X.wish E) ud σ H s):bB X ud σ H s:=⟨I.ok.unwish,I.os,I.bare,I.base,I.loc,I.cell,I.free,I.freeC,I.pin,I.hok,I.len⟩
theorem SP.unwish(h:SP (X.wish E) ud D f s'):SP X ud D f s':=by
 cases f with
|next=>obtain ⟨b,g,I,q⟩:=h; exact ⟨b,g,I.unwish,q⟩
|brk=>obtain ⟨b,g,I,q⟩:=h; exact ⟨b,g,I.unwish,q⟩
|cont=>obtain ⟨b,g,I,q⟩:=h; exact ⟨b,g,I.unwish,q⟩
|ret u=>obtain ⟨v,b,g,I,r,q⟩:=h; exact ⟨v,b,g,I.unwish,r,q⟩
theorem BH.nox{st:List A1}{t:TS}(h:BH X.nox st t):BH X st t:=fun ud s σ H D I b =>
 C6 (h ud s σ H D (I.wish _) b) (fun _ _ q=>q.unwish) fun _ _ z=>K2 z
end
section
variable {X:Cx}{st:A1}{jC:List A1}{t u:TS}{e:A6}{te:TE}{pos:Pos}
noncomputable def Ca:TS:=fun D σ H=>D.nx σ H
noncomputable def Kl(t u:TS):TS:=fun D σ H=>t { D with nx:=u D } σ H
theorem bE:BH X [] Ca:=fun _ _ b H _ I h=>dv ⟨b,H,I,h⟩
theorem aE(o:PS X st t)(w:BH X jC u):BH X (st::jC) (Kl t u):=by
 intro b s B H D I h;refine wpAny_execs_cons (cY (o b s B H { D with nx:=u D } I h) fun f A q=>?_);cases f with
|next =>
  obtain ⟨g,i,m,q⟩:=q;exact w b A g i D m q
|ret v=>exact q
|brk=>exact q
|cont=>exact q
theorem aH(g:PS X st t):BH X [st] t:=by
 intro b s i H D I h;refine wpAny_execs_cons (cY (g b s i H D I h) fun f m q=>?_);cases f with
|next=>exact dv q
|ret v=>exact q
|brk=>exact q
|cont=>exact q
noncomputable def Cf:TS:=fun D σ H=>D.ct σ H
theorem GN:PS X (.Continue pos) Cf:=fun _ _ b H _ I h=>wpAny_Continue ⟨b,H,I,h⟩
theorem bB.quiet(I:bB X ud σ H s):interactive X.env=false:=by simp [interactive,I.ok.kind]
noncomputable def Cc(te:TE):TS:=fun D σ H=>te σ H fun _ H1=>D.nx σ H1
theorem dJ(m:PE X e te)(hs:gh e none pos.line X.env=D8 false:=by rfl):PS X (.Expr e pos) (Cc te):=by
 intro b s f H D I h;exact wpAny_Expr_any (cY (m b s f H _ I h) fun v w ⟨x,g,i,q,o⟩=>⟨f,g,i,o⟩) I.quiet hs
noncomputable def Km(te:TE):TS:=fun D σ H=>te σ H D.rt
theorem aS(m:PE X e te):PS X (.Return (some e) pos) (Km te):=by
 intro b s f H D I h;exact wpAny_Return_some (cY (m b s f H _ I h) fun v w ⟨x,g,i,q,o⟩=>⟨x,f,g,i,q,o⟩)
noncomputable def Kt(c:TT)(t u:TS):TS:=fun D σ H=>c σ H fun b H1=>if b=true then t D σ H1 else u D σ H1
theorem bV(B:PT X c tc)(w:BH X a t)(A:BH X b u):PS X (.If c a b pos) (Kt tc t u):=by
 intro f s g H D I h;refine wpAny_If (cY (B f s g H _ I h) fun d q ⟨i,m,o⟩=>?_);cases d with
|true=>exact w f q g i D m o
|false=>exact A f q g i D m o
noncomputable def Fd:TS:=fun _ _ _=>False
theorem jY:PS X st Fd:=fun _ _ _ _ _ _ h=>h.elim
end
noncomputable abbrev TG:=V->St->Hp->(St->Hp->Prop)->Prop
noncomputable abbrev Oq:=List V->St->Hp->(St->Hp->Prop)->Prop
noncomputable def PG(X:Cx)(target:A6)(t:TG):Prop:=
 ∀(ud:List (b8×Obj)) (s:c5) (σ:St) (H:Hp) (v:V) (u:a8) (Q:St->Hp->Prop),bB X ud σ H s->bG v u->t v σ H Q ->
  e9 (h9 X.prog X.w) X.A (lg target X.env u) (fun _ s'=>∃ σ' H',bB X ud σ' H' s'/\Q σ' H') X.xe s
noncomputable def Kc(X:Cx)(ts:List A6)(t:Oq):Prop:=
 ∀(ud:List (b8×Obj)) (s:c5) (σ:St) (H:Hp) (vs:List V) (us:List a8) (Q:St->Hp->Prop),bB X ud σ H s->bO vs us->t vs σ H Q ->
  e9 (h9 X.prog X.w) X.A (qr ((V9 ts X.env).map (·.2)) us) (fun _ s'=>∃ σ' H',bB X ud σ' H' s'/\Q σ' H') X.xe s
noncomputable abbrev Rb:=V->V->V->Hp->(Hp->Prop)->Prop
noncomputable def Rf(X:Cx)(t:Rb):Prop:=
 ∀(ud:List (b8×Obj)) (s:c5) (σ:St) (H:Hp) (o i v:V) (ov iv u:a8) (Q:Hp->Prop),bB X ud σ H s->bG o ov->bG i iv->bG v u->t o i v H Q ->
  e9 (h9 X.prog X.w) X.A (setItem ov iv u) (fun _ s'=>∃ H',bB X ud σ H' s'/\Q H') X.xe s
noncomputable abbrev TIp:=V->V->Hp->VK->Prop
noncomputable def PIp(X:Cx)(op:Operator)(t:TIp):Prop:=
 ∀(ud:List (b8×Obj)) (s:c5) (σ:St) (H:Hp) (x y:V) (v u:a8) (Q:VK),bB X ud σ H s->bG x v->bG y u->t x y H Q ->
  e9 (h9 X.prog X.w) X.A (inplaceOp op v u) (EP X ud σ Q) X.xe s
section
variable {X:Cx}{pos:Pos}
noncomputable def gM(i:Nat):TG:=fun v σ H Q=>Q (σ.set i (some v)) H
theorem bI(g:X.N.Nodup)(o:X.N[i]?=some x)(q:Ju X.env.scope x)(m:X.fn x=true∨X.env.scope.names.lookup x=some .local:=by first|exact .inl rfl|exact .inr rfl|assumption):PG X (.Name x pos) (gM i):=by
 intro b s A H v u Q I r h;exact wpAny_assign_Name (rD I g o q r (fun w f=>⟨_,H,f,h⟩) m)
noncomputable def QN:Oq:=fun vs σ H Q=>vs=[]/\Q σ H
noncomputable def oU(t:TG)(u:Oq):Oq:=fun vs σ H Q=>∃ v r,vs=v::r/\t v σ H fun σ' H'=>u r σ' H' Q
theorem cV:Kc X [] QN:=by
 intro b s f H i g Q I r h;obtain ⟨e,h⟩:=h;subst e;cases r;exact assignInOrder_nil ⟨f,H,I,h⟩
theorem aU(o:PG X e t)(q:Kc X es u)(hs:(V9 (e::es) X.env).map (·.2)=lg e X.env::(V9 es X.env).map (·.2):=by rfl):Kc X (e::es) (oU t u):=by
 intro b s C H G D Q I r h;obtain ⟨v,E,m,h⟩:=h;subst m;cases r with
|cons r A =>
  rw [hs];refine ix (cY (o b s C H _ _ _ I r h) fun _ B ⟨f,g,i,w⟩=>?_);exact q b B f g _ _ Q i A w
noncomputable def HU(K:m7)(n:Nat)(t:Oq):TG:=fun v σ H Q=>∃ a xs,v=.ref a/\EC K H a xs/\xs.length=n/\t xs σ H Q
theorem iR(B:X.calm=true)(h:Kc X es t)(hn:(V9 es X.env).length=n:=by rfl)(g:(V9 es X.env).findIdx? (·.1)=none:=by rfl):PG X (.Tuple es k pos) (HU X.K n t):=by
 intro f s m H v u Q I r i;obtain ⟨a,M,w,D,C,i⟩:=i;subst w;cases r;obtain ⟨J,rv,E,N⟩:=I.tuple D;refine assign_Tuple_tuple (I.ok.hd B) E (by simp [hn,← C,rv.length]) g fun A G=>?_;have q:bB X f m H { s with heap:=A }:=I.kept (t':=s.toks) fun b o e=>G b o (j4 (j6 e)) e;exact h f _ m H M _ Q q (by simpa using rv) i
noncomputable def SH(te:TE)(g:TG):TS:=fun D σ H=>te σ H fun x H1=>g x σ H1 D.nx
theorem CD(w:PE X e te)(A:PG X tg g)(hs:swapsWithSole [tg] e pos.line X.env=D8 false:=by rfl)(B:swappedStores [tg] e X.env=D8 none:=by rfl)(o:(V9 [tg] X.env).map (·.2)=[lg tg X.env]:=by rfl):PS X (.Assign [tg] e pos) (SH te g):=by
 intro b s f H D I h;refine wpAny_Assign_stores (cY (w b s f H _ I h) fun v G ⟨x,i,m,E,C⟩=>?_) hs B;rw [o];exact cY (A b G f i x v _ m E C) fun _ J q=>q
theorem UZ(o:X.N.Nodup)(A:X.N[i]?=some x)(B:Ju X.env.scope x)(q:PE X e te)(hs:gh e (some (.Name x pos')) pos.line X.env=D8 false:=by rfl)(w:X.fn x=true∨X.env.scope.names.lookup x=some .local:=by first|exact .inl rfl|exact .inr rfl|assumption):
  PS X (.Assign [.Name x pos'] e pos) (SH te (gM i)):=by
 intro b s G H D I h;refine wpAny_Assign_Name (cY (q b s G H _ I h) fun v J ⟨y,f,g,E,C⟩=>?_) hs;exact rD g o A B E (fun K m=>⟨_,f,m,C⟩) w
noncomputable def Kn(i j:Nat)(ta:TA):TS:=fun D σ H=>ta σ H fun vs H1=>∃ v w,vs=[v,w]/\D.nx ((σ.set i (some v)).set j (some w)) H1
theorem Hb{kt k2 pt2}(hc:X.calm=true)(P:X.N.Nodup)(hi:X.N[i]?=some x)(hj:X.N[j]?=some y)(C:i≠j)(Q:X.env.scope.names.lookup x=some .local)(R:X.env.scope.names.lookup y=some .local)(ha:PA X [a,b] ta)(hw:swappedStores [.Tuple [.Name x px,.Name y py] kt pt] (.Tuple [a,b] k2 pt2) X.env=D8 (some [x,y]))(hs:swapsWithSole [.Tuple [.Name x px,.Name y py] kt pt] (.Tuple [a,b] k2 pt2) pos.line X.env=D8 false:=by rfl):
  PS X (.Assign [.Tuple [.Name x px,.Name y py] kt pt] (.Tuple [a,b] k2 pt2) pos) (Kn i j ta):=by
 intro f s S H D I h;rw [exec_Assign_arm];refine a7 (aw ?_);rw [hs];refine a7 (c6 ?_);rw [if_neg (by decide)];refine a7 (Tuple_ (cY (ha _ f s S H _ I h) fun us g ⟨vs,K,T,r1,G⟩=>?_));obtain ⟨v,w,Z,G⟩:=G;subst Z;obtain ⟨m,B,rfl,rv,J⟩:∃ m B,us=[m,B]/\bG v m/\bG w B:=by
  cases r1 with
 |cons p q =>
   cases q with
  |cons p' q' =>
    cases q';exact ⟨_,_,rfl,p,p'⟩
 refine F5 ?_ (by show 2<=j0; decide);have U:bB X f S K { g with heap:=g.heap.push { cls:=.type "tuple",data:=.seq [m,B].toArray } }:=T.kept (t':=g.toks) fun b o e=>c4 _ e;rw [hw];refine a7 (c6 ?_);show e9 (h9 X.prog X.w) X.A (do rule "assign.swapped-stores"; let items ← unpackItems (.ref g.heap.objs.size) 2 none; qr [fun v=>tj X.env y v,fun v=>tj X.env x v] items.reverse; D8 Flow.next) _ _ _;refine a7 (P9 (a7 (unpackItems_tuple (items:=#[m,B]) (I.ok.hd hc) (ph.new g.heap _) fun O E=>?_)));have W:=U.kept (h':=O) (t':=g.toks) fun b o e=>E b o (j4 (j6 e)) e;show e9 _ _ (qr [fun v=>tj X.env y v,fun v=>tj X.env x v] [B,m] >>= fun _=>D8 Flow.next) _ _ _;refine a7 (ix (wpAny_bindName (rD W P hj (.inl R) J (fun s2 Y=>?_) (.inr R))));refine ix (wpAny_bindName (rD Y P hi (.inl Q) rv (fun s3 M=>assignInOrder_nil (c6 ?_)) (.inr Q)));rw [List.set_comm _ _ (j3 C)] at M;exact ⟨_,K,M,G⟩
noncomputable def Rh(X:Cx)(t:V->V->Hp->VK->Prop):Prop:=
 ∀(ud:List (b8×Obj)) (s:c5) (σ:St) (H:Hp) (o i:V) (ov iv:a8) (Q:VK),bB X ud σ H s->bG o ov->bG i iv->t o i H Q ->
  e9 (h9 X.prog X.w) X.A (jn ov iv) (EP X ud σ Q) X.xe s
end
section
variable {X:Cx}{pos:Pos}
noncomputable def IT(c:TT)(tb:TS):TS:=fun D σ H=>∃ W:Nat->St->Hp->Prop,(∃ m,W m σ H)/\∀ m σ H,W m σ H ->
 c σ H fun b H1=>if b=true then ∃ N:St->Hp->Prop,(∀ σ' H',N σ' H'->∃ m',m' < m/\W m' σ' H')/\tb { D with nx:=N,ct:=N,bk:=D.nx } σ H1 else D.nx σ H1
theorem rV(hp:PassesOwn (h9 X.prog X.w) X.A X.env X.xe)(Y:PT X c tc)(U:BH X body tb):PS X (.While c body [] pos) (IT tc tb):=by
 intro g s σ H D I h;obtain ⟨W,⟨Z,w0⟩,q⟩:=h;refine wpAny_While (codeAny_whileLoop (fun n s'=>∃ B O,bB X g B O s'/\W n B O) ?_ Z ⟨σ,H,I,w0⟩);rintro n s1 ⟨m,P,T,w1⟩;refine O9 hp (cY (Y g s1 m P _ T (q n m P w1)) fun b s2 ⟨Q,R,C⟩=>?_);cases b with
|true =>
  obtain ⟨N,S,C⟩:=C;rw [if_pos rfl];refine O9 hp (cY (U g s2 m Q _ R C) fun f s3 E=>?_);cases f with
 |next =>
   obtain ⟨i,o,G,n3⟩:=E;obtain ⟨K,J,M⟩:=S i o n3;exact ⟨K,J,i,o,G,M⟩
 |cont =>
   obtain ⟨i,o,G,n3⟩:=E;obtain ⟨K,J,M⟩:=S i o n3;exact ⟨K,J,i,o,G,M⟩
 |brk=>exact E
 |ret v=>exact E
|false =>
  rw [if_neg h7];exact dv ⟨m,Q,R,C⟩
end
structure It where
 go:Nat->Hp->Prop
 yld:Nat->Hp->V->Hp->Prop
 stop:Nat->Hp->Prop
noncomputable def vF(X:Cx)(ud:List (b8×Obj))(H:Hp)(b:b8):Prop:=
 H b=none/\b≠X.env.locals/\b∉X.fs/\(b∈X.ex∨X.s₀.heap.objs.size<=b)/\(∀ x c,X.env.cells.lookup x=some c->c≠b)/\∀ p∈X.pn++ud,p.1≠b
theorem bB.fpOk(I:bB X ud σ H s)(f:s.heap.objs.size<=b)(hn:H' b=none):vF X ud H' b:=by
 refine ⟨hn,y6 (c9 I.lt f),I.nofs f,.inr (u8 I.sz f),fun x c e z=>?_,fun p hp z=>?_⟩
 ·obtain ⟨v,q⟩:=I.cell x c e
  exact absurd (c9 q.lt (by rw [z]; exact f)) (gq _)
 ·exact absurd (c9 (j6 (I.pin p hp).1) (by rw [z]; exact f)) (gq _)
structure RF(P:j2)(w:k6)(K:m7)(tg:A6)(J:It)(fp:List b8)(it:b8)(tn:Nat->u9->Prop):Prop where
 mem:it∈fp
 obj:∀ i h,tn i h->∀ b∈fp,∃ o,h.get? b=some o/\∀ v,o.data≠.cell v
 keep:∀ i h h',tn i h->(∀ b∈fp,∀ o,h.get? b=some o->h'.get? b=some o)->tn i h'
 item:∀(X:Cx),X.prog=P->X.w=w->X.K=K->X.calm=true->∀(i:Nat)(ud:List (b8×Obj)) (s:c5) (σ:St) (H:Hp) (E:a8->c5->Prop),bB X ud σ H s->(∀ b∈fp,vF X ud H b)->tn i s.heap->J.go i H ->
  e9 (h9 P w) X.A (O6 (.ref it)) (fun r s1=>∃ u,r=some u /\
   e9 (h9 P w) X.A (X3 tg (.ref it) u) (fun _ s2=>∃ x H',bB X ud σ H' s2/\bG x u/\J.yld i H x H'/\tn (i+1) s2.heap/\∀ b∈fp,H' b=none) E s1) E s
 done:∀(X:Cx),X.prog=P->X.w=w->X.K=K->X.calm=true->∀(i:Nat)(ud:List (b8×Obj)) (s:c5) (σ:St) (H:Hp) (E:a8->c5->Prop),bB X ud σ H s->(∀ b∈fp,vF X ud H b)->tn i s.heap->J.stop i H ->
  e9 (h9 P w) X.A (O6 (.ref it)) (fun r s1=>r=none/\bB X ud σ H s1) E s
 self:∀(A:q4)(i:Nat)(s:c5)(Q:a8->c5->Prop)(E:a8->c5->Prop),tn i s.heap->Q (.ref it) s->e9 (h9 P w) A (om (.ref it)) Q E s
noncomputable abbrev TI:=St->Hp->(It->Hp->Prop)->Prop
noncomputable def Rg(X:Cx)(ud:List (b8×Obj))(σ:St)(tg:A6)(R:It->Hp->Prop)(itv:a8)(s2:c5):Prop:=
 ∃(it:b8)(fp:List b8)(tn:Nat->u9->Prop)(J:It)(H':Hp),itv=.ref it/\bB X ud σ H' s2/\RF X.prog X.w X.K tg J fp it tn/\tn 0 s2.heap/\(∀ b∈fp,vF X ud H' b)/\R J H'
noncomputable def PI(X:Cx)(tg iter:A6)(wi:TI):Prop:=
 ∀(ud:List (b8×Obj)) (s:c5) (σ:St) (H:Hp) (R:It->Hp->Prop),bB X ud σ H s->wi σ H R ->
  e9 (h9 X.prog X.w) X.A (C8 iter X.env) (fun v s1=>e9 (h9 X.prog X.w) X.A (om v) (Rg X ud σ tg R) X.xe s1) X.xe s
theorem WS(i:s.heap.get? it=some o)(f:o.cls=.type n)(g:o.data=.fields vs)(hn:["enumerate","zip","dict_itemiterator","dict_reverseitemiterator","odict_iterator","itertools.zip_longest","itertools.pairwise"].contains n=false)(b:Q () s):e9 M A (X3 tg (.ref it) u) Q E s:=by
  unfold X3;cases tg <;> first
   |exact c6 b
    | (cases u <;> first
       |exact c6 b
        | (refine a7 (Z4 i ?_)
           rw [f,g];show e9 M A (if (["enumerate","zip","dict_itemiterator","dict_reverseitemiterator","odict_iterator","itertools.zip_longest","itertools.pairwise"].contains n&&vs[0]?==some (B3 _))=true then _ else _) Q E s;rw [if_neg (by intro h; rw [hn,ko] at h; cases h)];exact c6 b))
noncomputable def OK(K:m7)(a:b8):It:=
 ⟨fun i H=>∃ xs x,cP K H a xs/\xs[i]?=some x,fun i H x H'=>H'=H/\∀ xs,cP K H a xs->xs[i]?=some x,fun i H=>∃ xs,cP K H a xs/\xs.length<=i⟩
noncomputable def OJ(lo:Int)(n:Nat):It:=⟨fun i _=>i < n,fun i H x H'=>H'=H/\x=.int (lo+i),fun i _=>n<=i⟩
theorem OO{P:j2}{w:k6}{K:m7}{tg:A6}(a it:b8):RF P w K tg (OK K a) [it] it (fun i h=>h.IsListIter it a i) where
 mem:=by simp
 obj:=fun i h st b g=>by
  have e:b=it:=by simpa using g
  subst e;obtain ⟨o,e,c,d⟩:=st;exact ⟨o,e,fun v z=>by rw [d] at z; cases z⟩
 keep:=fun i h q st k=>st.at fun o e=>k it (by simp) o e
 item:=by
  intro X O R N U i f s W H E I A st Q;subst O R N;obtain ⟨xs,x,B,S⟩:=Q;obtain ⟨T,rv,p,hz⟩:=I.list B;obtain ⟨u,hu,ru⟩:=rv.get S;obtain ⟨C,D,f2,G,J,M⟩:=A it (by simp);refine ri st p.isList (x:=u) (by simpa using hu) fun q m sb=>?_;have Y:bB X f W H { s with heap:=q }:=I.turned (t':=s.toks) (fun b o g e=>(sb.2 b g).trans e) C D G J M;obtain ⟨o,e,c,d⟩:=id m;exact ⟨u,rfl,WS (s:={ s with heap:=q }) e c d (by decide) ⟨x,H,Y,ru,⟨rfl,fun ys hy=>by rw [I.list_inj hy B]; exact S⟩,m,fun b g=>(A b g).1⟩⟩
 done:=by
  intro X O R N U i f s W H E I A st Q;subst O R N;obtain ⟨xs,B,S⟩:=Q;obtain ⟨T,rv,p,hz⟩:=I.list B;obtain ⟨C,D,f2,G,J,M⟩:=A it (by simp);have hl:=rv.length;exact sj (I.ok.hd U) st p.isList (by simp; lia) fun q Z=>⟨rfl,I.turned (t':=s.toks) (fun b o g e=>Z b o g e) C D G J M⟩
 self:=fun _ _ _ _ _ st h=>wpAny_pyIter_listiter st h
theorem IP{P:j2}{w:k6}{K:m7}{tg:A6}(it:b8)(lo:Int)(n:Nat):RF P w K tg (OJ lo n) [it] it (fun i h=>IsRangeIter h it (lo+(i:Nat) * 1) ((n:Int) - (i:Nat)) 1) where
 mem:=by simp
 obj:=fun i h st b g=>by
  have e:b=it:=by simpa using g
  subst e;exact ⟨_,st,fun v z=>by
   have z':Data.fields _=Data.cell v:=z;cases z'⟩
 keep:=fun i h q st k=>k it (by simp) _ st
 item:=by
  intro X N R M O i f s S H E I A st Q;subst N R M;obtain ⟨B,C,Y,D,G,J⟩:=A it (by simp);have W:=Walks.range (prog:=X.prog) (w:=X.w) (I.ok.hd O) it lo 1 n;refine W.item i s _ _ Q st fun v q tk Z m kk=>?_;obtain ⟨t,rfl⟩:=Z;have T:bB X f S H { s with heap:=q,toks:=tk }:=I.turned (fun b o g e=>kk b o (by simpa using g) e) B C D G J;refine ⟨_,rfl,WS (s:={ s with heap:=q,toks:=tk }) (n:="range_iterator") m rfl rfl (by decide) ⟨.int (lo+i),H,T,⟨t,?_⟩,⟨rfl,rfl⟩,m,fun b g=>(A b g).1⟩⟩;rw [re]
 done:=by
  intro X N R M O i f s S H E I A st Q;subst N R M;obtain ⟨B,C,Y,D,G,J⟩:=A it (by simp);exact wpAny_pyNext_range_end (I.ok.hd O) st (by have:n<=i:=Q; lia) fun q U=>⟨rfl,I.turned (t':=s.toks) (fun b o g e=>U b o g e) B C D G J⟩
 self:=fun _ _ _ _ _ st h=>wpAny_pyIter_rangeiter st h
section
variable {X:Cx}{tg:A6}
noncomputable def Eh(K:m7)(tl:TE):TI:=fun σ H R=>tl σ H fun x H1=>∃ a,x=.ref a/\(∃ xs,cP K H1 a xs)/\R (OK K a) H1
theorem cH(A:PE X l tl):PI X tg l (Eh X.K tl):=by
 intro f s G H R I h;refine cY (A f s G H _ I h) fun v i ⟨x,m,g,E,D⟩=>?_;obtain ⟨a,e,⟨M,B⟩,q⟩:=D;subst e;cases E;obtain ⟨C,rv,p,J⟩:=g.list B;refine jf p.isList ?_;refine ⟨i.heap.objs.size,[i.heap.objs.size],_,_,m,rfl,g.kept (t':=i.toks) fun b o e=>c4 _ e,OO a _,⟨_,j5 _ rfl,rfl,rfl⟩,fun b w=>?_,q⟩;have e:b=i.heap.objs.size:=by simpa using w
 subst e;exact g.fpOk (i5 _) (g.hok.fresh (i5 _))
theorem GJ{i:St}{H:Hp}{R:It->Hp->Prop}{E:a8->c5->Prop}{lo f:Int}{tk:Nat}(I:bB X ud i H s)(C:-(2 ^ 62)<=lo)(D:lo < 2 ^ 62)(G:-(2 ^ 62)<=f)(J:f < 2 ^ 62)(q:R (OJ lo (f - lo).toNat) H):e9 (h9 X.prog X.w) X.A (om (.ref s.heap.objs.size)) (Rg X ud i tg R) E { s with heap:=s.heap.push { cls:=.type "range",data:=.fields #[.int lo t,.int f u,.int 1 v] },toks:=tk }:=by
 refine wpAny_pyIter_range (IsRange.new ..) (small_one C D G J) ?_;have g:bB X ud i H { s with heap:=s.heap.push { cls:=.type "range",data:=.fields #[.int lo t,.int f u,.int 1 v] },toks:=tk }:=I.kept fun b o e=>c4 _ e;refine ⟨(s.heap.push { cls:=.type "range",data:=.fields #[.int lo t,.int f u,.int 1 v] }).objs.size,[(s.heap.push { cls:=.type "range",data:=.fields #[.int lo t,.int f u,.int 1 v] }).objs.size],_,_,H,rfl,
  g.kept (t':=tk) fun b o e=>c4 _ e,IP _ lo (f - lo).toNat,?_,fun b K=>?_,q⟩
 ·have m:lo+((0:Nat):Int) * 1=lo:=by simp
  have B:(((f - lo).toNat:Nat):Int) - ((0:Nat):Int)=C0.Range.rangeSize lo f 1:=by rw [rangeSize_one]; split <;> lia
  show IsRangeIter _ _ (lo+((0:Nat):Int) * 1) ((((f - lo).toNat:Nat):Int) - ((0:Nat):Int)) 1;rw [m,B];exact j5 _ rfl
 ·have e:b=(s.heap.push { cls:=.type "range",data:=.fields #[.int lo t,.int f u,.int 1 v] }).objs.size:=by simpa using K
  subst e;exact g.fpOk (i5 _) (g.hok.fresh (i5 _))
noncomputable def Eg(ta:TA):TI:=fun σ H R=>ta σ H fun vs H1=>∃ j:Int,vs=[.int j]/\-(2 ^ 62)<=j/\j < 2 ^ 62/\R (OJ 0 j.toNat) H1
noncomputable def Ef(ta:TA):TI:=fun σ H R=>ta σ H fun vs H1=>∃ i j:Int,vs=[.int i,.int j]/\(-(2 ^ 62)<=i/\i < 2 ^ 62/\-(2 ^ 62)<=j/\j < 2 ^ 62)/\R (OJ i (j - i).toNat) H1
theorem jU(m:Gl X "range")(o:X.mg "range"=none)(i:PA X [a] ta)(hs:j8 [a] X.env=[(false,C8 a X.env)]:=by rfl):PI X tg (.Call (.Name "range" p) [a] [] pos) (Eg ta):=by
 intro b s C H R I h;refine Call_ (lM I m o boot_range (I0 (cY (i pos b s C H _ I h) fun G E ⟨J,D,g,A,f⟩=>?_) hs rfl));obtain ⟨j,e,f,w,q⟩:=f;subst e;cases A with
|cons r B =>
  cases B;obtain ⟨t,rfl⟩:=r;exact call_range_1 (GJ g (by lia) (by lia) f w (by simpa using q))
theorem AJ(B:Gl X "range")(C:X.mg "range"=none)(A:PA X [a,b] ta)(hs:j8 [a,b] X.env=[(false,C8 a X.env),(false,C8 b X.env)]:=by rfl)(f:j8 [b] X.env=[(false,C8 b X.env)]:=by rfl):
  PI X tg (.Call (.Name "range" p) [a,b] [] pos) (Ef ta):=by
 intro g s M H R I h;refine Call_ (lM I B C boot_range (I0 (cY (A pos g s M H _ I h) fun Q O ⟨S,N,w,K,m⟩=>?_) (by rw [hs,f]) (by rw [f]; rfl)));obtain ⟨i,j,e,⟨m,D,E,G⟩,q⟩:=m;subst e;cases K with
|cons r o =>
  cases o with
 |cons J o =>
   cases o;obtain ⟨t,rfl⟩:=r;obtain ⟨P,rfl⟩:=J;exact call_range_2 (GJ w m D E G q)
noncomputable def Fe(wi:TI)(g:TG)(tb:TS):TS:=fun D σ H=>wi σ H fun J H1=>∃ W:Nat->Nat->St->Hp->Prop,(∃ m,W 0 m σ H1)/\∀ i m σ H,W i m σ H ->
 (J.stop i H/\D.nx σ H)∨(J.go i H/\∃ N:St->Hp->Prop,(∀ σ' H',N σ' H'->∃ m',m' < m/\W (i+1) m' σ' H')/\∀ x H',J.yld i H x H'->g x σ H' fun σ2 H2=>tb { D with nx:=N,ct:=N,bk:=D.nx } σ2 H2)
noncomputable def qL(fp:List b8)(h:u9):List (b8×Obj):=fp.filterMap fun b=>(h.get? b).map fun o=>(b,o)
theorem mW(f:b∈fp)(e:h.get? b=some o):(b,o)∈qL fp h:=R5.mpr ⟨b,f,by rw [e]; rfl⟩
theorem PY(hp:p∈qL fp h):p.1∈fp/\h.get? p.1=some p.2:=by
 obtain ⟨b,g,e⟩:=R5.mp hp;cases q:h.get? b with
|none=>rw [q] at e; cases e
|some o =>
  rw [q] at e;have f:(b,o)=p:=h8 e;subst f;exact ⟨g,q⟩
theorem bB.pinned(I:bB X ud σ H s)(w:∀ b∈fp,vF X ud H b)(A:∀ b∈fp,∃ o,s.heap.get? b=some o/\∀ v,o.data≠.cell v):bB X (ud++qL fp s.heap) σ H s:=
 I.pins_of fun p hp=>(m9.mp hp).elim (fun z=>I.pin p (o0 _ z)) fun z=>by
  obtain ⟨g,e⟩:=PY z;obtain ⟨i,m,q,_⟩:=w p.1 g;obtain ⟨o,f,d⟩:=A p.1 g;rw [e] at f; cases f;exact ⟨e,i,m,q,d⟩
theorem bB.unpinned(I:bB X (ud++pl) σ H s):bB X ud σ H s:=I.pins_of fun p hp=>I.pin p (o0 _ (z9 _ hp))
theorem fD(hp:PassesOwn (h9 X.prog X.w) X.A X.env X.xe)(hc:X.calm=true)(hi:PI X tg iter wi)(hg:PG X tg g)(K:BH X body tb)(hs:∀ x,P4 iter X.env x=D8 x:=by intro _; rfl):PS X (.For tg iter body [] pos) (Fe wi g tb):=by
 intro q s σ H D I h;refine wpAny_For (cY (hi q s σ H _ I h) fun v s1 h1=>cY h1 fun itv s2 h2=>?_) hs;obtain ⟨it,U,tn,J,H2,e,I2,T,st2,f2,W,⟨m0,w0⟩,af⟩:=h2;subst e;have M:∀{Q:Hp},(∀ b∈U,Q b=none)->∀ b∈U,vF X q Q b:=fun hn b K=>⟨hn b K,(f2 b K).2⟩
 refine codeAny_forLoop_any (fun n s'=>∃ i O Q,bB X q O Q s'/\tn i s'.heap/\(∀ b∈U,Q b=none)/\W i n O Q) ?_ m0 ⟨0,σ,H2,I2,st2,fun b K=>(f2 b K).1,w0⟩;rintro n s3 ⟨i,P,H3,I3,ac,Y,w3⟩;rcases af i n P H3 w3 with ⟨ae,qn⟩|⟨go,N,hN,ad⟩
 ·refine O9 hp (cY (T.done X rfl rfl rfl hc i q s3 P H3 X.xe I3 (M Y) ac ae) fun r s4 ⟨hr,I4⟩=>?_)
  subst hr;exact dv ⟨P,H3,I4,qn⟩
 ·refine O9 hp (cY (T.item X rfl rfl rfl hc i q s3 P H3 X.xe I3 (M Y) ac go) fun r s4 ⟨u,hr,h4⟩=>?_)
  subst hr;refine O9 hp (cY h4 fun _ s5 ⟨x,H5,I5,r5,y5,S,fr5⟩=>?_);have I5':=I5.pinned (M fr5) (T.obj _ _ S);refine O9 hp (cY (hg _ s5 P H5 x u _ I5' r5 (ad x H5 y5)) fun _ s6 ⟨σ6,H6,I6,q6⟩=>?_);refine O9 hp (cY (K _ s6 σ6 H6 _ I6 q6) fun f s7 R=>?_);have G:∀{B:St}{C:Hp},bB X (q++qL U s5.heap) B C s7->N B C->∃ m,m < n/\∃ i O Q,bB X q O Q s7/\tn i s7.heap/\(∀ b∈U,Q b=none)/\W i m O Q:=fun {B C} E Z=>by
   obtain ⟨m',hm,w7⟩:=hN B C Z;refine ⟨m',hm,i+1,B,C,E.unpinned,T.keep _ _ _ S fun b K o e=>(E.pin (b,o) (o0 _ (o0 _ (mW K e)))).1,fun b K=>?_,w7⟩;obtain ⟨o,e,d⟩:=T.obj _ _ S b K;exact (E.pin (b,o) (o0 _ (o0 _ (mW K e)))).2.1
  cases f with
 |next=>obtain ⟨B,C,E,Z⟩:=R; exact G E Z
 |cont=>obtain ⟨B,C,E,Z⟩:=R; exact G E Z
 |brk=>obtain ⟨B,C,E,R⟩:=R; exact ⟨B,C,E.unpinned,R⟩
 |ret v=>obtain ⟨x7,B,C,E,r7,R⟩:=R; exact ⟨x7,B,C,E.unpinned,r7,R⟩
end
theorem WV{K:m7}{a:b8}{xs:List V}{g:TG}{C:TS}{D:iI}{b:St}{H:Hp}(f:Nat->St->Hp->Prop)(h0:f 0 b H)(I:∀ i b H,i<=xs.length->f i b H->cP K H a xs)(hs:∀ i x b H,xs[i]?=some x->f i b H->g x b H fun s A=>C { D with nx:=f (i+1),ct:=f (i+1),bk:=D.nx } s A)(E:∀ b H,f xs.length b H->D.nx b H):
  ∃ W:Nat->Nat->St->Hp->Prop,(∃ m,W 0 m b H)/\∀ i m b H,W i m b H ->
   ((OK K a).stop i H/\D.nx b H)∨((OK K a).go i H/\∃ N:St->Hp->Prop,(∀ o H',N o H'->∃ B,B < m/\W (i+1) B o H')/\∀ x H',(OK K a).yld i H x H'->g x b H' fun s A=>C { D with nx:=N,ct:=N,bk:=D.nx } s A):=by
 refine ⟨fun i m b H=>m=xs.length - i/\i<=xs.length/\f i b H,⟨xs.length,by simp,y8 _,h0⟩,?_⟩;rintro i m b H ⟨rfl,G,p⟩;have q:=I i b H G p;by_cases w:i < xs.length
 ·refine .inr ⟨⟨xs,xs[i],q,by simp [w]⟩,f (i+1),fun o H' J=>⟨xs.length - (i+1),by lia,rfl,w,J⟩,fun x H' y=>?_⟩
  obtain ⟨e,y⟩:=y;subst e;exact hs i x b _ (y xs q) p
 ·have e:i=xs.length:=by lia
  subst e;exact .inl ⟨⟨xs,q,i5 _⟩,E b H p⟩
theorem QP{lo:Int}{n:Nat}{g:TG}{B:TS}{D:iI}{b:St}{H:Hp}(f:Nat->St->Hp->Prop)(h0:f 0 b H)(hs:∀ i b H,i < n->f i b H->g (.int (lo+i)) b H fun s w=>B { D with nx:=f (i+1),ct:=f (i+1),bk:=D.nx } s w)(C:∀ b H,f n b H->D.nx b H):
  ∃ W:Nat->Nat->St->Hp->Prop,(∃ m,W 0 m b H)/\∀ i m b H,W i m b H ->
   ((OJ lo n).stop i H/\D.nx b H)∨((OJ lo n).go i H/\∃ N:St->Hp->Prop,(∀ q H',N q H'->∃ A,A < m/\W (i+1) A q H')/\∀ x H',(OJ lo n).yld i H x H'->g x b H' fun s w=>B { D with nx:=N,ct:=N,bk:=D.nx } s w):=by
 refine ⟨fun i m b H=>m=n - i/\i<=n/\f i b H,⟨n,by simp,y8 _,h0⟩,?_⟩;rintro i m b H ⟨rfl,G,p⟩;by_cases o:i < n
 ·refine .inr ⟨o,f (i+1),fun q H' E=>⟨n - (i+1),by lia,rfl,o,E⟩,fun x H' y=>?_⟩
  obtain ⟨e,y⟩:=y;subst e y;exact hs i b _ o p
 ·have e:i=n:=by lia
  subst e;exact .inl ⟨i5 _,C b H p⟩
theorem vW(o:St->Hp->Prop)(s:St->Hp->Nat)(h0:o f H)(hs:∀ f H,o f H->c f H fun b i=>if b=true then tb { D with nx:=fun g H'=>o g H'/\s g H' < s f H,ct:=fun g H'=>o g H'/\s g H' < s f H,bk:=D.nx } f i else D.nx f i)(mono:∀ f H Q Q',(∀ b i,Q b i->Q' b i)->c f H Q->c f H Q'):IT c tb D f H:=by
 refine ⟨fun m f H=>m=s f H/\o f H,⟨_,rfl,h0⟩,?_⟩;rintro m f H ⟨rfl,p⟩;refine mono f H _ _ (fun b i q=>?_) (hs f H p);cases b with
|true=>exact ⟨_,fun g H' ⟨w,l⟩=>⟨_,l,rfl,w⟩,q⟩
|false=>exact q
noncomputable abbrev R2:=V->V->Hp->VK->Prop
noncomputable def kJ(X:Cx)(f:a8->a8->Sem a8)(r:R2):Prop:=
 ∀(ud:List (b8×Obj)) (s:c5) (σ:St) (H:Hp) (x y:V) (v u:a8) (Q:VK),bB X ud σ H s->bG x v->bG y u->r x y H Q ->
  e9 (h9 X.prog X.w) X.A (f v u) (EP X ud σ Q) X.xe s
noncomputable def Qz(X:Cx)(f:a8->Sem a8)(r:V->Hp->VK->Prop):Prop:=
 ∀(ud:List (b8×Obj)) (s:c5) (σ:St) (H:Hp) (x:V) (v:a8) (Q:VK),bB X ud σ H s->bG x v->r x H Q ->
  e9 (h9 X.prog X.w) X.A (f v) (EP X ud σ Q) X.xe s
noncomputable def iM(X:Cx)(f:a8)(r:List V->Hp->VK->Prop):Prop:=
 ∀(ud:List (b8×Obj)) (s:c5) (σ:St) (H:Hp) (xs:List V) (us:List a8) (Q:VK),bB X ud σ H s->bO xs us->r xs H Q ->
  e9 (h9 X.prog X.w) X.A (ax f us) (EP X ud σ Q) X.xe s
noncomputable def Ra(X:Cx)(r:V->Hp->(Bool->Hp->Prop)->Prop):Prop:=
 ∀(ud:List (b8×Obj)) (s:c5) (σ:St) (H:Hp) (x:V) (v:a8) (Q:Bool->Hp->Prop),bB X ud σ H s->bG x v->r x H Q ->
  e9 (h9 X.prog X.w) X.A (truthy v) (TP X ud σ Q) X.xe s
noncomputable def Kr(r:R2)(ta tb:TE):TE:=fun σ H Q=>ta σ H fun x H1=>tb σ H1 fun y H2=>r x y H2 Q
noncomputable def Rk(r:V->Hp->VK->Prop)(ta:TE):TE:=fun σ H Q=>ta σ H fun x H1=>r x H1 Q
noncomputable def rI(C:Int->Int->Prop)(g:Int->Int->V):R2:=fun x y H Q=>∃ i j,x=.int i/\y=.int j/\C i j/\Q (g i j) H
noncomputable def YG(g:Int->Int->V):R2:=fun x y H Q=>∃ i j,x=.int i/\y=.int j/\Q (g i j) H
noncomputable def rU(g:Int->V):V->Hp->VK->Prop:=fun x H Q=>∃ i,x=.int i/\Q (g i) H
section
variable {X:Cx}{a b c:A6}{ta tb tc:TE}{pos:Pos}
theorem Jo(D:PE X a ta)(E:PE X b tb){i:St}{H:Hp}{R:V->V->Hp->Prop}(I:bB X ud i H s)(h:ta i H fun x q=>tb i q fun y g=>R x y g){Q:a8->c5->Prop}{f:a8->a8->Sem a8}(G:∀ v u s2 x y g,bB X ud i g s2->bG x v->bG y u->R x y g->e9 (h9 X.prog X.w) X.A (f v u) Q X.xe s2):
  e9 (h9 X.prog X.w) X.A (C8 a X.env) (fun v m=>e9 (h9 X.prog X.w) X.A (C8 b X.env) (fun u o=>e9 (h9 X.prog X.w) X.A (f v u) Q X.xe o) X.xe m) X.xe s:=by
 refine cY (D ud s i H _ I h) fun v O ⟨x,q,B,M,J⟩=>?_;refine cY (E ud O i q _ B J) fun u s2 ⟨y,g,C,N,K⟩=>?_;exact G v u s2 x y g C M N K
theorem aK(w:kJ X (O1 op) r)(m:PE X a ta)(o:PE X b tb):PE X (.BinOp a op b pos) (Kr r ta tb):=by
 intro f s D H Q I h;exact wpAny_BinOp (Jo m o I h fun v u C x y g i A B q=>w f C D g x y v u Q i A B q)
theorem Dv(q:Qz X (unaryOp op) r)(o:PE X a ta):PE X (.UnaryOp op a pos) (Rk r ta):=by
 intro f s g H Q I h;exact UnaryOp_ (cY (o f s g H _ I h) fun v B ⟨x,i,m,A,w⟩=>q f B g i x v Q m A w)
theorem Nk{f:a8->a8->Sem a8}{C:Int->Int->Prop}{g:Int->Int->Int}(m:∀(i j:Int)(t u:Tok)(s:c5)(Q:a8->c5->Prop)(E:a8->c5->Prop),C i j->Q (.int (g i j) s.toks) { s with toks:=s.toks+1 }->e9 (h9 X.prog X.w) X.A (f (.int i t) (.int j u)) Q E s):
  kJ X f (rI C fun i j=>.int (g i j)):=by
 intro o s K H x y v u Q I D G h;obtain ⟨i,j,rfl,rfl,B,q⟩:=h;obtain ⟨t,rfl⟩:=D;obtain ⟨J,rfl⟩:=G;exact m i j t J s _ _ B ⟨.int (g i j),H,I.tok _,⟨_,rfl⟩,q⟩
theorem Nj{f:a8->a8->Sem a8}{g:Int->Int->Int}(m:∀(i j:Int)(t u:Tok)(s:c5)(Q:a8->c5->Prop)(E:a8->c5->Prop),Q (.int (g i j) s.toks) { s with toks:=s.toks+1 }->e9 (h9 X.prog X.w) X.A (f (.int i t) (.int j u)) Q E s):
  kJ X f (YG fun i j=>.int (g i j)):=by
 intro o s G H x y v u Q I B C h;obtain ⟨i,j,rfl,rfl,q⟩:=h;obtain ⟨t,rfl⟩:=B;obtain ⟨D,rfl⟩:=C;exact m i j t D s _ _ ⟨.int (g i j),H,I.tok _,⟨_,rfl⟩,q⟩
theorem Ah{f:a8->a8->Sem a8}{g:Int->Int->Bool}(m:∀(i j:Int)(t u:Tok)(s:c5)(Q:a8->c5->Prop)(E:a8->c5->Prop),Q (.bool (g i j)) s->e9 (h9 X.prog X.w) X.A (f (.int i t) (.int j u)) Q E s):
  kJ X f (YG fun i j=>.bl (g i j)):=by
 intro o s G H x y v u Q I B C h;obtain ⟨i,j,rfl,rfl,q⟩:=h;obtain ⟨t,rfl⟩:=B;obtain ⟨D,rfl⟩:=C;exact m i j t D s _ _ ⟨.bl (g i j),H,I,rfl,q⟩
noncomputable def YE(i j:Int):Prop:=0<=j/\j<=1000000/\i.natAbs < 2 ^ 64
noncomputable def Jy(i j:Int):Prop:=(-(2 ^ 64) < i/\i < 2 ^ 64)∨(-(2 ^ 64) < j/\j < 2 ^ 64)
theorem Jy.ok(h:Jy i j):IntMulOk i j:=by
 rcases h with ⟨f,g⟩|⟨f,g⟩
 ·exact .of_left (intBits_le_64 f g)
 ·exact .of_right (intBits_le_64 f g)
theorem Hn:kJ X (O1 .Add) (YG fun i j=>.int (i+j)):=Nj fun _ _ _ _ _ _ _ q=>add_int q
theorem xI:kJ X (O1 .Sub) (YG fun i j=>.int (i - j)):=Nj fun _ _ _ _ _ _ _ q=>sub_int q
theorem bY:kJ X (O1 .Mod) (rI (fun _ j=>0 < j) fun i j=>.int (i % j)):=Nk fun i j _ _ _ _ _ f q=>by
 have g:(0:Int) < j:=f;exact mod_int' (by lia) (by rw [Int.fmod_eq_emod_of_nonneg i (by lia)]; exact q)
theorem Ae:kJ X (O1 .Mod) (rI (fun _ j=>j≠0) fun i j=>.int (i.fmod j)):=Nk fun _ _ _ _ _ _ _ f q=>mod_int' f q
theorem qM:kJ X (O1 .Pow) (rI YE fun i j=>.int (i ^ j.toNat)):=Nk fun _ _ _ _ _ _ _ f q=>pow_int_small f.1 f.2.1 f.2.2 q
theorem unI{f:a8->Sem a8}{g:Int->Int}(m:∀(i:Int)(t:Tok)(s:c5)(Q:a8->c5->Prop)(E:a8->c5->Prop),Q (.int (g i) s.toks) { s with toks:=s.toks+1 }->e9 (h9 X.prog X.w) X.A (f (.int i t)) Q E s):
  Qz X f (rU fun i=>.int (g i)):=by
 intro o s C H x v Q I B h;obtain ⟨i,rfl,q⟩:=h;obtain ⟨t,rfl⟩:=B;exact m i t s _ _ ⟨.int (g i),H,I.tok _,⟨_,rfl⟩,q⟩
theorem RQ:Qz X (unaryOp .USub) (rU fun i=>.int (-i)):=unI fun _ _ _ _ _ q=>neg_int q
end
noncomputable def Ld:V->V->Bool
|.non,.non=>true|.non,.int _=>true|.int _,.non=>true|.non,.bl _=>true|.bl _,.non=>true|.non,.str _=>true|.str _,.non=>true
|.int _,.int _=>true|.bl _,.bl _=>true|.str _,.str _=>true|.byt _,.byt _=>true
|.int _,.str _=>true|.str _,.int _=>true|.bl _,.str _=>true|.str _,.bl _=>true
|_,_=>false
noncomputable def Qk:R2:=fun x y H Q=>Ld x y=true/\Q (.bl (decide (x=y))) H
noncomputable def Qi:R2:=fun x y H Q=>Ld x y=true/\Q (.bl (!decide (x=y))) H
theorem vS:decide (V.int i=V.int j)=(i==j):=by
 rw [Q9];simp
theorem XJ:decide (V.bl i=V.bl j)=(i==j):=by
 rw [Q9];simp
theorem DN:decide (V.str i=V.str j)=(i==j):=by
 rw [Q9];simp
theorem OB:decide (V.byt i=V.byt j)=(i.toList==j.toList):=by
 rw [Q9];cases i;cases j;simp
section
variable {X:Cx}{a b c:A6}{ta tb tc:TE}{pos:Pos}
theorem cD(I:bB X ud σ H s)(q:Q (.bl k) H)(e:k=k'):EP X ud σ Q (.bool k') s:=by
 subst e;exact ⟨.bl k,H,I,rfl,q⟩
theorem Ni:kJ X (A0 .Eq) Qk:=by
 intro o s w H x y v u Q I m f h;obtain ⟨hs,q⟩:=h;cases x with
|non =>
  cases m;cases y with
 |non=>cases f; exact PySem.EqNone.eq_none_none (cD I q (by simp))
 |bl j=>cases f; exact PySem.EqNone.eq_none_bool (cD I q (by simp))
 |int j=>obtain ⟨g,rfl⟩:=f; exact PySem.EqNone.eq_none_int (cD I q (by simp))
 |str j=>obtain ⟨g,rfl⟩:=f; exact PySem.EqNone.eq_none_str (cD I q (by simp))
 |_=>exact absurd (show false=true from hs) h7
|bl i =>
  cases m;cases y with
 |non=>cases f; exact PySem.EqNone.eq_bool_none (cD I q (by simp))
 |bl j=>cases f; exact eq_bool (cD I q XJ)
 |str j=>obtain ⟨g,rfl⟩:=f; exact PySem.EqMixed.eq_bool_str (cD I q (by simp))
 |_=>exact absurd (show false=true from hs) h7
|int i =>
  obtain ⟨t,rfl⟩:=m;cases y with
 |non=>cases f; exact PySem.EqNone.eq_int_none (cD I q (by simp))
 |int j=>obtain ⟨g,rfl⟩:=f; exact eq_int (cD I q vS)
 |str j=>obtain ⟨g,rfl⟩:=f; exact PySem.EqMixed.eq_int_str (cD I q (by simp))
 |_=>exact absurd (show false=true from hs) h7
|str i =>
  obtain ⟨t,rfl⟩:=m;cases y with
 |non=>cases f; exact PySem.EqNone.eq_str_none (cD I q (by simp))
 |bl j=>cases f; exact PySem.EqMixed.eq_str_bool (cD I q (by simp))
 |int j=>obtain ⟨g,rfl⟩:=f; exact PySem.EqMixed.eq_str_int (cD I q (by simp))
 |str j=>obtain ⟨g,rfl⟩:=f; exact eq_str (cD I q DN)
 |_=>exact absurd (show false=true from hs) h7
|byt i =>
  obtain ⟨t,rfl⟩:=m;cases y with
 |byt j=>obtain ⟨g,rfl⟩:=f; exact PySem.W.eq_bytes (cD I q OB)
 |_=>exact absurd (show false=true from hs) h7
|_=>cases y <;> exact absurd (show false=true from hs) h7
theorem Nh:kJ X (A0 .NotEq) Qi:=by
 intro o s w H x y v u Q I m f h;obtain ⟨hs,q⟩:=h;cases x with
|non =>
  cases m;cases y with
 |non=>cases f; exact PySem.EqNone.ne_none_none (cD I q (by simp))
 |bl j=>cases f; exact PySem.EqNone.ne_none_bool (cD I q (by simp))
 |int j=>obtain ⟨g,rfl⟩:=f; exact PySem.EqNone.ne_none_int (cD I q (by simp))
 |str j=>obtain ⟨g,rfl⟩:=f; exact PySem.EqNone.ne_none_str (cD I q (by simp))
 |_=>exact absurd (show false=true from hs) h7
|bl i =>
  cases m;cases y with
 |non=>cases f; exact PySem.EqNone.ne_bool_none (cD I q (by simp))
 |bl j=>cases f; exact ne_bool (cD I q (congrArg not XJ))
 |str j=>obtain ⟨g,rfl⟩:=f; exact PySem.EqMixed.ne_bool_str (cD I q (by simp))
 |_=>exact absurd (show false=true from hs) h7
|int i =>
  obtain ⟨t,rfl⟩:=m;cases y with
 |non=>cases f; exact PySem.EqNone.ne_int_none (cD I q (by simp))
 |int j=>obtain ⟨g,rfl⟩:=f; exact ne_int (cD I q (congrArg not vS))
 |str j=>obtain ⟨g,rfl⟩:=f; exact PySem.EqMixed.ne_int_str (cD I q (by simp))
 |_=>exact absurd (show false=true from hs) h7
|str i =>
  obtain ⟨t,rfl⟩:=m;cases y with
 |non=>cases f; exact PySem.EqNone.ne_str_none (cD I q (by simp))
 |bl j=>cases f; exact PySem.EqMixed.ne_str_bool (cD I q (by simp))
 |int j=>obtain ⟨g,rfl⟩:=f; exact PySem.EqMixed.ne_str_int (cD I q (by simp))
 |str j=>obtain ⟨g,rfl⟩:=f; exact ne_str (cD I q (congrArg not DN))
 |_=>exact absurd (show false=true from hs) h7
|byt i =>
  obtain ⟨t,rfl⟩:=m;cases y with
 |byt j=>obtain ⟨g,rfl⟩:=f; exact PySem.W.ne_bytes (cD I q (congrArg not OB))
 |_=>exact absurd (show false=true from hs) h7
|_=>cases y <;> exact absurd (show false=true from hs) h7
theorem sK:kJ X (A0 .Lt) (YG fun i j=>.bl (decide (i < j))):=Ah fun _ _ _ _ _ _ _ q=>lt_int q
theorem Dy:kJ X (A0 .LtE) (YG fun i j=>.bl (decide (i<=j))):=Ah fun _ _ _ _ _ _ _ q=>le_int q
theorem VM:kJ X (A0 .Gt) (YG fun i j=>.bl (decide (j < i))):=Ah fun _ _ _ _ _ _ _ q=>gt_int q
theorem GU:kJ X (A0 .GtE) (YG fun i j=>.bl (decide (j<=i))):=Ah fun _ _ _ _ _ _ _ q=>ge_int q
theorem Hk:kJ X (A0 .Is) (fun x y H Q=>y=.non/\Q (.bl (decide (x=.non))) H):=by
 intro f s m H x y v u Q I g i h;obtain ⟨rfl,q⟩:=h;cases i;refine is_none_gen (cD I q ?_);cases x <;> first
 |(cases g; rfl)
 |(obtain ⟨t,rfl⟩:=g; rfl)
theorem Ad:kJ X (A0 .IsNot) (fun x y H Q=>y=.non/\Q (.bl (!decide (x=.non))) H):=by
 intro f s m H x y v u Q I g i h;obtain ⟨rfl,q⟩:=h;cases i;refine isnot_none_gen (cD I q ?_);cases x <;> first
 |(cases g; rfl)
 |(obtain ⟨t,rfl⟩:=g; rfl)
theorem kJ.or(h:kJ X f r)(h':kJ X f r'):kJ X f (fun x y H Q=>r x y H Q∨r' x y H Q):=by
 intro g s o H x y v u Q I i m q;rcases q with q|q
 ·exact h g s o H x y v u Q I i m q
 ·exact h' g s o H x y v u Q I i m q
theorem VU(b:A6)(h:op≠.In:=by decide)(i:op≠.NotIn:=by decide):W2 op b=false:=by
 have f:(op==CmpOp.In)=false:=by cases op <;> first|rfl|exact absurd rfl h
 have g:(op==CmpOp.NotIn)=false:=by cases op <;> first|rfl|exact absurd rfl i
 cases b <;> simp [W2,f,g]
theorem jP(A:kJ X (A0 op) r)(m:PE X a ta)(o:PE X b tb)(w:W2 op b=false:=by exact VU _):PE X (.Compare a [op] [b] pos) (Kr r ta tb):=by
 intro f s E H Q I h;exact wpAny_Compare1 (Jo m o I h fun v u D x y g i B C q=>A f D E g x y v u Q i B C q) w
noncomputable def RY(t:TE):TT:=fun σ H Q=>t σ H fun x H'=>∃ k,x=.bl k/\Q k H'
theorem aY(E:kJ X (A0 op) r)(B:PE X a ta)(C:PE X b tb)(D:W2 op b=false:=by exact VU _):PT X (.Compare a [op] [b] pos) (RY (Kr r ta tb)):=by
 intro f s g H Q I h;refine so (cY (B f s g H _ I h) fun v P ⟨x,i,q,M,G⟩=>cY (C f P g i _ q G) fun u R ⟨y,m,w,N,J⟩ =>
  cY (E f R g m x y v u _ w M N J) fun c S ⟨z,o,A,O,k,e,K⟩=>?_) D
 subst e;cases O;exact F4 ⟨o,A,K⟩
noncomputable def SG(r r':R2)(ta tb tc:TE):TE:=fun σ H Q=>ta σ H fun x H1=>tb σ H1 fun y H2=>r x y H2 fun z H3=>∃ k,z=.bl k /\
 (if k=true then tc σ H3 fun w' H4=>r' y w' H4 Q else Q (.bl false) H3)
theorem UY(T:kJ X (A0 op) r)(i:kJ X (A0 op') r')(O:PE X a ta)(P:PE X b tb)(R:PE X c tc)(S:lastMarks [op,op'] [b,c]=false:=by with_unfolding_all rfl):PT X (.Compare a [op,op'] [b,c] pos) (RY (SG r r' ta tb tc)):=by
 intro f s g H Q I h;refine isTrue_chain (cY (O f s g H _ I h) fun v s1 ⟨x,A,E,r1,W⟩=>test_link (cY (P f s1 g A _ E W) fun u s2 ⟨y,B,G,w,Y⟩ =>
  cY (T f s2 g B x y v u _ G r1 w Y) fun d s3 ⟨z,m,o,r3,k,e,q⟩=>?_)) S
 subst e;cases r3;refine F4 ?_;cases k with
|false =>
  obtain ⟨k',M,U⟩:=q;cases M;exact ite_ff ⟨m,o,U⟩
|true =>
  refine ite_tt (test_last (cY (R f s3 g m _ o q) fun w' s4 ⟨z',C,J,r4,Z⟩=>cY (i f s4 g C y z' u w' _ J w r4 Z) fun d' s5 ⟨z2,D,K,r5,k2,N,q5⟩=>?_));subst N;cases r5;exact F4 ⟨D,K,q5⟩
noncomputable def yQ(K:m7)(x:V)(H:Hp)(k:Bool):Prop:=
 match x with
|.non=>k=false
|.bl b=>k=b
|.int i=>k=(i !=0)
|.str y=>y.length<=j0/\k=((y.length:Int) !=0)
|.byt y=>y.size<=j0/\k=((y.size:Int) !=0)
|.ref p=>(∃ xs,cP K H p xs/\k=!xs.isEmpty)∨(∃ xs,EC K H p xs/\k=!xs.isEmpty)∨∃ kvs,H p=some (.dK kvs)/\k=!kvs.isEmpty
|_=>False
theorem JS{f:Type}{kvs:List (f×V)}{vs:List (f×a8)}(r:KV kvs vs):(!vs.isEmpty)=!kvs.isEmpty:=by
 cases r <;> rfl
theorem xY(r:bO xs its):(!its.toArray.isEmpty)=!xs.isEmpty:=by
 cases r <;> simp
theorem xV:(j0:Nat) < 2 ^ 63:=by rw [p7]; decide
theorem RX:Ra X (fun x H Q=>∃ k,yQ X.K x H k/\Q k H):=by
 intro M s S H x v Q I B h;obtain ⟨k,e,q⟩:=h;have R:=xV;have hs:j0=16777216:=p7;cases x with
|non =>
  cases B;have f:k=false:=e;subst f;exact truthy_none ⟨H,I,q⟩
|bl b =>
  cases B;have f:k=b:=e;subst f;exact F4 ⟨H,I,q⟩
|int i =>
  obtain ⟨t,rfl⟩:=B;have f:k=(i !=0):=e;subst f;exact PySem.P.truthy_int ⟨H,I,q⟩
|str y =>
  obtain ⟨t,rfl⟩:=B;obtain ⟨O,f⟩:y.length<=j0/\k=((y.length:Int) !=0):=e;subst f;exact PySem.P.truthy_str (by lia) ⟨H,I.tok _,q⟩
|byt y =>
  obtain ⟨t,rfl⟩:=B;obtain ⟨O,f⟩:y.size<=j0/\k=((y.size:Int) !=0):=e;subst f;exact PySem.W.truthy_bytes (by lia) ⟨H,I.tok _,q⟩
|ref p =>
  cases B;have f:(∃ A,cP X.K H p A/\k=!A.isEmpty)∨(∃ A,EC X.K H p A/\k=!A.isEmpty)∨∃ g,H p=some (.dK g)/\k=!g.isEmpty:=e;rcases f with ⟨A,C,f⟩|⟨A,C,f⟩|⟨g,C,f⟩
  ·subst f
   obtain ⟨E,r,G,J⟩:=I.list C;have o:=r.length;exact wpAny_truthy_list G.isList (by simp only [i4]; lia) ⟨H,I.tok _,by rw [xY r]; exact q⟩
  ·subst f
   obtain ⟨E,r,G,J⟩:=I.tuple C;have o:=r.length;exact truthy_tuple G (by simp only [i4]; lia) ⟨H,I.tok _,by rw [xY r]; exact q⟩
  ·subst f
   obtain ⟨J,N,D,r,m⟩:g.length<=j0/\(p==sysModules)=false/\∃ D,KV g D/\s.heap.DictOf (bR X.prog X.w) p D:=I.hok p _ C;have o:g.length=D.length:=Paired.length r;exact wpAny_truthy_dict N m (by lia) ⟨H,I.tok _,by rw [JS r]; exact q⟩
|_=>exact (show False from e).elim
theorem UX(o:PE X a ta)(q:∀ whole,isTrue a X.env whole=(do let v ← whole; cw a.pos; da [v] (truthy v))):
  PT X a (fun g H Q=>ta g H fun x H'=>∃ k,yQ X.K x H' k/\Q k H'):=by
 intro f s g H Q I h;exact isTrue_plain (cY (o f s g H _ I h) fun v B ⟨x,i,m,A,w⟩=>RX f B g i x v Q m A w) (q _)
theorem JF:kJ X (O1 .Add) (fun x y H Q=>∃ i j,x=.str i/\y=.str j/\i.length+j.length<=j0/\Q (.str (i++j)) H):=by
 intro f s A H x y v u Q I m o h;obtain ⟨i,j,rfl,rfl,g,q⟩:=h;obtain ⟨t,rfl⟩:=m;obtain ⟨w,rfl⟩:=o;exact add_str (fun w tk=>⟨.str (i++j),H,I.tok _,⟨_,rfl⟩,q⟩) g
theorem RM(r:bO [x] us):∃ u,us=[u]/\bG x u:=by
 cases r with
|cons f g=>cases g; exact ⟨_,rfl,f⟩
theorem Bw(r:bO [x,y] us):∃ u f,us=[u,f]/\bG x u/\bG y f:=by
 cases r with
|cons g i =>
  cases i with
 |cons m o=>cases o; exact ⟨_,_,rfl,g,m⟩
theorem XM:iM X (.builtin "abs") (fun xs H Q=>∃ i,xs=[.int i]/\Q (.int (if i < 0 then -i else i)) H):=by
 intro f s m H xs g Q I r h;obtain ⟨i,rfl,q⟩:=h;obtain ⟨u,rfl,t,rfl⟩:=RM r;exact call_abs_int fun u tk=>⟨.int (if i < 0 then -i else i),H,I.tok _,⟨_,rfl⟩,q⟩
theorem RA(m:X.calm=true):iM X (.builtin "max") (fun xs H Q=>∃ i j,xs=[.int i,.int j]/\Q (.int (if j > i then j else i)) H):=by
 intro g s C H xs A Q I r h;obtain ⟨i,j,rfl,q⟩:=h;obtain ⟨u,B,rfl,⟨t,rfl⟩,⟨w,rfl⟩⟩:=Bw r;refine max_two_ints (I.ok.hd m) fun o tk k=>⟨_,H,I.kept k,?_,q⟩
 by_cases f:j > i
 ·rw [if_pos f,if_pos f]; exact ⟨_,rfl⟩
 ·rw [if_neg f,if_neg f]; exact ⟨_,rfl⟩
theorem QZ(m:X.calm=true):iM X (.builtin "min") (fun xs H Q=>∃ i j,xs=[.int i,.int j]/\Q (.int (if j < i then j else i)) H):=by
 intro g s C H xs A Q I r h;obtain ⟨i,j,rfl,q⟩:=h;obtain ⟨u,B,rfl,⟨t,rfl⟩,⟨w,rfl⟩⟩:=Bw r;refine min_two_ints (I.ok.hd m) fun o tk k=>⟨_,H,I.kept k,?_,q⟩
 by_cases f:j < i
 ·rw [if_pos f,if_pos f]; exact ⟨_,rfl⟩
 ·rw [if_neg f,if_neg f]; exact ⟨_,rfl⟩
noncomputable def Oy(K:m7)(x:V)(H:Hp)(n:Nat):Prop:=
 match x with
|.str y=>y.length<=j0/\n=y.length
|.byt y=>y.size<=j0/\n=y.size
|.ref p=>(∃ xs,cP K H p xs/\n=xs.length)∨∃ xs,EC K H p xs/\n=xs.length
|_=>False
theorem XL:iM X (.builtin "len") (fun xs H Q=>∃ x n,xs=[x]/\Oy X.K x H n/\Q (.int n) H):=by
 intro B s J H xs G Q I r h;obtain ⟨x,n,rfl,e,q⟩:=h;obtain ⟨u,rfl,A⟩:=RM r;have E:=xV;have hs:j0=16777216:=p7;cases x with
|str y =>
  obtain ⟨t,rfl⟩:=A;obtain ⟨C,g⟩:y.length<=j0/\n=y.length:=e;subst g;exact len_str (by lia) ⟨.int _,H,I.tok _,⟨_,rfl⟩,q⟩
|byt y =>
  obtain ⟨t,rfl⟩:=A;obtain ⟨C,g⟩:y.size<=j0/\n=y.size:=e;subst g;exact PySem.W.len_bytes (by lia) ⟨.int _,H,I.tok _,⟨_,rfl⟩,q⟩
|ref p =>
  cases A;have g:(∃ xs,cP X.K H p xs/\n=xs.length)∨∃ xs,EC X.K H p xs/\n=xs.length:=e;rcases g with ⟨xs,i,g⟩|⟨xs,i,g⟩
  ·subst g
   obtain ⟨m,w,o,D⟩:=I.list i;have f:=w.length;exact Calls.call_len_list o.isList (by simp only [i4]; lia) ⟨.int xs.length,H,I.tok _,⟨_,by simp only [i4]; rw [f]⟩,q⟩
  ·subst g
   obtain ⟨m,w,o,D⟩:=I.tuple i;have f:=w.length;exact len_tuple o (by simp only [i4]; lia) ⟨.int xs.length,H,I.tok _,⟨_,by simp only [i4]; rw [f]⟩,q⟩
|_=>exact (show False from e).elim
end
structure KH(h:u9)(x dx C:b8)(mA:Str->Option a8):Prop where
 obj:h.get? x=some (gr C dx)
 ns:h.Ns1 dx mA
 ne:dx≠x
theorem QB{h:u9}{f:b8}{i:Str->Option a8}(n:h.Ns1 f i):∃ m,h.get? f=some m/\∀ name,lookIn name m=some (i name):=by
 obtain ⟨o,g,D,B,w,hk,_,A⟩:=n;refine ⟨o,B,fun name=>?_⟩;have e:=A name;unfold nsFind findBy at e;rw [← Array.find?_toList] at e;unfold lookIn;rw [w];dsimp only;split
 ·rename_i y q
  rw [q] at e;exact congrArg some e
 ·rename_i q
  rw [q] at e;have a:g.toList.any (·.refKey)=false:=by
   rw [List.any_eq_false];intro y C;obtain ⟨z,t,b⟩:=hk y (pk.mp C);simp [DictEntry.refKey,b]
  have s:¬ g.toList.any (·.refKey)=true:=by rw [a]; exact h7
  rw [if_neg s];exact congrArg some e
theorem KH.look(I:KH h x dx C mA):∃ b,InstAt h x (gr C dx) C (some b)/\∀ name,lookIn name b=some (mA name):=
 let ⟨b,g,f⟩:=QB I.ns
 ⟨b,⟨I.obj,rfl,rfl,g⟩,f⟩
section
variable {prog:j2}{w:k6}{A:q4}{E:a8 -> c5 -> Prop}{s:c5}{K:m7}{x dx C f:b8}{mA:Str -> Option a8}{name:Str}{v:a8}
theorem Az(X:K.In s.heap)(I:KH s.heap x dx C mA)(i:sw K C name=true)(m:hasDictIn K C=true)(g:G8 K (.ref C) name=some none)(q:mA name=some v)(b:handedIn v=true)(h:Q v { s with toks:=s.toks+1 }):
  e9 (h9 prog w) A (getAttr (.ref x) name expr) Q E s:=by
 obtain ⟨B,J,o⟩:=I.look;exact PySem.W.get_value X J (sv i).1 (PySem.W.findObj_own m g rfl (by rw [o,q])) b h
theorem WT(X:K.In s.heap)(I:KH s.heap x dx C mA)(b:sw K C name=true)(g:G8 K (.ref C) name=some (some (.ref f)))(m:me K (.ref f)=true)(o:mA name=none)(h:Q (.ref f,[.ref x]) s):
  e9 (h9 prog w) A (gs (.ref x) name pl) Q E s:=by
 obtain ⟨q,J,i⟩:=I.look;exact PySem.W.method_fn X J (sv b).1 (sv b).2 g (beq_iff_eq.mp m) (by show (lookIn name q).map (·.isSome)=some false; rw [i,o]; rfl) h
theorem YX(X:K.In s.heap)(I:KH s.heap x dx C mA)(hs:G8 K (.ref C) "__setattr__"=some (some (.builtin "object.__setattr__")))(hp:plainOver K C=true)(N:takerIn K C name=some none)(M:hasDictIn K C=true)(O:gg mA ns)(hsz:ns.length<=j0)(h:∀ h',KH h' x dx C (fun y=>if y=name then some v else mA y)->L6 dx s.heap h'->Q () { s with heap:=h',toks:=s.toks+2 }):
  e9 (h9 prog w) A (setAttr (.ref x) name v) Q E s:=by
 obtain ⟨U,J,S⟩:=I.look;refine PySem.W.set_plain X J hs (PySem.W.osa_open (s:={ s with toks:=s.toks+1 }) (r:=none) X J hp N fun b=>?_);obtain ⟨R,H,o⟩:=PySem.W.any_some M;have P:s.heap.get? x=some ⟨.ref C,some dx,.plain,#[]⟩:=I.obj;refine a7 (c6 (a7 (a7 (wpAny_loadPart P (a7 (PySem.W.Looks.here (s:={ s with toks:=s.toks+1 }) (PySem.W.looks_clsIn X H) ?_))))));rw [o];refine c6 (a:=some dx) (a7 (c6 (a7 ?_)));refine wpAny_nsSet1 (s:={ s with toks:=s.toks+1 }) I.ns fun h' g i=>?_;obtain ⟨T,G,D,B,q,m⟩:=g.count (gg.cons name v O);refine a7 (wpAny_lookBehind B (by rw [q]; exact pastItsLine_dict (u8 m (by rw [B7]; lia))) ?_);exact c6 (h _ ⟨(i.2 _ (j3 I.ne)).trans I.obj,g,I.ne⟩ i)
theorem WA(X:K.In s.heap)(o:gu K C=true)(m:G8 K (.ref C) "__init__"=some (some (.ref f)))(i:typeIn K (.ref f)=some (.type "function"))
  (h:S2 (h9 prog w) (A.under (.builtin "type.__call__" ⟨.ref C::vs,kw⟩)) (.call (.ref f) ⟨.ref (s.heap.objs.size+1)::vs,kw⟩) (PySem.W.InitBack (s.heap.objs.size+1) R)
   { s with heap:=(s.heap.push V8).push (gr C s.heap.objs.size) }) :
  S2 (h9 prog w) A (.call (.ref C) ⟨vs,kw⟩) R s:=by
 obtain ⟨q,g,d,t,B⟩:=s;exact PySem.W.make_core (PySem.W.makes_of X o) (PySem.W.looks_findIn X m) (fun b=>PySem.W.bind_fn X b i) (.inl rfl) h
end
noncomputable def iA(f:Str)(v:V):List (Str×V)->List (Str×V)
|[]=>[(f,v)]
|(g,x)::r=>if g=f then (g,v)::r else (g,x)::iA f v r
theorem uR(f g:Str)(v:V):∀ fs:List (Str×V),(iA f v fs).lookup g=if g=f then some v else fs.lookup g
|[]=>by
  show L5 g [(f,v)]=_;by_cases h:g=f
  ·have b:(g==f)=true:=beq_iff_eq.mpr h
   simp only [L5,b,if_pos h]
  ·have b:(g==f)=false:=beq_eq_false_iff_ne.mpr h
   simp only [L5,b,if_neg h]
|(k,x)::r=>by
  have ih:=uR f g v r;rw [show iA f v ((k,x)::r)=(if k=f then (k,v)::r else (k,x)::iA f v r) from rfl];by_cases hk:k=f
  ·rw [if_pos hk]
   by_cases h:g=k
   ·have b:(g==k)=true:=beq_iff_eq.mpr h
    simp only [L5,b,if_pos (h.trans hk)]
   ·have b:(g==k)=false:=beq_eq_false_iff_ne.mpr h
    simp only [L5,b,if_neg (fun e:g=f=>h (e.trans hk.symm))]
  ·rw [if_neg hk]
   by_cases h:g=k
   ·have b:(g==k)=true:=beq_iff_eq.mpr h
    simp only [L5,b,if_neg (fun e:g=f=>hk (h.symm.trans e))]
   ·have b:(g==k)=false:=beq_eq_false_iff_ne.mpr h
    simp only [L5,b];exact ih
theorem uC(f:Str)(v:V):∀ fs:List (Str×V),f∈(iA f v fs).map (·.1)/\∀ g,g∈fs.map (·.1)->g∈(iA f v fs).map (·.1)
|[]=>⟨by simp [iA],fun g h=>by simp at h⟩
|(k,x)::r=>by
  obtain ⟨b,i⟩:=uC f v r;rw [show iA f v ((k,x)::r)=(if k=f then (k,v)::r else (k,x)::iA f v r) from rfl];by_cases hk:k=f
  ·rw [if_pos hk]
   subst hk;exact ⟨by simp,fun g h=>by simpa using h⟩
  ·rw [if_neg hk]
   refine ⟨?_,fun g h=>?_⟩
   ·rw [D3]
    exact A7 _ b
   ·rw [D3] at h ⊢
    rcases n6.mp h with e|e
    ·exact n6.mpr (.inl e)
    ·exact A7 _ (i g e)
theorem uS(f:Str)(v:V):∀ fs:List (Str×V),(iA f v fs).length<=fs.length+1
|[]=>by simp [iA]
|(k,x)::r=>by
  have ih:=uS f v r;rw [show iA f v ((k,x)::r)=(if k=f then (k,v)::r else (k,x)::iA f v r) from rfl];by_cases hk:k=f
  ·rw [if_pos hk,B7,B7]; lia
  ·rw [if_neg hk,B7,B7]; lia
theorem nD.some_of(r:nD (some v) o):∃ u,o=some u/\bG v u:=by
 cases o with
|none=>exact (show False from r).elim
|some u=>exact ⟨u,rfl,r⟩
theorem nD.none_of(r:nD none o):o=none:=by
 cases o with
|none=>rfl
|some u=>exact (show False from r).elim
theorem QL(r:bG v u):handedIn u=true:=by
 cases v with
|non=>cases (show u=F7 from r); rfl
|bl b=>cases (show u=jt b from r); rfl
|int i=>obtain ⟨t,e⟩:=(show ∃ t,u=cm i t from r); cases e; rfl
|str x=>obtain ⟨t,e⟩:=(show ∃ t,u=W3 x t from r); cases e; rfl
|byt b=>obtain ⟨t,e⟩:=(show ∃ t,u=a8.bytes b t from r); cases e; rfl
|flt b=>obtain ⟨t,e⟩:=(show ∃ t,u=ox b t from r); cases e; rfl
|ref a=>cases (show u=i6 a from r); rfl
|ty n=>cases (show u=K1 n from r); rfl
section
variable {P:j2}{w:k6}{H H':Hp}{h h':u9}{a C dx:b8}{fs fs':List (Str×V)}
theorem vO(g:pQ P w H h)(e:H a=some (.ins C dx fs)):∃ b,KH h a dx C b/\(∀ f,nD (fs.lookup f) (b f))/\gg b (fs.map (·.1))/\fs.length<=1000/\H dx=some (.own a):=by
 obtain ⟨d,z,i,m,b,n,r,q⟩:=(show dH P w H h a (.ins C dx fs) from g a _ e)
 exact ⟨b,⟨m,n,i⟩,r,q,z,d⟩
end
structure EG(K:m7)(C:b8):Prop where
 pg:sw K C Str.empty=true
 hd:hasDictIn K C=true
 po:plainOver K C=true
 sa:G8 K (.ref C) "__setattr__"=some (some (.builtin "object.__setattr__"))
theorem EG.get{K:m7}{C:b8}(c:EG K C)(f:Str):sw K C f=true:=c.pg
noncomputable def fG(K:m7)(C:b8)(f:Str):Prop:=G8 K (.ref C) f=some none
theorem fG.taker{K:m7}{C:b8}{f:Str}(n:fG K C f):takerIn K C f=some none:=by
 unfold takerIn;rw [show G8 K (.ref C) f=some none from n];rfl
structure YA(K:m7)(C:b8)(m:Str)(f:b8):Prop where
 at_:G8 K (.ref C) m=some (some (.ref f))
 fn:me K (.ref f)=true
 kp:n7 K (.ref f)=true
section
variable {X:Cx}{ud:List (b8×Obj)}{σ:St}{H:Hp}{s:c5}{a C dx:b8}{fs:List (Str×V)}{f:Str}{v:V}{A:q4}{E:a8 -> c5 -> Prop}
theorem JV(I:bB X ud σ H s)(e:H a=some (.ins C dx fs))(c:EG X.K C)(n:fG X.K C f)(l:fs.lookup f=some v)(h:∀ u s',bB X ud σ H s'->bG v u->Q u s'):e9 (h9 X.prog X.w) A (getAttr (.ref a) f b) Q E s:=by
 obtain ⟨m,O,r,_,_,_⟩:=vO I.hok e;obtain ⟨u,i,g⟩:=nD.some_of (v:=v) (o:=m f) (by rw [← l]; exact r f);exact Az I.kIn O (c.get f) c.hd n i (QL g) (h u _ (I.tok _) g)
theorem xZ(I:bB X ud σ H s)(e:H a=some (.ins C dx fs))(c:EG X.K C)(k:YA X.K C m g)(l:fs.lookup m=none)(h:Q (.ref g,[.ref a]) s):e9 (h9 X.prog X.w) A (gs (.ref a) m pl) Q E s:=by
 obtain ⟨b,O,r,_,_,_⟩:=vO I.hok e;have hn:b m=none:=nD.none_of (by rw [← l]; exact r m);exact WT I.kIn O (c.get m) k.at_ k.fn hn h
theorem IW(I:bB X ud σ H s)(e:H a=some (.ins C dx fs))(c:EG X.K C)(n:fG X.K C f)(U:fs.length < 1000)(S:bG y u)(h:∀ s',bB X ud σ (upd H a (.ins C dx (iA f y fs))) s'->Q () s'):e9 (h9 X.prog X.w) A (setAttr (.ref a) f u) Q E s:=by
 obtain ⟨B,O,r,D,_,m⟩:=vO I.hok e;have R:(fs.map (·.1)).length<=j0:=by rw [g7,p7]; lia
 refine YX I.kIn O c.sa c.po n.taker c.hd D R fun J i T=>h _ ?_;have N:∃ o,J.get? dx=some o:=let ⟨o,_,_,G,_⟩:=i.ns; ⟨o,G⟩;refine I.write (x:=a) (e:=dx) (by rw [e]; exact F9) (.inr m) (fun b q M z=>(T.2 b M).trans z) N ?_;refine ⟨by rw [aZ O.ne]; exact m,?_,O.ne,i.obj,_,i.ns,fun g=>?_,fun g P=>?_⟩
 ·have:=uS f y fs; lia
 ·show nD ((iA f y fs).lookup g) (if g=f then some u else B g)
  rw [uR];by_cases q:g=f
  ·rw [if_pos q,if_pos q]; exact S
  ·rw [if_neg q,if_neg q]; exact r g
 ·by_cases q:g=f
  ·rw [q]; exact (uC f y fs).1
  ·refine (uC f y fs).2 g (D g fun z=>P ?_)
   show (if g=f then some u else B g)=none;rw [if_neg q]; exact z
theorem bB.made(I:bB X ud σ H s):bB X ud σ (upd (upd H s.heap.objs.size (.own (s.heap.objs.size+1))) (s.heap.objs.size+1) (.ins C s.heap.objs.size []))
  { s with heap:=(s.heap.push V8).push (gr C s.heap.objs.size) }:=by
 have g:(s.heap.push V8).get? s.heap.objs.size=some V8:=j5 s.heap rfl;have w:((s.heap.push V8).push (gr C s.heap.objs.size)).get? (s.heap.objs.size+1)=some (gr C s.heap.objs.size):=by
  have:=j5 (s.heap.push V8) (o:=gr C s.heap.objs.size) rfl;rwa [J3] at this
 have B:(s.heap.push V8).Ns s.heap.objs.size (fun _=>none):=⟨V8,#[],_,g,rfl,(fun e D=>absurd D (by simp)),fun _=>rfl⟩
 have m:=I.laid (a:=s.heap.objs.size) (o:=.own (s.heap.objs.size+1)) (h':=s.heap.push V8) (t':=s.toks) (fun b u q=>c4 _ q) (i5 _) ⟨_,g⟩;refine m.laid (a:=s.heap.objs.size+1) (o:=.ins C s.heap.objs.size []) (t':=s.toks) (fun b u q=>c4 _ q) (jm (J3 _ _)) ?_;have i:s.heap.objs.size≠s.heap.objs.size+1:=j4 (D2 _);refine ⟨by rw [aZ i,aC],y8 _,i,w,fun _=>none,(u9.Ns1.of_empty B).at fun o q=>c4 _ q,fun _=>F9,fun y G=>absurd rfl G⟩
theorem Bo(b:M6 e f env (C8 e env)=C8 e env)(h:e9 (h9 prog w) A (C8 e env) (fun o s₁=>e9 (h9 prog w) A (getAttr o f true) Q E s₁) E s):e9 (h9 prog w) A (C8 (.Attribute e f pos) env) Q E s:=
 Attribute_any_ h (by rw [arm_eval_Attribute,b])
end
noncomputable def Ff(K:m7)(ta:TE)(f:Str):TE:=fun σ H Q=>ta σ H fun x H1=>∃ a C dx fs v,x=.ref a/\H1 a=some (.ins C dx fs)/\EG K C/\fG K C f/\fs.lookup f=some v/\Q v H1
noncomputable def Lg(K:m7)(ta tv:TE)(f:Str):TS:=fun D σ H=>tv σ H fun y H1=>ta σ H1 fun x H2=>∃ a C dx fs,x=.ref a/\H2 a=some (.ins C dx fs)/\EG K C/\fG K C f/\fs.length < 1000 /\
 D.nx σ (upd H2 a (.ins C dx (iA f y fs)))
section
variable {X:Cx}{o e value:A6}{f:Str}{pos pos' tpos:Pos}{ta tv:TE}
theorem dL(D:PE X e ta)(B:M6 e f X.env (C8 e X.env)=C8 e X.env):PE X (.Attribute e f pos) (Ff X.K ta f):=by
 intro b s J H Q I h;refine Bo B (cY (D b s J H _ I h) fun u O ⟨x,g,i,G,a,C,M,N,v,A,w,c,n,l,q⟩=>?_);subst A;obtain rfl:u=i6 a:=G;exact JV i w c n l fun R P m E=>⟨v,g,m,E,q⟩
theorem qK(G:PE X o ta)(J:PE X value tv)(hs:gh value (some (.Attribute o f pos')) pos.line X.env=D8 false):PS X (.Assign [.Attribute o f pos'] value pos) (Lg X.K ta tv f):=by
 intro b s g H D I h;refine plainObj_wpAny_Assign_Attribute (cY (J b s g H _ I h) fun u Q ⟨y,i,m,P,q⟩=>cY (G b Q g i _ m q) fun M U ⟨x,R,w,O,a,C,S,T,E,B,c,n,l,N⟩=>?_) hs;subst E;obtain rfl:M=i6 a:=O;exact IW w B c n l P fun W A=>⟨g,_,A,N⟩
end
section
variable {X:Cx}{ud:List (b8×Obj)}{σ:St}{H:Hp}{s:c5}{A:q4}{E:a8 -> c5 -> Prop}{Q:a8 -> c5 -> Prop}{c:a8}{b:Bool}
inductive oZ (K:m7) (H:Hp):V->a8->Prop where
|non:oZ K H .non (.type "NoneType")
|bl (x:Bool):oZ K H (.bl x) (.type "bool")
|int (i:Int):oZ K H (.int i) (.type "int")
|str (x:Str):oZ K H (.str x) (.type "str")
|flt (x:UInt64):oZ K H (.flt x) (.type "float")
|lst {a:b8} {xs:List V} (e:H a=some (.lst xs)):oZ K H (.ref a) (.type "list")
|frz {a:b8} {o:Obj} {xs:List V} (e:H a=some (.frz o (.lst xs))):oZ K H (.ref a) (.type "list")
|tup {a:b8} {xs:List V} (e:H a=some (.tup xs)):oZ K H (.ref a) (.type "tuple")
|dK {a:b8} {kvs:List (aM×V)} (e:H a=some (.dK kvs)):oZ K H (.ref a) (.type "dict")
|dT {a:b8} {kvs:List (List aM×V)} (e:H a=some (.dT kvs)):oZ K H (.ref a) (.type "dict")
|ins {a C dx:b8} {fs:List (Str×V)} (e:H a=some (.ins C dx fs)) (cl:EG K C) (ha:G8 K (.ref C) "__class__"=some (some (.builtin "object.__class__")))
   (hn:PySem.W.specialIn K (.builtin "object.__class__") "__get__"=some (some (.builtin "getset_descriptor.__get__"))) (htk:PySem.W.takesIn K (.builtin "object.__class__")=some true)
   (hm:mroIn K C (.type "object")=some true):oZ K H (.ref a) (.ref C)
theorem QH(I:bB X ud σ H s)(g:bG x u)(ty:oZ X.K H x t)(e:R0 X.K t c=some b)(h:∀ tk,Q (.bool b) { s with toks:=tk }):
  e9 (h9 X.prog X.w) A (ax (.builtin "isinstance") [u,c]) Q E s:=by
 cases ty with
|non=>cases (show u=F7 from g); exact Y2 PySem.W.kitx_none I.kIn F9 e (fun z=>nomatch z) h
|bl y=>cases (show u=jt y from g); exact Y2 PySem.W.kitx_bool I.kIn F9 e (fun z=>nomatch z) h
|int i=>obtain ⟨t,q⟩:=(show ∃ t,u=cm i t from g); cases q; exact Y2 PySem.W.kitx_int I.kIn F9 e (fun z=>nomatch z) h
|str y=>obtain ⟨t,q⟩:=(show ∃ t,u=W3 y t from g); cases q; exact Y2 PySem.W.kitx_str I.kIn F9 e (fun z=>nomatch z) h
|flt y=>obtain ⟨t,q⟩:=(show ∃ t,u=ox y t from g); cases q; exact Y2 PySem.W.kitx_float I.kIn F9 e (fun z=>nomatch z) h
|@lst a D f =>
  cases (show u=i6 a from g);obtain ⟨_,_,n,_,m⟩:=(show dH X.prog X.w H s.heap a (.lst D) from I.hok a _ f)
  exact Y2 kitx_list I.kIn ⟨_,m,rfl⟩ e (fun z=>nomatch z) h
|@frz a T D f =>
  cases (show u=i6 a from g);obtain ⟨_,_,_,n,_,m⟩:=(show dH X.prog X.w H s.heap a (.frz T (.lst D)) from I.hok a _ f)
  exact Y2 kitx_list I.kIn ⟨_,m,rfl⟩ e (fun z=>nomatch z) h
|@tup a D f =>
  cases (show u=i6 a from g);obtain ⟨_,_,_,p⟩:=(show dH X.prog X.w H s.heap a (.tup D) from I.hok a _ f)
  obtain ⟨o,m,G,_⟩:=p;exact Y2 PySem.W.kitx_tuple I.kIn ⟨o,m,G⟩ e (fun z=>nomatch z) h
|@dK a B f =>
  cases (show u=i6 a from g);obtain ⟨_,_,vs,_,p⟩:=(show dH X.prog X.w H s.heap a (.dK B) from I.hok a _ f)
  obtain ⟨o,P,N,m,G,_⟩:=p;exact Y2 kitx_dict I.kIn ⟨o,m,G.1⟩ e (fun z=>nomatch z) h
|@dT a B f =>
  cases (show u=i6 a from g);obtain ⟨_,_,D,_,o,P,N,m,G,_⟩:=(show dH X.prog X.w H s.heap a (.dT B) from I.hok a _ f)
  exact Y2 kitx_dict I.kIn ⟨o,m,G.1⟩ e (fun z=>nomatch z) h
|@ins a C U Y f cl R hn M S =>
  cases (show u=i6 a from g);obtain ⟨Z,O,_⟩:=vO I.hok f;obtain ⟨od,J,_⟩:=O.look;exact Y2 (PySem.W.kitx_own (cl.get _) cl.hd R hn M S) I.kIn J e (fun z=>nomatch z) h
end
structure eR(k:Nat)(A:q4):Prop where
 hd:A.handled=none
 dp:A.depth+3 * k+5 < fj
 un:A.units+16 * k+200 < F6
 gd:A.guards=some []
theorem eR.mono(r:eR k A)(h:j<=k):eR j A:=⟨r.hd,by have:=r.dp; lia,by have:=r.un; lia,r.gd⟩
theorem eR.deeper(r:eR (k+1) A)(env:Env):eR k (A.deeper env):=
 ⟨r.hd,by have:=r.dp; show A.depth+1+3 * k+5 < _; lia,by have:=r.un; show A.units+3+16 * k+200 < _; lia,r.gd⟩
theorem JQ{A:q4}{C:b8}{us:List a8}{b:List (Str×a8)}:(A.under (.builtin "type.__call__" ⟨.ref C::us,b⟩)).depth=A.depth+1:=by
 first|rfl|simp [mq,uc.weight,uc.isCreation,uc.isGuard,uc.isCaller,uc.frames,nv,guardIds]
theorem JP{A:q4}{C:b8}{us:List a8}{b:List (Str×a8)}:(A.under (.builtin "type.__call__" ⟨.ref C::us,b⟩)).units=A.units+1:=by
 first|rfl|simp [mq,uc.cUnits,uc.frames,nv]
theorem eR.make(r:eR (k+1) A)(C:b8)(us:List a8)(b:List (Str×a8)):eR k (A.under (.builtin "type.__call__" ⟨.ref C::us,b⟩)):=
 ⟨r.hd,by have:=r.dp; rw [JQ]; lia,by have:=r.un; rw [JP]; lia,by rw [← r.gd]; rfl⟩
theorem eR.depth(r:eR k A):A.depth < fj:=by have:=r.dp; lia
theorem eR.units(r:eR k A):A.units+64 < F6:=by have:=r.un; lia
noncomputable def BN:TA:=fun _ H Q=>Q [] H
noncomputable def Cg(ta:TE)(tr:TA):TA:=fun σ H Q=>ta σ H fun x H1=>tr σ H1 fun xs H2=>Q (x::xs) H2
section
variable {X:Cx}{e:A6}{es:List A6}{te:TE}{t:TA}{pos:Pos}
theorem aD:PA X [] BN:=fun _ _ _ _ H Q I h=>R6 ⟨[],H,I,.nil,h⟩
theorem aA(q:PE X e te)(w:PA X es t)(hs:j8 (e::es) X.env=(false,C8 e X.env)::j8 es X.env:=by rfl):PA X (e::es) (Cg te t):=by
 intro pos b s f H Q I h;rw [hs];show e9 _ _ (spliced ((false,C8 e X.env)::K3 pos (j8 es X.env))) _ _ s;refine N8 (cY (q b s f H _ I h) fun u E ⟨x,g,m,C,A⟩=>?_);exact cY (w pos b E f g _ m A) fun K J ⟨G,i,o,D,B⟩=>⟨x::G,i,o,.cons C D,B⟩
noncomputable def Kj(t:TA):TE:=fun σ H Q=>t σ H fun xs H1=>xs.length<=j0/\∀ p,H1 p=none->Q (.ref p) (upd H1 p (.tup xs))
noncomputable def OR(t:TA):TE:=fun σ H Q=>t σ H fun xs H1=>xs.length<=j0/\∀ p,H1 p=none->Q (.ref p) (upd H1 p (.lst xs))
theorem bH{x1}(h:PA X es t):PE X (.Tuple es x1 pos) (Kj t):=by
 intro f s C H Q I w;refine wpAny_Tuple_spliced (cY (h pos f s C H _ I w) fun A g ⟨B,i,m,r,z,q⟩=>⟨by rw [← r.length]; exact z,?_⟩);have o:i g.heap.objs.size=none:=m.hok.fresh (i5 _);refine ⟨.ref g.heap.objs.size,upd i g.heap.objs.size (.tup B),m.laid (t':=g.toks) (fun b u e=>c4 _ e) (i5 _) ?_,rfl,q _ o⟩;exact ⟨⟨z,_,j5 _ rfl,rfl⟩,A,r,⟨_,j5 _ rfl,rfl,_,rfl⟩⟩
theorem cI(h:PA X es t):PE X (.List es pos) (OR t):=by
 intro f s C H Q I w;refine wpAny_List_spliced (cY (h pos f s C H _ I w) fun A g ⟨B,i,m,r,z,q⟩=>⟨by rw [← r.length]; exact z,?_⟩);have o:i g.heap.objs.size=none:=m.hok.fresh (i5 _);refine ⟨.ref g.heap.objs.size,upd i g.heap.objs.size (.lst B),m.laid (t':=g.toks) (fun b u e=>c4 _ e) (i5 _) ?_,rfl,q _ o⟩;exact ⟨z,A,0,r,j5 _ rfl⟩
end
noncomputable abbrev Sp:=List V->Hp->VK->XK->Prop
noncomputable abbrev EH:=List Env->Hp->c5->XK->a8->c5->Prop
structure KK(P:j2)(w:k6)(K:m7)(mg:Str->Option a8)(base:u9)(A:q4)(outer:List Env)(s:c5)(H:Hp):Prop where
 frames:A.frames=some outer
 mod:Mod K mg base
 bs:∀ b o,base.get? b=some o->s.heap.get? b=some o/\H b=none
 bsz:base.objs.size<=s.heap.objs.size
 funs:s.heap.FunFrames base outer
 frf:∀ b∈DC outer,H b=none
 hok:pQ P w H s.heap
 bare:dk s.gens
noncomputable def CE(outer:List Env)(P:j2)(w:k6)(H:Hp)(s:c5)(Q:VK)(u:a8)(s':c5):Prop:=
 ∃ v H',s'.os=s.os/\dk s'.gens/\Un (DC outer) [] H H' s.heap s'.heap/\pQ P w H' s'.heap/\bG v u/\Q v H'
noncomputable def CR(CX:EH)(outer:List Env)(P:j2)(w:k6)(H:Hp)(s:c5)(Q:VK)(E:XK)(r:Result)(s':c5):Prop:=
 match r with
|.ok (.ret u)=>CE outer P w H s Q u s'
|.ok _=>False
|.error e=>CX outer H s E e s'
structure mG(P:j2)(w:k6)(K:m7)(mg:Str->Option a8)(base:u9)(CX:EH)(k:Nat)(f:b8)(fd:D4)(ps:List Str)(sp:Sp):Prop where
 len:∀ vs H Q E,sp vs H Q E->vs.length=ps.length
 run:∀ (A:q4) (outer:List Env) (s:c5)(H:Hp)(args:Args)(us:List a8)(vs:List V)(Q:VK)(E:XK),eR k A->KK P w K mg base A outer s H->E4 s fd args (ps.zip us)->bO vs us->sp vs H Q E ->
  S2 (h9 P w) A (.call (.ref f) args) (CR CX outer P w H s Q E) s
theorem mG.mono{P:j2}{w:k6}{K:m7}{o:Str->Option a8}{b:u9}{CX:EH}{j k:Nat}{f:b8}{m:D4}{ps:List Str}{sp:Sp}(F:mG P w K o b CX j f m ps sp)(h:j<=k):
  mG P w K o b CX k f m ps sp:=⟨F.len,fun A g s H i B C Q E q=>F.run A g s H i B C Q E (q.mono h)⟩
theorem KK.make{P:j2}{w:k6}{K:m7}{g:Str->Option a8}{f:u9}{A:q4}{b:List Env}{s:c5}{H:Hp}(e:KK P w K g f A b s H)(C:b8)(us:List a8)(i:List (Str×a8)):
  KK P w K g f (A.under (.builtin "type.__call__" ⟨.ref C::us,i⟩)) b s H:=⟨by first|exact e.frames|(simpa [mq,uc.envs,nv,pushEnvs] using e.frames),e.mod,e.bs,e.bsz,e.funs,e.frf,e.hok,e.bare⟩
section
variable {X:Cx}{ud:List (b8×Obj)}{σ:St}{H:Hp}{s s':c5}
theorem bB.env0(I:bB X ud σ H s):KK X.prog X.w X.K X.mg X.base X.A X.stack s H:=
 ⟨I.ok.frames,I.ok.mod,I.bs,u8 I.ok.bsz I.sz,I.stack,I.stkFree,I.hok,I.bare⟩
theorem bB.after(I:bB X ud σ H s)(h:CE X.stack X.prog X.w H s Q u s'):EP X ud σ Q u s':=by
 obtain ⟨v,o,B,f,un,i,r,q⟩:=h;obtain ⟨A,g,d,t,m⟩:=s';obtain rfl:m=s.os:=B;exact ⟨v,o,I.call (h':=A) (g':=g) (d':=d) (t':=t) (ch:=[]) un i f (fun b z=>absurd z (by simp)),r,q⟩
end
noncomputable def ET(sp:Sp)(dvs:List V)(E:XK)(t:TA):TE:=fun σ H Q=>t σ H fun vs H1=>sp (vs++dvs) H1 Q E
noncomputable def EQ(C:b8)(m:Str)(sp:Sp)(dvs:List V)(E:XK)(ta:TE)(t:TA):TE:=fun σ H Q=>ta σ H fun x H1=>∃ a dx fs,x=.ref a/\H1 a=some (.ins C dx fs)/\fs.lookup m=none /\
 t σ H1 fun vs H2=>sp (x::(vs++dvs)) H2 Q E
noncomputable def KP(C:b8)(sp:Sp)(dvs:List V)(E:XK)(t:TA):TE:=fun σ H Q=>t σ H fun vs H1=>∀ x dx,H1 x=none->H1 dx=none->dx≠x ->
 sp (.ref x::(vs++dvs)) (upd (upd H1 dx (.own x)) x (.ins C dx [])) (fun v H2=>v=.non/\Q (.ref x) H2) E
noncomputable def fR(K:m7)(fd:D4)(ps:List Str)(ds:List a8):Prop:=
 ∀(s:c5)(us:List a8),K.In s.heap->(us++ds).length=ps.length->E4 s fd ⟨us,[]⟩ (ps.zip (us++ds))
theorem fR.all{K:m7}{b:D4}{ps:List Str}(h:∀ us:List a8,us.length=ps.length->oq b ⟨us,[]⟩=D8 (ps.zip us)):fR K b ps []:=fun s us _ f=>by
 rw [D6] at f ⊢;exact .of_eq (h us f)
noncomputable def kH(CX:EH)(X:Cx)(E:XK):Prop:=∀(ud:List (b8×Obj)) (σ:St) (H:Hp) (s:c5) (e:a8) (s':c5),bB X ud σ H s->CX X.stack H s E e s'->X.xe e s'
section
variable {X:Cx}{CX:EH}{k:Nat}{f C:b8}{fd:D4}{ps:List Str}{sp:Sp}{dvs:List V}{ds:List a8}{E:XK}{x m:Str}{p pos ug:Pos}{e o:A6}{es:List A6}{ta:TE}{t:TA}
theorem JA(F:mG X.prog X.w X.K X.mg X.base CX k f fd ps sp)(G:eR k X.A)(q:fR X.K fd ps ds)(B:bO dvs ds)(J:kH CX X E)(I:bB X ud σ H s)(r:bO vs us)(h:sp (vs++dvs) H Q E):e9 (h9 X.prog X.w) X.A (ax (.ref f) us) (EP X ud σ Q) X.xe s:=by
 have g:bO (vs++dvs) (us++ds):=r.append B;have D:(us++ds).length=ps.length:=by rw [← g.length]; exact F.len _ _ _ _ h
 refine ny (Y3 (F.run X.A X.stack s H ⟨us,[]⟩ (us++ds) (vs++dvs) Q E G I.env0 (q s us I.kIn D) g h) fun r M b=>?_);cases r with
|error e=>exact J ud σ H s e M I b
|ok i =>
  cases i with
 |ret u=>exact I.after b
 |next=>exact K2 b
 |brk=>exact K2 b
 |cont=>exact K2 b
theorem MZ(F:mG X.prog X.w X.K X.mg X.base CX k f fd ps sp)(P:eR k X.A)(N:Gl X x)(O:X.mg x=some (.ref f))(hk:n7 X.K (.ref f)=true)(G:fR X.K fd ps ds)(J:bO dvs ds)(R:kH CX X E)(D:PA X (e::es) t)(g:(x==("__debug__":Str))=false:=by decide)(M:j8 (e::es) X.env=(false,C8 e X.env)::j8 es X.env:=by rfl)(i:(K3 pos (j8 es X.env)).any (·.1)=false:=by rfl):
  PE X (.Call (.Name x p) (e::es) [] pos) (ET sp dvs E t):=by
 intro b s S H Q I h;refine O4 (NK I N O ?_ g);refine callWith_K (h₀:=X.base) I.ok.mod.kin hk (cY (D pos b s S H _ I h) fun Y U ⟨Z,T,B,r,q⟩=>⟨B.kIn,?_⟩) M i;exact JA F P G J R B r q
theorem Aa(W:PE X o ta)(c:EG X.K C)(G:YA X.K C m f)(F:mG X.prog X.w X.K X.mg X.base CX k f fd ps sp)(Y:eR k X.A)(T:fR X.K fd ps ds)(U:bO dvs ds)(hx:kH CX X E)(S:PA X (e::es) t)(i:j8 (e::es) X.env=(false,C8 e X.env)::j8 es X.env:=by rfl)(g:(K3 pos (j8 es X.env)).any (·.1)=false:=by rfl)
  (Z:C8 (.Call (.Attribute o m ug) (e::es) [] pos) X.env=(do
   let ov ← C8 o X.env
   cw ug.atName
   let (f,first) ← da [ov] (gs ov m pl)
   oo pos f first (K3 pos (j8 (e::es) X.env)) (ce pos (T9 [] X.env))):=by rfl) :
  PE X (.Call (.Attribute o m ug) (e::es) [] pos) (EQ C m sp dvs E ta t):=by
 intro b s N H Q I h;refine methodCall_KW (pl:=pl) (cY (W b s N H _ I h) fun u s1 ⟨x,O,B,rx,a,dx,fs,R,P,l,q⟩=>?_) Z;subst R;obtain rfl:u=i6 a:=rx;refine xZ B P c G l ?_;refine callWith_K (first:=[.ref a]) (h₀:=X.base) I.ok.mod.kin G.kp (cY (S pos b s1 N O _ B q) fun J s2 ⟨M,H2,D,r,q2⟩=>⟨D.kIn,?_⟩) i g;exact JA (us:=.ref a::J) (vs:=.ref a::M) F Y T U hx D (.cons rfl r) q2
theorem VF(M:PE X o ta)(c:EG X.K C)(i:YA X.K C m f)(F:mG X.prog X.w X.K X.mg X.base CX k f fd ps sp)(N:eR k X.A)(G:fR X.K fd ps ds)(J:bO dvs ds)(P:kH CX X E)
  (O:C8 (.Call (.Attribute o m ug) [] [] pos) X.env=(do
   let ov ← C8 o X.env
   cw ug.atName
   let (f,first) ← da [ov] (gs ov m pl)
   oo pos f first (K3 pos (j8 [] X.env)) (ce pos (T9 [] X.env))):=by rfl) :
  PE X (.Call (.Attribute o m ug) [] [] pos) (EQ C m sp dvs E ta BN):=by
 intro b s S H Q I h;refine methodCall_KW (pl:=pl) (cY (M b s S H _ I h) fun u Z ⟨x,T,g,R,a,U,Y,D,B,l,q⟩=>?_) O;subst D;obtain rfl:u=i6 a:=R;refine xZ g B c i l ?_;exact PySem.W.callWith_K0 (first:=[.ref a]) g.kIn i.kp (JA (us:=[.ref a]) (vs:=[.ref a]) F N G J P g (.cons rfl .nil) q)
structure Mk(K:m7)(C f:b8):Prop where
 makes:gu K C=true
 init:G8 K (.ref C) "__init__"=some (some (.ref f))
 fn:me K (.ref f)=true
 kp:n7 K (.ref C)=true
theorem UC(M:Mk X.K C f)(F:mG X.prog X.w X.K X.mg X.base CX k f fd ps sp)(R:eR (k+1) X.A)(N:fR X.K fd ps ds)(O:bO dvs ds)(S:kH CX X E)(I:bB X ud σ H s)(r:bO vs us)(h:∀ x dx,H x=none->H dx=none->dx≠x->sp (.ref x::(vs++dvs)) (upd (upd H dx (.own x)) x (.ins C dx [])) (fun v H2=>v=.non/\Q (.ref x) H2) E):
  e9 (h9 X.prog X.w) X.A (ax (.ref C) us) (EP X ud σ Q) X.xe s:=by
 have i:=h (s.heap.objs.size+1) s.heap.objs.size (I.hok.fresh (M0 _)) (I.hok.fresh (i5 _)) (j4 (D2 _));have g:=bB.made (C:=C) I;have q:bO (V.ref (s.heap.objs.size+1)::(vs++dvs)) (i6 (s.heap.objs.size+1)::(us++ds)):=.cons rfl (r.append O);have P:(i6 (s.heap.objs.size+1)::us++ds).length=ps.length:=by
  have e:=q.length;rw [F.len _ _ _ _ i] at e;exact e.symm
 refine ny (WA (f:=f) I.kIn M.makes M.init (beq_iff_eq.mp M.fn) (Y3 (F.run _ X.stack _ _ ⟨i6 (s.heap.objs.size+1)::us,[]⟩ (i6 (s.heap.objs.size+1)::(us++ds)) _ _ E (R.make C us [])
  (g.env0.make C us []) (N _ (i6 (s.heap.objs.size+1)::us) g.kIn P) q i) fun r U b=>?_))
 cases r with
|error e=>exact S ud σ _ _ e U g b
|ok J =>
  cases J with
 |ret u =>
   obtain ⟨v,B,D,rv,G,T⟩:=g.after b;subst G;exact ⟨rv,⟨V.ref (s.heap.objs.size+1),B,D,rfl,T⟩⟩
 |next=>exact K2 b
 |brk=>exact K2 b
 |cont=>exact K2 b
theorem Ab(M:Mk X.K C f)(F:mG X.prog X.w X.K X.mg X.base CX k f fd ps sp)(R:eR (k+1) X.A)(O:Gl X x)(P:X.mg x=some (.ref C))(G:fR X.K fd ps ds)(J:bO dvs ds)(S:kH CX X E)(D:PA X (e::es) t)(g:(x==("__debug__":Str))=false:=by decide)(N:j8 (e::es) X.env=(false,C8 e X.env)::j8 es X.env:=by rfl)(i:(K3 pos (j8 es X.env)).any (·.1)=false:=by rfl):
  PE X (.Call (.Name x p) (e::es) [] pos) (KP C sp dvs E t):=by
 intro b s T H Q I h;refine O4 (NK I O P ?_ g);refine callWith_K (h₀:=X.base) I.ok.mod.kin M.kp (cY (D pos b s T H _ I h) fun Y W ⟨Z,U,B,r,q⟩=>⟨B.kIn,?_⟩) N i;exact UC M F R G J S B r q
end
noncomputable def PK(X:Cx)(kws:List dg)(t:TA):Prop:=
 ∀(pos:Pos)(ud:List (b8×Obj)) (s:c5) (σ:St) (H:Hp) (Q:List V->Hp->Prop),bB X ud σ H s->t σ H Q->e9 (h9 X.prog X.w) X.A (evalAll ((ce pos (T9 kws X.env)).map (·.2))) (AP X ud σ Q) X.xe s
section
variable {X:Cx}{CX:EH}{k:Nat}{f C:b8}{fd:D4}{ps ks:List Str}{sp:Sp}{E:XK}{x m:Str}{p pos ug kpos:Pos}{e o:A6}{es:List A6}{kws:List dg}{te ta:TE}{t tk:TA}{nm:Option Str}
structure YB(K:m7)(fd:D4)(ps ks:List Str)(g:List a8->List a8->List a8)(gV:List V->List V->List V):Prop where
 to:∀(s:c5)(us ws:List a8),K.In s.heap->(g us ws).length=ps.length->E4 s fd ⟨us,ks.zip ws⟩ (ps.zip (g us ws))
 rel:∀{vs:List V}{us:List a8}{zs:List V}{ws:List a8},bO vs us->bO zs ws->bO (gV vs zs) (g us ws)
variable {g:List a8 -> List a8 -> List a8}{gV:List V -> List V -> List V}
end
structure aO(N P:List Str)(sc:V5):Prop where
 kind:sc.kind=.function
 co:sc.isCoroutine=false
 gen:sc.isGenerator=false
 nd:N.Nodup
 pre:N.take P.length=P
 par:∀ x∈P,sc.names.lookup x=some .local∨sc.names.lookup x=some .cell
 nofree:∀ y∈sc.names,y.2≠.free
theorem BC{f:Str->Option W6}:∀{b:List (Str×a8)}{m:Str->Option a8},(∀ v,(x,v)∉b)->rg f b m x=m x
|[],_,_=>rfl
|(n,v)::r,m,h=>by
  unfold rg;rw [BC fun w g=>h w (A7 _ g)];split
  ·have:x≠n:=by rintro rfl; exact h v E9
   simp [this]
  ·rfl
theorem BE{f:Str->Option W6}:∀{b:List (Str×a8)}{m:Str->Option a8},(∀ v,(x,v)∉b)->rh f b m x=m x
|[],_,_=>rfl
|(n,v)::r,m,h=>by
  unfold rh;rw [BE fun w g=>h w (A7 _ g)];split
  ·rfl
  ·have:x≠n:=by rintro rfl; exact h v E9
   simp [this]
theorem BD{b:Str->Option W6}:∀{P:List Str}{vs:List a8}{i:Nat}{m:Str->Option a8},P.Nodup->P[i]?=some x->vs[i]?=some v->b x=some .local ->
  rg b (P.zip vs) m x=some v
|[],_,_,_,_,h,_,_=>by simp at h
|_::_,[],_,_,_,_,h,_=>by simp at h
|p::P,w::vs,0,m,o,f,g,hk=>by
  simp at f g; subst f; subst g;show rg b ((p,w)::P.zip vs) m p=_;unfold rg;rw [BC fun v q=>(Q1.mp o).1 (iq q).1,if_pos hk];simp
|p::P,w::vs,i+1,m,o,f,g,hk=>by
  show rg b ((p,w)::P.zip vs) m x=_;unfold rg;exact BD (i:=i) (Q1.mp o).2 (by simpa using f) (by simpa using g) hk
theorem BF{b:Str->Option W6}:∀{P:List Str}{vs:List a8}{i:Nat}{m:Str->Option a8},P.Nodup->P[i]?=some x->vs[i]?=some v->b x≠some .local ->
  rh b (P.zip vs) m x=some v
|[],_,_,_,_,h,_,_=>by simp at h
|_::_,[],_,_,_,_,h,_=>by simp at h
|p::P,w::vs,0,m,o,f,g,hk=>by
  simp at f g; subst f; subst g;show rh b ((p,w)::P.zip vs) m p=_;unfold rh;rw [BE fun v q=>(Q1.mp o).1 (iq q).1,if_neg hk];simp
|p::P,w::vs,i+1,m,o,f,g,hk=>by
  show rh b ((p,w)::P.zip vs) m x=_;unfold rh;exact BF (i:=i) (Q1.mp o).2 (by simpa using f) (by simpa using g) hk
noncomputable def start(N:List Str)(vs:List V):St:=vs.map some++x8 (N.length - vs.length) none
noncomputable def vA(CX:EH)(P:j2)(w:k6)(K:m7)(mg:Str->Option a8)(base:u9)(N:List Str)(qual:Str)(scope:V5)(f:b8)(cd:a8)(A:q4)(outer:List Env)(s:c5)(H:Hp)(E:XK):Cx where
 prog:=P
 w:=w
 K:=K
 mg:=mg
 base:=base
 A:=A.deeper (X4 qual scope s.heap.objs.size f cd)
 N:=N
 s₀:=s
 H₀:=H
 env:=X4 qual scope s.heap.objs.size f cd
 outer:=outer
 stack:=X4 qual scope s.heap.objs.size f cd::outer
 ex:=[]
 calm:=true
 fn:=fun _=>true
 pn:=[]
 xe:=fun e s'=>e9 (h9 P w) (A.deeper (X4 qual scope s.heap.objs.size f cd)) (leaving (X4 qual scope s.heap.objs.size f cd) e) (fun _ s''=>CX outer H s E e s'') (fun e' s''=>CX outer H s E e' s'') s'
theorem IE{sc:V5}{n:Nat}{x:Str}(h:sc.names.lookup x=some .cell):∃ c,(cellsFrom n sc.names []).lookup x=some c:=by
 have q:=cellsFrom_some sc.names n [] (.inl h);exact Option.isSome_iff_exists.mp q
theorem QI{CX:EH}{P:j2}{w:k6}{K:m7}{R:Str->Option a8}{C:u9}{N ps:List Str}{o:Str}{g:V5}{f:b8}{M:a8}{A:q4}{m:List Env}{s U:c5}{H:Hp}{E:XK}{us:List a8}{vs:List V}(S:aO N ps g)(X:A.handled=none)(D:KK P w K R C A m s H)(hl:vs.length=ps.length)(r:bO vs us)(x:InCallC s s.heap.objs.size (rg (X4 o g s.heap.objs.size f M).kindOf (ps.zip us) fun _=>none) (cellsFrom (s.heap.objs.size+1) g.names []) (rh (X4 o g s.heap.objs.size f M).kindOf (ps.zip us) fun _=>none) U):
  bB (vA CX P w K R C N o g f M A m s H E) [] (start N vs) H U:=by
 have Y:ps.length<=N.length:=by have:=congrArg qi S.pre; rw [av] at this; lia
 obtain ⟨O,tk,rfl,hk⟩:=x.done;have I:∀ b:b8,b∉(vA CX P w K R C N o g f M A m s H E).ex:=fun b z=>absurd (show b∈([]:List b8) from z) (by simp);refine ⟨⟨D.mod,S.kind,rfl,rfl,i5 _,fun y z c O B=>?_,fun y G=>?_,fun y c _ h=>?_,fun _=>X,q4.frames_deeper D.frames,.inr ⟨rfl,rfl⟩,fun b z=>absurd z (I b),D.bs,D.bsz,fun b _ _=>I b,fun b z=>absurd z (I b),D.funs,D.frf⟩,
  rfl,D.bare,Un.kept hk,⟨_,x.toInCall.ns,fun i y v O B Z=>?_⟩,fun y c h=>⟨_,x.cell y c h⟩,D.hok.fresh (i5 _),fun y c h=>?_,fun p hp=>absurd (show p∈([]:List (b8×Obj)) from hp) (by simp),D.hok.kept hk,?_⟩
 ·exact name_of_addr x.apart (P7 O) (P7 B)
 ·have G:g.names.lookup y=some .cell∨g.names.lookup y=some .free:=G
  rcases G with G|G
  ·exact IE G
  ·exact absurd rfl (S.nofree _ (P7 G))
 ·exact Q2 (x.above y c (P7 h))
 ·have Q:i < vs.length:=by
   unfold start at B;by_cases Q:i < vs.length
   ·exact Q
   ·rw [E3 (by simpa using Q)] at B
    rw [my] at B;split at B <;> cases B
  have W:vs[i]?=some v:=by
   unfold start at B;rw [K8 (by simpa using Q),i7] at B;cases e:vs[i]? with
  |none=>rw [e] at B; cases B
  |some a=>rw [e] at B; cases B; rfl
  obtain ⟨u,T,rv⟩:=r.get W;have hp:ps[i]?=some y:=by
   rw [← S.pre,List.getElem?_take_of_lt (by lia)]; exact O
  have J:ps.Nodup:=by rw [← S.pre]; exact S.nd.sublist (jg _ _)
  refine ⟨u,rv,?_⟩;rcases S.par y (i3 hp) with k|k
  ·exact .inl ⟨k,BD J hp T k⟩
  ·obtain ⟨c,e⟩:=IE (n:=s.heap.objs.size+1) k
   refine .inr ⟨.inl k,c,e,?_⟩;have q:=x.cell y c e;rw [BF J hp T (by show g.names.lookup y≠_; rw [k]; decide)] at q;exact q
 ·exact D.hok.fresh (Q2 (x.above y c (P7 h)))
 ·unfold start
  show _=N.length;rw [i9,g7,K7];lia
theorem AV{CX:EH}{P:j2}{w:k6}{K:m7}{mg:Str->Option a8}{C:u9}{k:Nat}{f:b8}{name m:Str}{D:Arguments}{G:List A1}{g:V5}{dV kV T pm B ct oc:a8}{an od:Option b8}{osl:Array (Option a8)}{N ps:List Str}{sp:Sp}(lk:K.lookup f=some ⟨oc,od,.func (V1 name m D G g dV kV T pm an B ct),osl⟩)(hcd:w8 K B m=true)(S:aO N ps g)(Z:∀ vs H Q E,sp vs H Q E->vs.length=ps.length)
  (O:∀ (A:q4)(i:List Env)(s:c5)(H:Hp)(vs:List V)(Q:VK)(E:XK),eR k (A.deeper (X4 m g s.heap.objs.size f B))->sp vs H Q E ->
   ∃ t,BH (vA CX P w K mg C N m g f B A i s H E) G t/\t { nx:=fun _ H'=>Q .non H',rt:=Q } (start N vs) H) :
  mG P w K mg C CX (k+1) f (V1 name m D G g dV kV T pm an B ct) ps sp:=by
 refine ⟨Z,fun A i s H args us vs Q E hr U hb r Y=>?_⟩;have hl:=Z _ _ _ _ Y;have KX:K.In s.heap:=U.mod.kin.keeps fun b o e=>(U.bs b o e).1;have lim:s.heap.NoLimit:=U.mod.nolimit.keeps fun b o e=>(U.bs b o e).1;have R:∀ y∈ps.zip us,g.names.lookup y.1=some .local∨(g.names.lookup y.1=some .cell/\((cellsFrom (s.heap.objs.size+1) g.names []).lookup y.1).isSome=true):=fun ⟨n,v⟩ hy=>by
  rcases S.par n (iq hy).1 with q|q
  ·exact .inl q
  ·exact .inr ⟨q,cellsFrom_some _ _ _ (.inl q)⟩
 refine codeAny_call_function hr.depth (KX _ _ lk) rfl S.co S.gen rfl (PySem.W.codeRec_of KX hcd) (hb _ _ _ _ ?_);refine wpAny_newFunctionEnv_cells S.kind R fun env he s1 x=>?_;subst he;refine ⟨lim.keeps x.toInCall.keep,codeAny_func ?_⟩;obtain ⟨t,ht,hq⟩:=O A i s H vs Q E (hr.deeper _) Y;have I:bB (vA CX P w K mg C N m g f B A i s H E) [] (start N vs) H s1:=QI S hr.hd U hl r x;refine C6 (ht [] s1 (start N vs) H _ I hq) (fun fl s' hs=>?_) fun e s' hs=>hs;have X:∀{M:St}{H':Hp}{v:V}{u:a8},bB (vA CX P w K mg C N m g f B A i s H E) [] M H' s'->bG v u->Q v H'->CE i P w H s Q u s':=
  fun {M H' v u} J rv q=>⟨v,H',J.os,J.bare,J.base,J.hok,rv,q⟩
 cases fl with
|ret u =>
  obtain ⟨v,M,H',J,rv,q⟩:=hs;exact X J rv q
|next =>
  obtain ⟨M,H',J,q⟩:=hs;exact X (v:=V.non) (u:=F7) J rfl q
|brk =>
  obtain ⟨_,_,_,q⟩:=hs;exact K2 q
|cont =>
  obtain ⟨_,_,_,q⟩:=hs;exact K2 q
section
variable {X:Cx}{x:Str}{p pos:Pos}{e:A6}{es:List A6}{t:TA}{id T:String}{r:List V -> Hp -> VK -> Prop}
noncomputable def Kv(r:List V->Hp->VK->Prop)(t:TA):TE:=fun σ H Q=>t σ H fun vs H1=>r vs H1 Q
theorem bD(w:iM X (.builtin id) r)(B:Gl X x)(C:X.mg x=none)(D:x9 x=some (.builtin id))(q:PA X (e::es) t)(hn:x≠"__name__":=by decide)(f:(x==("__debug__":Str))=false:=by decide)(A:j8 (e::es) X.env=(false,C8 e X.env)::j8 es X.env:=by rfl)(g:(K3 pos (j8 es X.env)).any (·.1)=false:=by rfl):PE X (.Call (.Name x p) (e::es) [] pos) (Kv r t):=by
 intro b s i H Q I h;refine O4 (lM I B C D ?_ hn f);exact PyProof.Rows.callWith_builtin1 (cY (q pos b s i H _ I h) fun K J ⟨M,m,o,G,E⟩=>w b J i m M K Q o G E) A g
theorem lX(w:iM X (.type T) r)(B:Gl X x)(C:X.mg x=none)(D:x9 x=some (.type T))(q:PA X (e::es) t)(hn:x≠"__name__":=by decide)(f:(x==("__debug__":Str))=false:=by decide)(A:j8 (e::es) X.env=(false,C8 e X.env)::j8 es X.env:=by rfl)(g:(K3 pos (j8 es X.env)).any (·.1)=false:=by rfl):PE X (.Call (.Name x p) (e::es) [] pos) (Kv r t):=by
 intro b s i H Q I h;refine O4 (lM I B C D ?_ hn f);exact I0 (cY (q pos b s i H _ I h) fun K J ⟨M,m,o,G,E⟩=>w b J i m M K Q o G E) A g
end
end L2
namespace HT
open PySem PyProof.Rows
section
open PySem.SeqAt
open PySem.AutoSeq1 (wpAny_loadPart')
open PySem.MeetsSeq PySem.MeetsSeq2 PySem.MeetsSeq3
end
section
variable {prog:j2}{w:k6}{A:q4}{E:a8 -> c5 -> Prop}{s:c5}
theorem cat_tup(P:ph s.heap t vs.toArray)(O:ph s.heap b ws.toArray)(J:vs≠[])(M:ws=[]->Q (.ref t) s)(N:ws≠[]->Q (.ref s.heap.objs.size) { s with heap:=s.heap.push { cls:=.type "tuple",data:=.seq (vs++ws).toArray } })(hsz:vs.length+ws.length<=j0):e9 (h9 prog w) A (O1 .Add (.ref t) (.ref b)) Q E s:=by
 obtain ⟨⟨cls,G,data,K⟩,q,H,n,I⟩:=id P;obtain ⟨⟨D,g,C,o⟩,f,i,n2,m⟩:=id O;simp only at H I i m;subst H I i m;have e:vs.toArray++ws.toArray=(vs++ws).toArray:=by simp
 by_cases B:ws=[]
 ·exact concat_meets ⟨_,q,rfl⟩ ⟨_,f,rfl⟩ noFill_tuple_add seq_tuple_add slot_tuple_add kf (jw _ _)
   (tuple_addW1 t b vs.toArray ws.toArray n n2 G g K o (by simpa using J) (by simp [B])) ⟨q,f,M B⟩
 ·refine concat_meets ⟨_,q,rfl⟩ ⟨_,f,rfl⟩ noFill_tuple_add seq_tuple_add slot_tuple_add kf (jw _ _)
   (tuple_addW2 t b vs.toArray ws.toArray n n2 G g K o (by simpa using J) (by simpa using B) (by rw [i4,i4]; exact hsz)) ⟨q,f,?_⟩
  rw [e];exact N B
end
end HT
namespace L2
open PySem PySem.Spec PyProof.Rows
noncomputable abbrev TO:=St->Hp->(Option Int->Hp->Prop)->Prop
noncomputable def PO(X:Cx)(e:Option A6)(t:TO):Prop:=
 ∀(ud:List (b8×Obj)) (s:c5) (σ:St) (H:Hp) (Q:Option Int->Hp->Prop),bB X ud σ H s->t σ H Q ->
  e9 (h9 X.prog X.w) X.A (evalPart e X.env) (fun u s'=>∃ o H',bB X ud σ H' s'/\IsPart u o/\Q o H') X.xe s
noncomputable def KO:TO:=fun _ H Q=>Q none H
noncomputable def Bx(t:TE):TO:=fun σ H Q=>t σ H fun x H1=>∃ i,x=.int i/\Q (some i) H1
section
variable {X:Cx}{e:A6}{te:TE}{lo hi:Option A6}{tl th:TO}{pos p2:Pos}
theorem MU:PO X none KO:=by
 intro b s f H Q I h;rw [evalPart_none];exact c6 ⟨none,H,I,.none,h⟩
theorem MT(h:PE X e te):PO X (some e) (Bx te):=by
 intro b s A H Q I m;rw [evalPart_some];refine cY (h b s A H _ I m) fun u B ⟨x,f,g,w,o⟩=>?_;obtain ⟨i,rfl,q⟩:=o;obtain ⟨t,rfl⟩:=w;exact ⟨some i,f,g,.int i t,q⟩
noncomputable def Rw(X:Cx)(r:V->Option Int->Option Int->Hp->VK->Prop):Prop:=
 ∀(ud:List (b8×Obj)) (s:c5) (σ:St) (H:Hp) (x:V) (v vl vu:a8) (lo hi:Option Int) (sl:b8) (Q:VK),bB X ud σ H s->bG x v->s.heap.IsSliceOf sl vl vu .none->IsPart vl lo->IsPart vu hi->r x lo hi H Q ->
  ∃ T id,cu (.type T) "__getitem__"=D8 (some (.builtin id))/\s.TypeIs v T/\e9 (h9 X.prog X.w) X.A (jn v (.ref sl)) (EP X ud σ Q) X.xe s
noncomputable def Rl(r:V->Option Int->Option Int->Hp->VK->Prop)(te:TE)(tl th:TO):TE:=fun σ H Q=>te σ H fun x H1=>tl σ H1 fun l H2=>th σ H2 fun u H3=>r x l u H3 Q
theorem GQ(R:Rw X r)(N:PE X e te)(P:PO X lo tl)(U:PO X hi th):PE X (.Subscript e (.Slice lo hi none p2) pos) (Rl r te tl th):=by
 intro f s i H Q I h;refine pb (cY (N f s i H _ I h) fun v s1 ⟨x,C,E,r1,Z⟩=>?_);refine wpAny_Slice (cY (P f s1 i C _ E Z) fun m s2 ⟨l,D,G,W,q2⟩=>cY (U f s2 i D _ G q2) fun o g ⟨u,B,J,Y,q3⟩=>?_);rw [evalPart_none];refine c6 ?_;have K:bB X f i B { g with heap:=g.heap.push { cls:=.type "slice",data:=.fields #[m,o,.none] } }:=J.kept (t':=g.toks) fun b ob q=>c4 _ q;obtain ⟨T,id,M,S,O⟩:=R f { g with heap:=g.heap.push { cls:=.type "slice",data:=.fields #[m,o,.none] } } i B x v m o l u g.heap.objs.size Q K r1 (u9.IsSliceOf.new ..) W Y q3;show e9 (h9 X.prog X.w) X.A (qo e (.Slice lo hi none p2) v (.ref g.heap.objs.size)) (EP X f i Q) X.xe { g with heap:=g.heap.push { cls:=.type "slice",data:=.fields #[m,o,.none] } };exact tail_any (ops:=[.ref g.heap.objs.size,v]) S M O (by with_unfolding_all rfl)
noncomputable def Dr(K:m7):R2:=fun x y H Q=>∃ a b xs ys,x=.ref a/\y=.ref b/\EC K H a xs/\EC K H b ys/\xs≠[]/\xs.length+ys.length<=j0 /\
 (ys=[]->Q (.ref a) H)/\(ys≠[]->∀ p,H p=none->Q (.ref p) (upd H p (.tup (xs++ys))))
theorem bO.nil_iff(r:bO xs us):us=[] ↔ xs=[]:=by
 cases r with
|nil=>simp
|cons _ _=>simp
theorem Af:kJ X (O1 .Add) (Dr X.K):=by
 intro A s T H x y v u Q I N O h;obtain ⟨a,b,P,R,rfl,rfl,B,C,D,i,J,M⟩:=h;cases N;cases O;obtain ⟨E,g,G,_⟩:=I.tuple B;obtain ⟨m,f,p2,_⟩:=I.tuple C;refine HT.cat_tup G p2 (fun z=>D (g.nil_iff.mp z)) (fun z=>⟨.ref a,H,I,rfl,J (f.nil_iff.mp z)⟩) (fun z=>?_) (by rw [← g.length,← f.length]; exact i);refine ⟨.ref s.heap.objs.size,_,I.laid (t':=s.toks) (o:=.tup (P++R)) (fun b S q=>c4 _ q) (i5 _) ?_,rfl,M (fun w=>z (f.nil_iff.mpr w)) _ (I.hok.fresh (i5 _))⟩;exact ⟨⟨by rw [i9]; exact i,_,j5 _ rfl,rfl⟩,_,g.append f,ph.new _ _⟩
end
noncomputable def Ka(n:Nat)(i:Int):Option Nat:=if 0<=i then (if i < n then some i.toNat else none) else if -(n:Int)<=i then some (i+n).toNat else none
noncomputable def yN{α:Type}(xs:List α)(i:Int):Option α:=(Ka xs.length i).bind fun j=>xs[j]?
theorem Ay(h:Ka n i=some j):seqIndex? i n=some j/\j < n/\-(n:Int)<=i/\i < n:=by
 unfold Ka at h;by_cases f:0<=i
 ·rw [if_pos f] at h
  by_cases b:i < n
  ·rw [if_pos b] at h
   have e:i.toNat=j:=h8 h;exact ⟨by rw [seqIndex_of f b,e],by lia,by lia,b⟩
  ·rw [if_neg b] at h; cases h
 ·rw [if_neg f] at h
  by_cases b:-(n:Int)<=i
  ·rw [if_pos b] at h
   have e:(i+n).toNat=j:=h8 h;exact ⟨by rw [seqIndex_neg (by lia) b,e],by lia,b,by lia⟩
  ·rw [if_neg b] at h; cases h
theorem DZ{b:Type}{xs:List b}{i:Int}{v:b}(h:yN xs i=some v):∃ j,seqIndex? i xs.length=some j/\xs[j]?=some v/\j < xs.length/\-(xs.length:Int)<=i/\i < xs.length:=by
 unfold yN at h;cases e:Ka xs.length i with
|none=>rw [e] at h; cases h
|some j =>
  rw [e] at h;obtain ⟨f,g,m,o⟩:=Ay e;exact ⟨j,f,h,g,m,o⟩
theorem fX{b:Type}{xs:List b}{j:Nat}{v:b}(h:xs[j]?=some v):yN xs (j:Int)=some v:=by
 have f:j < xs.length:=(b9.mp h).1;have e:Ka xs.length (j:Int)=some j:=by
  unfold Ka;rw [if_pos (by lia),if_pos (by lia)]; simp
 unfold yN; rw [e]; exact h
noncomputable def Bs(b:A6):Prop:=∀ o i,ml b false o i=operate [o,i] (jn o i)
noncomputable def YC(X:Cx)(r:R2):Prop:=
 ∀(value slice:A6)(ud:List (b8×Obj)) (s:c5) (σ:St) (H:Hp) (x y:V) (v u:a8) (Q:VK),bB X ud σ H s->bG x v->bG y u->r x y H Q ->
  ml slice false v u=operate [v,u] (jn v u)->e9 (h9 X.prog X.w) X.A (qo value slice v u) (EP X ud σ Q) X.xe s
noncomputable def Ry(X:Cx)(id:String)(r:V->List V->Hp->VK->Prop):Prop:=
 ∀(ud:List (b8×Obj)) (s:c5) (σ:St) (H:Hp) (x:V) (xs:List V) (v:a8) (us:List a8) (Q:VK),bB X ud σ H s->bG x v->bO xs us->r x xs H Q ->
  e9 (h9 X.prog X.w) X.A (ax (.builtin id) (v::us)) (EP X ud σ Q) X.xe s
section
variable {X:Cx}{a b:A6}{ta tb:TE}{pos:Pos}
theorem YC.or(h:YC X r)(h':YC X r'):YC X (fun x y H Q=>r x y H Q∨r' x y H Q):=by
 intro g f i s w H x y v u Q I m o q hs;rcases q with q|q
 ·exact h g f i s w H x y v u Q I m o q hs
 ·exact h' g f i s w H x y v u Q I m o q hs
theorem aN(w:YC X r)(m:PE X a ta)(o:PE X b tb)(hs:Bs b:=by intro _ _; rfl):PE X (.Subscript a b pos) (Kr r ta tb):=by
 intro f s D H Q I h;exact pb (Jo m o I h fun v u C x y g i A B q=>w a b f C D g x y v u Q i A B q (hs _ _))
noncomputable def ZW(K:m7):R2:=fun x y H Q=>∃ p xs i v,x=.ref p/\y=.int i/\cP K H p xs/\yN xs i=some v/\Q v H
noncomputable def ZV(K:m7):R2:=fun x y H Q=>∃ p xs i v,x=.ref p/\y=.int i/\EC K H p xs/\yN xs i=some v/\Q v H
noncomputable def Gx:R2:=fun x y H Q=>∃ z i c,x=.str z/\y=.int i/\z.length<=j0/\yN z.cps.toList i=some c/\Q (.str ⟨#[c]⟩) H
theorem Ax:YC X (ZW X.K):=by
 intro E D f s M H x y v u Q I U W h hs;obtain ⟨p,xs,i,z,rfl,rfl,T,R,q⟩:=h;cases U;obtain ⟨t,rfl⟩:=W;obtain ⟨A,r,B,hz⟩:=I.list T;obtain ⟨j,m,N,Z,O,P⟩:=DZ R;obtain ⟨w,G,C⟩:=r.get N;have S:=r.length;have hn:=xV;have g:EP X f M Q w s:=⟨z,H,I,C,q⟩
 by_cases J:0<=i
 ·have o:i.toNat=j:=by
   rw [seqIndex_of J P] at m;exact h8 m
  exact item_listR B.isList J (by lia) (by rw [o]; simpa using G) g hs
 ·have o:(i+(A.toArray.size:Int)).toNat=j:=by
   rw [seqIndex_neg (by lia) O] at m;rw [i4,← S];exact h8 m
  exact cv (x:=w) B.isList.typeIs slot_list_getitem.lookup
   (wpAny_getItem_list_neg (Q:=fun r Y=>r=w/\EP X f M Q r Y) B.isList (by lia) (by rw [i4] <;> lia) (by lia) (by rw [o]; simpa using G) ⟨rfl,g⟩) hs
theorem Ip:YC X (ZV X.K):=by
 intro A o f s C H x y v u Q I P R h hs;obtain ⟨p,Z,i,z,rfl,rfl,N,J,q⟩:=h;cases P;obtain ⟨t,rfl⟩:=R;obtain ⟨O,r,B,Y⟩:=I.tuple N;obtain ⟨j,E,G,T,U,W⟩:=DZ J;obtain ⟨w,D,m⟩:=r.get G;have M:=r.length;have hn:=xV;have g:EP X f C Q w s:=⟨z,H,I,m,q⟩
 exact cv (x:=w) B.typeIs slot_tuple_getitem.lookup
  (getItem_tuple (j:=j) (Q:=fun r S=>r=w/\EP X f C Q r S) B (by lia) (by lia) (by rw [i4,← M]; exact E) (by simpa using D) ⟨rfl,g⟩) hs
theorem Iq:YC X Gx:=by
 intro g f o s P H x y v u Q I J K h hs;obtain ⟨z,i,c,rfl,rfl,N,E,q⟩:=h;obtain ⟨t,rfl⟩:=J;obtain ⟨O,rfl⟩:=K;obtain ⟨j,m,B,M,C,D⟩:=DZ E;have G:z.cps.toList.length=z.length:=by simp [Str.length]
 rw [G] at m C D;have hn:=xV;exact tail_any (typeIs_str s z t) slot_str_getitem.lookup (getItem_str (c:=c) (by
  have w:decide (i < -(2 ^ 63:Int))=false:=decide_eq_false (by lia);have A:decide (i ≥ 2 ^ 63)=false:=decide_eq_false (by lia);rw [w,A,Z3]) (by rw [m]; simpa using B) ⟨.str ⟨#[c]⟩,H,I.tok _,⟨_,rfl⟩,q⟩) hs
noncomputable def rIx(K:m7):R2:=fun x y H Q=>ZW K x y H Q∨ZV K x y H Q∨Gx x y H Q
theorem Ir:YC X (rIx X.K):=Ax.or (Ip.or Iq)
noncomputable def nQ:V->Bool
|.non=>true
|.bl _=>true
|.int _=>true
|.str _=>true
|_=>false
noncomputable def Ek:V->V->Bool
|.non,.non=>true
|.bl a,.bl b=>a==b
|.bl a,.int b=>(if a then 1 else 0)==b
|.int a,.bl b=>a==(if b then 1 else 0)
|.int a,.int b=>a==b
|.str a,.str b=>a==b
|_,_=>false
theorem Iz(m:bG y u)(f:bG x v)(o:nQ y=true)(i:nQ x=true):w6 A s u v (Ek y x):=by
 cases y with
|non =>
  cases m;cases x with
 |non=>cases f; exact Y4 _
 |bl b=>cases f; exact jz b
 |int b=>obtain ⟨t,rfl⟩:=f; exact lu b t
 |str b=>obtain ⟨t,rfl⟩:=f; exact lm b t
 |_=>exact absurd (show false=true from i) h7
|bl a =>
  cases m;cases x with
 |non=>cases f; exact ka a
 |bl b=>cases f; exact kc a b
 |int b=>obtain ⟨t,rfl⟩:=f; exact md a b t
 |str b=>obtain ⟨t,rfl⟩:=f; exact ma a b t
 |_=>exact absurd (show false=true from i) h7
|int a =>
  obtain ⟨g,rfl⟩:=m;cases x with
 |non=>cases f; exact lw a g
 |bl b=>cases f; exact ly a g b
 |int b=>obtain ⟨t,rfl⟩:=f; exact w6.int_int a g b t
 |str b=>obtain ⟨t,rfl⟩:=f; exact bi a g b t
 |_=>exact absurd (show false=true from i) h7
|str a =>
  obtain ⟨g,rfl⟩:=m;cases x with
 |non=>cases f; exact li a g
 |bl b=>cases f; exact lj a g b
 |int b=>obtain ⟨t,rfl⟩:=f; exact bg a g b t
 |str b=>obtain ⟨t,rfl⟩:=f; exact w6.str_str a g b t
 |_=>exact absurd (show false=true from i) h7
|_=>exact absurd (show false=true from o) h7
noncomputable def Bf(x:V)(u:a8):Bool:=match u with
|.none=>Ek .non x
|.bool b=>Ek (.bl b) x
|.int i _=>Ek (.int i) x
|.str z _=>Ek (.str z) x
|_=>false
theorem WY(r:bG y u)(f:nQ y=true):Bf x u=Ek y x:=by
 cases y with
|non=>cases r; rfl
|bl b=>cases r; rfl
|int i=>obtain ⟨t,rfl⟩:=r; rfl
|str z=>obtain ⟨t,rfl⟩:=r; rfl
|_=>exact absurd (show false=true from f) h7
theorem EB:∀{xs:List V}{us:List a8},bO xs us->xs.all nQ=true->us.any (Bf x)=xs.any fun y=>Ek y x
|_,_,.nil,_=>rfl
|y::xs,u::us,.cons r t,f=>by
  rw [tu,M5] at f;rw [Q3,Q3,WY r f.1,EB t f.2]
theorem xT(m:bG x v)(i:nQ x=true):∀{xs:List V}{us:List a8},bO xs us->xs.all nQ=true->∀ u∈us,w6 A s u v (Bf x u)
|_,_,.nil,_=>fun u g=>by cases g
|y::xs,u::us,.cons r t,f=>fun o g=>by
  rw [tu,M5] at f;rcases n6.mp g with rfl|g
  ·rw [WY r f.1]; exact Iz r m f.1 i
  ·exact xT m i t f.2 o g
noncomputable def Pg(x:V)(xs:List V):Bool:=xs.any fun y=>Ek y x
noncomputable def Qj(K:m7)(neg:Bool):R2:=fun x y H Q=>∃ p xs,y=.ref p/\(cP K H p xs∨EC K H p xs)/\nQ x=true/\xs.all nQ=true/\Q (.bl (if neg then !Pg x xs else Pg x xs)) H
theorem PP:kJ X (A0 .In) (Qj X.K false):=by
 intro B s J H x y v u Q I C E h;obtain ⟨p,G,rfl,g,A,i,q⟩:=h;cases E;rcases g with g|g
 ·obtain ⟨f,r,o,D⟩:=I.list g
  refine SeqAt.in_listAt (Bf x) o.isList (fun w m=>xT C A r i w (by simpa using m)) ⟨.bl _,H,I,rfl,?_⟩;rw [show f.toArray.any (Bf x)=f.any (Bf x) by simp,EB r i];exact q
 ·obtain ⟨f,r,o,D⟩:=I.tuple g
  refine SeqAt.in_tupleAt (Bf x) o (fun w m=>xT C A r i w (by simpa using m)) ⟨.bl _,H,I,rfl,?_⟩;rw [show f.toArray.any (Bf x)=f.any (Bf x) by simp,EB r i];exact q
theorem DT:iM X (.type "list") (fun xs H Q=>∃ p ys,xs=[.ref p]/\(cP X.K H p ys∨EC X.K H p ys)/\∀ l,H l=none->Q (.ref l) (upd H l (.lst ys))):=by
 intro E s R H xs S Q I r h;obtain ⟨p,ys,rfl,C,q⟩:=h;obtain ⟨u,rfl,P⟩:=RM r;cases P;have A:∀(f:List a8),bO ys f->ys.length<=j0->∀(g:u9)(i:Nat),(∀ b O,s.heap.get? b=some O->g.get? b=some O) ->
   g.get? s.heap.objs.size=some { cls:=.type "list",dict:=none,data:=.seq f.toArray i,slots:=#[] }->EP X E R Q (.ref s.heap.objs.size) { s with heap:=g }:=fun f m D g i kp e =>
  ⟨.ref s.heap.objs.size,_,I.laid (t':=s.toks) kp (i5 _) (show dH X.prog X.w _ g _ (.lst ys) from ⟨D,f,i,m,e⟩),rfl,q _ (I.hok.fresh (i5 _))⟩
 rcases C with C|C
 ·obtain ⟨f,m,N,D⟩:=I.list C
  have B:=m.length;obtain ⟨o,M,G,n,J⟩:=N.isList;exact call_list_seq p (.inl rfl) M G J (fun g i kp e=>A f m D g i kp e) (by simp only [i4] <;> lia)
 ·obtain ⟨f,m,N,D⟩:=I.tuple C
  have B:=m.length;obtain ⟨o,M,G,n,J⟩:=N;exact call_list_seq p (.inr rfl) M G J (fun g i kp e=>A f m D g i kp e) (by simp only [i4] <;> lia)
noncomputable def Pr(K:m7)(T:String)(x:V)(H:Hp):Prop:=match x with
|.str _=>T="str"
|.int _=>T="int"
|.ref p=>(T="list"/\∃ xs,cP K H p xs)∨(T="tuple"/\∃ o,K.lookup p=some o/\o.cls=.type "tuple"/\o.dict=none) ∨
   (T="dict"/\((∃ kvs,H p=some (.dK kvs))∨∃ kvs,H p=some (.dT kvs)))∨(T="set"/\∃ S n,H p=some (.set S n))
|_=>False
theorem Eu(I:bB X ud σ H s)(r:bG x v)(ty:Pr X.K T x H):
  s.TypeIs v T/\∀ a,v=.ref a->∃ w,s.heap.get? a=some w/\w.dict=none:=by
 cases x with
|str z =>
  obtain ⟨t,rfl⟩:=r;cases (show T="str" from ty);exact ⟨typeIs_str s z t,fun _ e=>nomatch e⟩
|int i =>
  obtain ⟨t,rfl⟩:=r;cases (show T="int" from ty);exact ⟨typeIs_int s i t,fun _ e=>nomatch e⟩
|ref p =>
  cases r;rcases ty with ⟨rfl,E,C⟩|⟨rfl,o,hk,B,m⟩|⟨rfl,hk⟩|⟨rfl,S,n,hk⟩
  ·obtain ⟨D,_,A,_⟩:=I.list C
   refine ⟨A.isList.typeIs,fun a e=>?_⟩;cases e;obtain ⟨o,n,e,c,m,_⟩:=A;exact ⟨o,e,m⟩
  ·refine ⟨⟨o,I.kIn p o hk,B⟩,fun a e=>?_⟩
   cases e;exact ⟨o,I.kIn _ o hk,m⟩
  ·have z:∃ o,s.heap.get? p=some o/\o.ExactDict:=by
    rcases hk with ⟨q,hk⟩|⟨q,hk⟩
    ·obtain ⟨_,_,_,_,o,_,_,e,f,_⟩:=I.hok p _ hk
     exact ⟨o,e,f⟩
    ·obtain ⟨_,_,_,_,o,_,_,e,f,_⟩:=I.hok p _ hk
     exact ⟨o,e,f⟩
   obtain ⟨o,e,f⟩:=z;refine ⟨⟨o,e,f.1⟩,fun a g=>?_⟩;cases g;exact ⟨o,e,f.2.1⟩
  ·obtain ⟨o,_,_,_,e,f,_⟩:=I.hok p _ hk
   refine ⟨⟨o,e,f.1⟩,fun a g=>?_⟩;cases g;exact ⟨o,e,f.2.1⟩
|_=>exact K2 ty
noncomputable def Ro(K:m7)(T:String)(r:V->List V->Hp->VK->Prop)(to:TE)(t:TA):TE:=fun σ H Q=>to σ H fun x H1=>Pr K T x H1/\t σ H1 fun xs H2=>r x xs H2 Q
variable {o e:A6}{es:List A6}{to:TE}{t:TA}{name:Str}{ug uh:Pos}{T id:String}{r:V -> List V -> Hp -> VK -> Prop}
theorem jD(S:PlainAttrs T)(slot:Slot T name id)(w:typeOf (.builtin id)=D8 (.type "method_descriptor"))(P:Ry X id r)(R:PE X o to)(O:PA X (e::es) t)(i:M6 o name X.env (C8 o X.env)=C8 o X.env:=by rfl)
  (q:((K3 uh (j8 (e::es) X.env)).all (fun x=>!x.1)&&(ce uh (T9 [] X.env)).all (fun x=>x.1.isSome)
   && decide ((e::es).length+([]:List dg).length+(if ([]:List dg).isEmpty then 0 else 1) < 30))=true:=by rfl)
  (m:(ug.endLine==uh.line)=true:=by rfl) (hs:j8 (e::es) X.env=(false,C8 e X.env)::j8 es X.env:=by rfl) (g:(K3 uh (j8 es X.env)).any (·.1)=false:=by rfl) :
  PE X (.Call (.Attribute o name ug) (e::es) [] uh) (Ro X.K T r to t):=by
 intro f s A H Q I h;refine wpAny_Call_method_late i q m rfl (cY (R f s A H _ I h) fun v Z ⟨x,E,B,D,ty,U⟩=>?_);obtain ⟨M,N⟩:=Eu B D ty;refine ⟨T,id,S,slot,w,M,N,?_⟩;have C:=O uh f Z A E _ B U;rw [hs] at C ⊢;refine R7 (by show (false || (K3 uh (j8 es X.env)).any (·.1))=false; rw [g] <;> rfl) (V3 ?_);exact cY C fun us s2 ⟨vs,G,J,Y,W⟩=>P f s2 A G x vs v us Q J D Y W
end
noncomputable def MtM(X:Cx)(id:String)(r:V->List V->Hp->VK->Prop):Prop:=
 ∀(ud:List (b8×Obj)) (s:c5) (σ:St) (H:Hp) (x:V) (xs:List V) (v:a8) (us:List a8) (Q:VK),bB X ud σ H s->bG x v->bO xs us->r x xs H Q ->
  e9 (h9 X.prog X.w) X.A (ax (.builtin id) (v::us)) (EP X ud σ Q) X.xe s
theorem bO.one:∀{x:V}{us:List a8},bO [x] us->∃ u,us=[u]/\bG x u
 :=fun h=>by cases h with|cons r h=>cases h; exact ⟨_,rfl,r⟩
theorem bO.two:∀{x y:V}{us:List a8},bO [x,y] us->∃ u v,us=[u,v]/\bG x u/\bG y v
 :=fun h=>by cases h with|cons r h=>cases h with|cons q h=>cases h; exact ⟨_,_,rfl,r,q⟩
section
variable {X:Cx}{ud:List (b8×Obj)}{σ:St}{H:Hp}{s:c5}{l b:b8}{xs ys zs:List V}
theorem bB.lset{g its':List a8}{n:Nat}{f:Array a8->Array a8}{t':Nat}(I:bB X ud σ H s)(i:H l=some (.lst xs))(e:s.heap.get? l=some { cls:=.type "list",data:=.seq g.toArray n })(o:f g.toArray=its'.toArray)(A:bO ys its')(hz:ys.length<=j0):
  bB X ud σ (upd H l (.lst ys)) { s with heap:=s.heap.update l (l8 f),toks:=t' }:=by
 have q:=PySem.IsL.update e f;rw [o] at q;refine I.write (x:=l) (e:=l) (by rw [i]; exact trivial) (.inl rfl) (fun B u m w=>(A4 s.heap (l8 f) (j3 m)).trans w) ⟨_,q⟩ ?_;exact ⟨hz,its',_,A,q⟩
theorem bB.lnew(I:bB X ud σ H s)(f:bO ys its)(hz:ys.length<=j0):
  bB X ud σ (upd H s.heap.objs.size (.lst ys)) { s with heap:=s.heap.push { cls:=.type "list",data:=.seq its.toArray },toks:=t' }:=
 I.laid (fun _ _ q=>c4 _ q) (i5 _) ⟨hz,its,0,f,j5 _ rfl⟩
theorem bB.fresh(I:bB X ud σ H s):H s.heap.objs.size=none:=I.hok.fresh (i5 _)
theorem bB.lstM(I:bB X ud σ H s)(g:H l=some (.lst xs)):xs.length<=j0/\∃(f:List a8)(n:Nat),bO xs f/\xs.length=f.length/\s.heap.get? l=some { cls:=.type "list",data:=.seq f.toArray n }:=by
 obtain ⟨z,f,n,r,e⟩:=I.hok l _ g;exact ⟨z,f,n,r,r.length,e⟩
end
section
variable {X:Cx}
noncomputable def MP:V->List V->Hp->VK->Prop:=fun x vs H Q=>∃ l xs y,x=.ref l/\vs=[y]/\H l=some (.lst xs)/\xs.length < j0/\Q .non (upd H l (.lst (xs++[y])))
theorem cL:MtM X "list.append" MP:=by
 intro g s D H x B v A Q I m rv h;obtain ⟨l,C,y,rfl,rfl,f,w,q⟩:=h;cases m;obtain ⟨u,rfl,i⟩:=rv.one;obtain ⟨z,b,n,r,o,e⟩:=I.lstM f;refine call_meets F.slot_list_append ⟨_,e,rfl⟩ F.entry_list_append (F.args_list_append_2 _ _) (PySem.list_append l b.toArray n u (by rw [i4]; lia)) ⟨e,?_⟩;refine ⟨.non,_,I.lset (its':=b++[u]) f e (by simp) (r.append (.cons i .nil)) ?_,rfl,q⟩;rw [i9,bw];lia
noncomputable def Nb:R2:=fun x y H Q=>∃ l b xs zs,x=.ref l/\y=.ref b/\H l=some (.lst xs)/\H b=some (.lst zs)/\xs.length+zs.length<=j0/\∀ p,H p=none->Q (.ref p) (upd H p (.lst (xs++zs)))
theorem Hm:kJ X (O1 .Add) Nb:=by
 intro i s O H x y v u Q I D E h;obtain ⟨l,b,K,N,rfl,rfl,A,w,J,q⟩:=h;cases D;cases E;obtain ⟨z,g,n,r,G,e⟩:=I.lstM A;obtain ⟨M,f,n2,C,B,m⟩:=I.lstM w;refine PySem.P.add_list e m ?_ (by rw [i4,i4]; lia);have o:g.toArray++f.toArray=(g++f).toArray:=by simp
 rw [o];exact ⟨.ref _,_,I.lnew (t':=s.toks) (r.append C) (by rw [i9]; lia),rfl,q _ I.fresh⟩
end
section
variable {prog:j2}{w:k6}{A:q4}{E:a8 -> c5 -> Prop}{s:c5}
end
section
variable {X:Cx}
end
end L2
namespace Att
open PySem PySem.W PySem.Calls PyProof.Rows
theorem uZ:∀(ns:List Int)(vs:List a8),WellAll P h vs (ns.map WData.int)->gt vs ns:=by
 intro ns
 induction ns with
|nil =>
  intro vs w;rw [rp] at w;cases w;exact .nil
|cons n ns ih =>
  intro vs w;rw [D3] at w;cases w with
 |cons a b =>
   cases a;exact .cons _ _ (ih _ b)
theorem OZ{l:OpenLaw}{n:Nat}(hn:l.most=some n){P:Params}{h:u9}{args:List WData}{f:List a8}(b:l.row.toRowW.claim.pre args=true)(w:WellAll P h f args):
  ∃ a vs ns,f=[i6 a]/\args=[WData.list (ns.map WData.int)]/\h.get? a=some { cls:=.type "list",data:=.seq vs.toArray }/\gt vs ns/\ns.length<=n:=by
 have s:WShape.hasAll [] args [.list .int]=true:=(pre_splitW b).1;have A:l.pre.holds [] { args:=args }=true:=(pre_splitW b).2;obtain ⟨d,r,rfl,B,C⟩:=hasAllW_cons s;obtain rfl:=hasAllW_nil C;obtain ⟨J,rfl,D⟩:=hasW_list B;obtain ⟨ns,rfl⟩:=items_int D;have i:ns.length<=n:=by
  unfold OpenLaw.pre at A;have m:(WTm.not (.lt (.lit (.int (n:Int))) (.len (.arg 0)))).holds [] { args:=[.list (ns.map .int)] }=true:=by
   have m:=(holds_andW A).1;rw [hn] at m;exact m
  have o:=condW_of m (w_not (w_lt w_lit (w_len_list (w_arg rfl))));rw [g7] at o;refine Nat.le_of_not_lt fun q=>?_;have G:(n:Int) < ((ns.length:Nat):Int):=by lia
  first
  |(rw [decide_eq_true G] at o; exact absurd o (by decide))
  |(simp at o; lia)
 cases w with
|cons H I =>
  cases I;cases H with
 |list E g=>exact ⟨_,_,ns,rfl,rfl,E,uZ ns _ g,i⟩
theorem PH(l:OpenLaw)(args:List WData):l.row.toRowW.claim.post args (.bool true) args=true:=
 postW_of (r:=l.row.toRowW) (X:=(true==true))
  (show WShape.has [] (.bool true) .bool=true by first|rfl|decide|simp [WShape.has,WShape.arms,WShape.armsAll])
  (show (WTm.eq .res (.lit (.bool true))).value [] { args:=args,res:=some (.bool true),after:=args }=some (.bool (true==true)) from w_eq_bool (w_res rfl) w_lit) rfl
theorem attach_call{l:OpenLaw}{n:Nat}{q:j2}{g:List Str}{Q:(Str->Option a8)->u9->Prop}{R:k6->u9->Prop}{d:DefRec}(hn:l.most=some n)(K:d.params.defaults=[])
  (A:∀ (w:k6) (i b:c5) (H O:Str->Option a8)(fa:b8)(o:Obj)(P E m:a8)(a:b8)(vs:List a8)(ns:List Int),
   Ground q g [] Q w i H O b.heap->R w b.heap ->
   b.heap.get? fa=some o->o.data=.func (docDef d.name d.params d.body d.scope P E m)->b.heap.CodeRec E d.name->H d.name=some (.ref fa) ->
   b.heap.get? a=some { cls:=.type "list",data:=.seq vs.toArray }->gt vs ns->ns.length<=n->b.gens=#[] ->
   S2 (h9 l.prog w) jr (.call (.ref fa) ⟨[.ref a],[]⟩) (fun r I=>r=.ok (.ret (.bool true))/\OldK b.heap I.heap/\I.os=b.os/\dk I.gens) b) :
  WalkO q g Q R l.row.toRowW d [] (fun f vs=>PySem.call f vs):=by
 intro w i b H O G Y fa o P E m X kV ho hd J T M hg S W as D U hrd N hlo;obtain rfl:X=.none:=Dflts.none T K;obtain rfl:kV=.none:=Dflts.noKw T;obtain ⟨a,vs,ns,rfl,rfl,C,s,B⟩:=OZ hn D N;refine enter_call (Y3 (A w i b H O fa o P E m a vs ns G Y ho (fd_plain hd) J M C s B hg) fun r I hq=>?_);obtain ⟨rfl,Z,h3,h4⟩:=hq;exact ⟨.inl ⟨.bool true,.bool true,[],rfl,fun _=>rfl,.bool true,PH l _,fun _=>⟨List.Pairwise.nil,fun _ hm=>(nomatch hm)⟩⟩,Z,h3,h4⟩
section
variable {prog:j2}{w:k6}{A:q4}{E:a8 -> c5 -> Prop}{s:c5}{K:m7}
noncomputable def noObjs(h:u9):u9:={ h with objs:=#[] }
theorem noObjs_get(h:u9)(b:b8):(noObjs h).get? b=none:=by
 cases e:(noObjs h).get? b with
|none=>rfl
|some o=>exact absurd (j6 e) (T5 _)
noncomputable def ledger(h:u9)(L d:b8):List (b8×Obj):=(k9 h.objs.size).filterMap fun a=>if a=L∨a=d then none else (h.get? a).map fun o=>(a,o)
theorem mem_ledger:(a,o)∈ledger h L d ↔ a≠L/\a≠d/\h.get? a=some o:=by
 unfold ledger;rw [R5];constructor
 ·rintro ⟨b,_,e⟩
  split at e
  ·cases e
  ·rename_i g
   obtain ⟨B,f,i⟩:=j7.mp e;cases i;exact ⟨fun q=>g (.inl q),fun q=>g (.inr q),f⟩
 ·rintro ⟨m,n2,f⟩
  refine ⟨a,T6.mpr (j6 f),?_⟩;rw [if_neg (show ¬ (a=L∨a=d) from fun q=>q.elim m n2),f] <;> rfl
end
end Att
namespace L2
open PySem PySem.Spec PyProof.Rows
theorem tD:∀{vs:List a8}{ns:List Int},gt vs ns->bO (ns.map V.int) vs
|_,_,.nil=>.nil
|_,_,.cons n t h=>.cons ⟨t,rfl⟩ (tD h)
noncomputable def bQ(s:A1):Arguments:=match s with
|.FunctionDef _ a _ _ _ _ _ _ _ _=>a
|_=>{ posonlyargs:=[],args:=[],vararg:=none,kwonlyargs:=[],kw_defaults:=[],kwarg:=none,defaults:=[] }
noncomputable def bL(s:A1):List A1:=match s with
|.FunctionDef _ _ b _ _ _ _ _ _ _=>b
|_=>[]
noncomputable def aG(s:A1):V5:=match s with
|.FunctionDef _ _ _ _ _ _ sc _ _ _=>sc
|_=>{ kind:=.function,names:=[],isGenerator:=false,isCoroutine:=false }
noncomputable abbrev mI:EH:=fun _ _ _ _ _ _=>False
noncomputable abbrev E0:XK:=fun _ _ _=>False
theorem fI:kH mI X E0:=fun _ _ _ _ _ _ _ h=>h.elim
structure Pp(K:m7)(x qual:Str)(st:A1)(f:b8)(fd:D4):Prop where
 ex:∃(oc:a8)(od:Option b8)(kV doc pm:a8)(an:Option b8)(ui ct:a8)(osl:Array (Option a8)),
  fd=V1 x qual (bQ st) (bL st) (aG st) .none kV doc pm an ui ct/\K.lookup f=some ⟨oc,od,.func fd,osl⟩/\w8 K ui qual=true
 kp:n7 K (.ref f)=true
section
variable {P:j2}{w:k6}{K:m7}{mg:Str -> Option a8}{base:u9}
theorem Pp.ok{x g:Str}{st:A1}{f:b8}{D:D4}{N ps:List Str}{k:Nat}{sp:Sp}(F:Pp K x g st f D)(S:aO N ps (aG st))(C:∀ vs H Q E,sp vs H Q E->vs.length=ps.length)
  (m:∀ (i:a8) (A:q4)(b:List Env)(s:c5)(H:Hp)(vs:List V)(Q:VK)(E:XK),eR k (A.deeper (X4 g (aG st) s.heap.objs.size f i))->sp vs H Q E ->
   ∃ t,BH (vA mI P w K mg base N g (aG st) f i A b s H E).nox (bL st) t/\t { nx:=fun _ H'=>Q .non H',rt:=Q } (start N vs) H):mG P w K mg base mI (k+1) f D ps sp:=by
 obtain ⟨T,U,kV,G,W,O,i,R,M,rfl,J,o⟩:=F.ex;refine AV J o S C fun A b s H vs Q E I B=>?_;obtain ⟨t,h,q⟩:=m i A b s H vs Q E I B;exact ⟨t,h.nox,q⟩
theorem Iy{x b:Str}{st:A1}{f:b8}{A:a8}{B o:Option b8}{m:Array (Option a8)}{kV i s g q:a8}(l:K.lookup f=some ⟨A,B,.func (V1 x b (bQ st) (bL st) (aG st) .none kV i s o g q),m⟩)(c:w8 K g b=true)(k:n7 K (.ref f)=true):Pp K x b st f (V1 x b (bQ st) (bL st) (aG st) .none kV i s o g q):=⟨⟨A,B,kV,i,s,o,g,q,m,rfl,l,c⟩,k⟩
end
theorem eA(h:n<=1000):n < j0:=B8 h (by decide)
section
variable {X:Cx}
theorem pv(i:Nat)(f:X.N[i]?=some x:=by rfl)(m:Pj X.env.scope x:=by first|exact B6 rfl|exact A9 (B6 rfl)|exact A9 (A9 rfl))(g:(x==("__debug__":Str))=false:=by decide)(b:(x==("__classdict__":Str))=false:=by decide):PE X (.Name x pos) (Fc i):=Hc f m g b
end
theorem Nx{A B:Prop}(h:B):if false=true then A else B:=by
 rw [if_neg h7];exact h
theorem Nw{A B:Prop}(h:A):if true=true then A else B:=by
 rw [if_pos rfl];exact h
noncomputable def aJ(H H':Hp):Prop:=∀ b o,H b=some o->H' b=some o
theorem aJ.refl(H:Hp):aJ H H:=fun _ _ h=>h
theorem aJ.trans(a:aJ H H1)(b:aJ H1 H2):aJ H H2:=fun c o h=>b c o (a c o h)
theorem aJ.free(e:aJ H H')(h:H' l=Option.none):H l=Option.none:=by
 cases q:H l with
|none=>rfl
|some o =>
  rw [e l o q] at h;cases h
theorem aJ.seq{K:m7}{H H':Hp}{a:b8}{xs:List V}(e:aJ H H')(h:cP K H a xs):cP K H' a xs:=by
 rcases h with (h|⟨o,h⟩)|h
 ·exact .inl (.inl (e _ _ h))
 ·exact .inl (.inr ⟨o,e _ _ h⟩)
 ·exact .inr h
end L2
set_option Elab.async false
set_option linter.all false
set_option maxRecDepth 100000
namespace L2
open PySem PySem.Spec PyProof.Rows
section
variable {κ:Type}[DecidableEq κ]
noncomputable def bJ(kvs:List (κ×V))(k:κ):Option V:=(kvs.find? fun kv=>decide (kv.1=k)).map (·.2)
noncomputable def eK(kvs:List (κ×V))(k:κ)(v:V):List (κ×V):=
 if (kvs.any fun kv=>decide (kv.1=k))=true then kvs.map (fun kv=>if kv.1=k then (kv.1,v) else kv) else kvs++[(k,v)]
noncomputable def eL(kvs:List (κ×V))(k:κ):List (κ×V):=kvs.filter fun kv=>decide (kv.1≠k)
theorem gX{p:κ×V}{r:List (κ×V)}{k:κ}(e:p.1=k):bJ (p::r) k=some p.2:=by simp [bJ,L0,e]
theorem fK{p:κ×V}{r:List (κ×V)}{k:κ}(e:¬ p.1=k):bJ (p::r) k=bJ r k:=by simp [bJ,L0,e]
theorem EN(k:κ):∀ kvs:List (κ×V),(kvs.any fun kv=>decide (kv.1=k))=(bJ kvs k).isSome
|[]=>rfl
|p::r=>by
  rw [Q3];by_cases e:p.1=k
  ·simp only [gX e,decide_eq_true e,Bool.true_or,Option.isSome_some]
  ·rw [fK e,decide_eq_false e,Bool.false_or]; exact EN k r
theorem oP(kvs:List (κ×V))(k:κ)(v:V):(eK kvs k v).length<=kvs.length+1:=by
 unfold eK;split
 ·rw [g7]; lia
 ·rw [i9,B7,Z6]; lia
theorem nD.isSome_eq(r:nD o u):o.isSome=u.isSome:=by
 cases o with
|none=>cases u with
 |none=>rfl
 |some _=>exact (show False from r).elim
|some _=>cases u with
 |none=>exact (show False from r).elim
 |some _=>rfl
theorem nD.getD(r:nD o u)(b:bG d d'):bG (o.getD d) (u.getD d'):=by
 cases o with
|none=>cases u with
 |none=>exact b
 |some _=>exact (show False from r).elim
|some _=>cases u with
 |none=>exact (show False from r).elim
 |some _=>exact r
theorem KV.val(r:KV kvs vs)(k:κ):nD (bJ kvs k) (U7 vs k):=by
 unfold KV at r
 induction r with
|nil=>exact F9
|@cons p q o g h t ih =>
  obtain ⟨i,m⟩:=h;by_cases e:p.1=k
  ·have f:q.1=k:=i.symm.trans e
   have b:U7 (q::g) k=some q.2:=by simp [U7,L0,f]
   rw [gX e,b]; exact m
  ·have f:¬ q.1=k:=fun z=>e (i.trans z)
   have b:U7 (q::g) k=U7 g k:=by simp [U7,L0,f]
   rw [fK e,b]; exact ih
theorem KV.any(r:KV kvs vs)(k:κ):(kvs.any fun kv=>decide (kv.1=k))=vs.any fun kv=>decide (kv.1=k):=by
 unfold KV at r
 induction r with
|nil=>rfl
|cons h t ih=>rw [Q3,Q3,ih,h.1]
theorem KV.repl(r:KV kvs vs)(k:κ)(g:bG y u):
  KV (kvs.map fun kv=>if kv.1=k then (kv.1,y) else kv) (vs.map fun kv=>if kv.1=k then (kv.1,u) else kv):=by
 unfold KV at r ⊢
 induction r with
|nil=>exact .nil
|@cons p q i m h t ih =>
  rw [D3,D3];refine .cons ?_ ih;obtain ⟨b,f⟩:=h;by_cases e:p.1=k
  ·rw [if_pos e,if_pos (b.symm.trans e)]; exact ⟨b,g⟩
  ·rw [if_neg e,if_neg (fun z=>e (b.trans z))]; exact ⟨b,f⟩
theorem KV.put(r:KV kvs vs)(k:κ)(b:bG y u):KV (eK kvs k y) (kx vs k u):=by
 unfold eK kx;rw [r.any k];by_cases e:(vs.any fun kv=>decide (kv.1=k))=true
 ·rw [if_pos e,if_pos e]; exact r.repl k b
 ·rw [if_neg e,if_neg e]; exact Paired.snoc r ⟨rfl,b⟩
theorem KV.drop(r:KV kvs vs)(k:κ):KV (eL kvs k) (without vs k):=by
 unfold KV at r ⊢;unfold eL without
 induction r with
|nil=>exact .nil
|@cons p q m o h t ih =>
  obtain ⟨f,i⟩:=h;rw [U0,U0];by_cases e:p.1=k
  ·have a:¬ decide (p.1≠k)=true:=by simp [e]
   have b:¬ decide (q.1≠k)=true:=by simp [f.symm.trans e]
   rw [if_neg a,if_neg b]; exact ih
  ·have g:¬ q.1=k:=fun z=>e (f.trans z)
   have a:decide (p.1≠k)=true:=by simp [e]
   have b:decide (q.1≠k)=true:=by simp [g]
   rw [if_pos a,if_pos b]; exact .cons ⟨f,i⟩ ih
theorem KV.keys{kvs:List (κ×V)}{vs:List (κ×a8)}(r:KV kvs vs):kvs.map (·.1)=vs.map (·.1):=by
 unfold KV at r
 induction r with
|nil=>rfl
|cons h t ih=>rw [D3,D3,ih,h.1]
theorem KV.length(r:KV kvs vs):kvs.length=vs.length:=Paired.length r
theorem XD(kvs:List (κ×V))(k:κ):(eL kvs k).length<=kvs.length:=bx _ _
end
theorem oQ(r:bG (kV k) u):(bR P w).is k u=true:=by
 cases k with
|inl i=>obtain ⟨t,e⟩:=(show ∃ t,u=cm i t from r); subst e; exact HL P w i t
|inr x=>obtain ⟨t,e⟩:=(show ∃ t,u=W3 x t from r); subst e; exact HK P w x t
theorem AU:∀{ks:List aM}{us:List a8},bO (ks.map kV) us->ItemsAre (bR P w) ks us
|[],_,r=>by rw [rp] at r; cases r; exact .nil
|k::ks,_,r=>by
  rw [D3] at r;cases r with
 |cons h t=>exact .cons (oQ h) (AU t)
noncomputable abbrev KT(H:Hp):List (List aM×V)->List (List aM×b8×a8)->Prop:=Paired fun p q=>p.1=q.1/\H q.2.1=some (.tup (p.1.map kV))/\bG p.2 q.2.2
theorem KT.val(r:KT H kvs xs)(k:List aM):nD (bJ kvs k) ((ow xs k).map (·.2)):=by
 induction r with
|nil=>exact F9
|@cons p q o g h t ih =>
  obtain ⟨i,_,m⟩:=h;by_cases e:p.1=k
  ·have f:q.1=k:=i.symm.trans e
   have b:ow (q::g) k=some q.2:=by simp [ow,L0,f]
   rw [gX e,b]; exact m
  ·have f:¬ q.1=k:=fun z=>e (i.trans z)
   have b:ow (q::g) k=ow g k:=by simp [ow,L0,f]
   rw [fK e,b]; exact ih
theorem KT.repl(r:KT H kvs xs)(k:List aM)(i:bG y u):
  KT H (kvs.map fun kv=>if kv.1=k then (kv.1,y) else kv) (xs.map (putAt k u)):=by
 induction r with
|nil=>exact .nil
|@cons p q m o h t ih =>
  rw [D3,D3];refine .cons ?_ ih;obtain ⟨b,f,g⟩:=h;unfold putAt;by_cases e:p.1=k
  ·rw [if_pos e,if_pos (b.symm.trans e)]; exact ⟨b,f,i⟩
  ·rw [if_neg e,if_neg (fun z=>e (b.trans z))]; exact ⟨b,f,g⟩
theorem KT.put(r:KT H kvs xs)(k:List aM)(g:H b=some (.tup (k.map kV)))(f:bG y u):
  KT H (eK kvs k y) (storedH xs k b u):=by
 have e:(kvs.any fun kv=>decide (kv.1=k))=(ow xs k).isSome:=by
  rw [EN,(r.val k).isSome_eq,fb]
 unfold eK storedH;rw [e];by_cases q:(ow xs k).isSome=true
 ·rw [if_pos q,if_pos q]; exact r.repl k f
 ·rw [if_neg q,if_neg q]; exact Paired.snoc r ⟨rfl,g,f⟩
theorem KT.keeps(r:KT H kvs xs)(f:∀ b ys,H b=some (.tup ys)->H' b=some (.tup ys)):KT H' kvs xs:=
 Paired.mapP r fun _ _ z=>⟨z.1,f _ _ z.2.1,z.2.2⟩
section
variable {P:j2}{w:k6}{H:Hp}{h:u9}{a:b8}
theorem Dd(ok:pQ P w H h)(e:Rd H a u):dH P w H h a u:=e.ok ok
theorem uV(ok:pQ P w H h)(e:Rd H a (.dK kvs)):kvs.length<=j0/\(a==sysModules)=false/\∃ vs,KV kvs vs/\h.DictOf (bR P w) a vs:=
 show dH P w H h a (.dK kvs) from Dd ok e
theorem yG(ok:pQ P w H h)(e:H a=some (.dK kvs)):kvs.length<=j0/\(a==sysModules)=false/\∃ vs,KV kvs vs/\h.DictOf (bR P w) a vs:=uV ok (.inl e)
theorem qR(ok:pQ P w H h)(e:H a=some (.tup (ks.map kV))):(br (bR P w)).is h ks a:=by
 obtain ⟨_,b,r,o,f,g,n,i⟩:=(show dH P w H h a (.tup (ks.map kV)) from ok a _ e)
 exact ⟨o,b.toArray,n,f,g,i,by simpa using AU r⟩
theorem uU(ok:pQ P w H h)(e:Rd H a (.dT kvs)):kvs.length<=j0/\(a==sysModules)=false /\
  ∃ xs,KT H kvs xs/\h.DictOfH (br (bR P w)) a xs:=by
 obtain ⟨z,y,xs,r,o,s,i,A,B,C,D,E⟩:=(show dH P w H h a (.dT kvs) from Dd ok e)
 refine ⟨z,y,xs,r,o,s,i,A,B,C,D,fun x b=>?_,E⟩;have f:∀{l:List (List aM×V)} {m:List (List aM×b8×a8)},KT H l m->∀ x∈m,(br (bR P w)).is h x.1 x.2.1:=by
  intro l m q
  induction q with
 |nil=>intro x b; exact nomatch b
 |@cons p q G I g t ih =>
   intro x b;rcases n6.mp b with e|b
   ·subst e
    exact qR ok (by rw [← g.1]; exact g.2.1)
   ·exact ih x b
 exact f r x b
theorem Of(ok:pQ P w H h)(e:H a=some (.dT kvs)):kvs.length<=j0/\(a==sysModules)=false /\
  ∃ xs,KT H kvs xs/\h.DictOfH (br (bR P w)) a xs:=uU ok (.inl e)
end
noncomputable def pB(H:Hp)(a:b8)(y:V)(r:Option V):Prop:=
 (∃ kvs k,Rd H a (.dK kvs)/\y=kV k/\r=bJ kvs k)∨∃ kvs k b,Rd H a (.dT kvs)/\y=.ref b/\H b=some (.tup (k.map kV))/\r=bJ kvs k
noncomputable def RI(H:Hp)(a:b8)(y v:V)(H':Hp):Prop:=
 (∃ kvs k,H a=some (.dK kvs)/\y=kV k/\kvs.length < j0/\H'=upd H a (.dK (eK kvs k v))) ∨
 ∃ kvs k b,H a=some (.dT kvs)/\y=.ref b/\H b=some (.tup (k.map kV))/\kvs.length < j0/\H'=upd H a (.dT (eK kvs k v))
theorem RI.k{H:Hp}{a:b8}{kvs:List (aM×V)}{k:aM}{v:V}(e:H a=some (.dK kvs))(b:kvs.length < j0):RI H a (kV k) v (upd H a (.dK (eK kvs k v))):=.inl ⟨kvs,k,e,rfl,b,rfl⟩
section
variable {X:Cx}{ud:List (b8×Obj)}{σ:St}{H:Hp}{s:c5}{a:b8}{y v:V}{u r:a8}{o:Option V}{A:q4}{E:a8 -> c5 -> Prop}
theorem bB.big(I:bB X ud σ H s):sysModules < s.heap.objs.size:=by
 have h:r9 < s.heap.objs.size:=(I.mod.glob.keeps I.bk).lt;exact bu (by decide) h
theorem QX(N:A.units+1 < F6)(I:bB X ud σ H s)(g:pB H a y (some v))(J:bG y u)(h:∀ m s',bB X ud σ H s'->bG v m->Q m s'):
  e9 (h9 X.prog X.w) A (jn (.ref a) u) Q E s:=by
 rcases g with ⟨G,k,e,B,l⟩|⟨G,k,b,e,B,K,l⟩
 ·subst B
  obtain ⟨z,M,O,f,q⟩:=uV I.hok e;obtain ⟨m,D,i⟩:=nD.some_of (v:=v) (o:=U7 O k) (by rw [l]; exact f.val k);exact wpAny_getItem_of (oQ J) q.mapOf D (h m _ (I.tok _) i)
 ·subst B
  cases (show u=i6 b from J);obtain ⟨z,M,P,f,q⟩:=uU I.hok e;obtain ⟨m,D,i⟩:=nD.some_of (v:=v) (o:=(ow P k).map (·.2)) (by rw [l]; exact f.val k);obtain ⟨p,hp,C⟩:=j7.mp D;refine wpAny_getItem_heap (O5 N) (qR I.hok K) q hp ?_;rw [C];exact h m _ (I.tok _) i
theorem Qw(J:A.units+1 < F6)(I:bB X ud σ H s)(g:pB H a y o)(D:bG y u)(h:∀ s',bB X ud σ H s'->Q (.bool o.isSome) s'):
  e9 (h9 X.prog X.w) A (A0 .In u (.ref a)) Q E s:=by
 rcases g with ⟨C,k,e,m,l⟩|⟨C,k,b,e,m,G,l⟩
 ·subst m
  obtain ⟨z,B,K,f,i⟩:=uV I.hok e;refine wpAny_in_of (oQ D) B i.mapOf ?_;rw [← (f.val k).isSome_eq,← l];exact h _ (I.tok _)
 ·subst m
  cases (show u=i6 b from D);obtain ⟨z,B,M,f,i⟩:=uU I.hok e;refine wpAny_in_heap (O5 J) (qR I.hok G) B i ?_;have q:=(f.val k).isSome_eq;rw [fb] at q;rw [← q,← l];exact h _ (I.tok _)
theorem Bi(J:A.units+1 < F6)(I:bB X ud σ H s)(g:pB H a y o)(D:bG y u)(h:∀ s',bB X ud σ H s'->Q (.bool (!o.isSome)) s'):
  e9 (h9 X.prog X.w) A (A0 .NotIn u (.ref a)) Q E s:=by
 rcases g with ⟨C,k,e,m,l⟩|⟨C,k,b,e,m,G,l⟩
 ·subst m
  obtain ⟨z,B,K,f,i⟩:=uV I.hok e;refine wpAny_notIn_of (oQ D) B i.mapOf ?_;rw [← (f.val k).isSome_eq,← l];exact h _ (I.tok _)
 ·subst m
  cases (show u=i6 b from D);obtain ⟨z,B,M,f,i⟩:=uU I.hok e;refine wpAny_notIn_heap (O5 J) (qR I.hok G) B i ?_;have q:=(f.val k).isSome_eq;rw [fb] at q;rw [← q,← l];exact h _ (I.tok _)
theorem sU(I:bB X ud σ H s)(mu:Ov (H a))(hs:L6 a s.heap h')(g:∃ q,h'.get? a=some q)(new:dH X.prog X.w (upd H a ob) h' a ob):
  bB X ud σ (upd H a ob) { s with heap:=h',toks:=t' }:=
 I.write (x:=a) (e:=a) mu (.inl rfl) (fun b q f z=>(hs.2 b f).trans z) g new
theorem yH(z:kvs.length<=j0)(g:(a==sysModules)=false)(b:KV kvs vs)(f:h'.DictOf (bR P w) a vs):
  dH P w H' h' a (.dK kvs):=⟨z,g,vs,b,f⟩
theorem QW(hu:A.units+1 < F6)(I:bB X ud σ H s)(g:RI H a y v H')(R:bG y u)(rv:bG v r)(h:∀ s',bB X ud σ H' s'->Q () s'):
  e9 (h9 X.prog X.w) A (setItem (.ref a) u r) Q E s:=by
 rcases g with ⟨f,k,e,G,l,D⟩|⟨f,k,b,e,G,N,l,D⟩
 ·subst G D
  obtain ⟨z,J,vs,i,C⟩:=yG I.hok e;have M:vs.length<=j0:=by rw [← i.length]; exact z
  have K:(eK f k v).length<=j0:=by have:=oP f k v; lia
  refine wpAny_setItem_pairs (hsz:=M) (oQ R) C fun P m hs=>h _ ?_;have he:∃ q,P.get? a=some q:=let ⟨q,_,_,B,_⟩:=m; ⟨q,B⟩;exact sU I (by rw [e]; exact F9) hs he (yH K J (i.put k rv) m)
 ·subst G D
  cases (show u=i6 b from R);obtain ⟨z,J,xs,i,C⟩:=Of I.hok e;have M:xs.length<=j0:=by rw [← Paired.length i]; exact z
  have K:(eK f k v).length<=j0:=by have:=oP f k v; lia
  refine wpAny_setItem_heap (hsz:=M) (O5 hu) (qR I.hok N) C fun P m hs=>h _ ?_;obtain ⟨q,T,S,B,U,W,Y,_,Z⟩:=m;refine sU I (by rw [e]; exact F9) hs ⟨q,B⟩ ⟨K,J,_,(i.put k N rv).keeps fun c ys O=>?_,q,T,S,B,U,W,Y,Z⟩;rw [aZ (iE O e (fun z=>nomatch z))];exact O
end
section
variable {X:Cx}{ud:List (b8×Obj)}{σ:St}{H:Hp}{s:c5}{a:b8}{kvs:List (aM×V)}{k:aM}{u:a8}{A:q4}{E:a8 -> c5 -> Prop}
theorem Oi(I:bB X ud σ H s)(e:H a=some (.dK kvs))(B:bG (kV k) u)(l:bJ kvs k=some v)(D:more=[]∨∃ x,more=[x])(h:∀ g s',bB X ud σ (upd H a (.dK (eL kvs k))) s'->bG v g->Q g s'):e9 (h9 X.prog X.w) A (ax (.builtin "dict.pop") (.ref a::u::more)) Q E s:=by
 obtain ⟨z,M,G,b,C⟩:=yG I.hok e;obtain ⟨g,P,m⟩:=nD.some_of (v:=v) (o:=U7 G k) (by rw [← l]; exact b.val k);have hp:(keyPart u).isSome=true:=by
  cases k with
 |inl i=>obtain ⟨t,q⟩:=(show ∃ t,u=cm i t from B); subst q; rfl
 |inr x=>obtain ⟨t,q⟩:=(show ∃ t,u=W3 x t from B); subst q; rfl
 have K:si "dict.pop" ⟨.ref a::u::more,[]⟩:=by
  rcases D with q|⟨x,q⟩
  ·subst q; exact PySem.F.args_dict_pop_2 _ _
  ·subst q; exact PySem.F.args_dict_pop_3 _ _ _
 refine db slot_dict_pop C.typeIs PySem.F.entry_dict_pop K (meets_dict_pop_there (bR X.prog X.w) a (oQ B) more D hp)
  ⟨G,g,C,by rw [← b.length]; exact z,P,fun J f hs=>h g _ ?_ m⟩
 have N:∃ q,J.get? a=some q:=let ⟨q,_,_,O,_⟩:=f; ⟨q,O⟩;exact sU I (by rw [e]; exact F9) hs N (yH (u8 (XD kvs k) z) M (b.drop k) f)
end
noncomputable def Ou(i:A6):Prop:=∀ ov iv,ml i false ov iv=operate [ov,iv] (jn ov iv)
theorem YU{prog:j2}{w:k6}{A:q4}{E:a8->c5->Prop}{s:c5}{env:Env}{f b:A6}{H:Pos}{T id:String}{Q:a8->c5->Prop}(J:cu (.type T) "__getitem__"=D8 (some (.builtin id)))(hs:Ou b)(h:e9 (h9 prog w) A (C8 f env) (fun o q=>e9 (h9 prog w) A (C8 b env) (fun i g=>g.TypeIs o T/\e9 (h9 prog w) A (jn o i) Q E g) E q) E s):
  e9 (h9 prog w) A (C8 (.Subscript f b H) env) Q E s:=by
 refine pb (C6 h (fun o q D=>C6 D (fun i g m=>?_) fun _ _ x=>x) fun _ _ x=>x);obtain ⟨I,m⟩:=m;unfold qo;refine a7 ?_;rw [getitemInPython_of_ne I.not_modules];refine a7 (X1 I J ?_);have C:e9 (h9 prog w) A (ml b false o i) (fun r B=>e9 (h9 prog w) A (letTemporaryGo f o r >>= fun _=>D8 r) Q E B) E g:=by
  rw [hs o i];exact wpAny_operating (C6 m (fun r B G=>a7 (wpAny_letTemporaryGo (c6 G))) fun _ _ x=>x)
 first
 |exact c6 (a7 C)
 |exact a7 (c6 (a7 C))
 |exact a7 C
theorem HY(I:bB X ud σ H s)(g:pB H a y o):s.TypeIs (.ref a) "dict":=by
 rcases g with ⟨i,k,e,_,_⟩|⟨i,k,b,e,_,_,_⟩
 ·obtain ⟨_,_,m,_,f⟩:=uV I.hok e
  exact f.typeIs
 ·obtain ⟨_,_,q,_,f⟩:=uU I.hok e
  exact f.typeIs
noncomputable def Ce(td ty:TE):TE:=fun σ H Q=>td σ H fun x H1=>ty σ H1 fun y H2=>∃ a v,x=.ref a/\pB H2 a y (some v)/\Q v H2
noncomputable def Ku(ty td:TE):TE:=fun σ H Q=>ty σ H fun y H1=>td σ H1 fun x H2=>∃ a o,x=.ref a/\pB H2 a y o/\Q (.bl o.isSome) H2
noncomputable def KR(ty td:TE):TE:=fun σ H Q=>ty σ H fun y H1=>td σ H1 fun x H2=>∃ a o,x=.ref a/\pB H2 a y o/\Q (.bl (!o.isSome)) H2
noncomputable def Da(td ty tv:TE):TS:=fun D σ H=>tv σ H fun v H1=>td σ H1 fun x H2=>ty σ H2 fun y H3=>∃ a H4,x=.ref a/\RI H3 a y v H4/\D.nx σ H4
section
variable {X:Cx}{o i e value:A6}{pos pos' tpos:Pos}{td ty tv:TE}
theorem aW(K:X.A.units+1 < F6)(J:PE X o td)(G:PE X i ty)(hs:Ou i:=by intro _ _; rfl):PE X (.Subscript o i pos) (Ce td ty):=by
 intro b s q H Q I h;refine YU PySem.F.slot_dict_getitem.lookup hs (cY (J b s q H _ I h) fun u R ⟨x,w,C,O,M⟩=>cY (G b R q w _ C M) fun S T ⟨y,B,m,P,a,v,E,g,N⟩=>?_);subst E;obtain rfl:u=i6 a:=O;exact ⟨HY m g,QX K m g P fun W U D f=>⟨v,B,D,f,N⟩⟩
theorem CF(J:X.A.units+1 < F6)(E:PE X i ty)(G:PE X o td):PC X .In i o (Ku ty td):=by
 intro b s f H Q I h;refine cY (E b s f H _ I h) fun S R ⟨y,m,w,P,M⟩=>cY (G b R f m _ w M) fun u T ⟨x,q,B,O,a,K,D,g,N⟩=>?_;subst D;obtain rfl:u=i6 a:=O;exact Qw J B g P fun U C=>⟨.bl K.isSome,q,C,rfl,N⟩
theorem tS(J:X.A.units+1 < F6)(E:PE X i ty)(G:PE X o td):PC X .NotIn i o (KR ty td):=by
 intro b s f H Q I h;refine cY (E b s f H _ I h) fun S R ⟨y,m,w,P,M⟩=>cY (G b R f m _ w M) fun u T ⟨x,q,B,O,a,K,D,g,N⟩=>?_;subst D;obtain rfl:u=i6 a:=O;exact Bi J B g P fun U C=>⟨.bl (!K.isSome),q,C,rfl,N⟩
theorem iC(N:X.A.units+1 < F6)(M:PE X o td)(K:PE X i ty)(O:PE X value tv)(hs:gh value (some (.Subscript o i pos')) pos.line X.env=D8 false):
  PS X (.Assign [.Subscript o i pos'] value pos) (Da td ty tv):=by
 intro b s f H D I h;refine wpAny_Assign_Subscript (cY (O b s f H _ I h) fun r U ⟨v,m,B,rv,P⟩=>cY (M b U f m _ B P) fun u W ⟨x,q,C,S,Q⟩=>cY (K b W f q _ C Q) fun Z s3 ⟨y,Y,E,T,a,w,J,g,R⟩=>?_) hs;subst J;obtain rfl:u=i6 a:=S;exact QW N E g T rv fun s4 G=>⟨f,w,G,R⟩
end
theorem HX(h:u9)(b:sysModules < h.objs.size):dH P w H (h.push { cls:=.type "dict",data:=.dict #[] }) h.objs.size (.dK []):=
 ⟨y8 _,beq_eq_false_iff_ne.mpr (j3 (j4 b)),[],.nil,u9.DictOf.new h⟩
noncomputable def SA:TE:=fun _ H Q=>∀ p,H p=none->Q (.ref p) (upd H p (.dK []))
section
variable {X:Cx}{pos:Pos}
theorem lW:PE X (.Dict [] [] pos) SA:=fun b s f H Q I h =>
 wpAny_Dict_empty ⟨.ref s.heap.objs.size,_,I.laid (a:=s.heap.objs.size) (o:=.dK []) (t':=s.toks) (fun _ _ q=>c4 _ q) (i5 _) (HX s.heap I.big),rfl,h _ (I.hok.fresh (i5 _))⟩
end
noncomputable def IU:List (TE×TE)->St->Hp->(List (V×V)->Hp->Prop)->Prop
|[],_,H,Q=>Q [] H
|(tk,tv)::r,σ,H,Q=>tk σ H fun x H1=>tv σ H1 fun y H2=>IU r σ H2 fun ps H3=>Q ((x,y)::ps) H3
noncomputable abbrev VV:List (V×V)->List (a8×a8)->Prop:=Paired fun p q=>bG p.1 q.1/\bG p.2 q.2
noncomputable def Os(X:Cx)(pos:Pos)(keys:List (Option A6))(values:List A6)(trs:List (TE×TE)):Prop:=
 ∀(ud:List (b8×Obj)) (s:c5) (σ:St) (H:Hp) (Q:List (V×V)->Hp->Prop),bB X ud σ H s->IU trs σ H Q ->
  e9 (h9 X.prog X.w) X.A (evalPairs (pairTrees keys values X.env pos)) (fun vs s'=>∃ ps H',bB X ud σ H' s'/\VV ps vs/\Q ps H') X.xe s
theorem ZZ:Os X pos [] [] []:=fun b s f H Q I h=>pairTrees_nil_walk ⟨[],H,I,.nil,h⟩
theorem oM(hk:PE X k tk)(C:PE X v tv)(B:Os X pos ks vs trs):
  Os X pos (some k::ks) (v::vs) ((tk,tv)::trs):=fun b s g H Q I h =>
 pairTrees_cons_walk (cY (hk b s g H _ I h) fun u N ⟨x,i,q,K,E⟩=>cY (C b N g i _ q E) fun R O ⟨y,m,w,M,G⟩ =>
  cY (B b O g m _ w G) fun S P ⟨D,o,A,f,J⟩=>⟨(x,y)::D,o,A,.cons ⟨K,M⟩ f,J⟩)
noncomputable def iU(kvs more:List (aM×V)):List (aM×V):=more.foldl (fun uj kv=>eK uj kv.1 kv.2) kvs
theorem KV.merge:∀{b:List (aM×V)}{f:List (aM×a8)}{kvs:List (aM×V)}{vs:List (aM×a8)},KV b f->KV kvs vs->KV (iU kvs b) (merged vs f):=by
 intro b f kvs vs r;unfold KV at r
 induction r generalizing kvs vs with
|nil=>intro q; exact q
|@cons p q i m h t ih =>
  intro g;have e:KV (eK kvs p.1 p.2) (kx vs q.1 q.2):=by
   have:=g.put p.1 h.2;rw [← h.1]; exact this
  exact ih e
theorem lK:∀(b kvs:List (aM×V)),(iU kvs b).length<=kvs.length+b.length
|[],kvs=>by show kvs.length<=kvs.length+0; lia
|p::r,kvs=>by
  have f:=lK r (eK kvs p.1 p.2);have g:=oP kvs p.1 p.2;show (iU (eK kvs p.1 p.2) r).length<=_;rw [B7]; lia
theorem yK:∀{kvs:List (aM×V)}{g:List (a8×a8)},VV (kvs.map fun kv=>(kV kv.1,kv.2)) g->∃ f,Carries (bR P w) g f/\KV kvs f
|[],_,r=>by rw [rp] at r; cases r; exact ⟨[],F9,.nil⟩
|p::kvs,_,r=>by
  rw [D3] at r;cases r with
 |@cons a b as o h t =>
   obtain ⟨f,c,q⟩:=yK (P:=P) (w:=w) t;obtain ⟨m,i⟩:=b;exact ⟨(p.1,i)::f,⟨oQ h.1,rfl,c⟩,.cons ⟨rfl,h.2⟩ q⟩
noncomputable def Cd(trs:List (TE×TE)):TE:=fun σ H Q=>∀ p,H p=none->IU trs σ (upd H p (.dK [])) fun ps H2=>H2 p=some (.dK [])/\∃ kvs:List (aM×V),ps=kvs.map (fun kv=>(kV kv.1,kv.2))/\kvs.length<=15/\Q (.ref p) (upd H2 p (.dK (iU [] kvs)))
theorem Ac(h:Os X pos keys values trs)(f:keys.all (·.isSome)=true)(N:keys.length=values.length)(h0:keys≠[])(m:keys.length<=15):PE X (.Dict keys values pos) (Cd trs):=by
 intro i s Z H Q I q;have hn:=I.hok.fresh (i5 s.heap.objs.size);have D:=I.laid (a:=s.heap.objs.size) (o:=.dK []) (h':=s.heap.push { cls:=.type "dict",data:=.dict #[] }) (t':=s.toks) (fun _ _ q=>c4 _ q) (i5 _) (HX s.heap I.big);refine wpAny_Dict_walk (knd:=bR X.prog X.w) f N h0 m (cY (h i _ Z _ _ D (q _ hn)) fun ws s2 ⟨ps,H2,B,A,e,g,G,lk,S⟩=>?_);subst G;obtain ⟨W,c,U⟩:=yK (P:=X.prog) (w:=X.w) A;obtain ⟨z,K,Y,T,E⟩:=yG B.hok e;cases T;refine ⟨W,c,E,fun C b hs=>⟨.ref s.heap.objs.size,_,?_,rfl,S⟩⟩;have R:(iU [] g).length<=j0:=by
  have J:=lK g [];rw [Z6] at J;rw [p7]; lia
 have M:∃ q,C.get? s.heap.objs.size=some q:=let ⟨q,_,_,O,_⟩:=b; ⟨q,O⟩;exact sU B (by rw [e]; exact F9) hs M (yH R K (U.merge .nil) b)
structure M1(X:Cx)(o:A6)(m:Str)(ug:Pos)(e:A6)(uh:Pos):Prop where
 base:M6 o m X.env (C8 o X.env)=C8 o X.env
 few:((K3 uh (j8 [e] X.env)).all (fun x=>!x.1)&&(ce uh (T9 [] X.env)).all (fun x=>x.1.isSome)
  && decide (([e]:List A6).length+([]:List dg).length+(if ([]:List dg).isEmpty then 0 else 1) < 30))=true
 line:(ug.endLine==uh.line)=true
 trees:K3 uh (j8 [e] X.env)=[(false,C8 e X.env)]
structure M2(X:Cx)(o:A6)(m:Str)(ug:Pos)(e f:A6)(uh:Pos):Prop where
 base:M6 o m X.env (C8 o X.env)=C8 o X.env
 few:((K3 uh (j8 [e,f] X.env)).all (fun x=>!x.1)&&(ce uh (T9 [] X.env)).all (fun x=>x.1.isSome)
  && decide (([e,f]:List A6).length+([]:List dg).length+(if ([]:List dg).isEmpty then 0 else 1) < 30))=true
 line:(ug.endLine==uh.line)=true
 trees:K3 uh (j8 [e,f] X.env)=[(false,C8 e X.env),(false,C8 f X.env)]
noncomputable def Jw(H:Hp)(a:b8):Prop:=(∃ kvs,Rd H a (.dK kvs))∨∃ kvs,Rd H a (.dT kvs)
theorem JT(I:bB X ud σ H s)(d:Jw H a):
  s.TypeIs (.ref a) "dict"/\(∀ b,i6 a=.ref b->∃ f,s.heap.get? b=some f/\f.dict=none)/\(a==sysModules)=false:=by
 rcases d with ⟨w,e⟩|⟨w,e⟩
 ·obtain ⟨_,o,A,_,g⟩:=uV I.hok e
  refine ⟨g.typeIs,fun b q=>?_,o⟩;cases q;obtain ⟨f,_,_,i,m,_⟩:=g;exact ⟨f,i,m.2.1⟩
 ·obtain ⟨_,o,B,_,g⟩:=uU I.hok e
  refine ⟨g.typeIs,fun b q=>?_,o⟩;cases q;obtain ⟨f,_,_,i,m,_⟩:=g;exact ⟨f,i,m.2.1⟩
section
variable {X:Cx}{ud:List (b8×Obj)}{σ:St}{H:Hp}{s:c5}{a:b8}{y d:V}{u r:a8}{o:Option V}{A:q4}{E:a8 -> c5 -> Prop}
theorem Jf(G:A.units+1 < F6)(I:bB X ud σ H s)(g:pB H a y o)(C:bG y u)(h:∀ w' s',bB X ud σ H s'->bG (o.getD .non) w'->Q w' s'):
  e9 (h9 X.prog X.w) A (ax (.builtin "dict.get") [.ref a,u]) Q E s:=by
 rcases g with ⟨B,k,e,m,l⟩|⟨B,k,b,e,m,D,l⟩
 ·subst m
  obtain ⟨z,q,K,f,i⟩:=uV I.hok e;refine db W1 i.typeIs fy (ki _ _) (meets_dict_get (bR X.prog X.w) a (oQ C) q) ⟨_,i.mapOf,h _ _ (I.tok _) ?_⟩;rw [l];exact (f.val k).getD rfl
 ·subst m
  cases (show u=i6 b from C);obtain ⟨z,q,J,f,i⟩:=uU I.hok e;refine db W1 i.typeIs fy (ki _ _) (meetsH_dict_get (br (bR X.prog X.w)) a b q) ⟨O5 G,k,J,qR I.hok D,i,h _ _ (I.tok _) ?_⟩;rw [l];exact (f.val k).getD rfl
theorem Je(J:A.units+1 < F6)(I:bB X ud σ H s)(g:pB H a y o)(D:bG y u)(C:bG d r)(h:∀ w' s',bB X ud σ H s'->bG (o.getD d) w'->Q w' s'):
  e9 (h9 X.prog X.w) A (ax (.builtin "dict.get") [.ref a,u,r]) Q E s:=by
 rcases g with ⟨B,k,e,m,l⟩|⟨B,k,b,e,m,G,l⟩
 ·subst m
  obtain ⟨z,q,M,f,i⟩:=uV I.hok e;refine db W1 i.typeIs fy (kh _ _ _) (meets_dict_get_default (bR X.prog X.w) a (oQ D) q r) ⟨_,i.mapOf,h _ _ (I.tok _) ?_⟩;rw [l];exact (f.val k).getD C
 ·subst m
  cases (show u=i6 b from D);obtain ⟨z,q,K,f,i⟩:=uU I.hok e;refine db W1 i.typeIs fy (kh _ _ _) (meetsH_dict_get_default (br (bR X.prog X.w)) a b q r) ⟨O5 J,k,K,qR I.hok G,i,h _ _ (I.tok _) ?_⟩;rw [l];exact (f.val k).getD C
end
noncomputable def SC(td ty:TE):TE:=fun σ H Q=>td σ H fun x H1=>∃ a,x=.ref a/\Jw H1 a/\ty σ H1 fun y H2=>∃ o,pB H2 a y o/\Q (o.getD .non) H2
noncomputable def SB(td ty tx:TE):TE:=fun σ H Q=>td σ H fun x H1=>∃ a,x=.ref a/\Jw H1 a/\ty σ H1 fun y H2=>tx σ H2 fun z H3=>∃ o,pB H3 a y o/\Q (o.getD z) H3
noncomputable def RZ(td ty:TE):TE:=fun σ H Q=>td σ H fun x H1=>∃ a,x=.ref a/\Jw H1 a/\ty σ H1 fun y H2=>∃ kvs k v,H2 a=some (.dK kvs)/\y=kV k/\bJ kvs k=some v/\Q v (upd H2 a (.dK (eL kvs k)))
section
variable {X:Cx}{o e f:A6}{ug uh:Pos}{td ty tx:TE}
theorem rZ(M:X.A.units+1 < F6)(K:PE X o td)(J:PE X e ty)(m:M1 X o "get" ug e uh):PE X (.Call (.Attribute o "get" ug) [e] [] uh) (SC td ty):=by
 intro b s w H Q I h;refine aq m.base m.few m.line R9 W1 type_dict_get (cY (K b s w H _ I h) fun u S ⟨x,B,q,P,a,G,d,N⟩=>?_);subst G;obtain rfl:u=i6 a:=P;obtain ⟨T,U,_⟩:=JT q d;refine ⟨T,U,?_⟩;rw [m.trees];refine R7 rfl (V3 (N8 (cY (J b S w B _ q N) fun W Z ⟨y,C,D,R,Y,g,O⟩=>R6 ?_)));exact Jf M D g R fun w' s3 E i=>⟨_,C,E,i,O⟩
theorem iD(P:X.A.units+1 < F6)(O:PE X o td)(M:PE X e ty)(N:PE X f tx)(m:M2 X o "get" ug e f uh):PE X (.Call (.Attribute o "get" ug) [e,f] [] uh) (SB td ty tx):=by
 intro b s q H Q I h;refine aq m.base m.few m.line R9 W1 type_dict_get (cY (O b s q H _ I h) fun u Z ⟨x,B,w,U,a,K,d,R⟩=>?_);subst K;obtain rfl:u=i6 a:=U;obtain ⟨t1,t2,_⟩:=JT w d;refine ⟨t1,t2,?_⟩;rw [m.trees];refine R7 rfl (V3 (N8 (cY (M b Z q B _ w R) fun iv s2 ⟨y,C,E,W,S⟩ =>
  N8 (cY (N b s2 q C _ E S) fun fv s3 ⟨z,D,G,Y,ov,g,T⟩=>R6 ?_))))
 exact Je P G g W Y fun w' s4 J i=>⟨_,D,J,i,T⟩
theorem VG(J:PE X o td)(G:PE X e ty)(m:M1 X o "pop" ug e uh):PE X (.Call (.Attribute o "pop" ug) [e] [] uh) (RZ td ty):=by
 intro b s q H Q I h;refine aq m.base m.few m.line R9 slot_dict_pop PySem.F.type_dict_pop (cY (J b s q H _ I h) fun u R ⟨x,w,i,O,a,D,d,M⟩=>?_);subst D;obtain rfl:u=i6 a:=O;obtain ⟨S,T,_⟩:=JT i d;refine ⟨S,T,?_⟩;rw [m.trees];refine R7 rfl (V3 (N8 (cY (G b R q w _ i M) fun W Y ⟨y,U,A,P,K,k,v,C,E,l,N⟩=>R6 ?_)));subst E;exact Oi A C P l (.inl rfl) fun w' Z B g=>⟨v,_,B,g,N⟩
end
section
variable {X:Cx}{ud:List (b8×Obj)}{σ:St}{H:Hp}{s:c5}{a:b8}{kvs:List (aM×V)}{A:q4}{E:a8 -> c5 -> Prop}
end
section
variable {X:Cx}{ud:List (b8×Obj)}{σ:St}{H:Hp}{s:c5}{a:b8}{y:V}{u:a8}{A:q4}{E:a8 -> c5 -> Prop}
end
section
variable {κ:Type}[DecidableEq κ]
theorem QT{p:κ×V}{r:List (κ×V)}{k:κ}(e:p.1=k):eL (p::r) k=eL r k:=by
 unfold eL;rw [U0,if_neg (by simp [e])]
theorem QU{p:κ×V}{r:List (κ×V)}{k:κ}(e:¬ p.1=k):eL (p::r) k=p::eL r k:=by
 unfold eL;rw [U0,if_pos (by simp [e])]
end
noncomputable def Sm(n:Nat)(x:Int):Prop:=x.natAbs < 2 ^ n
theorem Sm.mono(h:Sm m x)(l:m<=n):Sm n x:=c9 h (Q8 (by decide) l)
theorem Sm.bits(h:Sm n x):km x<=n:=by
 unfold km;split
 ·exact y8 _
 ·have hn:x.natAbs < 2 ^ n:=h
  rename_i f;have b:x.natAbs≠0:=fun e=>f (by rw [show x=0 by lia]; rfl);have:x.natAbs.log2 < n:=(qz b).mpr hn;lia
theorem Sm.mulOk(f:Sm m a)(g:Sm n b)(h:m+n<=134217728):IntMulOk a b:=PyProof.Rows.mulOk_of_bits f.bits g.bits h
theorem Sm.log2(h:Sm n x):x.natAbs.log2 < n+1:=by
 have hn:x.natAbs < 2 ^ n:=h;by_cases b:x.natAbs=0
 ·rw [b,Nat.log2_zero]; lia
 ·have:=(qz b).mpr hn
  lia
theorem Sm.of{n:Nat}{x:Int}(b:-(2 ^ n:Nat) < x)(f:x < (2 ^ n:Nat)):Sm n x:=by
 unfold Sm;generalize 2 ^ n=k at *;lia
theorem Sm.mul(f:Sm m a)(g:Sm n b):Sm (m+n) (a * b):=by
 unfold Sm at *;rw [C4,Nat.pow_add];exact Nat.mul_lt_mul'' f g
theorem Sm.le(h:a.natAbs<=b.natAbs)(f:Sm n b):Sm n a:=B8 h f
section
variable {X:Cx}
noncomputable def pC(_ j:Int):Prop:=j≠0/\Sm 8000 j
theorem bN:kJ X (O1 .FloorDiv) (rI pC fun i j=>.int (i.fdiv j)):=Nk fun _ _ _ _ _ _ _ b q=>floordiv_int b.1 q (.inl (PyProof.noPylong_of_log2 (bu b.2.log2 (by decide))))
noncomputable def eU(i j:Int):Prop:=Jy i j∨(Sm 60000000 i/\Sm 60000000 j)
theorem eU.ok(h:eU i j):IntMulOk i j:=by
 rcases h with h|⟨b,f⟩
 ·exact h.ok
 ·exact b.mulOk f (by decide)
theorem eU.l(b:-(2 ^ 64) < i)(f:i < 2 ^ 64):eU i j:=.inl (.inl ⟨b,f⟩)
theorem eU.r(b:-(2 ^ 64) < j)(f:j < 2 ^ 64):eU i j:=.inl (.inr ⟨b,f⟩)
theorem eU.s(b:Sm m i)(f:Sm n j)(g:m<=60000000)(hn:n<=60000000):eU i j:=.inr ⟨b.mono g,f.mono hn⟩
theorem cX:kJ X (O1 .Mult) (rI eU fun i j=>.int (i * j)):=Nk fun _ _ _ _ _ _ _ b q=>mul_int q b.ok
noncomputable def Dq(K:m7)(T:String):List V->Hp->VK->Prop:=fun xs H Q=>∃ x t b,xs=[x,.ty T]/\oZ K H x t/\R0 K t (.type T)=some b/\Q (.bl b) H
theorem pO:iM X (.builtin "isinstance") (Dq X.K T):=by
 intro f s o H m i Q I r h;obtain ⟨x,t,b,rfl,ty,e,q⟩:=h;obtain ⟨u,v,rfl,g,rv⟩:=bO.two r;obtain rfl:v=K1 T:=rv;exact QH I g ty e fun tk=>⟨.bl b,H,I.tok tk,rfl,q⟩
end
section
variable {σ:St}{H H':Hp}{Q:VK}{D:iI}{t u:TS}{te ta tb:TE}{v w x:V}{i j:Int}{b c:Bool}{X:Cx}{K:m7}
theorem Lj(h:σ[n]?=some (some v))(k:Q v H):Fc n σ H Q:=⟨v,h,k⟩
theorem r_c(k:Q v H):tC v σ H Q:=k
theorem kY(k:t ⟨u D,D.rt,D.bk,D.ct⟩ σ H):Kl t u D σ H:=k
theorem xC{n r b' c'}(k:n σ H):iI.nx ⟨n,r,b',c'⟩ σ H:=k
theorem Pz{n r b' c'}(k:r v H):iI.rt ⟨n,r,b',c'⟩ v H:=k
theorem Qe{n r b' c'}(k:c' σ H):iI.ct ⟨n,r,b',c'⟩ σ H:=k
theorem Fv(k:D.nx σ H):Ca D σ H:=k
theorem Gj(k:D.ct σ H):Cf D σ H:=k
theorem Mq(k:te σ H fun x H1=>g x σ H1 D.nx):SH te g D σ H:=k
theorem ZK(k:R (σ.set n (some v)) H):gM n v σ H R:=k
theorem Qb(k:ta σ H fun x H1=>tb σ H1 fun y H2=>r x y H2 Q):Kr r ta tb σ H Q:=k
theorem Pw{r}(k:ta σ H fun x H1=>r x H1 Q):Rk r ta σ H Q:=k
theorem Mt{g}(k:Q (g i j) H):YG g (.int i) (.int j) H Q:=⟨i,j,rfl,rfl,k⟩
theorem Dl{C g}(c:C i j)(k:Q (g i j) H):rI C g (.int i) (.int j) H Q:=⟨i,j,rfl,rfl,c,k⟩
theorem r_U{g}(k:Q (g i) H):rU g (.int i) H Q:=⟨i,rfl,k⟩
noncomputable def bK(R:Bool->Hp->Prop):VK:=fun x H=>∃ k,x=.bl k/\R k H
theorem Qg(k:R b H):bK R (.bl b) H:=⟨b,rfl,k⟩
theorem Fj(k:te σ H (bK R)):RY te σ H R:=k
theorem Px(k:te σ H (bK R)):tB te σ H R:=k
theorem Mf(k:tc σ H fun b H1=>if b=true then t D σ H1 else u D σ H1):Kt tc t u D σ H:=k
theorem Qd(k:tc σ H fun b H1=>if b=true then ta σ H1 Q else tb σ H1 Q):Rn tc ta tb σ H Q:=k
theorem Mr(k:ca σ H fun c H1=>if c=true then cb σ H1 R else R false H1):Kw ca cb σ H R:=k
theorem Qa(k:ca σ H fun c H1=>if c=true then R true H1 else cb σ H1 R):Rm ca cb σ H R:=k
theorem Lx(k:ca σ H fun c H1=>R (!c) H1):Ks ca σ H R:=k
noncomputable def Ol(tb:TE)(σ:St)(Q:VK):VK:=fun x H1=>∃ c,x=.bl c/\if c=true then tb σ H1 Q else Q (.bl false) H1
noncomputable def Rq(tb:TE)(σ:St)(Q:VK):VK:=fun x H1=>∃ c,x=.bl c/\if c=true then Q (.bl true) H1 else tb σ H1 Q
noncomputable def Nn(Q:VK):VK:=fun x H1=>∃ c,x=.bl c/\Q (.bl (!c)) H1
theorem Gr(k:ta σ H (Ol tb σ Q)):Ch ta tb σ H Q:=k
theorem Lr(k:ta σ H (Rq tb σ Q)):Ko ta tb σ H Q:=k
theorem Fq(k:ta σ H (Nn Q)):Bz ta σ H Q:=k
theorem Gs(k:if c=true then tb σ H Q else Q (.bl false) H):Ol tb σ Q (.bl c) H:=⟨c,rfl,k⟩
theorem Lu(k:if c=true then Q (.bl true) H else tb σ H Q):Rq tb σ Q (.bl c) H:=⟨c,rfl,k⟩
theorem Fs(k:Q (.bl (!c)) H):Nn Q (.bl c) H:=⟨c,rfl,k⟩
theorem Lp(k:te σ H D.rt):Km te D σ H:=k
theorem Gf(k:te σ H fun _ H1=>D.nx σ H1):Cc te D σ H:=k
theorem De(k:R [] H):BN σ H R:=k
theorem Gm(k:ta σ H fun x H1=>tr σ H1 fun xs H2=>R (x::xs) H2):Cg ta tr σ H R:=k
noncomputable def Ex(Q:VK):List V->Hp->Prop:=fun xs H1=>xs.length<=j0/\∀ p,H1 p=none->Q (.ref p) (upd H1 p (.tup xs))
noncomputable def Ia(Q:VK):List V->Hp->Prop:=fun xs H1=>xs.length<=j0/\∀ p,H1 p=none->Q (.ref p) (upd H1 p (.lst xs))
theorem vM(h:n<=1000):n<=j0:=Q2 (eA h)
theorem Lm(k:tr σ H (Ex Q)):Kj tr σ H Q:=k
theorem Dg(k:tr σ H (Ia Q)):OR tr σ H Q:=k
theorem bC(k:∀ p,H p=none->Q (.ref p) (upd H p (.tup xs)))(h:xs.length<=1000:=by exact v9 rfl):Ex Q xs H:=⟨vM h,k⟩
theorem dA(k:∀ p,H p=none->Q (.ref p) (upd H p (.lst xs)))(h:xs.length<=1000:=by exact v9 rfl):Ia Q xs H:=⟨vM h,k⟩
theorem Gp(k:tr σ H fun vs f=>sp vs f Q E):ET sp [] E tr σ H Q:=by
 show tr σ H fun vs f=>sp (vs++[]) f Q E;have e:(fun(vs:List V) f=>sp (vs++[]) f Q E)=fun vs f=>sp vs f Q E:=by
  funext vs f;rw [D6]
 rw [e]; exact k
theorem Qh{r}(k:tr σ H fun vs H1=>r vs H1 Q):Kv r tr σ H Q:=k
theorem Lq{f:TA}(k:f σ H fun vs H1=>∃ v w,vs=[v,w]/\D.nx ((σ.set n (some v)).set m (some w)) H1):Kn n m f D σ H:=k
theorem Mi(k:Q (.bl (decide (i=j))) H):Qk (.int i) (.int j) H Q:=⟨rfl,by rw [vS,U4]; exact k⟩
theorem Ly(k:Q (.bl (!decide (i=j))) H):Qi (.int i) (.int j) H Q:=⟨rfl,by rw [vS,U4]; exact k⟩
theorem Di(h:cP K H p xs)(e:yN xs i=some v)(k:Q v H):ZW K (.ref p) (.int i) H Q:=⟨p,xs,i,v,rfl,rfl,h,e,k⟩
theorem Md(h:EC K H p xs)(e:yN xs i=some v)(k:Q v H):ZV K (.ref p) (.int i) H Q:=⟨p,xs,i,v,rfl,rfl,h,e,k⟩
noncomputable def AI(K:m7):R2:=fun x y H Q=>ZW K x y H Q∨ZV K x y H Q∨Gx x y H Q
theorem aQ:YC X (AI X.K):=Ir
theorem gI(h:H p=some (.lst xs))(e:yN xs i=some v)(k:Q v H):AI K (.ref p) (.int i) H Q:=.inl (Di (cP.of h) e k)
theorem MG(h:H p=some (.tup xs))(e:yN xs i=some v)(k:Q v H):AI K (.ref p) (.int i) H Q:=.inr (.inl (Md (EC.of h) e k))
theorem Rr{A B:Prop}(h:A):if true=true then A else B:=Nw h
theorem Rs{A B:Prop}(h:B):if false=true then A else B:=Nx h
theorem Iw{p A B:Prop}[Decidable p](hp:p)(h:A):if decide p=true then A else B:=by rw [decide_eq_true hp]; exact Nw h
theorem Ny{p A B:Prop}[Decidable p](hp:¬ p)(h:B):if decide p=true then A else B:=by rw [decide_eq_false hp]; exact Nx h
theorem rC{p A B:Prop}[Decidable p](f:p->A)(g:¬ p->B):if decide p=true then A else B:=by
 by_cases h:p
 ·exact Iw h (f h)
 ·exact Ny h (g h)
theorem Iv{A B:Prop}(h:if b=true then B else A):if (!b)=true then A else B:=by cases b <;> exact h
theorem qS{A B:Prop}(f:b=true)(h:A):if b=true then A else B:=by rw [f]; exact Rr h
theorem fO{A B:Prop}(f:b=false)(h:B):if b=true then A else B:=by rw [f]; exact Rs h
end
noncomputable def Kp(p:b8)(H H':Hp):Prop:=∀ b o,b≠p->H b=some o->H' b=some o
theorem Kp.refl(p:b8)(H:Hp):Kp p H H:=fun _ _ _ h=>h
theorem Kp.trans(a:Kp p H H1)(b:Kp p H1 H2):Kp p H H2:=fun c o n h=>b c o n (a c o n h)
theorem Kp.upd:Kp p H (upd H p o):=fun c u n h=>by rw [aZ n]; exact h
theorem Kp.new(b:H q=none):Kp p H (L2.upd H q o):=fun c u n h=>by rw [aZ (aB h b)]; exact h
theorem aJ.new(b:H q=none):aJ H (upd H q o):=fun c u h=>by rw [aZ (aB h b)]; exact h
theorem aJ.kp(s:aJ H H'):Kp p H H':=fun c o _ h=>s c o h
noncomputable def Ru(H:Hp)(p:b8)(n:Int):Prop:=∃ a b c:Int,H p=some (.lst [.int a,.int b,.int c])/\0<=a/\0<=b/\b<=n
structure Df(K:m7)(mg:Str->Option a8)(x:Str)(st:A1)(ps:List Str):Prop where
 ex:∃(f:b8)(fd:D4),(∃(oc:a8)(od:Option b8)(dV kV doc pm:a8)(an:Option b8)(ui ct:a8)(osl:Array (Option a8)),
  fd=V1 x x (bQ st) (bL st) (aG st) dV kV doc pm an ui ct/\K.lookup f=some ⟨oc,od,.func fd,osl⟩/\w8 K ui x=true)/\n7 K (.ref f)=true/\mg x=some (.ref f)/\fR K fd ps []
structure bZ(P:j2)(w:k6)(K:m7)(mg:Str->Option a8)(base:u9)(k:Nat)(x:Str)(ps:List Str)(sp:Sp):Prop where
 ex:∃(f:b8)(fd:D4),mg x=some (.ref f)/\n7 K (.ref f)=true/\fR K fd ps []/\mG P w K mg base mI k f fd ps sp
theorem bZ.mono{P:j2}{w:k6}{K:m7}{i:Str->Option a8}{g:u9}{j k:Nat}{x:Str}{ps:List Str}{sp:Sp}(o:bZ P w K i g j x ps sp)(h:j<=k):bZ P w K i g k x ps sp:=
 let ⟨f,m,a,b,c,d⟩:=o.ex; ⟨f,m,a,b,c,d.mono h⟩
theorem bZ.of{P:j2}{w:k6}{K:m7}{G:Str->Option a8}{m:u9}{k:Nat}{x:Str}{st:A1}{N ps:List Str}{sp:Sp}(d:Df K G x st ps)(S:aO N ps (aG st))(D:∀ vs H Q E,sp vs H Q E->vs.length=ps.length)
  (o:∀ (f:b8) (i:a8) (A:q4)(g:List Env)(s:c5)(H:Hp)(vs:List V)(Q:VK)(E:XK),eR k (A.deeper (X4 x (aG st) s.heap.objs.size f i))->sp vs H Q E ->
   ∃ t,BH (vA mI P w K G m N x (aG st) f i A g s H E).nox (bL st) t/\t { nx:=fun _ H'=>Q .non H',rt:=Q } (start N vs) H):bZ P w K G m (k+1) x ps sp:=by
 obtain ⟨f,W,⟨X,Y,U,kV,I,Z,R,i,T,O,rfl,M,B⟩,kp,a,b⟩:=d.ex;refine ⟨f,_,a,kp,b,AV M B S D fun A g s H vs Q E J C=>?_⟩;obtain ⟨t,h,q⟩:=o f i A g s H vs Q E J C;exact ⟨t,h.nox,q⟩
theorem df_mk{K:m7}{A:Str->Option a8}{h:u9}{x:Str}{st:A1}{ps:List Str}{f:b8}{B:a8}{C o:Option b8}{m:Array (Option a8)}{s kV i w g q:a8}(X:K.In h)(G:h.Ns r9 A)(a:rn K r9 x=some (some (.ref f)))(l:K.lookup f=some ⟨B,C,.func (V1 x x (bQ st) (bL st) (aG st) s kV i w o g q),m⟩)(c:w8 K g x=true)(k:n7 K (.ref f)=true)(b:∀ us:List a8,us.length=ps.length->oq (V1 x x (bQ st) (bL st) (aG st) s kV i w o g q) ⟨us,[]⟩=D8 (ps.zip us)):Df K A x st ps:=
 ⟨f,_,⟨B,C,s,kV,i,w,o,g,q,m,rfl,l,c⟩,k,mg_of X G a,.all b⟩
structure Ep(K:m7)(mg:Str->Option a8)(x:Str)(st:A1)(ps:List Str)(dvs:List V):Prop where
 ex:∃(f:b8)(fd:D4),(∃(oc:a8)(od:Option b8)(dV kV doc pm:a8)(an:Option b8)(ui ct:a8)(osl:Array (Option a8)),
  fd=V1 x x (bQ st) (bL st) (aG st) dV kV doc pm an ui ct/\K.lookup f=some ⟨oc,od,.func fd,osl⟩/\w8 K ui x=true)/\n7 K (.ref f)=true/\mg x=some (.ref f)/\fR K fd ps []/\∃ ds,bO dvs ds/\fR K fd ps ds
structure nW(P:j2)(w:k6)(K:m7)(mg:Str->Option a8)(base:u9)(k:Nat)(x:Str)(ps:List Str)(dvs:List V)(sp:Sp):Prop where
 ex:∃(f:b8)(fd:D4),mg x=some (.ref f)/\n7 K (.ref f)=true/\fR K fd ps []/\(∃ ds,bO dvs ds/\fR K fd ps ds)/\mG P w K mg base mI k f fd ps sp
theorem nW.mono{P:j2}{w:k6}{K:m7}{m:Str->Option a8}{g:u9}{j k:Nat}{x:Str}{ps:List Str}{i:List V}{sp:Sp}(o:nW P w K m g j x ps i sp)(h:j<=k):nW P w K m g k x ps i sp:=
 let ⟨f,q,a,b,c,e,d⟩:=o.ex; ⟨f,q,a,b,c,e,d.mono h⟩
theorem nW.f{P:j2}{w:k6}{K:m7}{m:Str->Option a8}{g:u9}{k:Nat}{x:Str}{ps:List Str}{i:List V}{sp:Sp}(o:nW P w K m g k x ps i sp):bZ P w K m g k x ps sp:=
 let ⟨f,q,a,b,c,_,d⟩:=o.ex; ⟨f,q,a,b,c,d⟩
theorem nW.of{P:j2}{w:k6}{K:m7}{I:Str->Option a8}{m:u9}{k:Nat}{x:Str}{st:A1}{N ps:List Str}{B:List V}{sp:Sp}(d:Ep K I x st ps B)(S:aO N ps (aG st))(G:∀ vs H Q E,sp vs H Q E->vs.length=ps.length)
  (o:∀ (f:b8) (i:a8) (A:q4)(g:List Env)(s:c5)(H:Hp)(vs:List V)(Q:VK)(E:XK),eR k (A.deeper (X4 x (aG st) s.heap.objs.size f i))->sp vs H Q E ->
   ∃ t,BH (vA mI P w K I m N x (aG st) f i A g s H E).nox (bL st) t/\t { nx:=fun _ H'=>Q .non H',rt:=Q } (start N vs) H):nW P w K I m (k+1) x ps B sp:=by
 obtain ⟨f,Y,⟨Z,od,X,kV,M,pm,U,i,W,T,rfl,R,C⟩,kp,a,b,J⟩:=d.ex;refine ⟨f,_,a,kp,b,J,AV R C S G fun A g s H vs Q E O D=>?_⟩;obtain ⟨t,h,q⟩:=o f i A g s H vs Q E O D;exact ⟨t,h.nox,q⟩
theorem JZ{K:m7}{E:Str->Option a8}{h:u9}{x:Str}{st:A1}{ps:List Str}{f T:b8}{H:a8}{I w:Option b8}{q:Array (Option a8)}{kV i C g A:a8}{o:Obj}{items:Array a8}{n:Nat}{m:List V}{ds:List a8}(X:K.In h)(G:h.Ns r9 E)(a:rn K r9 x=some (some (.ref f)))(l:K.lookup f=some ⟨H,I,.func (V1 x x (bQ st) (bL st) (aG st) (.ref T) kV i C w g A),q⟩)(c:w8 K g x=true)(k:n7 K (.ref f)=true)(t:K.lookup T=some o)(N:o.data=.seq items n)(b:∀(s:c5)(us:List a8),s.heap.get? T=some o->us.length=ps.length->E4 s (V1 x x (bQ st) (bL st) (aG st) (.ref T) kV i C w g A) ⟨us,[]⟩ (ps.zip us))(M:bO m ds)(J:∀(s:c5)(us:List a8),s.heap.get? T=some o->(us++ds).length=ps.length->E4 s (V1 x x (bQ st) (bL st) (aG st) (.ref T) kV i C w g A) ⟨us,[]⟩ (ps.zip (us++ds))):Ep K E x st ps m:=
 ⟨f,_,⟨H,I,.ref T,kV,i,C,w,g,A,q,rfl,l,c⟩,k,mg_of X G a,fun s us D B=>by rw [D6] at B ⊢; exact b s us (D T o t) B,ds,M,fun s us D B=>J s us (D T o t) B⟩
section
variable {X:Cx}{k:Nat}{x:Str}{ps:List Str}{dvs:List V}{sp:Sp}{p pos:Pos}{e:A6}{es:List A6}{t:TA}
theorem VI(o:nW X.prog X.w X.K X.mg X.base k x ps dvs sp)(B:eR k X.A)(s:Gl X x)(m:PA X (e::es) t)(g:(x==("__debug__":Str))=false:=by decide)(q:j8 (e::es) X.env=(false,C8 e X.env)::j8 es X.env:=by rfl)(i:(K3 pos (j8 es X.env)).any (·.1)=false:=by rfl):
  PE X (.Call (.Name x p) (e::es) [] pos) (ET sp dvs E0 t):=by
 obtain ⟨f,E,a,b,_,⟨D,C,c⟩,d⟩:=o.ex;exact MZ d B s a b c C fI m g q i
theorem ZS(k:tr σ H fun vs H1=>sp (vs++dvs) H1 Q E):ET sp dvs E tr σ H Q:=k
end
section
variable {X:Cx}{k:Nat}{x:Str}{ps:List Str}{sp:Sp}{p pos:Pos}{e:A6}{es:List A6}{t:TA}
theorem aI(o:bZ X.prog X.w X.K X.mg X.base k x ps sp)(B:eR k X.A)(s:Gl X x)(m:PA X (e::es) t)(g:(x==("__debug__":Str))=false:=by decide)(q:j8 (e::es) X.env=(false,C8 e X.env)::j8 es X.env:=by rfl)(i:(K3 pos (j8 es X.env)).any (·.1)=false:=by rfl):
  PE X (.Call (.Name x p) (e::es) [] pos) (ET sp [] E0 t):=by
 obtain ⟨f,C,a,b,c,d⟩:=o.ex;exact MZ d B s a b c .nil fI m g q i
end
section
variable {σ:St}{H:Hp}{Q:VK}{D:iI}{v:V}{i j:Int}{K:m7}
theorem Mc(h:cP K H p xs)(e:yN xs i=some v)(k:Q v H):AI K (.ref p) (.int i) H Q:=.inl (Di h e k)
theorem oK(h:0 < j)(k:Q (.int (i % j)) H):rI (fun _ j=>0 < j) (fun i j=>.int (i % j)) (.int i) (.int j) H Q:=Dl h k
theorem kZ(h:eU i j)(k:Q (.int (i * j)) H):rI eU (fun i j=>.int (i * j)) (.int i) (.int j) H Q:=Dl h k
theorem pC.of(h0:0 < j)(b:j < 2 ^ 64):pC i j:=⟨by lia,Sm.mono (m:=64) (Sm.of (by lia) (by lia)) (by decide)⟩
theorem iP(h:pC i j)(k:Q (.int (i.fdiv j)) H):rI pC (fun i j=>.int (i.fdiv j)) (.int i) (.int j) H Q:=Dl h k
theorem Fn(k:Q (.int 1000000000) H):rI YE (fun i j=>.int (i ^ j.toNat)) (.int 10) (.int 9) H Q:=Dl ⟨by decide,by decide,by decide⟩ k
theorem Fp(k:D.nx ((σ.set n (some v)).set m (some w)) H):∃ b f,[v,w]=[b,f]/\D.nx ((σ.set n (some b)).set m (some f)) H:=⟨v,w,rfl,k⟩
end
theorem Jm:x9 "int"=some (.type "int"):=by k_is
theorem Bn:x9 "bool"=some (.type "bool"):=by k_is
theorem XQ:x9 "str"=some (.type "str"):=by k_is
theorem Bm:x9 "list"=some (.type "list"):=by k_is
theorem XO:x9 "tuple"=some (.type "tuple"):=by k_is
theorem DX:x9 "dict"=some (.type "dict"):=by k_is
theorem Jl:x9 "set"=some (.type "set"):=by k_is
theorem DW:x9 "enumerate"=some (.type "enumerate"):=by k_is
theorem Jk:x9 "zip"=some (.type "zip"):=by k_is
theorem eY:x9 "len"=some (.builtin "len"):=by k_is
theorem KB:x9 "abs"=some (.builtin "abs"):=by k_is
theorem DV:x9 "max"=some (.builtin "max"):=by k_is
theorem DU:x9 "min"=some (.builtin "min"):=by k_is
theorem jA:x9 "isinstance"=some (.builtin "isinstance"):=by k_is
theorem mE:x9 "sorted"=some (.builtin "sorted"):=by k_is
structure Bl(mg:Str->Option a8):Prop where
 z_int:mg "int"=none
 z_bool:mg "bool"=none
 z_str:mg "str"=none
 z_list:mg "list"=none
 z_tuple:mg "tuple"=none
 z_dict:mg "dict"=none
 z_set:mg "set"=none
 z_range:mg "range"=none
 z_enumerate:mg "enumerate"=none
 z_zip:mg "zip"=none
 z_reversed:mg "reversed"=none
 z_len:mg "len"=none
 z_abs:mg "abs"=none
 z_max:mg "max"=none
 z_min:mg "min"=none
 z_isinstance:mg "isinstance"=none
 z_sorted:mg "sorted"=none
 z_all:mg "all"=none
 z_any:mg "any"=none
 z_sum:mg "sum"=none
section
variable {K:m7}{H:Hp}{Q:VK}
theorem yX:R0 K (.type "bool") (.type "bool")=some true:=by first|rfl|with_unfolding_all rfl|decide
theorem CY:R0 K (.type "bool") (.type "int")=some true:=by first|rfl|with_unfolding_all rfl|decide
theorem jR:R0 K (.type "int") (.type "bool")=some false:=by first|rfl|with_unfolding_all rfl|decide
theorem lC:R0 K (.type "int") (.type "int")=some true:=by first|rfl|with_unfolding_all rfl|decide
theorem CW:R0 K (.type "str") (.type "bool")=some false:=by first|rfl|with_unfolding_all rfl|decide
theorem HR:R0 K (.type "str") (.type "int")=some false:=by first|rfl|with_unfolding_all rfl|decide
theorem HQ:R0 K (.type "str") (.type "str")=some true:=by first|rfl|with_unfolding_all rfl|decide
theorem nO:R0 K (.type "tuple") (.type "tuple")=some true:=by first|rfl|with_unfolding_all rfl|decide
theorem sQ:R0 K (.type "NoneType") (.type "bool")=some false:=by first|rfl|with_unfolding_all rfl|decide
theorem uB:R0 K (.type "NoneType") (.type "int")=some false:=by first|rfl|with_unfolding_all rfl|decide
theorem tM(ty:oZ K H x t)(e:R0 K t (.type T)=some b)(k:Q (.bl b) H):Dq K T [x,.ty T] H Q:=⟨x,t,b,rfl,ty,e,k⟩
end
section
variable {X:Cx}{K:m7}{σ:St}{H:Hp}{Q:VK}{D:iI}{i j:Int}{b:Bool}
noncomputable def Nc:List V->Hp->VK->Prop:=fun xs H Q=>∃ i,xs=[.int i]/\Q (.int (if i < 0 then -i else i)) H
theorem XN:iM X (.builtin "abs") Nc:=XM
theorem Ms(k:Q (.int (if i < 0 then -i else i)) H):Nc [.int i] H Q:=⟨i,rfl,k⟩
noncomputable def Dp:List V->Hp->VK->Prop:=fun xs H Q=>∃ i j,xs=[.int i,.int j]/\Q (.int (if j > i then j else i)) H
theorem OE(f:X.calm=true):iM X (.builtin "max") Dp:=RA f
theorem Mb(k:Q (.int (if j > i then j else i)) H):Dp [.int i,.int j] H Q:=⟨i,j,rfl,k⟩
noncomputable def Dn:List V->Hp->VK->Prop:=fun xs H Q=>∃ i j,xs=[.int i,.int j]/\Q (.int (if j < i then j else i)) H
theorem OD(f:X.calm=true):iM X (.builtin "min") Dn:=QZ f
theorem Ma(k:Q (.int (if j < i then j else i)) H):Dn [.int i,.int j] H Q:=⟨i,j,rfl,k⟩
noncomputable def ZU(K:m7):List V->Hp->VK->Prop:=fun xs H Q=>∃ x n,xs=[x]/\Oy K x H n/\Q (.int n) H
theorem iL:iM X (.builtin "len") (ZU X.K):=XL
theorem CA(h:cP K H p xs)(k:Q (.int xs.length) H):ZU K [.ref p] H Q:=⟨_,_,rfl,.inl ⟨xs,h,rfl⟩,k⟩
theorem BZ(h:H p=some (.lst xs))(k:Q (.int xs.length) H):ZU K [.ref p] H Q:=CA (cP.of h) k
theorem Fx(h:H p=some (.tup xs))(k:Q (.int xs.length) H):ZU K [.ref p] H Q:=⟨_,_,rfl,.inr ⟨xs,EC.of h,rfl⟩,k⟩
noncomputable def DG(g:TG)(tb:TS)(D:iI)(σ:St):It->Hp->Prop:=fun J H1=>∃ W:Nat->Nat->St->Hp->Prop,(∃ m,W 0 m σ H1)/\∀ i m σ H,W i m σ H ->
 (J.stop i H/\D.nx σ H)∨(J.go i H/\∃ N:St->Hp->Prop,(∀ σ' H',N σ' H'->∃ m',m' < m/\W (i+1) m' σ' H')/\∀ x H',J.yld i H x H'->g x σ H' fun σ2 H2=>tb { D with nx:=N,ct:=N,bk:=D.nx } σ2 H2)
theorem Mg(k:wi σ H (DG g tb D σ)):Fe wi g tb D σ H:=k
noncomputable def Dc(R:It->Hp->Prop):List V->Hp->Prop:=fun vs H1=>∃ j:Int,vs=[.int j]/\-(2 ^ 62)<=j/\j < 2 ^ 62/\R (OJ 0 j.toNat) H1
noncomputable def Db(R:It->Hp->Prop):List V->Hp->Prop:=fun vs H1=>∃ i j:Int,vs=[.int i,.int j]/\(-(2 ^ 62)<=i/\i < 2 ^ 62/\-(2 ^ 62)<=j/\j < 2 ^ 62)/\R (OJ i (j - i).toNat) H1
theorem Fm(k:ta σ H (Dc R)):Eg ta σ H R:=k
theorem Fl(k:ta σ H (Db R)):Ef ta σ H R:=k
theorem pH(f:-(2 ^ 62)<=j)(g:j < 2 ^ 62)(k:R (OJ 0 j.toNat) H):Dc R [.int j] H:=⟨j,rfl,f,g,k⟩
theorem MF(f:-(2 ^ 62)<=i)(g:i < 2 ^ 62)(m:-(2 ^ 62)<=j)(o:j < 2 ^ 62)(k:R (OJ i (j - i).toNat) H):Db R [.int i,.int j] H:=⟨i,j,rfl,⟨f,g,m,o⟩,k⟩
theorem Ge{lo:Int}{n:Nat}{g:TG}{m:TS}(f:Nat->St->Hp->Prop)(h0:f 0 σ H)(hs:∀ i σ H,i < n->f i σ H->g (.int (lo+i)) σ H fun σ2 H2=>m ⟨f (i+1),D.rt,D.nx,f (i+1)⟩ σ2 H2)(o:∀ σ H,f n σ H->D.nx σ H):DG g m D σ (OJ lo n) H:=QP f h0 hs o
noncomputable def Eb(K:m7)(R:It->Hp->Prop):VK:=fun x H1=>∃ a,x=.ref a/\(∃ xs,cP K H1 a xs)/\R (OK K a) H1
theorem ZI(k:tl σ H (Eb K R)):Eh K tl σ H R:=k
theorem cG(h:cP K H a xs)(k:R (OK K a) H):Eb K R (.ref a) H:=⟨a,rfl,⟨xs,h⟩,k⟩
theorem JC(f:Nat->St->Hp->Prop)(h0:f 0 σ H)(o:∀ i σ H,i<=xs.length->f i σ H->cP K H a xs)(hs:∀ i x σ H,xs[i]?=some x->f i σ H->g x σ H fun σ2 H2=>tb ⟨f (i+1),D.rt,D.nx,f (i+1)⟩ σ2 H2)(m:∀ σ H,f xs.length σ H->D.nx σ H):DG g tb D σ (OK K a) H:=WV f h0 o hs m
end
end L2
namespace L2
open PySem
noncomputable def sg(t b:Int):Int:=if b < 0 then 0 - (i8 t b:Int) else (i8 t b:Int)
noncomputable def eM(t b:Int):Int:=t.fdiv (sg t b)
noncomputable def eQ(t b:Int):Int:=b.fdiv (sg t b)
theorem vP(h:b≠0):0 < i8 t b:=Nat.pos_of_ne_zero fun e=>h (ew.mp e).2
theorem FZ(h:b≠0):sg t b≠0:=by
 have:=vP (t:=t) h;unfold sg;split <;> lia
theorem TQ(t b:Int):sg t b ∣ t:=by
 unfold sg;split
 ·exact (Int.zero_sub _ ▸ Int.neg_dvd.mpr (P8 ..))
 ·exact P8 ..
theorem TN(t b:Int):sg t b ∣ b:=by
 unfold sg;split
 ·exact (Int.zero_sub _ ▸ Int.neg_dvd.mpr (S9 ..))
 ·exact S9 ..
theorem vQ{a g:Int}(b:g≠0)(h:g ∣ a):a.fdiv g * g=a:=by
 obtain ⟨c,rfl⟩:=h;rw [Z7 _ b,J9]
theorem xU(h:b≠0):eM t b * sg t b=t:=vQ (FZ h) (TQ t b)
theorem oO(h:b≠0):eQ t b * sg t b=b:=vQ (FZ h) (TN t b)
theorem tI(t b:Int):(sg t b).natAbs=i8 t b:=by
 unfold sg;split <;> lia
theorem sP(h:b≠0):0 < eQ t b:=by
 have e:=oO (t:=t) h;have hp:=vP (t:=t) h;by_cases f:b < 0
 ·have hs:sg t b < 0:=by unfold sg; rw [if_pos f]; lia
  rcases bc 0 (eQ t b) with q|q
  ·exact q
  ·have:0<=eQ t b * sg t b:=Int.mul_nonneg_of_nonpos_of_nonpos q (pj hs)
   lia
 ·have hs:0 < sg t b:=by unfold sg; rw [if_neg f]; lia
  rcases bc 0 (eQ t b) with q|q
  ·exact q
  ·have:eQ t b * sg t b<=0:=R4 q (pj hs)
   lia
theorem Aw(h:b≠0):i8 (eM t b) (eQ t b)=1:=by
 have f:=xU (t:=t) h;have g:=oO (t:=t) h;have hp:=vP (t:=t) h;have e:i8 (eM t b * sg t b) (eQ t b * sg t b)=i8 (eM t b) (eQ t b) * (sg t b).natAbs:=ii ..;rw [f,g,tI] at e;have:1 * i8 t b=i8 (eM t b) (eQ t b) * i8 t b:=by lia
 exact (X6 hp this).symm
theorem QA(h:b≠0):t * eQ t b=b * eM t b:=by
 have f:=xU (t:=t) h;have g:=oO (t:=t) h
 calc t * eQ t b=(eM t b * sg t b) * eQ t b:=by rw [f]
  _=(eQ t b * sg t b) * eM t b:=by rw [fc,J9 (sg t b),← fc,J9 (eM t b),fc,J9 (eM t b),← fc]
  _=b * eM t b:=by rw [g]
theorem iT{a g c:Int}(b:g≠0)(e:a * g=c):a.natAbs<=c.natAbs:=by
 rw [← e,C4];exact M7 _ (by lia)
theorem CU(h:b≠0):(eM t b).natAbs<=t.natAbs:=iT (FZ h) (xU h)
theorem WU(h:0 < other):i8 other (one % other)=i8 one other:=by
 have e:one % other=one - (one / other) * other:=by rw [Int.emod_def,J9]
 rw [e,T4 other,mj]
theorem QM(h:other≠0):i8 other (one.fmod other)=i8 one other:=by
 have e:one.fmod other=one - (one.fdiv other) * other:=by rw [Int.fmod_def,J9]
 rw [e,T4 other,mj]
theorem Ql{ns:List Int}{i:Int}(h0:0<=i)(f:i < ns.length):∃ z,z∈ns/\yN (ns.map V.int) i=some (.int z):=by
 have hk:i.toNat < ns.length:=by lia
 have b:i=((i.toNat:Nat):Int):=by lia
 have q:yN (ns.map V.int) ((i.toNat:Nat):Int)=some (.int ns[i.toNat]):=fX (by rw [i7,c8 hk] <;> rfl);rw [← b] at q;exact ⟨ns[i.toNat],C5 hk,q⟩
theorem Fw(h:j≠0)(k:Q (.int (i.fmod j)) H):rI (fun _ j=>j≠0) (fun i j=>.int (i.fmod j)) (.int i) (.int j) H Q:=Dl h k
theorem Bb{a b:Int}(h:b≠0):(a.fmod b).natAbs < b.natAbs:=by
 have e:=Int.fmod_eq_emod (a:=a) (b:=b);have g:=m8 a h;have i:=Int.emod_lt a h;rw [e];by_cases f:0<=b∨b ∣ a
 ·rw [if_pos f]
  lia
 ·rw [if_neg f]
  have m:a % b≠0:=fun z=>f (.inr (Int.dvd_of_emod_eq_zero z));lia
noncomputable def Oa:V->V->Bool
|.int a,.int b=>decide (1<=b)&&decide (i8 a b=1)
|_,_=>false
theorem uA(h:b≠0):eM t b * b=t * eQ t b:=by rw [QA h,J9]
end L2
namespace L2
open PySem PySem.Spec PyProof.Rows
inductive Dt where
|non|bl (b:Bool)|int (i:Int)|str (x:Str)|tup (xs:List Dt)|lst (xs:List Dt)
mutual
noncomputable def lP(H:Hp):Dt->V->Prop
|.non,v=>v=.non
|.bl b,v=>v=.bl b
|.int i,v=>v=.int i
|.str x,v=>v=.str x
|.tup ds,v=>∃ p vs,v=.ref p/\H p=some (.tup vs)/\iJ H ds vs
|.lst ds,v=>∃ p vs,v=.ref p/\H p=some (.lst vs)/\iJ H ds vs
noncomputable def iJ(H:Hp):List Dt->List V->Prop
|[],vs=>vs=[]
|d::ds,vs=>∃ v r,vs=v::r/\lP H d v/\iJ H ds r
end
mutual
noncomputable def yI:Dt->Dt->Bool
|.non,.non=>true
|.bl a,.bl b=>a==b
|.bl a,.int b=>(if a then 1 else 0)==b
|.int a,.bl b=>a==(if b then 1 else 0)
|.int a,.int b=>a==b
|.str a,.str b=>a==b
|.tup xs,.tup ys=>pS xs ys
|.lst xs,.lst ys=>pS xs ys
|_,_=>false
noncomputable def pS:List Dt->List Dt->Bool
|[],[]=>true
|x::xs,y::ys=>yI x y&&pS xs ys
|_,_=>false
end
mutual
noncomputable def uF:Dt->Nat
|.tup xs=>gQ xs+1
|.lst xs=>gQ xs+1
|_=>0
noncomputable def gQ:List Dt->Nat
|[]=>0
|x::xs=>max (uF x) (gQ xs)
end
theorem iJ.length:∀{ds:List Dt}{vs:List V},iJ H ds vs->ds.length=vs.length
|[],vs,h=>by rw [show vs=[] from h]; rfl
|d::ds,vs,h=>by
  obtain ⟨v,r,rfl,_,t⟩:=h;rw [B7,B7,iJ.length t]
mutual
theorem lP.same_eq{H:Hp}:∀(d e:Dt){x:V},lP H d x->lP H e x->yI d e=true
|.tup ds,.tup es,x,g,f=>by
  obtain ⟨p,vs,rfl,a,b⟩:=g;obtain ⟨q,m,i,c,d⟩:=f;cases i;rw [a] at c;cases c;exact iJ.same_eq ds es b d
|.lst ds,.lst es,x,g,f=>by
  obtain ⟨p,vs,rfl,a,b⟩:=g;obtain ⟨q,m,i,c,d⟩:=f;cases i;rw [a] at c;cases c;exact iJ.same_eq ds es b d
|.tup ds,.lst es,x,g,f=>by
  obtain ⟨p,vs,rfl,a,b⟩:=g;obtain ⟨q,m,i,c,d⟩:=f;cases i;rw [a] at c;cases c
|.lst ds,.tup es,x,g,f=>by
  obtain ⟨p,vs,rfl,a,b⟩:=g;obtain ⟨q,m,i,c,d⟩:=f;cases i;rw [a] at c;cases c
|.non,e,x,g,f=>by
  have g:x=.non:=g;subst g;cases e <;> first|rfl|(have f:V.non=_:=f; cases f)|(obtain ⟨_,_,z,_⟩:=f; cases z)
|.bl b,e,x,g,f=>by
  have g:x=.bl b:=g;subst g;cases e <;> first|(have f:V.bl b=_:=f; cases f; exact beq_self_eq_true b)|(have f:V.bl b=_:=f; cases f; done)|(obtain ⟨_,_,z,_⟩:=f; cases z)
|.int b,e,x,g,f=>by
  have g:x=.int b:=g;subst g;cases e <;> first|(have f:V.int b=_:=f; cases f; exact beq_self_eq_true b)|(have f:V.int b=_:=f; cases f; done)|(obtain ⟨_,_,z,_⟩:=f; cases z)
|.str b,e,x,g,f=>by
  have g:x=.str b:=g;subst g;cases e <;> first|(have f:V.str b=_:=f; cases f; exact beq_self_eq_true b)|(have f:V.str b=_:=f; cases f; done)|(obtain ⟨_,_,z,_⟩:=f; cases z)
|.tup ds,.non,x,g,f=>by obtain ⟨p,vs,rfl,_⟩:=g; have f:V.ref p=_:=f; cases f
|.tup ds,.bl _,x,g,f=>by obtain ⟨p,vs,rfl,_⟩:=g; have f:V.ref p=_:=f; cases f
|.tup ds,.int _,x,g,f=>by obtain ⟨p,vs,rfl,_⟩:=g; have f:V.ref p=_:=f; cases f
|.tup ds,.str _,x,g,f=>by obtain ⟨p,vs,rfl,_⟩:=g; have f:V.ref p=_:=f; cases f
|.lst ds,.non,x,g,f=>by obtain ⟨p,vs,rfl,_⟩:=g; have f:V.ref p=_:=f; cases f
|.lst ds,.bl _,x,g,f=>by obtain ⟨p,vs,rfl,_⟩:=g; have f:V.ref p=_:=f; cases f
|.lst ds,.int _,x,g,f=>by obtain ⟨p,vs,rfl,_⟩:=g; have f:V.ref p=_:=f; cases f
|.lst ds,.str _,x,g,f=>by obtain ⟨p,vs,rfl,_⟩:=g; have f:V.ref p=_:=f; cases f
theorem iJ.same_eq{H:Hp}:∀(ds es:List Dt){xs:List V},iJ H ds xs->iJ H es xs->pS ds es=true
|[],[],xs,_,_=>rfl
|[],e::es,xs,f,g=>by
  have f:xs=[]:=f;subst f;obtain ⟨_,_,z,_⟩:=g;cases z
|d::ds,[],xs,f,g=>by
  have g:xs=[]:=g;subst g;obtain ⟨_,_,z,_⟩:=f;cases z
|d::ds,e::es,xs,f,g=>by
  obtain ⟨v,r,rfl,a,b⟩:=f;obtain ⟨q,o,z,i,m⟩:=g;cases z;show (yI d e&&pS ds es)=true;rw [lP.same_eq d e a i,iJ.same_eq ds es b m];rfl
end
noncomputable def VT(ds es:List Dt)(j:Nat):Bool:=match ds[j]?,es[j]? with
|some d,some e=>yI d e
|_,_=>false
theorem fQ:∀(ds es:List Dt),((k9 (min ds.length es.length)).all (VT ds es)&&ds.length==es.length)=pS ds es
|[],[]=>rfl
|[],e::es=>by show (_&&(0==es.length+1))=false; simp
|d::ds,[]=>by show (_&&(ds.length+1==0))=false; simp
|d::ds,e::es=>by
  have ih:=fQ ds es;show _=(yI d e&&pS ds es)
  rw [← ih];have b:min (d::ds).length (e::es).length=min ds.length es.length+1:=by simp only [B7]; lia
  rw [b,List.range_succ_eq_map,tu,List.all_map];have f:(VT (d::ds) (e::es)) ∘ Nat.succ=VT ds es:=by funext j; rfl
  rw [f];have g:VT (d::ds) (e::es) 0=yI d e:=rfl;rw [g];have i:((d::ds).length==(e::es).length)=(ds.length==es.length):=by simp
  rw [i,Bool.and_assoc]
section
variable {X:Cx}{ud:List (b8×Obj)}{σ:St}{H:Hp}{s:c5}
theorem iN(I:bB X ud σ H s)(h:H p=some (.tup vs)):∃ b:List a8,bO vs b/\s.heap.IsTuple p b.toArray:=by
 obtain ⟨_,b,r,q⟩:=(show dH X.prog X.w H s.heap p (.tup vs) from I.hok p _ h)
 exact ⟨b,r,q⟩
theorem jI(I:bB X ud σ H s)(h:H p=some (.lst vs)):∃ b:List a8,bO vs b/\s.heap.IsList p b.toArray:=by
 obtain ⟨_,b,n,r,q⟩:=(show dH X.prog X.w H s.heap p (.lst vs) from I.hok p _ h)
 exact ⟨b,r,_,q,rfl,_,rfl⟩
theorem DA{A:q4}{ds:List Dt}(h:A.units+uF (.tup ds) < F6):A.in1.units+gQ ds < F6:=by
 have e:uF (.tup ds)=gQ ds+1:=by simp [uF]
 show A.units+1+gQ ds < F6;lia
theorem DB{A:q4}{ds:List Dt}(h:A.units+uF (.lst ds) < F6):A.in1.units+gQ ds < F6:=by
 have e:uF (.lst ds)=gQ ds+1:=by simp [uF]
 show A.units+1+gQ ds < F6;lia
mutual
theorem JW(I:bB X ud σ H s):∀(d e:Dt){x y:V}{u v:a8}{A:q4},lP H d x->lP H e y->bG x u->bG y v->A.units+uF d < F6->w6 A s u v (yI d e)
|.tup ds,e,x,y,u,v,A,J,g,K,m,N=>by
  obtain ⟨p,vs,rfl,a,b⟩:=J;cases K;obtain ⟨O,r,t⟩:=iN I a;have f:A.units < F6:=by lia
  cases e with
 |tup o =>
   obtain ⟨q,M,rfl,B,C⟩:=id g;cases m;by_cases E:p=q
   ·subst E
    have:=lP.same_eq (.tup ds) (.tup o) (x:=.ref p) ⟨p,vs,rfl,a,b⟩ g;rw [this];exact Y4 _
   ·obtain ⟨i,D,w⟩:=iN I B
    have z:=ju.tuples (e:=VT ds o) t w f (fun j T U=>qV I ds o b C r D (DA N) j (by simpa using T) (by simpa using U));have R:O.length=ds.length:=by rw [b.length,r.length]
    have S:i.length=o.length:=by rw [C.length,D.length]
    rw [i4,i4,R,S,fQ] at z;exact bh E z
 |lst o =>
   obtain ⟨q,M,rfl,B,C⟩:=id g;cases m;obtain ⟨i,D,w⟩:=jI I B;exact w6.tuple_list t w f
 |non=>cases (show y=.non from g); cases m; exact w6.tuple_none t f
 |bl b=>cases (show y=.bl b from g); cases m; exact w6.tuple_bool b t f
 |int b=>cases (show y=.int b from g); obtain ⟨tk,rfl⟩:=m; exact w6.tuple_int b tk t f
 |str b=>cases (show y=.str b from g); obtain ⟨tk,rfl⟩:=m; exact w6.tuple_str b tk t f
|.lst ds,e,x,y,u,v,A,J,g,K,m,N=>by
  obtain ⟨p,vs,rfl,a,b⟩:=J;cases K;obtain ⟨O,r,t⟩:=jI I a;have f:A.units < F6:=by lia
  cases e with
 |lst o =>
   obtain ⟨q,M,rfl,B,C⟩:=id g;cases m;by_cases E:p=q
   ·subst E
    have:=lP.same_eq (.lst ds) (.lst o) (x:=.ref p) ⟨p,vs,rfl,a,b⟩ g;rw [this];exact Y4 _
   ·obtain ⟨i,D,w⟩:=jI I B
    have R:O.length=ds.length:=by rw [b.length,r.length]
    have S:i.length=o.length:=by rw [C.length,D.length]
    by_cases Q:ds.length=o.length
    ·have z:=ju.lists (e:=VT ds o) t w (by rw [i4,i4,R,S,Q]) f (fun j T U=>qV I ds o b C r D (DB N) j (by simpa using T) (by simpa using U))
     have P:=fQ ds o;rw [Q,jl,beq_self_eq_true,O2] at P;rw [i4,R,Q,P] at z;exact bh E z
    ·have z:=io t w (by rw [i4,i4,R,S]; simpa using Q) f
     have P:=fQ ds o;rw [show (ds.length==o.length)=false from by simpa using Q,cr] at P;have W:yI (.lst ds) (.lst o)=false:=by show pS ds o=false; exact P.symm
     rw [W];exact bh E z
 |tup o =>
   obtain ⟨q,M,rfl,B,C⟩:=id g;cases m;obtain ⟨i,D,w⟩:=iN I B;exact w6.list_tuple t w f
 |non=>cases (show y=.non from g); cases m; exact w6.list_none t f
 |bl b=>cases (show y=.bl b from g); cases m; exact w6.list_bool b t f
 |int b=>cases (show y=.int b from g); obtain ⟨tk,rfl⟩:=m; exact w6.list_int b tk t f
 |str b=>cases (show y=.str b from g); obtain ⟨tk,rfl⟩:=m; exact w6.list_str b tk t f
|.non,e,x,y,u,v,A,J,g,K,m,N=>by
  cases (show x=.non from J); cases K;have f:A.units < F6:=by lia
  cases e with
 |tup o=>obtain ⟨q,M,rfl,B,C⟩:=id g; cases m; obtain ⟨i,D,w⟩:=iN I B; exact w6.none_tuple w f
 |lst o=>obtain ⟨q,M,rfl,B,C⟩:=id g; cases m; obtain ⟨i,D,w⟩:=jI I B; exact w6.none_list w f
 |non=>cases (show y=.non from g); cases m; exact Y4 _
 |bl b=>cases (show y=.bl b from g); cases m; exact jz b
 |int b=>cases (show y=.int b from g); obtain ⟨tk,rfl⟩:=m; exact lu b tk
 |str b=>cases (show y=.str b from g); obtain ⟨tk,rfl⟩:=m; exact lm b tk
|.bl c,e,x,y,u,v,A,J,g,K,m,N=>by
  cases (show x=.bl c from J); cases K;have f:A.units < F6:=by lia
  cases e with
 |tup o=>obtain ⟨q,M,rfl,B,C⟩:=id g; cases m; obtain ⟨i,D,w⟩:=iN I B; exact w6.bool_tuple c w f
 |lst o=>obtain ⟨q,M,rfl,B,C⟩:=id g; cases m; obtain ⟨i,D,w⟩:=jI I B; exact w6.bool_list c w f
 |non=>cases (show y=.non from g); cases m; exact ka c
 |bl b=>cases (show y=.bl b from g); cases m; exact kc c b
 |int b=>cases (show y=.int b from g); obtain ⟨tk,rfl⟩:=m; exact md c b tk
 |str b=>cases (show y=.str b from g); obtain ⟨tk,rfl⟩:=m; exact ma c b tk
|.int c,e,x,y,u,v,A,J,g,K,m,N=>by
  cases (show x=.int c from J); obtain ⟨G,rfl⟩:=K;have f:A.units < F6:=by lia
  cases e with
 |tup o=>obtain ⟨q,M,rfl,B,C⟩:=id g; cases m; obtain ⟨i,D,w⟩:=iN I B; exact w6.int_tuple c G w f
 |lst o=>obtain ⟨q,M,rfl,B,C⟩:=id g; cases m; obtain ⟨i,D,w⟩:=jI I B; exact w6.int_list c G w f
 |non=>cases (show y=.non from g); cases m; exact lw c G
 |bl b=>cases (show y=.bl b from g); cases m; exact ly c G b
 |int b=>cases (show y=.int b from g); obtain ⟨tk,rfl⟩:=m; exact w6.int_int c G b tk
 |str b=>cases (show y=.str b from g); obtain ⟨tk,rfl⟩:=m; exact bi c G b tk
|.str c,e,x,y,u,v,A,J,g,K,m,N=>by
  cases (show x=.str c from J); obtain ⟨G,rfl⟩:=K;have f:A.units < F6:=by lia
  cases e with
 |tup o=>obtain ⟨q,M,rfl,B,C⟩:=id g; cases m; obtain ⟨i,D,w⟩:=iN I B; exact w6.str_tuple c G w f
 |lst o=>obtain ⟨q,M,rfl,B,C⟩:=id g; cases m; obtain ⟨i,D,w⟩:=jI I B; exact w6.str_list c G w f
 |non=>cases (show y=.non from g); cases m; exact li c G
 |bl b=>cases (show y=.bl b from g); cases m; exact lj c G b
 |int b=>cases (show y=.int b from g); obtain ⟨tk,rfl⟩:=m; exact bg c G b tk
 |str b=>cases (show y=.str b from g); obtain ⟨tk,rfl⟩:=m; exact w6.str_str c G b tk
theorem qV(I:bB X ud σ H s):∀(ds es:List Dt){xs ys:List V}{us vs:List a8}{A:q4},iJ H ds xs->iJ H es ys->bO xs us->bO ys vs->A.units+gQ ds < F6 ->
  ∀(j:Nat)(o:j < us.length)(q:j < vs.length),w6 A s us[j] vs[j] (VT ds es j)
|[],es,xs,ys,us,vs,A,f,g,i,m,w=>fun j o q=>by
  have f:xs=[]:=f;subst f;cases i;exact absurd o (T5 _)
|d::ds,[],xs,ys,us,vs,A,f,g,i,m,w=>fun j o q=>by
  have g:ys=[]:=g;subst g;cases m;exact absurd q (T5 _)
|d::ds,e::es,xs,ys,us,vs,A,f,g,i,m,w=>fun j o q=>by
  obtain ⟨x,J,rfl,a,b⟩:=f;obtain ⟨y,K,rfl,B,C⟩:=g;cases i with
 |cons D i =>
   cases m with
  |cons E m =>
    have G:gQ (d::ds)=max (uF d) (gQ ds):=by simp [gQ]
    cases j with
   |zero=>exact JW I d e a B D E (by lia)
   |succ j=>exact qV I ds es b C i m (by lia) j (by simpa using o) (by simpa using q)
end
noncomputable def Na:R2:=fun x y H Q=>∃ d e,lP H d x/\lP H e y/\uF d<=60/\((∃ ds es,d=.tup ds/\e=.tup es)∨∃ ds es,d=.lst ds/\e=.lst es)/\Q (.bl (yI d e)) H
noncomputable def My:R2:=fun x y H Q=>∃ d e,lP H d x/\lP H e y/\uF d<=60/\((∃ ds es,d=.tup ds/\e=.tup es)∨∃ ds es,d=.lst ds/\e=.lst es)/\Q (.bl (!yI d e)) H
theorem Hl(hu:X.A.units+64 < F6):kJ X (A0 .Eq) Na:=by
 intro P s σ H x y v u Q I R S h;obtain ⟨d,e,N,O,Z,k,q⟩:=h;rcases k with ⟨f,g,rfl,rfl⟩|⟨f,g,rfl,rfl⟩
 ·obtain ⟨p,W,rfl,a,b⟩:=N
  obtain ⟨U,Y,rfl,J,o⟩:=O;cases R;cases S;obtain ⟨m,r,t⟩:=iN I a;obtain ⟨i,D,G⟩:=iN I J;have z:=ju.tuples (A:=X.A) (e:=VT f g) t G (by lia) (fun j K M=>qV I f g b o r D (DA (by lia)) j (by simpa using K) (by simpa using M));have C:m.length=f.length:=by rw [b.length,r.length]
  have E:i.length=g.length:=by rw [o.length,D.length]
  rw [i4,i4,C,E,fQ] at z;exact z _ _ _ _ ⟨.bl _,H,I,rfl,q⟩
 ·obtain ⟨p,W,rfl,a,b⟩:=N
  obtain ⟨U,Y,rfl,J,o⟩:=O;cases R;cases S;obtain ⟨m,r,t⟩:=jI I a;obtain ⟨i,D,G⟩:=jI I J;have C:m.length=f.length:=by rw [b.length,r.length]
  have E:i.length=g.length:=by rw [o.length,D.length]
  by_cases B:f.length=g.length
  ·have z:=ju.lists (A:=X.A) (e:=VT f g) t G (by rw [i4,i4,C,E,B]) (by lia) (fun j K M=>qV I f g b o r D (DB (by lia)) j (by simpa using K) (by simpa using M))
   have w:=fQ f g;rw [B,jl,beq_self_eq_true,O2] at w;rw [i4,C,B,w] at z;exact z _ _ _ _ ⟨.bl _,H,I,rfl,q⟩
  ·have z:=io (A:=X.A) t G (by rw [i4,i4,C,E]; simpa using B) (by lia)
   have w:=fQ f g;rw [show (f.length==g.length)=false from by simpa using B,cr] at w;have T:yI (.lst f) (.lst g)=false:=by show pS f g=false; exact w.symm
   rw [T] at q;exact z _ _ _ _ ⟨.bl _,H,I,rfl,q⟩
theorem Hi(hu:X.A.units+64 < F6):kJ X (A0 .NotEq) My:=by
 intro P s σ H x y v u Q I R S h;obtain ⟨d,e,N,O,Z,k,q⟩:=h;rcases k with ⟨f,g,rfl,rfl⟩|⟨f,g,rfl,rfl⟩
 ·obtain ⟨p,W,rfl,a,b⟩:=N
  obtain ⟨U,Y,rfl,J,o⟩:=O;cases R;cases S;obtain ⟨m,r,t⟩:=iN I a;obtain ⟨i,D,G⟩:=iN I J;have z:=aa.tuples (A:=X.A) (e:=VT f g) t G (by lia) (fun j K M=>qV I f g b o r D (DA (by lia)) j (by simpa using K) (by simpa using M));have C:m.length=f.length:=by rw [b.length,r.length]
  have E:i.length=g.length:=by rw [o.length,D.length]
  rw [i4,i4,C,E,fQ] at z;exact z _ _ _ _ ⟨.bl _,H,I,rfl,q⟩
 ·obtain ⟨p,W,rfl,a,b⟩:=N
  obtain ⟨U,Y,rfl,J,o⟩:=O;cases R;cases S;obtain ⟨m,r,t⟩:=jI I a;obtain ⟨i,D,G⟩:=jI I J;have C:m.length=f.length:=by rw [b.length,r.length]
  have E:i.length=g.length:=by rw [o.length,D.length]
  by_cases B:f.length=g.length
  ·have z:=aa.lists (A:=X.A) (e:=VT f g) t G (by rw [i4,i4,C,E,B]) (by lia) (fun j K M=>qV I f g b o r D (DB (by lia)) j (by simpa using K) (by simpa using M))
   have w:=fQ f g;rw [B,jl,beq_self_eq_true,O2] at w;rw [i4,C,B,w] at z;exact z _ _ _ _ ⟨.bl _,H,I,rfl,q⟩
  ·have z:=aa.lists_lengths (A:=X.A) t G (by rw [i4,i4,C,E]; simpa using B) (by lia)
   have w:=fQ f g;rw [show (f.length==g.length)=false from by simpa using B,cr] at w;have T:yI (.lst f) (.lst g)=false:=by show pS f g=false; exact w.symm
   rw [T] at q;exact z _ _ _ _ ⟨.bl _,H,I,rfl,q⟩
noncomputable def UW:R2:=fun x y H Q=>Qk x y H Q∨Na x y H Q
noncomputable def GL:R2:=fun x y H Q=>Qi x y H Q∨My x y H Q
theorem eX(b:X.A.units+64 < F6):kJ X (A0 .Eq) UW:=Ni.or (Hl b)
theorem tU(b:X.A.units+64 < F6):kJ X (A0 .NotEq) GL:=Nh.or (Hi b)
end
section
variable {H:Hp}{Q:VK}{i j:Int}{b c:Bool}{x y:Str}{u v:V}
theorem Oe(k:Q (.bl (decide (i=j))) H):UW (.int i) (.int j) H Q:=.inl (Mi k)
theorem Nt(k:Q (.bl (!decide (i=j))) H):GL (.int i) (.int j) H Q:=.inl (Ly k)
theorem Od(k:Q (.bl (x==y)) H):UW (.str x) (.str y) H Q:=.inl ⟨rfl,by rw [DN]; exact k⟩
theorem Dz(f:lP H (.tup ds) u)(g:lP H (.tup es) v)(m:gQ ds<=50)(k:Q (.bl (!pS ds es)) H):GL u v H Q:=
 .inr ⟨_,_,f,g,by simp [uF]; lia,.inl ⟨_,_,rfl,rfl⟩,k⟩
theorem El(f:lP H (.lst ds) u)(g:lP H (.lst es) v)(m:gQ ds<=50)(k:Q (.bl (pS ds es)) H):UW u v H Q:=
 .inr ⟨_,_,f,g,by simp [uF]; lia,.inr ⟨_,_,rfl,rfl⟩,k⟩
theorem Nr(f:lP H (.lst ds) u)(g:lP H (.lst es) v)(m:gQ ds<=50)(k:Q (.bl (!pS ds es)) H):GL u v H Q:=
 .inr ⟨_,_,f,g,by simp [uF]; lia,.inr ⟨_,_,rfl,rfl⟩,k⟩
theorem Jd{a b:Int}(h:H p=some (.tup [.int a,.int b])):lP H (.tup [.int a,.int b]) (.ref p):=⟨p,_,rfl,h,_,_,rfl,rfl,_,_,rfl,rfl,rfl⟩
theorem Qv(a b c d:Int):pS [.int a,.int b] [.int c,.int d]=decide (a=c/\b=d):=by
 show ((a==c)&&((b==d)&&true))=_;rw [O2,Bool.decide_and,U4,U4]
theorem n_2{a b c d:Int}(f:H p=some (.tup [.int a,.int b]))(g:H q=some (.tup [.int c,.int d]))(k:Q (.bl (!decide (a=c/\b=d))) H):GL (.ref p) (.ref q) H Q:=
 Dz (Jd f) (Jd g) (by simp [gQ,uF]) (by rw [Qv]; exact k)
end
section
variable {X:Cx}{K:m7}{H H':Hp}{Q:VK}{i j:Int}{σ:St}
noncomputable def Ds:R2:=fun x y H Q=>∃ i j,x=.str i/\y=.str j/\i.length+j.length<=j0/\Q (.str (i++j)) H
theorem Ag:kJ X (O1 .Add) Ds:=JF
noncomputable def GM(K:m7):R2:=fun x y H Q=>YG (fun i j=>.int (i+j)) x y H Q∨Nb x y H Q∨Dr K x y H Q∨Ds x y H Q
theorem bP:kJ X (O1 .Add) (GM X.K):=Hn.or (Hm.or (Af.or Ag))
theorem Oo(k:Q (.int (i+j)) H):GM K (.int i) (.int j) H Q:=.inl (Mt k)
theorem OG(b:H p=some (.lst xs))(f:H q=some (.lst ys))(g:xs.length+ys.length<=1000)(k:∀ l,H l=none->Q (.ref l) (upd H l (.lst (xs++ys)))):GM K (.ref p) (.ref q) H Q:=
 .inr (.inl ⟨p,q,xs,ys,rfl,rfl,b,f,vM g,k⟩)
noncomputable def MO(K:m7):List V->Hp->VK->Prop:=fun xs H Q=>∃ p ys,xs=[.ref p]/\(cP K H p ys∨EC K H p ys)/\∀ l,H l=none->Q (.ref l) (upd H l (.lst ys))
theorem Jj:iM X (.type "list") (MO X.K):=DT
theorem Nv(h:H p=some (.lst xs))(k:∀ l,H l=none->Q (.ref l) (upd H l (.lst xs))):MO K [.ref p] H Q:=⟨p,xs,rfl,.inl (cP.of h),k⟩
noncomputable def Dx(R:Option Int->Hp->Prop):VK:=fun x H1=>∃ i,x=.int i/\R (some i) H1
theorem Fo(k:t σ H (Dx R)):Bx t σ H R:=k
theorem ZH(k:R (some i) H):Dx R (.int i) H:=⟨i,rfl,k⟩
theorem UJ(k:R none H):KO σ H R:=k
theorem Py(k:te σ H fun x H1=>tl σ H1 fun l H2=>th σ H2 fun u H3=>r x l u H3 Q):Rl r te tl th σ H Q:=k
theorem aL(f:H q=none)(h:H b=some u):upd H q o b=some u:=by rw [aZ (aB h f)]; exact h
noncomputable def isI:V->Bool
|.int _=>true
|_=>false
theorem NS(h:nQ v=true):∃ t b c,oZ K H v t/\R0 K t (.type "int")=some b/\R0 K t (.type "bool")=some c/\(b&&!c)=isI v:=by
 cases v with
|non=>exact ⟨_,_,_,.non,uB,sQ,rfl⟩
|bl b=>exact ⟨_,_,_,.bl b,CY,yX,rfl⟩
|int b=>exact ⟨_,_,_,.int b,lC,jR,rfl⟩
|str b=>exact ⟨_,_,_,.str b,HR,CW,rfl⟩
|_=>exact absurd (show false=true from h) h7
noncomputable def NT(K:m7)(H:Hp)(x:V):Prop:=∃ t,oZ K H x t/\R0 K t (.type "tuple")=some false
noncomputable def Frq(K:m7)(H:Hp)(x:V)(r:Bool):Prop:=
 (NT K H x/\r=false)∨(∃ p xs,x=.ref p/\H p=some (.tup xs)/\xs.length≠2/\r=false) ∨
  ∃ p v w,x=.ref p/\H p=some (.tup [v,w])/\nQ v=true/\nQ w=true/\(∀ a b,v=.int a->w=.int b->Sm 8000 a/\Sm 8000 b)/\r=Oa v w
end
noncomputable def bX(X:Cx)(scope:V5)(cl:List (Str×b8))(N:List Str)(C:b8)(s0:c5)(H0:Hp)(ex:List b8):Cx:=
 { X with N:=N,s₀:=s0,H₀:=H0,env:=compEnvC scope cl C X.env,outer:=X.stack,stack:=X.stack,ex:=ex,fn:=fun _=>false,pn:=[],xe:=fun _ _=>False }
noncomputable def cE(env:Env)(names:List Str):List (Str×b8):=names.filterMap fun n=>(env.cells.lookup n).map fun c=>(n,c)
theorem nB:∀{names:List Str}{x:Str}{c:b8},(cE env names).lookup x=some c->env.cells.lookup x=some c
|[],x,c,h=>by simp [cE] at h
|n::r,x,c,h=>by
  unfold cE at h;rw [V2] at h;cases e:env.cells.lookup n with
 |none =>
   rw [e] at h;exact nB (names:=r) h
 |some d =>
   rw [e] at h;have b:L5 x ((n,d)::cE env r)=some c:=h;rw [au] at b;by_cases f:x=n
   ·subst f
    rw [beq_self_eq_true] at b;cases b;exact e
   ·rw [beq_eq_false_iff_ne.mpr f] at b
    exact nB (names:=r) b
theorem qZ:∀{names:List Str}{x:Str}{c:b8},x∈names->env.cells.lookup x=some c->(cE env names).lookup x=some c
|[],x,c,h,_=>by cases h
|n::r,x,c,h,e=>by
  unfold cE;rw [V2];by_cases b:x=n
  ·subst b
   rw [e];show L5 x ((x,c)::_)=some c;rw [au,beq_self_eq_true]
  ·have f:x∈r:=(n6.mp h).resolve_left b
   have ih:=qZ (env:=env) f e;cases e2:env.cells.lookup n with
  |none=>exact ih
  |some d =>
    show L5 x ((n,d)::cE env r)=some c;rw [au,beq_eq_false_iff_ne.mpr b];exact ih
noncomputable def pU(σ:St)(is:List Nat):St:=is.map fun i=>(σ[i]?).join
noncomputable def lD(te:TE)(tc:Option TT)(g:TG)(ts:St)(uf:St)(Q:VK):It->Hp->Prop:=fun J H1=>∀ uj,H1 uj=none ->
 ∃ W:Nat->Nat->List V->Hp->Prop,(∃ m,W 0 m [] (upd H1 uj (.lst [])))/\∀ i m ys H,W i m ys H ->
  H uj=some (.lst ys)/\((J.stop i H/\Q (.ref uj) H)∨(ys.length < j0/\J.go i H/\∀(us:St) x H',us.length=ts.length->J.yld i H x H'->g x (us++uf) H' fun σ2 H2 =>
   (∃ us2,us2.length=ts.length/\σ2=us2++uf) /\
   let made:=te σ2;let next:=fun y H3=>H3 uj=some (.lst ys)/\∃ m',m' < m/\W (i+1) m' (ys++[y]) (upd H3 uj (.lst (ys++[y])))
   match tc with
  |none=>made H2 next
   | some c=>c σ2 H2 fun b H3=>if b=true then made H3 next else ∃ m',m' < m/\W (i+1) m' ys H3))
noncomputable def ER(wi:TI)(te:TE)(tc:Option TT)(g:TG)(k:Nat)(is:List Nat):TE:=fun σ H Q=>wi σ H (lD te tc g (x8 k none) (pU σ is) Q)
section
variable {X:Cx}{scope:V5}{N tn names:List Str}{is:List Nat}{elt iter tg:A6}{ifs:List A6}{pos:Pos}{wi:TI}{te:TE}{tc:Option TT}{g:TG}
structure rB(X:Cx)(scope:V5)(tn names:List Str)(is:List Nat):Prop where
 cls:(∀ x∈names,∃ c,X.env.cells.lookup x=some c)->iu scope X.env=D8 (cE X.env names)
 nocell:∀ y∈scope.names,y.2≠.cell
 kind:scope.kind=.function
 nms:∀ y∈scope.names,y.2=.local->scope.names.lookup y.1=some .local
 slots:∀(j i:Nat)(x:Str),is[j]?=some i->names[j]?=some x->X.N[i]?=some x
 len:is.length=names.length
 outk:∀ x∈names,X.env.kindOf x=some .cell∨X.env.kindOf x=some .free
 ink:∀ x∈names,(ji scope X.env).names.lookup x=some .cell∨(ji scope X.env).names.lookup x=some .free
 free:∀ x,((ji scope X.env).names.lookup x=some .cell∨(ji scope X.env).names.lookup x=some .free)->x∈names
theorem qY:∀(l:List (Str×W6)) (b:List (Str×b8)),(∀ x∈(l.filter fun y=>y.2==.free).map (·.1),∃ c,env.cells.lookup x=some c) ->
  (forIn l b fun(x:Str×W6)(i:List (Str×b8))=>(if (x.2==.free)=true then (do let a ← rz env x.1; D8 (E2 ((x.1,a)::i))) else D8 (E2 i)):Sem (List (Str×b8)))
   = D8 ((((l.filter fun y=>y.2==.free).map (·.1)).reverse.filterMap fun n=>(env.cells.lookup n).map fun c=>(n,c))++b)
|[],b,_=>rfl
|(n,k)::r,b,h=>by
  rw [forIn_cons];by_cases hk:(k==jd)=true
  ·have f:((n,k)::r).filter (fun y=>y.2==.free)=(n,k)::r.filter fun y=>y.2==.free:=by rw [U0]; exact if_pos hk
   rw [f] at h ⊢;obtain ⟨c,e⟩:=h n (by simp);have o:rz env n=D8 c:=by unfold rz; rw [e]
   show (((if (k==jd)=true then (do let a ← rz env n; D8 (E2 ((n,a)::b))) else D8 (E2 b)):Sem _) >>= _)=_;rw [if_pos hk,o];have ih:=qY r ((n,c)::b) fun x m=>h x (by simp at m ⊢; exact .inr m);have q:(((n,k)::r.filter fun y=>y.2==.free).map (·.1)).reverse.filterMap (fun n=>(env.cells.lookup n).map fun c=>(n,c))=((r.filter fun y=>y.2==.free).map (·.1)).reverse.filterMap (fun n=>(env.cells.lookup n).map fun c=>(n,c))++[(n,c)]:=by
    rw [D3,List.reverse_cons,bz,V2,e];rfl
   rw [q,K4];exact ih
  ·have f:((n,k)::r).filter (fun y=>y.2==.free)=r.filter fun y=>y.2==.free:=by rw [U0]; exact if_neg hk
   rw [f] at h ⊢;show (((if (k==jd)=true then (do let a ← rz env n; D8 (E2 ((n,a)::b))) else D8 (E2 b)):Sem _) >>= _)=_;rw [if_neg hk];exact qY r b h
theorem vC(hn:((scope.names.filter fun y=>y.2==.free).map (·.1)).reverse=names)(h:∀ x∈names,∃ c,env.cells.lookup x=some c):
  iu scope env=D8 (cE env names):=by
 unfold iu cE;have q:=qY (env:=env) scope.names [] fun x s=>h x (by rw [← hn]; exact List.mem_reverse.mpr s);rw [hn,D6] at q;show (_ >>= fun r=>D8 r)=_;have o:(forIn scope.names ([]:List (Str×b8)) fun(x:Str×W6)(m:List (Str×b8))=>match x with
   | (b,i)=>(if (i==.free)=true then (do let a ← rz env b; D8 (E2 ((b,a)::m))) else D8 (E2 m)):Sem (List (Str×b8)))=D8 (names.filterMap fun n=>(env.cells.lookup n).map fun c=>(n,c)):=q
 first
 |exact (f (fun z=>z >>= fun r=>D8 r) o)
 |simpa using o
noncomputable def ME(scope sc:V5):V5:={ scope with names:=scope.names.map fun (n,k)=>if (k==.free&&sc.kind==.function&&sc.names.lookup n==some .cell) then (n,.cell) else (n,k) }
theorem cO(m:X.env.scope=sc)(J:X.N=N)(C:((scope.names.filter fun y=>y.2==.free).map (·.1)).reverse=names)(D:∀ y∈scope.names,y.2≠.cell)(E:scope.kind=.function)(G:∀ y∈scope.names,y.2=.local->scope.names.lookup y.1=some .local)(o:(is.map fun i=>N[i]?)=names.map some)(H:∀ x∈names,sc.names.lookup x=some .cell∨sc.names.lookup x=some .free)(I:∀ x∈names,(ME scope sc).names.lookup x=some .cell∨(ME scope sc).names.lookup x=some .free)(s:∀ y∈(ME scope sc).names,(y.2=.cell∨y.2=.free)->y.1∈names):rB X scope tn names is:=by
 subst m J;have w:ji scope X.env=ME scope X.env.scope:=rfl;refine ⟨vC C,D,E,G,fun j i x A B=>?_,?_,H,?_,fun x b=>?_⟩
 ·have q:=congrArg (fun l=>l[j]?) o
  simp only [i7,A,B,Option.map_some] at q;exact h8 q
 ·have q:=congrArg qi o
  simpa using q
 ·rw [w]; exact I
 ·rw [w] at b
  have f:∀{l:List (Str×W6)} {k:W6},l.lookup x=some k->(x,k)∈l:=fun {l} {k}=>by
   induction l with
  |nil=>intro e; cases e
  |cons y r ih =>
    intro e;obtain ⟨n,K⟩:=y;rw [au] at e;by_cases b:x=n
    ·subst b
     rw [beq_self_eq_true] at e;cases e;exact E9
    ·rw [beq_eq_false_iff_ne.mpr b] at e
     exact A7 _ (ih e)
  rcases b with b|b
  ·exact s _ (f b) (.inl rfl)
  ·exact s _ (f b) (.inr rfl)
theorem Bj(C:rB X scope tn names is)(I:bB X ud σ H s)(f:bB X ud σ (upd H uj (.lst [])) s3)(O:∀ b∈fp,vF X ud H b)(P:∀ b∈fp,b < s3.heap.objs.size)(S:∀ b∈fp,b≠uj)(ns:h1.Ns s3.heap.objs.size fun _=>none)(kp:∀ b o,s3.heap.get? b=some o->h1.get? b=some o):
    bB (bX X scope (cE X.env names) (tn++names) s3.heap.objs.size s3 (upd H uj (.lst [])) fp) [] (x8 tn.length none++pU σ is) (upd H uj (.lst [])) { s3 with heap:=h1,toks:=t4 }:=by
  have ok:=f.ok;have E:∀ x c,(cE X.env names).lookup x=some c->X.env.cells.lookup x=some c:=fun x c h=>nB h;have K:∀ x c,X.env.cells.lookup x=some c->c < s3.heap.objs.size:=fun x c e=>let ⟨v,z⟩:=f.cell x c e; z.lt;refine ⟨⟨ok.mod,?_,ok.glob,ok.blt,i5 _,fun x y c a b=>ok.inj x y c (E _ _ a) (E _ _ b),fun x D=>?_,fun _ _ z=>absurd z (by simp [bX]),ok.hd,ok.frames,.inl rfl,fun b A=>?_,fun b o e=>f.bs b o e,u8 ok.bsz f.sz,fun b o e A=>?_,fun b A z=>?_,f.stack,fun b A=>f.stkFree b A⟩,
    rfl,f.bare,Un.kept kp,⟨_,ns,fun i x v B w e3=>?_⟩,fun x c e=>?_,?_,fun x c e=>f.freeC x c (E _ _ e),fun p hp=>absurd hp (by simp [bX]),f.hok.kept kp,?_⟩
  . show (ji scope X.env).kind=.function
    exact C.kind
  . have Q:=C.free x D
    obtain ⟨c,e⟩:=ok.has x (C.outk x Q);exact ⟨c,qZ Q e⟩
  . refine ⟨j4 (P b A),fun x c e=>(O b A).2.2.2.2.1 x c (E _ _ e)⟩
  . rcases (O b A).2.2.2.1 with z|z
    . exact ok.noex b o e z
    . have:=c9 (j6 e) ok.bsz
      lia
  . have:=f.stkSub b z
    rcases n6.mp this with q|q
    . exact (O b A).2.1 q
    . exact (O b A).2.2.1 q
  . by_cases T:i < tn.length
    . rw [K8 (by rw [K7]; exact T),my] at w
      rw [if_pos T] at w;cases w
    . have B:(tn++names)[i]?=some x:=B
      rw [E3 (by lia)] at B;rw [E3 (by rw [K7]; lia),K7] at w;generalize hj:i - tn.length=j at B w;unfold pU at w;rw [i7] at w;cases e4:is[j]? with
     |none=>rw [e4] at w; cases w
     |some G =>
        rw [e4] at w;have M:(σ[G]?).join=some v:=h8 w;have U:σ[G]?=some (some v):=by
          cases q:σ[G]? with
         |none=>rw [q] at M; cases M
         |some o=>rw [q] at M; exact congrArg some M
        have D:x∈names:=i3 B;obtain ⟨m,Q,J⟩:=f.loc;have Y:Pj X.env.scope x:=by
          rcases C.outk x D with q|q
          . exact .inr (.inl q)
          . exact .inr (.inr q)
        obtain ⟨u,ru,Z⟩:=J G x v (C.slots j G x e4 B) U Y;refine ⟨u,ru,.inr ⟨C.ink x D,?_⟩⟩;rcases Z with ⟨q,_⟩|⟨_,c,W,z⟩
        . rcases C.outk x D with R|R <;> (rw [q] at R; cases R)
        . exact ⟨c,qZ D W,let ⟨o,a,b⟩:=z; ⟨o,kp _ _ a,b⟩⟩
  . obtain ⟨v,o,a,b⟩:=f.cell x c (E _ _ e)
    exact ⟨v,o,kp _ _ a,b⟩
  . exact f.hok.fresh (i5 _)
  . show (x8 tn.length none++pU σ is).length=(tn++names).length
    rw [i9,i9,K7];unfold pU;rw [g7,C.len]
theorem DP(I:Nat->c5->Prop)
  (M:∀ n s,I n s->e9 (h9 prog w) A (O6 it) (fun r f=>match r with
  |none=>R (.ok .next) f
   | some v=>e9 (h9 prog w) A (X3 target it v) (fun _ i=>e9 (h9 prog w) A (lg target env v) (fun _ C =>
     e9 (h9 prog w) A (forIn ifs true fun c r=>if r=true then do let ok ← isTrue c env (C8 c env); D8 (E2 ok) else D8 (E2 r)) (fun ok o =>
      if ok=true then e9 (h9 prog w) A (C8 elt env) (fun x D =>
       e9 (h9 prog w) A (ax (.builtin "list.append") [uj,x]) (fun _ E=>∃ m,m < n/\I m E) (fun _ _=>False) D) (fun _ _=>False) o
      else ∃ m,m < n/\I m o) (fun _ _=>False) C) (fun _ _=>False) i) (fun _ _=>False) f) (fun _ _=>False) s)
  (n:Nat) (h:I n s) :
  S2 (h9 prog w) A (.compLoop (.ListComp elt [⟨target,iter,ifs,0⟩] scope pos) 0 it uj env) R s:=by
 refine codeAny_loop rfl I (fun n s O=>?_) n h;show e9 _ A ((compTurn (.ListComp elt [⟨target,iter,ifs,0⟩] scope pos) 0 it uj env).onRaise (fun x=>do noteFrame x env; theTreesLotGoes x)) _ _ s;refine wpAny_noted ?_;rw [compTurn_list];refine a7 (aw (a7 (C6 (M n s O) (fun r f q=>?_) fun _ _ b=>b.elim)));cases r with
|none=>exact c6 q
|some v =>
  refine a7 (C6 q (fun _ i G=>?_) fun _ _ b=>b.elim);refine a7 (C6 G (fun _ C H=>a7 (C6 H (fun ok o B=>?_) fun _ _ b=>b.elim)) fun _ _ b=>b.elim);cases ok with
 |false=>exact c6 ⟨rfl,B⟩
 |true =>
   exact a7 (a7 (C6 B (fun x D J=>a7 (C6 J (fun _ E K=>c6 (c6 ⟨rfl,K⟩)) fun _ _ b=>b.elim)) fun _ _ b=>b.elim))
noncomputable def Bt(X':Cx)(ifs:List A6)(tc:Option TT):Prop:=match ifs,tc with
|[],none=>True
|[c],some t=>PT X' c t
|_,_=>False
theorem eC:Bt X' [] none:=trivial
theorem lB(h:PT X' c t):Bt X' [c] (some t):=h
structure Op(ok:Cx->Prop)(P:j2)(w:k6)(K:m7)(tg:A6)(J:It)(fp:List b8)(it:b8)(tn:Nat->u9->Prop):Prop where
 mem:it∈fp
 obj:∀ i h,tn i h->∀ b∈fp,∃ o,h.get? b=some o/\∀ v,o.data≠.cell v
 keep:∀ i h h',tn i h->(∀ b∈fp,∀ o,h.get? b=some o->h'.get? b=some o)->tn i h'
 item:∀(X:Cx),X.prog=P->X.w=w->X.K=K->ok X->∀(i:Nat)(ud:List (b8×Obj)) (s:c5) (σ:St) (H:Hp) (E:a8->c5->Prop),bB X ud σ H s->(∀ b∈fp,vF X ud H b)->tn i s.heap->J.go i H ->
  e9 (h9 P w) X.A (O6 (.ref it)) (fun r s1=>∃ u,r=some u/\e9 (h9 P w) X.A (X3 tg (.ref it) u) (fun _ s2=>∃ x H',bB X ud σ H' s2/\bG x u/\J.yld i H x H'/\tn (i+1) s2.heap/\∀ b∈fp,H' b=none) E s1) E s
 done:∀(X:Cx),X.prog=P->X.w=w->X.K=K->ok X->∀(i:Nat)(ud:List (b8×Obj)) (s:c5) (σ:St) (H:Hp) (E:a8->c5->Prop),bB X ud σ H s->(∀ b∈fp,vF X ud H b)->tn i s.heap->J.stop i H ->
  e9 (h9 P w) X.A (O6 (.ref it)) (fun r s1=>r=none/\bB X ud σ H s1) E s
 self:∀(A:q4)(i:Nat)(s:c5)(Q:a8->c5->Prop)(E:a8->c5->Prop),tn i s.heap->Q (.ref it) s->e9 (h9 P w) A (om (.ref it)) Q E s
noncomputable def Ot(ok:Cx->Prop)(X:Cx)(ud:List (b8×Obj))(σ:St)(tg:A6)(R:It->Hp->Prop)(itv:a8)(s2:c5):Prop:=
 ∃(it:b8)(fp:List b8)(tn:Nat->u9->Prop)(J:It)(H':Hp),itv=.ref it/\bB X ud σ H' s2/\Op ok X.prog X.w X.K tg J fp it tn/\tn 0 s2.heap/\(∀ b∈fp,vF X ud H' b)/\R J H'
theorem Du(h:Rg X ud σ tg R itv s2):Ot (fun X=>X.calm=true) X ud σ tg R itv s2:=
 let ⟨m,i,tn,J,f,a,b,T,c,d,e⟩:=h; ⟨m,i,tn,J,f,a,b,⟨T.mem,T.obj,T.keep,T.item,T.done,T.self⟩,c,d,e⟩
theorem IB{ok:Cx->Prop}(ck:rB X scope tn names is)(hc:∀ C s0 H0 ex,ok (bX X scope (cE X.env names) (tn++names) C s0 H0 ex)){te:TE}{g:TG}(hg:∀ C s0 H0 ex,PG (bX X scope (cE X.env names) (tn++names) C s0 H0 ex) tg g)(he:∀ C s0 H0 ex,PE (bX X scope (cE X.env names) (tn++names) C s0 H0 ex) elt te)(ht:∀ C s0 H0 ex,Bt (bX X scope (cE X.env names) (tn++names) C s0 H0 ex) ifs tc){P:St}{Q:VK}{E:a8->c5->Prop}(h2:Ot ok X ud P tg (lD te tc g (x8 tn.length none) (pU P is) Q) itv s2){RR:a8->b8->Result->c5->Prop}
    (fin:∀(R C:b8)(H':Hp)(s':c5)(m:Str->Option a8),bB X ud P H' s'->s'.heap.Ns C m->H' C=none->C≠X.env.locals->(∀ x c,X.env.cells.lookup x=some c->c≠C)->(∀ p∈X.pn++ud,p.1≠C)->X.s₀.heap.objs.size<=C->Q (.ref R) H' ->
      RR (.ref R) C (.ok .next) s') :
    e9 (h9 X.prog X.w) X.A (ro []) (fun R s₃=>e9 (h9 X.prog X.w) X.A (newFunctionEnv scope X.env.globals (cE X.env names) [] X.env.qual none .none (some X.env)) (fun cenv Y =>
      S2 (h9 X.prog X.w) X.A (.compStart (.ListComp elt [⟨tg,iter,ifs,0⟩] scope pos) 0 itv R { cenv with scope:=ji scope X.env }) (RR R cenv.locals) Y) E s₃) E s2:=by
  obtain ⟨it,M,Z,J,H2,rfl,I2,T,st2,f2,hK⟩:=h2;have facc:H2 s2.heap.objs.size=none:=I2.hok.fresh (i5 _);refine F5 ?_ (by show 0<=j0; decide);have fpl:∀ b∈M,b < s2.heap.objs.size:=fun b B=>let ⟨o,e,_⟩:=T.obj 0 _ st2 b B; j6 e;generalize hs3:({ s2 with heap:=s2.heap.push { cls:=.type "list",data:=.seq ([]:List a8).toArray } }:c5)=D;have hsz3:D.heap.objs.size=s2.heap.objs.size+1:=by rw [← hs3]; exact J3 ..
  have I:∀ b o,s2.heap.get? b=some o->D.heap.get? b=some o:=fun b o e=>by rw [← hs3]; exact c4 _ e
  have I3:bB X ud P (upd H2 s2.heap.objs.size (.lst [])) D:=by
    rw [← hs3];exact I2.laid (t':=s2.toks) (fun b u e=>c4 _ e) (i5 _) ⟨y8 _,[],0,.nil,j5 _ rfl⟩
  refine ss ck.nocell (by intro y hy; simp at hy) (fun h1 ns sb=>?_) ck.kind;have kp:∀ b o,D.heap.get? b=some o->h1.get? b=some o:=fun b o e=>sb.extBut b o (j4 (j6 e)) (c4 _ e);have lt3:∀ b:b8,b < s2.heap.objs.size->b < D.heap.objs.size:=fun b B=>c9 B (by rw [hsz3]; exact M0 _);have ns':h1.Ns D.heap.objs.size fun _=>none:=ns;have I4:=Bj (t4:=D.toks+([]:List (Str×a8)).length) ck I2 I3 f2 (fun b B=>lt3 b (fpl b B)) (fun b B=>j4 (fpl b B)) ns' kp;generalize f:bX X scope (cE X.env names) (tn++names) D.heap.objs.size D (upd H2 s2.heap.objs.size (.lst [])) M=s at I4;have hA:s.A=X.A:=by rw [← f]; rfl
  have hP:s.prog=X.prog:=by rw [← f]; rfl
  have hW:s.w=X.w:=by rw [← f]; rfl
  have hKK:s.K=X.K:=by rw [← f]; rfl
  have hcm:ok s:=by rw [← f]; exact hc _ _ _ _
  have hfs:s.fs=DC X.stack:=by rw [← f]; rfl
  have hex:s.ex=M:=by rw [← f]; rfl
  have S:s.env.locals=D.heap.objs.size:=by rw [← f]; rfl
  have hs0:s.s₀=D:=by rw [← f]; rfl
  have hH0:s.H₀=upd H2 s2.heap.objs.size (.lst []):=by rw [← f]; rfl
  have hxe:s.xe=fun _ _=>False:=by rw [← f]; rfl
  have henv:s.env=compEnvC scope (cE X.env names) D.heap.objs.size X.env:=by rw [← f]; rfl
  have hg':PG s tg g:=by rw [← f]; exact hg _ _ _ _
  have he':PE s elt te:=by rw [← f]; exact he _ _ _ _
  have ht':Bt s ifs tc:=by rw [← f]; exact ht _ _ _ _
  have cells':∀ x c,s.env.cells.lookup x=some c->X.env.cells.lookup x=some c:=fun x c e=>by rw [henv] at e; exact nB e
  obtain ⟨W,⟨m0,w0⟩,turn⟩:=hK _ facc;have U:∀{H':Hp},(∀ b∈M,H' b=none)->∀ b∈M,vF s [] H' b:=fun {H'} hn b B=>by
    refine ⟨hn b B,?_,?_,.inl (by rw [hex]; exact B),fun x c e=>(f2 b B).2.2.2.2.1 x c (cells' x c e),fun p hp=>?_⟩
    . rw [S]; exact j4 (lt3 b (fpl b B))
    . rw [hfs]
      intro z;rcases n6.mp (I2.stkSub b z) with q|q
      . exact (f2 b B).2.1 q
      . exact (f2 b B).2.2.1 q
    . rw [← f] at hp
      exact absurd hp (by simp [bX])
  have loop:∀ s4:c5,bB s [] (x8 tn.length none++pU P is) (upd H2 s2.heap.objs.size (.lst [])) s4->Z 0 s4.heap ->
      S2 (h9 X.prog X.w) X.A (.compLoop (.ListComp elt [⟨tg,iter,ifs,0⟩] scope pos) 0 (.ref it) (.ref s2.heap.objs.size) s.env) (RR (.ref s2.heap.objs.size) D.heap.objs.size) s4:=by
    intro s4 J4 st4;refine DP (fun n s'=>∃ i ys ts H',bB s [] (ts++pU P is) H' s'/\ts.length=tn.length/\Z i s'.heap/\(∀ b∈M,H' b=none)/\W i n ys H') ?_ m0
      ⟨0,[],_,_,J4,K7 ..,st4,fun b B=>by rw [aZ (j4 (fpl b B))]; exact (f2 b B).1,w0⟩
    rintro n s5 ⟨i,ys,ts,H5,I5,hts,st5,fr5,w5⟩;obtain ⟨hacc5,hcase⟩:=turn i n ys H5 w5;have H:∀{α:Type}{m:Sem α}{Q':α->c5->Prop}{s':c5},e9 (h9 s.prog s.w) s.A m Q' (fun _ _=>False) s'->e9 (h9 X.prog X.w) X.A m Q' (fun _ _=>False) s':=fun {α m Q' s'} z=>by
      rw [hP,hW,hA] at z; exact z
    rcases hcase with ⟨stop,qn⟩|⟨hlen,go,step⟩
    . have z:=T.done s hP hW hKK hcm i [] s5 _ H5 (fun _ _=>False) I5 (U fr5) st5 stop
      rw [hA] at z;refine cY z fun r s6 ⟨hr,I6⟩=>?_;subst hr;have u23:Un (DC X.stack) M H2 (upd H2 s2.heap.objs.size (.lst [])) s2.heap D.heap:=Un.laid I (i5 _) facc;have u36:Un (DC X.stack) M (upd H2 s2.heap.objs.size (.lst [])) H5 D.heap s6.heap:=by
        have b:=I6.base;rw [hfs,hex,hs0,hH0] at b;exact b
      have hos:s6.os=s2.os:=by
        have b:=I6.os;rw [hs0,← hs3] at b;exact b
      have IO:bB X ud P H5 s6:=I2.call' hos (u23.trans u36) (by have b:=I6.hok; rw [hP,hW] at b; exact b) I6.bare fun b B=>by
        obtain ⟨_,f1,f2',f3,f4,f5⟩:=f2 b B;exact ⟨f3,f1,fun x c e=>f4 x c e,fun p hp=>f5 p hp⟩
      obtain ⟨m,hm,_⟩:=I6.loc;rw [S] at hm;have fC:H5 D.heap.objs.size=none:=by have b:=I6.free; rw [S] at b; exact b
      refine fin _ _ H5 s6 m IO hm fC ?_ (fun x c e=>?_) (fun p hp=>?_) ?_ qn
      . exact y6 (c9 I2.lt (by lia))
      . obtain ⟨v,z⟩:=I2.cell x c e
        exact j4 (lt3 c z.lt)
      . exact j4 (lt3 p.1 (j6 (I2.pin p hp).1))
      . exact u8 I2.sz (by lia)
    . have z:=T.item s hP hW hKK hcm i [] s5 _ H5 (fun _ _=>False) I5 (U fr5) st5 go
      rw [hA] at z;refine cY z fun r s6 ⟨u,hr,h6⟩=>?_;subst hr;refine cY h6 fun _ s7 ⟨x,H7,I7,r7,y7,st7,fr7⟩=>?_;have I7':=I7.pinned (U fr7) (T.obj _ _ st7);have zg:=hg' _ s7 _ H7 x u _ I7' r7 (step ts x H7 (by rw [hts,K7]) y7);rw [hxe] at zg;refine cY (H zg) fun _ s8 ⟨σ8,H8,I8,⟨O,hus,e8⟩,q8⟩=>?_;subst e8;rw [K7] at hus;have back:∀{s9:c5}{H9:Hp},bB s ([]++qL M s7.heap) (O++pU P is) H9 s9->Z (i+1) s9.heap/\∀ b∈M,H9 b=none:=fun {s9 H9} I9=>by
        refine ⟨T.keep _ _ _ st7 fun b B o e=>(I9.pin (b,o) (o0 _ (o0 _ (mW B e)))).1,fun b B=>?_⟩;obtain ⟨o,e,d⟩:=T.obj _ _ st7 b B;exact (I9.pin (b,o) (o0 _ (o0 _ (mW B e)))).2.1
      have made:∀{s9:c5}{H9:Hp},bB s ([]++qL M s7.heap) (O++pU P is) H9 s9->te (O++pU P is) H9 (fun y H3=>H3 s2.heap.objs.size=some (.lst ys)/\∃ m',m' < n/\W (i+1) m' (ys++[y]) (upd H3 s2.heap.objs.size (.lst (ys++[y])))) ->
          e9 (h9 X.prog X.w) X.A (C8 elt s.env) (fun x Y=>e9 (h9 X.prog X.w) X.A (ax (.builtin "list.append") [.ref s2.heap.objs.size,x]) (fun _ s₅=>∃ m,m < n/\∃ i ys ts H',bB s [] (ts++pU P is) H' s₅/\ts.length=tn.length/\Z i s₅.heap/\(∀ b∈M,H' b=none)/\W i m ys H') (fun _ _=>False) Y) (fun _ _=>False) s9:=fun {s9 H9} I9 q9=>by
        have ze:=he' _ s9 _ H9 _ I9 q9;rw [hxe] at ze;refine cY (H ze) fun y s10 ⟨yv,H10,I10,ry,ha10,m',hm',w10⟩=>?_;have za:=(cL (X:=s)) ([]++qL M s7.heap) s10 (O++pU P is) H10 (.ref s2.heap.objs.size) [yv] (.ref s2.heap.objs.size) [y] (fun v H'=>v=.non/\H'=upd H10 s2.heap.objs.size (.lst (ys++[yv]))) I10 rfl (.cons ry .nil)
          ⟨_,ys,yv,rfl,rfl,ha10,hlen,rfl,rfl⟩
        rw [hxe] at za;refine cY (H za) fun _ s11 ⟨_,H11,I11,_,_,e11⟩=>?_;subst e11;obtain ⟨b1,b2⟩:=back I11;exact ⟨m',hm',i+1,_,O,_,I11.unpinned,hus,b1,b2,w10⟩
      cases ifs with
     |nil =>
        cases tc with
       |some t=>exact ht'.elim
       |none=>exact wpAny_tests_nil (by rw [if_pos rfl]; exact made I8 q8)
     |cons c0 jC =>
        cases jC with
       |cons _ _=>cases tc <;> exact ht'.elim
       |nil =>
          cases tc with
         |none=>exact ht'.elim
         |some t =>
            have zt:=(show PT s c0 t from ht') _ s8 _ H8 _ I8 q8;rw [hxe] at zt;refine wpAny_tests_one (cY (H zt) fun ok s9 ⟨H9,I9,q9⟩=>?_);cases ok with
           |true=>rw [if_pos rfl]; rw [if_pos rfl] at q9; exact made I9 q9
           |false =>
              rw [if_neg h7];rw [if_neg h7] at q9;obtain ⟨m',hm',w9⟩:=q9;obtain ⟨b1,b2⟩:=back I9;exact ⟨m',hm',i+1,_,O,_,I9.unpinned,hus,b1,b2,w9⟩
  have st4:Z 0 h1:=T.keep _ _ _ st2 fun b B o e=>kp b o (I b o e);have G:=loop _ I4 st4;rw [henv] at G;refine codeAny_compStart_list G (T.self X.A 0 _ _ _ st4 G)
theorem eJ(B:rB X scope tn names is)(U:X.calm=true)(Z:PI X tg iter wi)(Y:∀ C s0 H0 ex,PG (bX X scope (cE X.env names) (tn++names) C s0 H0 ex) tg g)(W:∀ C s0 H0 ex,PE (bX X scope (cE X.env names) (tn++names) C s0 H0 ex) elt te)(ht:∀ C s0 H0 ex,Bt (bX X scope (cE X.env names) (tn++names) C s0 H0 ex) ifs tc)(hs:∀ x,P4 iter X.env x=D8 x:=by intro _; rfl):
  PE X (.ListComp elt [⟨tg,iter,ifs,0⟩] scope pos) (ER wi te tc g tn.length is):=by
 intro f s J H Q I h;rw [eval_ListComp];refine qm (use:=none) rfl hs (B.cls fun x hx=>I.ok.has x (B.outk x hx)) B.kind B.nms (cY (Z f s J H _ I h) fun v s1 O=>cY O fun itv s2 P=>?_);refine IB (RR:=fun i C=>compPost (h9 X.prog X.w) X.A X.xe none (EP X f J Q) i C) (ok:=fun X=>X.calm=true) B (fun _ _ _ _=>U) Y W ht (Du P) fun i C K s' m M hn R S D E G q=>?_;refine ⟨m,hn,fun h' sb=>⟨.ref i,K,?_,rfl,q⟩⟩;exact M.turned (t':=s'.toks) (fun b o T e=>sb.extBut b o T e) R S (.inr G) D E
theorem rW(hN:X.N.Nodup)(O:X.N[i]?=some x)(U:Ju X.env.scope x)(G:rB X scope tn names is)(hc:X.calm=true)(hi:PI X tg iter wi)(hg:∀ C s0 H0 ex,PG (bX X scope (cE X.env names) (tn++names) C s0 H0 ex) tg g)(he:∀ C s0 H0 ex,PE (bX X scope (cE X.env names) (tn++names) C s0 H0 ex) elt te)(ht:∀ C s0 H0 ex,Bt (bX X scope (cE X.env names) (tn++names) C s0 H0 ex) ifs tc)(hs:∀ x,P4 iter X.env x=D8 x:=by intro _; rfl)(S:gh (.ListComp elt [⟨tg,iter,ifs,0⟩] scope pos) (some (.Name x pos')) spos.line X.env=D8 true:=by rfl)(hf:X.fn x=true∨X.env.scope.names.lookup x=some .local:=by first|exact .inl rfl|exact .inr rfl|assumption):
  PS X (.Assign [.Name x pos'] (.ListComp elt [⟨tg,iter,ifs,0⟩] scope pos) spos) (SH (ER wi te tc g tn.length is) (gM i)):=by
 intro f s σ H D I h;rw [exec_Assign_Name_used _ _ _ _ S];refine a7 (aw (a7 ?_));show e9 _ X.A (do let _ ← comprehension (.ListComp elt [⟨tg,iter,ifs,0⟩] scope pos) scope X.env _ (ro []) false (C8 iter X.env) (some (lg (.Name x pos') X.env))) _ _ s;refine a7 (C6 (qm (use:=some (lg (.Name x pos') X.env)) (Q:=fun _ E=>SP X f D .next E) rfl hs (G.cls fun x U=>I.ok.has x (G.outk x U)) G.kind G.nms
  (cY (hi f s σ H _ I h) fun v s1 h1=>cY h1 fun itv s2 h2=>?_)) (fun _ E hq=>c6 (c6 hq)) fun _ _ e=>e)
 refine IB (RR:=fun B C=>compPost (h9 X.prog X.w) X.A X.xe (some (lg (.Name x pos') X.env)) (fun _ E=>SP X f D .next E) B C) (ok:=fun X=>X.calm=true) G (fun _ _ _ _=>hc) hg he ht (Du h2) fun B C H' E m I' hn hC hL J R T q=>?_;show e9 _ X.A (lg (.Name x pos') X.env (.ref B)) _ _ E;refine wpAny_assign_Name (zJ I' hN O U (v:=.ref B) rfl (fun W K Y=>?_) hf);obtain ⟨a,Y,M⟩:=Y;have P:C≠a:=by
  rcases M with rfl|M
  ·exact hL
  ·exact fun z=>J x a M z.symm
 refine ⟨m,hn.sameBut Y P,fun h' Z=>⟨_,H',K.turned (t':=W.toks) (fun b o hb e=>Z.extBut b o hb e) hC hL (.inr T) J R,q⟩⟩
end
section
variable {te:TE}{Q:VK}{H:Hp}{σ uf:St}{wi:TI}{tc:TT}{K:m7}
theorem Go(h:wi σ H (lD te o g (x8 k none) (pU σ is) Q)):ER wi te o g k is σ H Q:=h
theorem WE{us:St}(h:us.length=1):∃ o,us=[o]:=by
 cases us with
|nil=>cases h
|cons o r =>
  cases r with
 |nil=>exact ⟨o,rfl⟩
 |cons _ _=>simp at h
noncomputable def cW(n:Nat)(uj:b8)(Pv:Nat->List V->Hp->Prop):Nat->Nat->List V->Hp->Prop:=fun i m ys H1=>m=n - i/\i<=n/\ys.length=i/\H1 uj=some (.lst ys)/\Pv i ys H1
noncomputable def BA(n:Nat)(uj:b8)(Pv:Nat->List V->Hp->Prop)(ys:List V)(i:Nat):VK:=fun y H3=>H3 uj=some (.lst ys)/\∃ m',m' < n - i/\cW n uj Pv (i+1) m' (ys++[y]) (upd H3 uj (.lst (ys++[y])))
theorem iG(b:i < n)(g:ys.length=i)(f:H3 uj=some (.lst ys))(p:Pv (i+1) (ys++[y]) (upd H3 uj (.lst (ys++[y])))):BA n uj Pv ys i y H3:=
 ⟨f,n - (i+1),by lia,rfl,b,by rw [i9,g]; rfl,aC,p⟩
theorem pJ(hn:xs.length<=1000)(s:b8->Nat->List V->Hp->Prop)(h0:∀ b,H b=none->s b 0 [] (upd H b (.lst [])))(A:∀ b i ys g,H b=none->i<=xs.length->s b i ys g->cP K g a xs)(hs:∀ b i ys g x,H b=none->xs[i]?=some x->ys.length=i->g b=some (.lst ys)->s b i ys g->te (some x::uf) g (BA xs.length b (s b) ys i))(D:∀ b ys g,H b=none->g b=some (.lst ys)->ys.length=xs.length->s b xs.length ys g->Q (.ref b) g):lD te none (gM 0) (x8 1 none) uf Q (OK K a) H:=by
 intro b f;refine ⟨cW xs.length b (s b),⟨xs.length,by simp,y8 _,rfl,aC,h0 b f⟩,?_⟩;rintro i m ys g ⟨rfl,E,C,w,p⟩;have q:=A b i ys g f E p;refine ⟨w,?_⟩;by_cases B:i < xs.length
 ·refine .inr ⟨eA (by lia),⟨xs,xs[i],q,by simp [B]⟩,fun J x I G y=>?_⟩
  obtain ⟨e,y⟩:=y;subst e;obtain ⟨o,rfl⟩:=WE G;exact ⟨⟨[some x],rfl,rfl⟩,hs b i ys _ x f (y xs q) C w p⟩
 ·have e:i=xs.length:=by lia
  subst e;exact .inl ⟨⟨xs,q,i5 _⟩,D b ys g f w C p⟩
end
end L2
namespace L2
open PySem
section
variable {H:Hp}{Q:VK}{u v:V}{a b c d:Int}{m n:Nat}{K:m7}
end
end L2
namespace L2
theorem OC(b:i8 x y=1)(f:i8 x z=1):i8 x (y * z)=1:=by
 unfold i8 at *;rw [C4];exact Nat.Coprime.mul_right b f
theorem vU(h:x' ∣ x)(b:i8 x y=1):i8 x' y=1:=by
 unfold i8 at *;exact Nat.Coprime.coprime_dvd_left (cg.mpr h) b
theorem UG(q:b≠0)(s:0 < g)(i:i8 f g=1)(e:f * b=t * g):(i0 t b).num=f/\((i0 t b).den:Int)=g:=by
 obtain ⟨n,rfl⟩:∃ n:Nat,g=n:=⟨g.toNat,by lia⟩
 have m:i0 t b=i0 f n:=(L8 q (by lia)).mpr e.symm;have o:i0 f n=Rat.mk' f n (by lia) i:=y0 (Rat.mk' f n (by lia) i);rw [m,o];exact ⟨rfl,rfl⟩
theorem yC{a g:Int}(b:g≠0)(h:g ∣ a):a.fdiv g * g=a:=by
 obtain ⟨c,rfl⟩:=h;rw [Z7 _ b,J9]
theorem sS(h:k ∣ n * m)(g:i8 k n=1):k ∣ m:=by
 have q:=Int.dvd_gcd_mul_iff_dvd_mul.mpr h;rw [g] at q;simpa using q
theorem yA(h:∀ k:Int,k ∣ x->k ∣ y->k ∣ 1):i8 x y=1:=by
 have b:=h (i8 x y) (P8 ..) (S9 ..);have:=fh (by decide) b;have f:i8 x y≠0:=by
  intro z;rw [z] at b;simp at b
 lia
theorem RE(W:0 < b)(hd:0 < d)(T:i8 a b=1)(U:i8 c d=1)(hs:s=(i8 b d:Int))(Y:u=d.fdiv s)(Z:v=b.fdiv s)(hk:k=(i8 (a * u+c * v) s:Int))(X:f=(a * u+c * v).fdiv k):
  0 < s/\0 < k/\s<=b/\k<=s/\(0 < b.fdiv k * u/\i8 f (b.fdiv k * u)=1/\f * (b * d)=(a * d+c * b) * (b.fdiv k * u)) /\
   u.natAbs<=d.natAbs/\v.natAbs<=b.natAbs/\f.natAbs<=(a * u+c * v).natAbs/\(b.fdiv k).natAbs<=b.natAbs:=by
 have i:∀{a g c:Int},g≠0->a * g=c->a.natAbs<=c.natAbs:=fun {a g c} hg e=>by
  rw [← e,C4];exact M7 _ (by lia)
 have N:0 < s:=by
  rw [hs];have:i8 b d≠0:=fun e=>by
   have:=(ew.mp e).1;lia
  lia
 have O:s ∣ b:=hs ▸ P8 ..;have sd:s ∣ d:=hs ▸ S9 ..;have D:u * s=d:=Y ▸ yC (by lia) sd;have w:v * s=b:=Z ▸ yC (by lia) O;have k0:0 < k:=by
  rw [hk];have:i8 (a * u+c * v) s≠0:=fun e=>by
   have:=(ew.mp e).2;lia
  lia
 have kt:k ∣ a * u+c * v:=hk ▸ P8 ..;have ks:k ∣ s:=hk ▸ S9 ..;have G:f * k=a * u+c * v:=X ▸ yC (by lia) kt;obtain ⟨m,C⟩:=ks;have m0:0 < m:=by
  rcases bc 0 m with q|q
  ·exact q
  ·have:k * m<=0:=Int.mul_nonpos_of_nonneg_of_nonpos (by lia) q
   lia
 have u0:0 < u:=by
  rcases bc 0 u with q|q
  ·exact q
  ·have:u * s<=0:=R4 q (by lia)
   lia
 have v0:0 < v:=by
  rcases bc 0 v with q|q
  ·exact q
  ·have:v * s<=0:=R4 q (by lia)
   lia
 have o:b.fdiv k=v * m:=by
  have:b=k * (v * m):=by rw [← w,C]; grind
  rw [this,Z7 _ (by lia)]
 have B:i8 u v=1:=by
  have e:i8 (u * s) (v * s)=i8 u v * s.natAbs:=ii ..;rw [D,w,T4] at e;have:s.natAbs=i8 b d:=by lia
  rw [this] at e;have H:0 < i8 b d:=by lia
  have:1 * i8 b d=i8 u v * i8 b d:=by lia
  exact (X6 H this).symm
 have Q:i8 (a * u+c * v) u=1:=by
  refine yA fun z E A=>?_;have I:z ∣ c * v:=(Int.dvd_add_right (ni A)).mp E;have J:i8 z c=1:=vU (ng A ⟨s,D.symm⟩) (by rw [T4]; exact U);have K:z ∣ v:=sS I J;have:=Int.dvd_coe_gcd A K;rw [B] at this;exact this
 have R:i8 (a * u+c * v) v=1:=by
  refine yA fun z E A=>?_;have I:z ∣ a * u:=(Int.dvd_add_left (ni A)).mp E;have J:i8 z a=1:=vU (ng A ⟨s,w.symm⟩) (by rw [T4]; exact T);have K:z ∣ u:=sS I J;have:=Int.dvd_coe_gcd K A;rw [B] at this;exact this
 have P:i8 f m=1:=by
  have e:i8 (f * k) (m * k)=i8 f m * k.natAbs:=ii ..;have:m * k=s:=by rw [C,J9]
  rw [G,this] at e;have E:k.natAbs=i8 (a * u+c * v) s:=by lia
  rw [E] at e;have H:0 < i8 (a * u+c * v) s:=by lia
  have:1 * i8 (a * u+c * v) s=i8 f m * i8 (a * u+c * v) s:=by lia
  exact (X6 H this).symm
 have M:f ∣ a * u+c * v:=⟨k,G.symm⟩
 refine ⟨N,k0,fh W O,fh N ⟨m,C⟩,⟨?_,?_,?_⟩,i (by lia) D,i (by lia) w,i (by lia) G,i (g:=k) (by lia) (by rw [o,← w,C]; grind)⟩
 ·rw [o]; exact Y9 (Y9 v0 m0) u0
 ·rw [o]
  exact OC (OC (vU M R) P) (vU M Q)
 ·rw [o]
  have S:a * d+c * b=(f * k) * s:=by rw [G,← D,← w]; grind
  rw [S,← D,← w];have:f * (v * s * (u * s))=f * s * v * u * s:=by grind
  rw [this];have:f * k * s * (v * m * u)=f * s * v * u * (k * m):=by grind
  rw [this,← C]
noncomputable def Sz(n:Nat)(q:Rat):Prop:=q.num.natAbs < 2 ^ n/\q.den < 2 ^ n
theorem Sz.mono(h:Sz m q)(l:m<=n):Sz n q:=
 have:=Q8 (n:=2) (by decide) l
 ⟨c9 h.1 this,c9 h.2 this⟩
theorem Sz.divInt(g:b≠0)(B:t.natAbs < 2 ^ n)(hs:b.natAbs < 2 ^ n):Sz n (i0 t b):=by
 have e:i0 (i0 t b).num (i0 t b).den=i0 t b:=y0 _;have i:((i0 t b).den:Int)≠0:=by have:=(i0 t b).den_pos; lia
 rw [L8 i g] at e;generalize C:i0 t b=q at *;have A:i8 q.num q.den=1:=q.reduced;have w:(q.den:Int) ∣ b:=sS (k:=q.den) (n:=q.num) ⟨t,by rw [e,J9]⟩ (by rw [T4]; exact A);obtain ⟨m,f⟩:=w;have s:t=q.num * m:=by
  have:t * q.den=(q.num * m) * q.den:=by rw [← e,f]; grind
  exact Int.eq_of_mul_eq_mul_right i this
 have D:m≠0:=by rintro rfl; simp at f; exact g f
 have o:1<=m.natAbs:=by lia
 constructor
 ·refine B8 ?_ B
  rw [s,C4];exact M7 _ o
 ·refine B8 ?_ hs
  rw [f,C4];have:(q.den:Int).natAbs=q.den:=by lia
  rw [this];exact M7 _ o
theorem yP(q r:Rat):q+r=i0 (q.num * r.den+r.num * q.den) (q.den * r.den):=by
 have b:(q.den:Int)≠0:=by have:=q.den_pos; lia
 have f:(r.den:Int)≠0:=by have:=r.den_pos; lia
 have:=qc q.num r.num b f;rw [y0,y0] at this;exact this
theorem JO(q r:Rat):q * r=i0 (q.num * r.num) (q.den * r.den):=by
 have:=O7 q.num r.num (d₁:=q.den) (d₂:=r.den);rw [y0,y0] at this;exact this
theorem JX(q r:Rat):q / r=i0 (q.num * r.den) (q.den * r.num):=by
 rw [V4,Rat.inv_def];have:=O7 q.num r.den (d₁:=q.den) (d₂:=r.num);rw [y0] at this;exact this
theorem mS(b:x < 2 ^ m)(f:y < 2 ^ n):x * y < 2 ^ (m+n):=by
 rw [Nat.pow_add];exact Nat.mul_lt_mul'' b f
theorem Sz.add(b:Sz m q)(f:Sz n r):Sz (m+n+1) (q+r):=by
 rw [yP];have w:=q.den_pos;have A:=r.den_pos;refine Sz.divInt (Int.ne_of_gt (Y9 (by lia) (by lia))) ?_ ?_
 ·have g:=mS b.1 f.2
  have i:=mS f.1 b.2;have o:(q.num * r.den).natAbs=q.num.natAbs * r.den:=by rw [C4]; rfl
  have s:(r.num * q.den).natAbs=r.num.natAbs * q.den:=by rw [C4]; rfl
  rw [Nat.add_comm n m] at i;rw [pow_succ];lia
 ·have g:=mS b.2 f.2
  have o:((q.den:Int) * r.den).natAbs=q.den * r.den:=by rw [C4]; rfl
  rw [pow_succ];lia
theorem Sz.neg(h:Sz n q):Sz n (-q):=⟨by rw [ja,Int.natAbs_neg]; exact h.1,h.2⟩
theorem Sz.sub(b:Sz m q)(f:Sz n r):Sz (m+n+1) (q - r):=by
 rw [Rat.sub_eq_add_neg];exact b.add f.neg
theorem Sz.mul(b:Sz m q)(f:Sz n r):Sz (m+n) (q * r):=by
 rw [JO];have o:=q.den_pos;have s:=r.den_pos;refine Sz.divInt (Int.ne_of_gt (Y9 (by lia) (by lia))) ?_ ?_
 ·rw [C4]; exact mS b.1 f.1
 ·have g:=mS b.2 f.2
  have i:((q.den:Int) * r.den).natAbs=q.den * r.den:=by rw [C4]; rfl
  lia
theorem Sz.div(b:Sz m q)(f:Sz n r)(s:r≠0):Sz (m+n) (q / r):=by
 rw [JX];have w:=q.den_pos;have o:r.num≠0:=fun e=>s (Rat.num_eq_zero.mp e);refine Sz.divInt (W0 (by lia) o) ?_ ?_
 ·have g:=mS b.1 f.2
  have i:(q.num * (r.den:Int)).natAbs=q.num.natAbs * r.den:=by rw [C4]; rfl
  lia
 ·have g:=mS b.2 f.1
  have i:((q.den:Int) * r.num).natAbs=q.den * r.num.natAbs:=by rw [C4]; rfl
  rw [Nat.add_comm] at *;lia
theorem HN(q r:Rat):decide (q.num * r.den < r.num * q.den)=decide (q < r):=by
 by_cases h:q < r
 ·rw [decide_eq_true h,decide_eq_true ((Rat.lt_iff q r).mp h)]
 ·rw [decide_eq_false h,decide_eq_false (fun z=>h ((Rat.lt_iff q r).mpr z))]
end L2
namespace L2
noncomputable def Bd(D M:Nat)(q:Rat):Prop:=q.den ∣ D/\-((M:Nat):Rat)<=q/\q<=((M:Nat):Rat)
theorem NJ{a b:Int}(f:0<=a)(g:1<=b):a<=a * b:=by
 have:=Int.mul_le_mul_of_nonneg_left g f;lia
theorem OA(f:b≠0):((i0 t b).den:Int) ∣ b:=by
 have e:i0 (i0 t b).num (i0 t b).den=i0 t b:=y0 _;have i:((i0 t b).den:Int)≠0:=by have:=(i0 t b).den_pos; lia
 rw [L8 i f] at e;have g:i8 (i0 t b).num (i0 t b).den=1:=(i0 t b).reduced;exact sS (n:=(i0 t b).num) ⟨t,by rw [e,J9]⟩ (by rw [T4]; exact g)
theorem Hf{D:Nat}{q:Rat}(h:q.den ∣ D)(f:D≠0):∃ a:Int,q=i0 a D:=by
 obtain ⟨m,e⟩:=h;refine ⟨q.num * m,?_⟩;have g:=q.den_pos;have b:i0 (q.num * m) D=i0 q.num q.den:=by
  rw [L8 (by lia) (by lia),e]
  push_cast
  grind
 rw [b,y0]
theorem sT{D:Nat}{q r:Rat}(f:D≠0)(g:q.den ∣ D)(i:r.den ∣ D):(q+r).den ∣ D:=by
 obtain ⟨a,rfl⟩:=Hf g f;obtain ⟨b,rfl⟩:=Hf i f;rw [qc a b (by lia) (by lia)];have e:i0 (a * D+b * D) (D * D)=i0 (a+b) D:=by
  rw [L8 (W0 (by lia) (by lia)) (by lia)];grind
 rw [e];exact M8.mp (OA (by lia))
theorem Bd.add(m:D≠0)(g:Bd D M q)(i:Bd D N r):Bd D (M+N) (q+r):=by
 obtain ⟨b,o,s⟩:=g;obtain ⟨f,w,A⟩:=i;refine ⟨sT m b f,?_,?_⟩
 ·have e:(((M+N:Nat)):Rat)=(M:Rat)+(N:Rat):=by push_cast; rfl
  rw [e];grind
 ·have e:(((M+N:Nat)):Rat)=(M:Rat)+(N:Rat):=by push_cast; rfl
  rw [e];grind
theorem Bd.mono(h:Bd D M q)(l:M<=N):Bd D N q:=by
 obtain ⟨b,f,g⟩:=h;have e:(M:Rat)<=(N:Rat):=by
  rw [fz];simp;lia
 exact ⟨b,by grind,by grind⟩
theorem Bd.sz(h:Bd D M q)(B:D≠0)(w:D < 2 ^ n)(A:M * D < 2 ^ n):Sz n q:=by
 obtain ⟨f,g,i⟩:=h;have b:=ld (by lia) f;have C:q.num<=M * q.den:=by
  have:=(fz q (M:Rat)).mp i;simpa using this
 have E:-(M * q.den:Int)<=q.num:=by
  have:=(fz (-(M:Rat)) q).mp g;have m:(-(M:Rat)).num=-(M:Int):=by rw [ja]; simp
  have o:(-(M:Rat)).den=1:=by rw [qw]; simp
  rw [m,o] at this;simp at this;have s:-(M:Int) * q.den=-((M:Int) * q.den):=by grind
  lia
 refine ⟨?_,by lia⟩;have G:M * q.den<=M * D:=S0 _ b;have H:((M * q.den:Nat):Int)=(M:Int) * q.den:=by push_cast; rfl
 lia
theorem Bd.of(h:q.num.natAbs<=M):Bd q.den M q:=by
 have hp:=q.den_pos;refine ⟨Nat.dvd_refl _,?_,?_⟩
 ·rw [fz]
  have b:(-(M:Rat)).num=-(M:Int):=by rw [ja]; simp
  have f:(-(M:Rat)).den=1:=by rw [qw]; simp
  rw [b,f];have:(M:Int)<=(M:Int) * q.den:=NJ (by lia) (by lia);have g:-(M:Int) * q.den=-((M:Int) * q.den):=by grind
  simp;lia
 ·rw [fz]
  have:(M:Int)<=(M:Int) * q.den:=NJ (by lia) (by lia);simp;lia
theorem Bd.dvd(h:Bd D M q)(d:D ∣ E):Bd E M q:=⟨dvd_trans h.1 d,h.2⟩
end L2
namespace L2
open PySem
noncomputable def IK(xs:Array Nat):Prop:=xs.toList.Pairwise (· < ·)
theorem IK.lt(h:IK xs)(b:i < j)(f:j < xs.size):xs[i]'(bu b f) < xs[j]:=by
 have:=X7.mp h i j (by simpa using bu b f) (by simpa using f) b;simpa using this
theorem IK.le(h:IK xs)(b:i<=j)(g:j < xs.size):xs[i]'(B8 b g)<=xs[j]:=by
 rcases Nat.lt_or_eq_of_le b with f|f
 ·exact Q2 (h.lt f g)
 ·subst f
  exact i5 _
noncomputable def II(xs:Array Nat)(j r:Nat):Prop:=r<=xs.size/\(∀ k (hk:k < xs.size),k < r->xs[k] < j)/\∀ k (hk:k < xs.size),r<=k->j<=xs[k]
theorem yM(h:IK xs):∀(fuel lo b:Nat),b - lo<=fuel->lo<=b->b<=xs.size->(∀ k (hk:k < xs.size),k < lo->xs[k] < j)->(∀ k (hk:k < xs.size),b<=k->j<=xs[k])->II xs j (P5 xs j fuel lo b)
|0,lo,b,w,A,o,i,m=>by
  have:lo=b:=by lia
  subst this;unfold P5;exact ⟨o,i,m⟩
|fuel+1,lo,b,w,A,o,i,m=>by
  unfold P5;by_cases g:lo < b
  ·rw [if_pos g]
   have q:(lo+b) / 2 < xs.size:=by lia
   have s:xs.getD ((lo+b) / 2) j=xs[(lo+b) / 2]:=by simp [Array.getD,q]
   show II xs j (if xs.getD ((lo+b) / 2) j < j then P5 xs j fuel ((lo+b) / 2+1) b else P5 xs j fuel lo ((lo+b) / 2));rw [s];by_cases c:xs[(lo+b) / 2] < j
   ·rw [if_pos c]
    exact yM h fuel ((lo+b) / 2+1) b (by lia) (by lia) o (fun k hk f=>B8 (h.le (show k<=(lo+b) / 2 by lia) q) c) m
   ·rw [if_neg c]
    exact yM h fuel lo ((lo+b) / 2) (by lia) (by lia) (by lia) i fun k hk f=>u8 (Nat.le_of_not_lt c) (h.le f hk)
  ·rw [if_neg g]
   have:lo=b:=by lia
   subst this;exact ⟨o,i,m⟩
theorem oY(j:Nat)(h:IK xs):II xs j (D9 xs j):=
 yM h xs.size 0 xs.size (by lia) (y8 _) (i5 _) (fun _ _ z=>absurd z (T5 _)) fun k hk z=>absurd hk (not_lt.mpr z)
theorem zK(h:II xs j r)(h':II xs j r'):r=r':=by
 rcases Nat.lt_trichotomy r r' with c|c|c
 ·have hk:r < xs.size:=c9 c h'.1
  exact absurd (h'.2.1 r hk c) (not_lt.mpr (h.2.2 r hk (i5 _)))
 ·exact c
 ·have hk:r' < xs.size:=c9 c h.1
  exact absurd (h.2.1 r' hk c) (not_lt.mpr (h'.2.2 r' hk (i5 _)))
theorem KC(h:IK xs):D9 xs 0=0:=
 zK (oY 0 h) ⟨y8 _,fun _ _ z=>absurd z (T5 _),fun _ _ _=>y8 _⟩
theorem KD(h:IK xs)(b:i < xs.size):D9 xs (xs[i]+1)=i+1:=
 zK (oY _ h) ⟨b,fun k hk z=>Nat.lt_succ_of_le (h.le (Nat.le_of_lt_succ z) b),fun k hk z=>Nat.succ_le_of_lt (h.lt z hk)⟩
theorem ZA(h:IK xs)(hn:xs[D9 xs j]?≠some j):IK (B9.insertAt xs (D9 xs j) j):=by
 have st:=oY j h;generalize D9 xs j=p at st hn;unfold IK;rw [B9.toList_insertAt];have i:∀ a∈xs.toList.take p,a < j:=fun a f=>by
  obtain ⟨k,hk,e⟩:=eh f;rw [av] at hk;rw [List.getElem_take,cj] at e;rw [← e];exact st.2.1 k (by simp at hk; lia) (by lia)
 have m:∀ a∈xs.toList.drop p,j < a:=fun a f=>by
  obtain ⟨k,hk,e⟩:=eh f;rw [sx,C9] at hk;rw [List.getElem_drop,cj] at e;have hp:p < xs.size:=by lia
  have o:=st.2.2 p hp (i5 _);have q:xs[p]≠j:=fun z=>hn (by rw [C7 hp,z]);have s:=h.le (show p<=p+k by lia) (by lia);rw [← e];lia
 refine List.pairwise_append.mpr ⟨h.sublist (jg ..),List.pairwise_cons.mpr ⟨m,h.sublist (List.drop_sublist ..)⟩,fun a f b g=>?_⟩;rcases n6.mp g with rfl|g
 ·exact i a f
 ·exact bu (i a f) (m b g)
noncomputable def Tb(w:k6)(t:B9)(_n:Nat):Prop:=t.led=!(w.params.followText "set-order")/\IK t.place/\t.dummies=#[]
theorem pG(n:Nat):IK (Array.range n):=by
 unfold IK;rw [Array.toList_range];exact nj
theorem NQ(j:Nat):jy #[] j=false:=by
 unfold jy;simp
theorem xF(m:t.dummies=#[]):∀(fuel:Nat)(p:B9.Probe)(j:Nat)(d:Option Nat),B9.probe.go t f h fuel p=some (.empty j d)->p.dummy=none->t.slot j=.empty/\d=none
|0,p,j,d,e,b=>nomatch e
|fuel+1,p,j,d,e,b=>by
  have g:(t.advance p).dummy=none:=by
   unfold B9.advance;split
   ·exact b
   ·exact b
  unfold B9.probe.go at e;cases hs:t.slot p.j with
 |empty =>
   rw [hs] at e;have e:=h8 e;injection e with e1 e2
   exact ⟨by rw [← e1]; exact hs,by rw [← e2]; exact b⟩
 |dummy =>
   exfalso;unfold B9.slot at hs;dsimp only at hs;rw [m,NQ,if_neg h7] at hs;split at hs <;> cases hs
 |live i =>
   rw [hs] at e;dsimp only at e;split at e
   ·exact nomatch h8 e
   ·exact xF m fuel _ j d e g
theorem OW{t:B9}{j:Nat}(h:t.slot j=.empty):t.place[D9 t.place j]?≠some j:=fun e=>by
 unfold B9.slot at h;dsimp only at h;rw [e,if_pos (by simp)] at h;cases h
theorem QC(es:Array (Int×a8))(h:Int)(x:a8)(s:Tb w t n):Tb w (layNew t es h x).2.1 m:=by
 obtain ⟨f,q,g⟩:=s;unfold layNew;split
 ·rename_i b A e
  dsimp only;have hp:Tb w (t.put b).1 m:=by
   have hs:t.place[D9 t.place b]?≠some b:=by
    unfold B9.freeSlot at e;split at e
    ·rename_i j d i
     have:=xF g _ _ _ _ i rfl;rw [this.2] at e;have e:=h8 e;have o:j=b:=congrArg qf e;rw [← o];exact OW this.1
    ·cases e
   unfold B9.put;refine ⟨f,ZA q hs,?_⟩;show (if jy t.dummies b then _ else t.dummies)=#[];rw [g,NQ,if_neg h7]
  unfold B9.orStandIn;split
  ·exact hp
  ·exact ⟨f,pG _,rfl⟩
 ·exact ⟨f,pG _,rfl⟩
theorem UE(es:Array (Int×a8))(k:Nat)(A:Tb w t n):Tb w (jh t es k).2.1 m:=by
 obtain ⟨f,B,C⟩:=A;unfold jh;split
 ·rename_i E i e
  unfold B9.relaid B9.laid at e;cases hc:B9.layClean (B9.sizeAbove k - 1) (Array.map (fun x=>x.fst) es) with
 |none =>
   rw [hc] at e;exact nomatch e
 |some D =>
  rw [hc] at e;have o:=congrArg qf (h8 e);dsimp only at o;subst o;dsimp only;split
  ·refine ⟨f,?_,rfl⟩
   unfold IK;dsimp only;refine L9.mpr (List.pairwise_filterMap.mpr (nj.imp fun {a b} g x q y s=>?_));simp only [j7] at q s;obtain ⟨_,_,rfl⟩:=q;obtain ⟨_,_,rfl⟩:=s;exact g
  ·exact ⟨f,pG _,rfl⟩
 ·exact ⟨f,pG _,rfl⟩
section
variable {prog:j2}{w:k6}{K:Type}[DecidableEq K]{knd:KeyKind prog w K}{A:q4}{E:a8 -> c5 -> Prop}{s:c5}
theorem XX(N:x.scannable=true)(J:knd.is k x=true)(S:s.heap.get? a=some o)(hex:o.ExactSet)(H:o.data=.set es ep t)(I:ElemsOf knd es.toList)(hb:es.size+1 < gj)(hf:t.fits es.size=true)(ht:Tb w t es.size)(h1:(∃ e∈es.toList,knd.is k e.2=true)->Q false s)
  (h2:(∀ e∈es.toList,knd.is k e.2=false)->∀(h':u9)(es':Array (Int×a8)) (t':B9) (ep':Nat),L6 a s.heap h'->h'.get? a=some { o with data:=.set es' ep' t' }->df es'.toList (es.toList++[(knd.hash k,x)]) ->
   t'.fits es'.size=true->Tb w t' es'.size->Q true { s with heap:=h' }):e9 (h9 prog w) A (rk a x (knd.hash k)) Q E s:=by
 unfold rk setAddHashedIn;refine B2 (a7 (P3 S H hf ?_));dsimp only;rw [byScan_of N (by lia) I,if_pos rfl];unfold setAddByScan;refine a7 (a7 (P9 (a7 (wpAny_setScan_of J S H hf I ?_))));cases hr:List.findIdx? (fun e=>knd.is k e.2) es.toList with
|some j =>
  obtain ⟨hj,Y,_⟩:=List.findIdx?_eq_some_iff_getElem.mp hr;exact c6 (c6 (h1 ⟨_,C5 hj,Y⟩))
|none =>
  have M:=List.findIdx?_eq_none_iff.mp hr;have gw:∀(b:Bool){q:c5}{Q':Unit->c5->Prop},Q' () q->e9 (h9 prog w) A (match b with|true=>rule "set.scan.the-table-gave-way"|false=>D8 ()) Q' E q:=fun b _ _ hq=>by
   cases b
   ·exact c6 hq
   ·exact P9 hq
  dsimp only;have C:=layNew_perm t es (knd.hash k) x;have G:=layNew_fits t es (knd.hash k) x;have O:=fun m=>QC (m:=m) es (knd.hash k) x ht;generalize layNew t es (knd.hash k) x=L at C G O ⊢;obtain ⟨f,t1,wd,gave⟩:=L;dsimp only at C G O ⊢;rw [R8] at C;have hz:f.size=es.size+1:=by
   have:=C.length_eq;simpa using this
  refine a7 (gw _ ?_);have B:∀ g:B9,g.fits f.size=true->(∀ m,Tb w g m)->e9 (h9 prog w) A (do
    storeSet a f g
    if (!wd&&g.tooFull)=true then do
      (match (jh g f (O3 f.size)).2.2 with|true=>rule "set.scan.the-table-gave-way"|false=>D8 ())
      storeSet a (jh g f (O3 f.size)).1 (jh g f (O3 f.size)).2.1
      D8 (some true)
     else D8 (some true)) (fun r q=>e9 (h9 prog w) A (match r with | some added=>D8 added | none=>setAddHashedIn a x (knd.hash k) 99999) Q E q) E s:=by
   intro g f2 l2;refine a7 (wpAny_storeSet_of S H ?_ (jo (by lia)));have W:(s.heap.update a (ba f g)).get? a=some { o with data:=.set f (ep+1) g }:=by
    have z:=C1 (ba f g) S (by rw [rf f g H]; rfl);rw [rf f g H] at z;exact z
   have P:=B0 s.heap a (ba f g);split
   ·have T:=relayAll_perm g f (O3 f.size)
    have U:=relayAll_fits g f (O3 f.size);have Z:=fun m=>UE (m:=m) f (O3 f.size) (l2 0);generalize jh g f (O3 f.size)=R at T U Z ⊢;obtain ⟨i,D,X⟩:=R;dsimp only at T U Z ⊢;have hz2:i.size=f.size:=by
     have:=T.length_eq;simpa using this
    refine a7 (gw _ ?_);refine a7 (wpAny_storeSet_of W rfl ?_ (jo (by lia)));have g2:((s.heap.update a (ba f g)).update a (ba i D)).get? a=some { o with data:=.set i (ep+1+1) D }:=by
     have z:=C1 (ba i D) W (by rw [rf i D rfl]; rfl);rw [rf i D rfl] at z;exact z
    exact c6 (c6 (h2 M _ i D _ (P.trans (B0 _ a _)) g2 (T.trans C) U (Z _)))
   ·exact c6 (c6 (h2 M _ f g _ P W C f2 (l2 _)))
  split
  ·refine a7 ?_
   rw [hashByValue_scannable 8 N];refine c6 ?_;cases plainKind x with
  |true =>
    rw [if_pos rfl];exact B t1 G O
  |false =>
    rw [if_neg h7];exact B _ (B9.fits_plain_off G) O
  ·refine a7 (c6 ?_)
   rw [if_pos rfl];exact B t1 G O
end
end L2
namespace L2
open PySem
section
variable {prog:j2}{w:k6}{A:q4}{E:a8 -> c5 -> Prop}{s:c5}
theorem QV(hn:n≠0)(h:∀ i d,i < n->Q i { s with drawn:=d }):e9 M A (choose src n) Q E s:=by
 intro b p _;show Sem.wp M b (.choose src n .pure) _ _ p s;rw [Sem.wp_choose];exact ⟨hn,by rw [Sem.wp]; exact h _ _ (mod_lt _ (Nat.pos_of_ne_zero hn))⟩
theorem mZ{b:Type}:∀{l:List b}{i:Nat}{x:b},l[i]?=some x->(x::l.eraseIdx i).Perm l
|[],i,x,h=>by simp at h
|a::l,0,x,h=>by simp at h; subst h; exact .refl _
|a::l,i+1,x,h=>by
  have ih:=mZ (l:=l) (i:=i) (x:=x) (by simpa using h);show (x::a::l.eraseIdx i).Perm (a::l);exact (df.swap ..).trans (ih.cons a)
theorem AK{g:Type}:∀(n:Nat)(xs:List g)(s:c5)(Q:List g->c5->Prop),xs.length=n->(∀ ys d,ys.Perm xs->Q ys { s with drawn:=d })->e9 M A (drawOrder n xs) Q E s
|0,xs,s,Q,b,h=>by
  have:xs=[]:=K9.mp b;subst this;exact c6 (h [] s.drawn (.refl _))
|n+1,[],s,Q,b,h=>by cases b
|n+1,x::xs,s,Q,b,h=>by
  unfold drawOrder;refine a7 (QV (by simp) fun i d o=>?_);obtain ⟨y,f⟩:∃ y,(x::xs)[i]?=some y:=⟨_,c8 o⟩
  rw [f];refine a7 (AK n _ _ _ ?_ fun ys m hp=>c6 (h _ m ?_))
  ·have:=(mZ f).length_eq
   simp at this b ⊢;lia
  ·exact (hp.cons y).trans (mZ f)
theorem MV{i:Type}(next:Nat->Nat):∀(fuel k:Nat)(left:List i)(out:Array i),left.length=fuel->(jk next fuel k left out).toList.Perm (out.toList++left)
|0,k,left,out,f=>by
  have:left=[]:=K9.mp f;subst this;unfold jk;simp
|fuel+1,k,left,out,f=>by
  unfold jk;have b:next k % left.length < left.length:=mod_lt _ (by lia)
  obtain ⟨y,g⟩:∃ y,left[next k % left.length]?=some y:=⟨_,c8 b⟩
  rw [g];dsimp only;have hp:=mZ g;have ih:=MV next fuel (k+1) (left.eraseIdx (next k % left.length)) (out.push y) (by
   have:=hp.length_eq;simp at this;lia)
  refine ih.trans ?_;rw [R8,K4];exact df.append_left _ hp
theorem PJ{b:Type}(next:Nat->Nat)(xs:Array b):(gn next xs).toList.Perm xs.toList:=by
 unfold gn;have:=MV next xs.size 0 xs.toList #[] (by simp)
 simpa using this
theorem jN:Slot "set_iterator" "__next__" "set_iterator.__next__":=
 .of (owner:="set_iterator") (n:="__next__") (by rw [X2,P1]; kernel_rfl) (by k_is) (by k_is) (by k_is) (by first|exact .inl (by k_is)|exact .inr (by k_is)) (by rw [fx]; kernel_rfl)
theorem yZ:jp table "set_iterator.__next__"=some C0.«set_iterator.__next__»:=lf (by kernel_rfl)
theorem DK:jp table "set.__iter__"=some C0.«frozenset.__iter__»:=entryFor_alias (id':="frozenset.__iter__") (by kernel_rfl) rfl (by k_is) (by kernel_rfl)
theorem EA(a:a8):si "set_iterator.__next__" ⟨[a],[]⟩:=by
 unfold si
 kernel_rfl
end
end L2
namespace L2
open PySem
noncomputable def eW(es:Array (Int×a8))(ep:Nat)(t:B9):Obj:={ cls:=.type "set",dict:=none,data:=.set es ep t,slots:=#[] }
noncomputable def pW(h:u9)(it:b8)(first:a8)(i:Nat)(a:b8)(n ep:Nat):Prop:=
 ∃ o,h.get? it=some o/\o.cls=.type "set_iterator"/\o.data=.fields #[first,.int i 0,.ref a,.int n 0,.int ep 0]
theorem pW.typeIs{s:c5}{it a:b8}{first:a8}{i n ep:Nat}(x:pW s.heap it first i a n ep):s.TypeIs (.ref it) "set_iterator":=let ⟨o,f,b,_⟩:=x; ⟨o,f,b⟩
section
variable {prog:j2}{w:k6}{A:q4}{E:a8 -> c5 -> Prop}{s:c5}
theorem vI(g:s.TypeIs (.ref it) "set_iterator")(h:e9 (h9 prog w) A.in1 (C0.«set_iterator.__next__» ⟨[.ref it],[]⟩) (fun f b=>∃ v,f=.done (.ret v)/\Q (some v) b) (fun e b=>e9 (h9 prog w) A (do if ← isInstance e (.type "StopIteration") then D8 none else throw e) Q E b) s):
  e9 (h9 prog w) A (O6 (.ref it)) Q E s:=by
 unfold O6;have i:e9 (h9 prog w) A (callSpecial? (.ref it) (B4 "__next__")) (fun r b=>∃ v,r=some v/\Q (some v) b) (fun e b=>e9 (h9 prog w) A (do if ← isInstance e (.type "StopIteration") then D8 none else throw e) Q E b) s:=
  bp (name:=B4 "__next__") g jN (K6 jN g yZ (C6 h (fun f b ⟨v,e,q⟩=>⟨v,e,v,rfl,q⟩) fun _ _ e=>e) (EA _))
 refine a7 (il (C6 i (fun r b o=>?_) fun e b m=>m));obtain ⟨v,rfl,q⟩:=o;exact c6 q
theorem LV(b:s.TypeIs e "StopIteration")(h:Q none s):e9 (h9 prog w) A (do if ← isInstance e (.type "StopIteration") then D8 none else throw e) Q E s:=by
 refine a7 (bo b isSubtype_stop ?_);exact c6 h
theorem FX{f:Type}{Q:f->c5->Prop}(g:A.handled=none)(h:∀ e h',(∀ b o,s.heap.get? b=some o->h'.get? b=some o)->U3 { s with heap:=h' } e "StopIteration"->E e { s with heap:=h' }):
  e9 (h9 prog w) A (do bt (← lc (.type "StopIteration") []):Sem f) Q E s:=by
 refine a7 ?_;simp only [lc,newTuple];refine a7 (F5 ?_ (by size_fits));refine a7 (m:=firstArgMember _ _) (wpAny_of_eq (a:=F7) (by first|rfl|(simp only [firstArgMember]; rfl)) ?_);refine F5 ?_ (by size_fits);simp only [bt];refine a7 (wpAny_handled ?_);rw [g];refine a7 (c6 (wpAny_throw ?_));exact h (.ref _) _ (fun b o e=>c4 _ (c4 _ e)) ⟨_,j5 _ rfl,rfl⟩
variable {a it:b8}{es:Array (Int×a8)}{ep i n:Nat}{t:B9}{first:a8}
theorem vH{Q:Fin->c5->Prop}(q:pW s.heap it first i a es.size ep)(b:s.heap.get? a=some (eW es ep t))(g:t.fits es.size=true)
  (h:e9 (h9 prog w) A (if let .int slot _:=first then do
    match ← cy a slot.toNat i ep with
   |some (x,next) =>
     J6 (.ref it) 0 (B3 next)
     J6 (.ref it) 1 (B3 ((i:Int)+1))
     ret x
   |none=>J6 (.ref it) 2 .none; bt (← lc (.type "StopIteration") [])
   else do
    let some places ← gi first|W4 "internal:set_iterator"
    match places[i]? with
   |some (.int place _) =>
     let x ← cx a place.toNat ep
     J6 (.ref it) 1 (B3 ((i:Int)+1))
     ret x
   |some _=>W4 "internal:set_iterator"
    | none=>J6 (.ref it) 0 (B3 0); J6 (.ref it) 2 .none; bt (← lc (.type "StopIteration") [])) Q E s) :
  e9 (h9 prog w) A (C0.«set_iterator.__next__» ⟨[.ref it],[]⟩) Q E s:=by
 obtain ⟨o,B,C,f⟩:=q;unfold C0.«set_iterator.__next__»;refine a7 (m:=slotArgs _ _ _) (c6 ?_);refine a7 (wpAny_fieldsOf B f ?_);dsimp only;refine a7 (ua b rfl g ?_);rw [if_neg (by simp)];exact h
theorem BR(h:u9)(f:h.get? it=some o)(b:o.data=.fields vs):(h.update it (Obj.mapFields (·.setIfInBounds k v))).get? it=some (o.mapFields (·.setIfInBounds k v)):=
 C1 _ f (Obj.isFreed_of_fields (K5 b _))
theorem OX{tp:b8}{places:List Nat}{p:Nat}{x:Int×a8}{Q:Option a8->c5->Prop}(g:pW s.heap it (.ref tp) i a es.size ep)(m:s.heap.get? a=some (eW es ep t))(q:t.fits es.size=true)(J:it≠a)(K:it≠tp)(I:∃ o k,s.heap.get? tp=some o/\o.data=.seq (places.map fun j=>B3 (j:Nat)).toArray k)(hp:places[i]?=some p)(M:es[p]?=some x)(h:∀ h',pW h' it (.ref tp) (i+1) a es.size ep->L6 it s.heap h'->Q (some x.2) { s with heap:=h' }):e9 (h9 prog w) A (O6 (.ref it)) Q E s:=by
  refine vI g.typeIs (vH g m q ?_);obtain ⟨o,B,H,f⟩:=g;obtain ⟨O,N,D,G⟩:=I;show e9 (h9 prog w) A.in1 (do
        let some places ← gi (.ref tp)|W4 "internal:set_iterator"
        match places[i]? with
       |some (.int b _) =>
          let x ← cx a b.toNat ep
          J6 (.ref it) 1 (B3 ((i:Int)+1))
          ret x
       |some _=>W4 "internal:set_iterator"
        | none=>J6 (.ref it) 0 (B3 0); J6 (.ref it) 2 .none; bt (← lc (.type "StopIteration") [])) _ _ s
  unfold gi;refine a7 (a7 (Z4 D ?_));rw [G];refine c6 ?_;have C:(places.map fun j=>B3 (j:Nat)).toArray[i]?=some (B3 (p:Nat)):=by simp [hp]
  dsimp only;rw [C];show e9 (h9 prog w) A.in1 (do
          let x ← cx a ((p:Int)).toNat ep
          J6 (.ref it) 1 (B3 ((i:Int)+1))
          ret x) _ _ s
  unfold cx;refine a7 (a7 (P3 m rfl q ?_));dsimp only;rw [if_neg (by simp),Y8,M];refine c6 ?_;refine a7 (U6 B f (by simp) ?_);refine c6 ⟨_,rfl,h _ ⟨_,BR s.heap B f,(ic ..).trans H,?_⟩ (B0 ..)⟩;rw [K5 f];simp [B3]
theorem TJ{tp:b8}{places:List Nat}{Q:Option a8->c5->Prop}(N:A.handled=none)(m:pW s.heap it (.ref tp) i a es.size ep)(K:s.heap.get? a=some (eW es ep t))(M:t.fits es.size=true)(O:∃ o k,s.heap.get? tp=some o/\o.data=.seq (places.map fun j=>B3 (j:Nat)).toArray k)(hp:places[i]?=none)(h:∀ h',u9.ExtBut it s.heap h'->Q none { s with heap:=h' }):e9 (h9 prog w) A (O6 (.ref it)) Q E s:=by
  refine vI m.typeIs (vH m K M ?_);obtain ⟨o,B,R,g⟩:=m;obtain ⟨T,S,H,I⟩:=O;show e9 (h9 prog w) A.in1 (do
        let some places ← gi (.ref tp)|W4 "internal:set_iterator"
        match places[i]? with
       |some (.int f _) =>
          let x ← cx a f.toNat ep
          J6 (.ref it) 1 (B3 ((i:Int)+1))
          ret x
       |some _=>W4 "internal:set_iterator"
        | none=>J6 (.ref it) 0 (B3 0); J6 (.ref it) 2 .none; bt (← lc (.type "StopIteration") [])) _ _ s
  unfold gi;refine a7 (a7 (Z4 H ?_));rw [I];refine c6 ?_;have D:(places.map fun j=>B3 (j:Nat)).toArray[i]?=none:=by simpa using hp
  dsimp only;rw [D];refine a7 (U6 B g (by simp) ?_);have G:=BR (k:=0) (v:=B3 0) s.heap B g;refine a7 (U6 G (K5 g _) (by simp) ?_);refine FX (by simpa using N) fun e h' k J=>?_;refine LV J (h h' fun b P q C=>k b P ?_);exact (A4 _ _ (j3 q)).trans ((A4 _ _ (j3 q)).trans C)
theorem zZ{slot next:Nat}{Q:Option a8->c5->Prop}(f:pW s.heap it (.int slot 0) i a es.size ep)(q:s.heap.get? a=some (eW es ep t))(C:t.fits es.size=true)(hn:∀(A:q4)(E:a8->c5->Prop)(Q:Option (a8×Nat)->c5->Prop),Q (some (x,next)) s->e9 (h9 prog w) A (cy a slot i ep) Q E s)(h:∀ h',pW h' it (.int next 0) (i+1) a es.size ep->L6 it s.heap h'->Q (some x) { s with heap:=h' }):e9 (h9 prog w) A (O6 (.ref it)) Q E s:=by
  refine vI f.typeIs (vH f q C ?_);obtain ⟨o,m,B,b⟩:=f;show e9 (h9 prog w) A.in1 (do
        match ← cy a ((slot:Int)).toNat i ep with
       |some (x,next) =>
          J6 (.ref it) 0 (B3 next)
          J6 (.ref it) 1 (B3 ((i:Int)+1))
          ret x
        | none=>J6 (.ref it) 2 .none; bt (← lc (.type "StopIteration") [])) _ _ s
  rw [Y8];refine a7 (hn _ _ _ ?_);refine a7 (U6 m b (by simp) ?_);have g:=BR (k:=0) (v:=B3 next) s.heap m b;refine a7 (U6 g (K5 b _) (by simp) ?_);refine c6 ⟨_,rfl,h _ ⟨_,BR _ g (K5 b _),(ic ..).trans ((ic ..).trans B),?_⟩ ((B0 ..).trans (B0 ..))⟩;rw [K5 (K5 b _)];simp [B3]
theorem FY{slot:Nat}{Q:Option a8->c5->Prop}(G:A.handled=none)(f:pW s.heap it (.int slot 0) i a es.size ep)(q:s.heap.get? a=some (eW es ep t))(D:t.fits es.size=true)(hn:∀(A:q4)(E:a8->c5->Prop)(Q:Option (a8×Nat)->c5->Prop),Q none s->e9 (h9 prog w) A (cy a slot i ep) Q E s)(h:∀ h',u9.ExtBut it s.heap h'->Q none { s with heap:=h' }):e9 (h9 prog w) A (O6 (.ref it)) Q E s:=by
  refine vI f.typeIs (vH f q D ?_);obtain ⟨o,H,J,C⟩:=f;show e9 (h9 prog w) A.in1 (do
        match ← cy a ((slot:Int)).toNat i ep with
       |some (x,next) =>
          J6 (.ref it) 0 (B3 next)
          J6 (.ref it) 1 (B3 ((i:Int)+1))
          ret x
        | none=>J6 (.ref it) 2 .none; bt (← lc (.type "StopIteration") [])) _ _ s
  rw [Y8];refine a7 (hn _ _ _ ?_);refine a7 (U6 H C (by simp) ?_);refine FX (by simpa using G) fun e h' k m=>?_;refine LV m (h h' fun b I B g=>k b I ?_);exact (A4 _ _ (j3 B)).trans g
end
end L2
namespace L2
open PySem
section
variable {prog:j2}{w:k6}{A:q4}{E:a8 -> c5 -> Prop}{s:c5}{a it:b8}{es:Array (Int×a8)}{ep i n:Nat}{t:B9}
theorem pP(h:Q (w.params.followText "set-order") s):e9 (h9 prog w) A setsByText Q E s:=by
 unfold setsByText;exact a7 (ku (c6 h))
theorem AM(g:w.params.followText "set-order"=true)(b:s.heap.get? a=some (eW es ep t))(f:t.fits es.size=true)(h:Q (((gn (w.params.setOrder a ep) es)[i]?).map fun e=>(e.2,slot)) s):e9 (h9 prog w) A (cy a slot i ep) Q E s:=by
 unfold cy;refine a7 (P3 b rfl f ?_);dsimp only;refine a7 (pP ?_);rw [g,if_pos rfl,if_neg (by simp)];unfold setWalk;refine a7 (a7 (P3 b rfl f ?_));dsimp only;refine a7 (pP ?_);rw [g,if_pos rfl];exact a7 (ku (c6 (c6 h)))
theorem HH(o:w.params.followText "set-order"=false)(m:t.led=true)(f:(!t.plain&&decide (es.size > 1))=false)(b:s.heap.get? a=some (eW es ep t))(g:t.fits es.size=true)(h:Q (match es[D9 t.place slot]?,t.place[D9 t.place slot]? with|some (_,x),some j=>some (x,j+1)|_,_=>none) s):e9 (h9 prog w) A (cy a slot i ep) Q E s:=by
 unfold cy;refine a7 (P3 b rfl g ?_);dsimp only;refine a7 (pP ?_);rw [o,if_neg h7];show e9 (h9 prog w) A (if (!t.plain&&decide (es.size > 1))=true then _ else _) Q E s;rw [if_neg (by rw [f]; exact h7)];refine a7 ?_;show e9 (h9 prog w) A (if (!t.led&&!es.isEmpty)=true then W4 "set:maker-not-led" else D8 ()) _ _ s;rw [if_neg (by rw [m]; simp)];exact c6 (c6 h)
structure vV(prog:j2)(w:k6)(A:q4)(it:b8)(fp:List b8)(ord:List a8)(St:Nat->u9->Prop):Prop where
 ws:Walks prog w A it fp [it] ord.length (fun i v=>ord[i]?=some v) St
 ty:∀ i (s:c5),St i s.heap->s.TypeIs (.ref it) "set_iterator"
theorem BS(g:pW s.heap it first i a n ep)(h:Q (.ref it) s)(slot:Slot "set_iterator" "__iter__" "set_iterator.__iter__")(b:jp table "set_iterator.__iter__"=some C0.«dict_keyiterator.__iter__»)(f:si "set_iterator.__iter__" ⟨[.ref it],[]⟩):e9 (h9 prog w) A (om (.ref it)) Q E s:=by
 refine je g.typeIs slot (K6 slot g.typeIs b ?_ f);show e9 _ _ (ret (.ref it)) _ _ s;exact c6 ⟨_,rfl,"set_iterator",_,g.typeIs,jN.lookup,h⟩
end
theorem mK:Slot "set_iterator" "__iter__" "set_iterator.__iter__":=
 .of (owner:="set_iterator") (n:="__iter__") (by rw [X2,P1]; kernel_rfl) (by k_is) (by k_is) (by k_is) (by first|exact .inl (by k_is)|exact .inr (by k_is)) (by rw [fx]; kernel_rfl)
theorem lN:jp table "set_iterator.__iter__"=some C0.«dict_keyiterator.__iter__»:=entryFor_alias (id':="dict_keyiterator.__iter__") (by kernel_rfl) rfl (by k_is) (by kernel_rfl)
theorem nC(a:a8):si "set_iterator.__iter__" ⟨[a],[]⟩:=by
 unfold si
 kernel_rfl
section
variable {prog:j2}{w:k6}{A:q4}{E:a8 -> c5 -> Prop}{s:c5}{a it:b8}{es:Array (Int×a8)}{ep i n:Nat}{t:B9}
theorem pW.at(x:pW h it first i a n ep)(e:∀ o,h.get? it=some o->h'.get? it=some o):pW h' it first i a n ep:=let ⟨o,b,r⟩:=x; ⟨o,e _ b,r⟩
theorem OL(K:A.handled=none)(G:a≠it)(H:w.params.followText "set-order"=true)(B:t.fits es.size=true):
  vV prog w A it [it,a] ((gn (w.params.setOrder a ep) es).toList.map (·.2)) (fun i h=>pW h it (.int (0:Nat) 0) i a es.size ep/\h.get? a=some (eW es ep t)) where
 ws:={
  sub:=fun b f=>by simp at f; simp [f]
  frame:=fun _ _ _ st hk=>⟨st.1.at fun o e=>hk it (by simp) o e,hk a (by simp) _ st.2⟩
  item:=fun i s Q E M st g=>by
   have m:i < (gn (w.params.setOrder a ep) es).size:=by simpa using M
   refine zZ (slot:=0) (next:=0) (x:=((gn (w.params.setOrder a ep) es)[i]).2) st.1 st.2 B (fun A E Q q=>AM H st.2 B (by simpa [m] using q)) fun C D I=>?_;exact g _ C s.toks (by simp [m]) ⟨D,(I.2 a G).trans st.2⟩ fun b o f e=>(I.2 b (by simpa using f)).trans e
  done:=fun s Q E st g=>by
   refine FY (slot:=0) K st.1 st.2 B (fun A E Q q=>AM H st.2 B (by simpa using q)) fun C J=>?_;exact g C s.toks fun b o f e=>J b o (by simpa using f) e
  self:=fun _ _ _ _ st g=>BS st.1 g mK lN (nC _) }
 ty:=fun _ _ st=>st.1.typeIs
theorem RL(T:A.handled=none)(M:a≠it)(P:w.params.followText "set-order"=false)(O:t.led=true)(N:(!t.plain&&decide (es.size > 1))=false)(W:IK t.place)(C:t.fits es.size=true):
  vV prog w A it [it,a] (es.toList.map (·.2)) (fun i h=>(∃ slot:Nat,pW h it (.int slot 0) i a es.size ep/\D9 t.place slot=i)/\h.get? a=some (eW es ep t)) where
 ws:={
  sub:=fun b m=>by simp at m; simp [m]
  frame:=fun _ _ _ ⟨⟨H,st,r⟩,f⟩ hk=>⟨⟨H,st.at fun o e=>hk it (by simp) o e,r⟩,hk a (by simp) _ f⟩
  item:=fun i s Q E U st B=>by
   obtain ⟨⟨H,g,I⟩,f⟩:=st;have D:i < es.size:=by simpa using U
   have G:i < t.place.size:=by
    have:=C;unfold B9.fits at this;simp at this;lia
   refine zZ (slot:=H) (next:=t.place[i]+1) (x:=es[i].2) g f C (fun A E Q q=>HH P O N f C ?_) fun J K R=>?_
   ·rw [I,C7 D,C7 G]
    exact q
   ·exact B _ J s.toks (by simp [D]) ⟨⟨_,K,KD W G⟩,(R.2 a M).trans f⟩ fun b o m e=>(R.2 b (by simpa using m)).trans e
  done:=fun s Q E st B=>by
   obtain ⟨⟨H,g,I⟩,f⟩:=st;rw [g7,C9] at g I;refine FY (slot:=H) T g f C (fun A E Q q=>HH P O N f C ?_) fun J S=>?_
   ·rw [I,Array.getElem?_eq_none (i5 _)]
    exact q
   ·exact B J s.toks fun b o m e=>S b o (by simpa using m) e
  self:=fun _ _ _ _ ⟨⟨_,st,_⟩,_⟩ B=>BS st B mK lN (nC _) }
 ty:=fun _ _ ⟨⟨_,st,_⟩,_⟩=>st.typeIs
theorem IM{tp:b8}{places:List Nat}(N:A.handled=none)(C:a≠it)(D:tp≠it)(K:t.fits es.size=true)(hp:∀ p∈places,p < es.size):
  vV prog w A it [it,a,tp] (places.map fun p=>((es[p]?).getD (0,.none)).2) (fun i h=>pW h it (.ref tp) i a es.size ep/\h.get? a=some (eW es ep t)/\∃ o k,h.get? tp=some o/\o.data=.seq (places.map fun j=>B3 (j:Nat)).toArray k) where
 ws:={
  sub:=fun b q=>by simp at q; simp [q]
  frame:=fun _ _ _ ⟨st,f,o,k,e,d⟩ hk=>⟨st.at fun o e=>hk it (by simp) o e,hk a (by simp) _ f,o,k,hk tp (by simp) _ e,d⟩
  item:=fun i s Q E O st B=>by
   have m:i < places.length:=by simpa using O
   have G:=hp _ (C5 m);obtain ⟨g,f,o,k,e,d⟩:=st;refine OX (p:=places[i]) (x:=es[places[i]]) g f K C.symm D.symm ⟨o,k,e,d⟩ (by simp [m]) (by simp [G]) fun H I J=>?_;exact B _ H s.toks (by simp [m,G]) ⟨I,(J.2 a C).trans f,o,k,(J.2 tp D).trans e,d⟩ fun b o q e=>(J.2 b (by simpa using q)).trans e
  done:=fun s Q E st B=>by
   obtain ⟨g,f,o,k,e,d⟩:=st;rw [g7] at g;refine TJ N g f K ⟨o,k,e,d⟩ (by simp) fun H M=>?_;exact B H s.toks fun b o q e=>M b o (by simpa using q) e
  self:=fun _ _ _ _ st B=>BS st.1 B mK lN (nC _) }
 ty:=fun _ _ st=>st.1.typeIs
end
end L2
namespace L2
open PySem
theorem yW{f:Type}(es:Array f)(d:f):(k9 es.size).map (fun p=>(es[p]?).getD d)=es.toList:=by
 apply List.ext_getElem
 ·simp
 ·intro i b g
  simp at b g ⊢;simp [b]
section
variable {prog:j2}{w:k6}{A A₂:q4}{E:a8 -> c5 -> Prop}{s:c5}{a it:b8}{es:Array (Int×a8)}{ep i n:Nat}{t:B9}
theorem AA(b:s.heap.get? a=some (eW es ep t)):s.TypeIs (.ref a) "set":=⟨_,b,rfl⟩
theorem WJ(O:A₂.handled=none)(B:s.heap.get? a=some (eW es ep t))(H:t.fits es.size=true)(P:Tb w t es.size)(C:es.size<=j0)
  (h:∀ it h' d fp ord St,vV prog w A₂ it fp ord St->ord.Perm (es.toList.map (·.2))->St 0 h'->(∀ b o,s.heap.get? b=some o->h'.get? b=some o)->(∀ b∈fp,(b=a∨s.heap.objs.size<=b)/\b < h'.objs.size)->it∈fp->it≠a ->
   Q (.ref it) { s with heap:=h',drawn:=d }):e9 (h9 prog w) A (om (.ref a)) Q E s:=by
 have U:=AA B;have f:a < s.heap.objs.size:=j6 B;refine je U F.slot_set_iter (K6 F.slot_set_iter U DK ?_ (F.args_set_iter_1 _));unfold C0.«frozenset.__iter__»;refine a7 (m:=C0.Frozenset.slot0 _ _) (c6 ?_);refine a7 ?_;show e9 _ _ (do return (← setEntries a).size) _ _ s;refine a7 (ua B rfl H (c6 ?_));refine a7 ?_;unfold setDrawn;refine a7 (P3 B rfl H ?_);dsimp only;refine a7 (pP (c6 ?_));have g:∀(first:a8)(I:c5),I.heap.get? a=some (eW es ep t)->(∀(T:Q (.ref I.heap.objs.size) { I with heap:=I.heap.push { cls:=.type "set_iterator",data:=.fields #[first,.int (0:Nat) 0,.ref a,.int es.size 0,.int ep 0] } }),
   e9 (h9 prog w) A.in1 (do ret (← newFields "set_iterator" [first,B3 0,.ref a,B3 es.size,B3 (← setEpoch a)])) (fun g X=>∃ v,g=.done (.ret v)/\∃ S r,X.TypeIs v S/\cu (.type S) "__next__"=D8 (some r)/\Q v X) E I):=fun first I J T=>by
  refine a7 (wpAny_setEpoch_of J rfl H ?_);refine a7 (F5 (c6 ⟨_,rfl,"set_iterator",_,⟨_,j5 _ rfl,rfl⟩,jN.lookup,?_⟩));exact T
 by_cases G:w.params.followText "set-order"=true
 ·rw [G,if_neg (by simp)]
  refine a7 (c6 (g _ s B ?_));have W:=OL (prog:=prog) (w:=w) (A:=A₂) (a:=a) (it:=s.heap.objs.size) (es:=es) (ep:=ep) (t:=t) O (j4 f) G H;refine h _ (s.heap.push _) s.drawn _ _ _ W ?_ ⟨⟨_,j5 _ rfl,rfl,rfl⟩,c4 _ B⟩ (fun b o e=>c4 _ e) (fun b C=>?_) (by simp) (y6 f)
  ·exact (PJ _ es).map _
  ·rw [J3]
   simp at C;rcases C with rfl|rfl
   ·exact ⟨.inr (i5 _),D2 _⟩
   ·exact ⟨.inl rfl,q7 f⟩
 ·have D:w.params.followText "set-order"=false:=by simpa using G
  rw [D];have K:t.led=true:=by rw [P.1,D]; rfl
  show e9 _ _ (if (!false&&(!t.plain&&decide (es.size > 1)))=true then _ else _) _ _ s;by_cases J:(!t.plain&&decide (es.size > 1))=false
  ·have N:(!false&&(!t.plain&&decide (es.size > 1)))=false:=by rw [J]; rfl
   rw [if_neg (by rw [N]; exact h7)];refine a7 (c6 (g _ s B ?_));have W:=RL (prog:=prog) (w:=w) (A:=A₂) (a:=a) (it:=s.heap.objs.size) (es:=es) (ep:=ep) (t:=t) O (j4 f) D K J P.2.1 H;refine h _ (s.heap.push _) s.drawn _ _ _ W (.refl _) ⟨⟨0,⟨_,j5 _ rfl,rfl,rfl⟩,KC P.2.1⟩,c4 _ B⟩ (fun b o e=>c4 _ e) (fun b C=>?_) (by simp) (y6 f);rw [J3];simp at C;rcases C with rfl|rfl
   ·exact ⟨.inr (i5 _),D2 _⟩
   ·exact ⟨.inl rfl,q7 f⟩
  ·have N:(!false&&(!t.plain&&decide (es.size > 1)))=true:=by rw [Bool.not_false,Bool.true_and]; simpa using J
   rw [if_pos N];refine a7 (AK es.size (k9 es.size) s _ (by simp) fun M d hp=>?_);unfold newTuple;refine a7 (F5 ?_ ?hs)
   case hs =>
    show (kj (fun(i:Nat)=>B3 i) M).toArray.size<=j0;have:=hp.length_eq;simp at this ⊢;lia
   refine g (.ref s.heap.objs.size) _ (c4 _ B) ?_;have R:∀ p∈M,p < es.size:=fun p Z=>by simpa using hp.mem_iff.mp Z
   have W:=IM (prog:=prog) (w:=w) (A:=A₂) (a:=a) (it:=(s.heap.push { cls:=.type "tuple",data:=.seq (kj (fun(i:Nat)=>B3 i) M).toArray }).objs.size) (tp:=s.heap.objs.size) (es:=es) (ep:=ep) (t:=t) (places:=M) O
    (by rw [J3]; exact j4 (q7 f)) (by rw [J3]; exact j4 (D2 _)) H R
   refine h _ _ d _ _ _ W ?_ ⟨⟨_,j5 _ rfl,rfl,rfl⟩,c4 _ (c4 _ B),_,0,c4 _ (j5 _ rfl),rfl⟩ (fun b o e=>c4 _ (c4 _ e)) (fun b C=>?_) (by simp) (by rw [J3]; exact y6 (q7 f))
   ·have q:=hp.map (fun p=>((es[p]?).getD (0,.none)).2)
    have Y:(k9 es.size).map (fun p=>((es[p]?).getD (0,.none)).2)=es.toList.map (·.2):=by
     have:=congrArg (kj (·.2)) (yW es (0,F7));rw [L1] at this;exact this
    rw [Y] at q;exact q
   ·rw [J3,J3]
    simp at C;rcases C with rfl|rfl|rfl
    ·exact ⟨.inr (M0 _),D2 _⟩
    ·exact ⟨.inl rfl,q7 (q7 f)⟩
    ·exact ⟨.inr (i5 _),q7 (D2 _)⟩
end
end L2
namespace L2
open PySem
theorem EU:splitId "set.__len__"=some ("set","__len__"):=by kernel_rfl
theorem YS:isSubtype (.type "set") (.type "set")=D8 true:=by rw [fx]; kernel_rfl
section
variable {prog:j2}{w:k6}{A A₂:q4}{E:a8 -> c5 -> Prop}{s:c5}{a it:b8}{es:Array (Int×a8)}{ep i n:Nat}{t:B9}
theorem WO(f:s.heap.get? a=some (eW es ep t))(h:Q false s):e9 (h9 prog w) A (J2 (.ref a)) Q E s:=by
 unfold J2;have b:=AA f;refine a7 (X1 b F.slot_set_len.lookup ?_);dsimp only;rw [EU];dsimp only;refine a7 (bo b YS ?_);rw [if_neg (by simp)];show e9 (h9 prog w) A (if true=true then _ else _) Q E s;rw [if_pos rfl];refine a7 (U5 b ?_);exact c6 h
theorem ID(hh:A.handled=none)(R:s.heap.get? a=some (eW es ep t))(hf:t.fits es.size=true)(ht:Tb w t es.size)(D:es.size<=j0)(h:∀ vs h' d tk,vs.Perm (es.toList.map (·.2))->(∀ b o,s.heap.get? b=some o->h'.get? b=some o)->s.heap.objs.size<=h'.objs.size->Q vs { s with heap:=h',drawn:=d,toks:=tk }):e9 (h9 prog w) A (jq (.ref a)) Q E s:=by
 have O:a < s.heap.objs.size:=j6 R;unfold jq;refine a7 (fi (A8 dj ?_));rw [w4 di _];show e9 _ A.in1 (ro [] >>= fun l=>again (.builtin "list.__iadd__" ⟨[l,.ref a],[]⟩)) _ _ s;refine a7 (F5 ?_);refine c6 ⟨E8 P0 _,A8 iz ?_⟩;rw [w4 P0 _];generalize P:s.heap.objs.size=S at *;have g0:(s.heap.push { cls:=.type "list",data:=.seq ([]:List a8).toArray }).get? S=some { cls:=.type "list",data:=.seq ([]:List a8).toArray }:=P ▸ j5 _ rfl;have g:∀ b o,s.heap.get? b=some o->(s.heap.push { cls:=.type "list",data:=.seq ([]:List a8).toArray }).get? b=some o:=fun b o e=>c4 _ e;have z0:(s.heap.push { cls:=.type "list",data:=.seq ([]:List a8).toArray }).objs.size=S+1:=by rw [J3,P]
 generalize s.heap.push { cls:=.type "list",data:=.seq ([]:List a8).toArray }=h0 at g0 g z0 ⊢;show e9 _ A.in1 (D5 (.ref S) (.ref a) (.ref S)) _ _ _;unfold D5;have U:U3 { s with heap:=h0 } (.ref a) "set":=⟨_,g _ _ R,rfl⟩
 refine a7 (U5 U ?_);have h1:E7 (.ref S) (.ref a)=false:=by
  simp [E7];exact y6 O
 have h2:(K1 "set"==K1 "list")=false:=by decide
 have T:(K1 "set"==K1 "tuple")=false:=by decide
 simp only [h1,h2,T,Z3,O0,if_false];refine a7 (WJ (A₂:=A.in1) (by simpa using hh) (show (c5.heap { s with heap:=h0 }).get? a=_ from g _ _ R) hf ht D fun it h' d fp m St W hp st kp H ac Z=>?_);have hz:m.length=es.size:=by
  have:=hp.length_eq;simpa using this
 have X:h'.get? a=some (eW es ep t):=kp _ _ (g _ _ R);have gS:h'.get? S=some { cls:=.type "list",data:=.seq ([]:List a8).toArray }:=kp _ _ g0;have M:S∉fp:=fun G=>by
  rcases (H S G).1 with e|e
  ·exact y6 O e
  ·have e:S+1<=S:=z0 ▸ e
   exact Nat.not_succ_le_self _ e
 refine a7 (B2 (WO X ?_));show e9 _ A.in1 (if (false || _)=true then _ else _) _ _ _;rw [if_pos (by first|rfl|decide)];refine a7 (P9 ?_);refine a7 ?_;show e9 _ A.in1 (bq S (·.push .none) >>= fun _=>bq S (·.pop)) _ _ _;refine a7 (O8 gS rfl ?_);have I:=C1 (l8 (·.push F7)) gS rfl;refine O8 I rfl ?_;have J:=C1 (l8 (·.pop)) I rfl;have C:∀ b o,b≠S->h'.get? b=some o->((h'.update S (l8 (·.push F7))).update S (l8 (·.pop))).get? b=some o:=
  fun b o D e=>(A4 _ _ (j3 D)).trans ((A4 _ _ (j3 D)).trans e)
 generalize (h'.update S (l8 (·.push F7))).update S (l8 (·.pop))=T at J C ⊢;refine c6 ⟨E8 M9 _,tf W.ws.toS (by lia) S M _ m.length 0 _ _ _ rfl (y8 _)
  (W.ws.frame 0 h' T st fun b D o e=>C b o (fun z=>M (z ▸ D)) e) J (ItemsOf.nil _) fun s' f c' G K q=>?_⟩
 show e9 _ A (load S >>= _) _ _ s';refine a7 (Z4 K ?_);refine c6 ?_;obtain ⟨h4,g4,d4,t4,o4⟩:=s';have eg:g4=s.gens:=G.gens;have ed:d4=d:=G.drawn;have eo:o4=s.os:=G.os;subst eg ed eo;have ev:f.toList=m:=by
  apply List.ext_getElem?;intro j;by_cases hj:j < f.size
  ·have:=q.2 j f[j] (by simp [hj])
   rw [this];simp [hj]
  ·have e1:f.toList[j]?=none:=by simp; lia
   have B:m[j]?=none:=by
    have:=q.1;simp;lia
   rw [e1,B]
 rw [ev];refine h m h4 d4 t4 hp (fun b o e=>?_) (Q2 (j6 K));have N:b≠S:=j4 (P ▸ j6 e);have Y:b≠it:=fun z=>by
  subst z;rcases (H b ac).1 with B|B
  ·exact Z B
  ·have B:S+1<=b:=z0 ▸ B
   have e3:b < S:=P ▸ j6 e;exact gq _ (c9 e3 (Nat.le_of_succ_le B))
 exact G.heap b o (by simp [N,Y]) (C b o N (kp _ _ (g _ _ e)))
end
end L2
namespace L2
open PySem
noncomputable def IN(prog:j2)(w:k6):KeyKind prog w Str where
 is:=J8
 hash:=hashStr w
 inj:=a8.isStrOf_inj
 byValue:=fun k v h=>by obtain ⟨t,rfl⟩:=J7 h; rfl
 pyHash:=fun hv h=>by obtain ⟨t,rfl⟩:=J7 hv; exact kr h
 eqBool:=fun hu hv h=>by
  obtain ⟨t,rfl⟩:=J7 hu;obtain ⟨u,rfl⟩:=J7 hv;exact wpAny_eqBool_str h
 «strs»:=fun k x t v h=>by
  obtain ⟨u,e⟩:=J7 h;cases e;cases v <;> rfl
noncomputable def EO:a8->Str
|.str x _=>x
|_=>⟨#[]⟩
noncomputable def kE(w:k6)(h:u9)(a:b8)(xs:List Str):Prop:=
 ∃ es ep t,h.get? a=some (eW es ep t)/\(∀ e∈es.toList,∃ y u,e=(hashStr w y,W3 y u))/\es.toList.map (fun e=>EO e.2)=xs/\xs.Nodup/\es.size < gj/\t.fits es.size=true/\Tb w t es.size
theorem kE.at(x:kE w h a xs)(e:∀ o,h.get? a=some o->h'.get? a=some o):kE w h' a xs:=
 let ⟨f,b,t,g,r⟩:=x; ⟨f,b,t,e _ g,r⟩
section
variable {prog:j2}{w:k6}{A:q4}{E:a8 -> c5 -> Prop}{s:c5}{a:b8}
theorem Jp(W:kE w s.heap a xs)(hb:xs.length+1 < gj)(O:y∈xs->Q false s)(P:y∉xs->∀ h' xs',L6 a s.heap h'->xs'.Perm (xs++[y])->kE w h' a xs'->Q true { s with heap:=h' }):e9 (h9 prog w) A (rk a (.str y tk) (hashStr w y)) Q E s:=by
 obtain ⟨G,ep,t,g,i,f,I,T,S,U⟩:=W;have hl:xs.length=G.size:=by rw [← f]; simp
 have R:ElemsOf (IN prog w) G.toList:=fun e b=>by
  obtain ⟨z,u,rfl⟩:=i e b;exact ⟨⟨z,by show J8 z (.str z u)=true; simp [J8],rfl⟩,rfl⟩
 have m:∀ e∈G.toList,((IN prog w).is y e.2=true ↔ EO e.2=y):=fun e b=>by
  obtain ⟨z,u,rfl⟩:=i e b;constructor
  ·intro q
   obtain ⟨u',X⟩:=J7 (show J8 y (.str z u)=true from q);cases X;rfl
  ·intro q
   have q:z=y:=q;subst q;show J8 z (.str z u)=true;simp [J8]
 refine XX (knd:=IN prog w) (k:=y) rfl (by show J8 y (.str y tk)=true; simp [J8]) g ⟨rfl,rfl,rfl⟩ rfl R (by lia) S U (fun ⟨e,b,q⟩=>O ?_) fun C h' B Z D Y N hp H J=>P ?_ h' (B.toList.map fun e=>EO e.2) Y ?_ ⟨B,D,Z,N,?_,rfl,?_,?_,H,J⟩
 ·rw [← f]
  exact j1.mpr ⟨e,b,(m e b).mp q⟩
 ·intro K
  rw [← f] at K;obtain ⟨e,b,q⟩:=j1.mp K;have:=C e b;rw [(m e b).mpr q] at this;cases this
 ·have q:=hp.map fun e=>EO e.2
  rw [u7,f] at q;exact q
 ·intro e b
  rcases m9.mp (hp.mem_iff.mp b) with q|q
  ·exact i e q
  ·rw [f9] at q
   exact ⟨y,tk,q⟩
 ·have q:=hp.map fun e=>EO e.2
  rw [u7,f] at q;refine q.nodup_iff.mpr (U8.mpr ⟨I,by simp,fun z M z' o=>?_⟩);have o:z'=y:=by simpa [EO] using o
  subst o;rintro rfl;rw [← f] at M;obtain ⟨e,b,q⟩:=j1.mp M;have:=C e b;rw [(m e b).mpr q] at this;cases this
 ·have:=hp.length_eq
  simp at this;lia
end
section
variable {prog:j2}{w:k6}{A:q4}{R:Result -> c5 -> Prop}{I:b8}{fp wr:List b8}{G:Array GenState -> Array GenState -> Prop}{n:Nat}{P:Nat -> a8 -> Prop}{St:Nat -> c5 -> Prop}
theorem qG:jp table "set.update.loop"=some C0.«set.update.loop»:=lf (by kernel_rfl)
theorem iY:plainId "set.update.loop"=true:=by k_is
theorem Bc(W:WalksS prog w A.in1 I fp wr G n P St)(S:b8)(N:S∉fp)(f:Nat->Str)(Q:∀ i v,P i v->∃ t,v=.str (f i) t)(H:n+1 < gj):
  ∀(k i:Nat)(s:c5)(xs:List Str),n - i=k->i<=n->St i s->kE w s.heap S xs->xs.length<=i->(∀ z,z∈xs ↔ ∃ j,j < i/\f j=z) ->
   (∀ g B,Moved (S::wr) G s g->kE w g.heap S B->(∀ z,z∈B ↔ ∃ j,j < n/\f j=z)->R (.ok (.ret .none)) g) ->
   S2 (h9 prog w) A (.builtin "set.update.loop" ⟨[.ref S,.ref I],[]⟩) R s:=by
 have O:S∉wr:=fun h=>N (W.sub _ h);have E:∀ b∈wr,b∈S::wr:=fun b H=>A7 _ H;intro k
 induction k with
|zero =>
  intro i s xs hk hi D U hl Z T;have:i=n:=by lia
  subst this;refine A8 qG ?_;rw [w4 iY _];show e9 _ A.in1 (O6 (.ref I) >>= _) _ _ s;refine a7 (W.done s _ _ D fun g J=>c6 (T g xs (J.mono E) (U.at fun o e=>J.heap S _ O e) Z))
|succ k ih =>
  intro i s xs hk hi D U hl Z T;have Y:i < n:=by lia
  refine A8 qG ?_;rw [w4 iY _];show e9 _ A.in1 (O6 (.ref I) >>= _) _ _ s;refine a7 (W.item i s _ _ Y D fun v g hP C J=>?_);obtain ⟨tk,rfl⟩:=Q i v hP;have M:kE w g.heap S xs:=U.at fun o e=>J.heap S _ O e;show e9 _ A.in1 (da [W3 (f i) tk] (setAdd S (.str (f i) tk)) >>= _) _ _ g;refine a7 (B2 ?_);unfold setAdd;refine B2 (a7 (kr ?_));have go:∀(K:c5)(m:List Str),Moved (S::wr) G s K->St (i+1) K->kE w K.heap S m->m.length<=i+1->(∀ z,z∈m ↔ z∈xs∨z=f i)->S2 (h9 prog w) A (.builtin "set.update.loop" ⟨[.ref S,.ref I],[]⟩) R K:=fun K m ac ae t2 l2 m2=>by
   refine ih (i+1) K m (by lia) (by lia) ae t2 l2 (fun z=>?_) fun s3 af ad t3 m3=>T s3 af (Moved.trans W.gtrans ac ad) t3 m3;rw [m2,Z];constructor
   ·rintro (⟨j,hj,e⟩|rfl)
    ·exact ⟨j,by lia,e⟩
    ·exact ⟨i,by lia,rfl⟩
   ·rintro ⟨j,hj,e⟩
    by_cases q:j < i
    ·exact .inl ⟨j,q,e⟩
    ·have:j=i:=by lia
     subst this;exact .inr e.symm
  refine Jp (s:={ g with toks:=g.toks+1 }) M (by lia) (fun X=>?_) fun ag h' B sb hp ht=>?_
  ·refine c6 ⟨E8 iY _,go _ xs ((J.mono E).then_heap (M0 _) fun b o _ e=>e) ?_ M (by lia) fun z=>⟨.inl,fun q=>q.elim id fun e=>e ▸ X⟩⟩
   exact W.frame _ g _ _ C (M0 _) fun b _ o e=>e
  ·refine c6 ⟨E8 iY _,go _ B ((J.mono E).then_heap (M0 _) fun b o H e=>?_) ?_ ht ?_ fun z=>?_⟩
   ·rw [sb.2 b (fun q:b=S=>H (by rw [q]; exact E9))]; exact e
   ·exact W.frame _ g _ _ C (M0 _) fun b H o e=>by rw [sb.2 b (fun q:b=S=>N (by rw [← q]; exact H))]; exact e
   ·have:=hp.length_eq
    simp at this;lia
   ·rw [hp.mem_iff]
    simp
end
end L2
namespace L2
open PySem
section
variable {prog:j2}{w:k6}{A:q4}{E:a8 -> c5 -> Prop}{s:c5}
noncomputable abbrev eB(w:k6):Obj:=eW #[] 0 (.fresh 0 0 (!(w.params.followText "set-order")))
theorem TR(a:a8)(h:Q₁ (.ref s.heap.objs.size) { s with heap:=s.heap.push (eB w) }):
  S2 (h9 prog w) A (.call (.builtin "set.__new__") ⟨[.type "set",a],[]⟩) (wants Q₁ E) s:=by
 refine codeAny_of_tree ?_;show e9 _ A.in1 (checkBuiltinCall "set.__new__" ⟨[.type "set",a],[]⟩ >>= fun _=>again (.builtin "set.__new__" ⟨[.type "set",a],[]⟩)) _ _ s;refine a7 (wpAny_of_eq (F.newCall_set_1 a) (c6 ⟨E8 F.plain_set_new _,A8 F.entry_set_new ?_⟩));rw [w4 F.plain_set_new _];unfold C0.«set.__new__» C0.Frozenset.newClass;have b:=sub_set_self;obtain ⟨hp,g,d,tk,f⟩:=s;dsimp only
 wp_walk
 refine ku (c6 ?_);dsimp only;simp only [newObj];exact a7 (wpAny_alloc (c6 (c6 h)))
theorem OM(g:h.get? a=some (eB w)):kE w h a []:=
 ⟨#[],0,_,g,fun e b=>by simp at b,rfl,nodup_nil,by decide,rfl,rfl,List.Pairwise.nil,rfl⟩
set_option maxRecDepth 100000 in
set_option maxHeartbeats 3200000 in
theorem OY{l:b8}{items:Array a8}{xs:List Str}{Q:a8->c5->Prop}(hh:A.handled=none)(hl:s.heap.IsList l items)(hi:∀(i:Nat)(v:a8),items[i]?=some v->∃ t,v=.str (xs.getD i ⟨#[]⟩) t)(m:items.size=xs.length)(U:xs.length+1 < gj)(h:∀ h' tk ys,kE w h' s.heap.objs.size ys->(∀ z,z∈ys ↔ z∈xs)->(∀ b o,b < s.heap.objs.size->s.heap.get? b=some o->h'.get? b=some o)->Q (.ref s.heap.objs.size) { s with heap:=h',toks:=tk }):
  e9 (h9 prog w) A (ax (.type "set") [.ref l]) Q E s:=by
 obtain ⟨c,tl,hmro⟩:=Q5.mro;have af:=Q5.made;have hsub:=Q5.sub;refine ny (codeAny_of_tree ?_);show e9 _ _ (callAny (.type "set") _) _ _ _;refine c6 ⟨uc.quiet_builtin _ (by k_is),A8 F.entry_type_call ?_⟩;rw [q4.under_plain (weight_type_call_type "set" [.ref l] []) rfl];have h1:=Q5.notType;have h2:=Q5.canCreate;have hct:=F.typeCall_set_1 (.ref l)
 repeat (any_goals (first|assumption|wp_step))
 refine Y3 (TR (.ref l) (E:=E) (Q₁:=fun S q=>S=.ref s.heap.objs.size/\q={ s with heap:=s.heap.push (eB w) }) ⟨rfl,rfl⟩) fun r q hr=>?_;cases r with
|error e=>exact hr
|ok fl =>
  cases fl with
 |ret S =>
   obtain ⟨rfl,rfl⟩:=hr;have hS:(s.heap.push (eB w)).get? s.heap.objs.size=some (eB w):=j5 _ rfl;have hT:U3 { s with heap:=s.heap.push (eB w) } (.ref s.heap.objs.size) "set":=⟨_,hS,rfl⟩
   have hli:=Q5.init.lookup;have hbi:=Q5.init.bind (.ref s.heap.objs.size)
   repeat (any_goals (first|assumption|wp_step))
   refine Y3 (codeAny_call_builtin (R:=wants (fun r B=>r=.none/\∃ h' tk ys,B={ s with heap:=h',toks:=tk }/\kE w h' s.heap.objs.size ys/\(∀ z,z∈ys ↔ z∈xs) /\
     (∀ b o,b < s.heap.objs.size->s.heap.get? b=some o->h'.get? b=some o)) E) Q5.init.plain F.entry_set_init (check_set_init_1 hT ?_)) fun T B f=>?_
   ·obtain ⟨ol,O,G,nl,H⟩:=hl
    obtain ⟨ocls,D,odata,g⟩:=ol;simp only at G H;subst G; subst H;have P:(s.heap.push (eB w)).get? l=some { cls:=.type "list",dict:=D,data:=.seq items nl,slots:=g }:=c4 _ O;have hsls:=F.sub_list_set;have hslf:=F.sub_list_frozenset;have hne:(K1 "list"==K1 "dict")=false:=by decide
    have J:(s.heap.push (eB w)).IsList l items:=⟨_,P,rfl,nl,rfl⟩
    unfold C0.«set.__init__» noKeywords C0.Frozenset.updateFrom;generalize X:om=PI
    wp_walk
    subst X;refine jf J ?_;refine a7 (fi ?_);have K:l < s.heap.objs.size:=j6 O;have ae:A.in1.in1.in1.handled=none:=by simp [hh]
    have zP:(s.heap.push (eB w)).objs.size=s.heap.objs.size+1:=J3 ..;have N:l≠(s.heap.push (eB w)).objs.size:=by rw [zP]; exact j4 (q7 K)
    have Z:s.heap.objs.size∉[(s.heap.push (eB w)).objs.size,l]:=by
     rw [zP];simp only [n6,Q0,or_false,not_or];exact ⟨j4 (D2 _),y6 K⟩
    refine Bc ((Walks.list ae _ l N items).toS) s.heap.objs.size Z (fun i=>xs.getD i ⟨#[]⟩) hi (by rw [m]; exact U) (items.size - 0) 0 _ [] (by lia) (y8 _)
     ⟨⟨_,j5 _ rfl,rfl,rfl⟩,(J.push _)⟩ (OM (c4 _ hS)) (i5 _) (fun z=>by simp) fun s' ys W Y M=>?_
    obtain ⟨h',g',d',tk',os'⟩:=s';have eg:g'=s.gens:=W.gens;have ed:d'=s.drawn:=W.drawn;have eo:os'=s.os:=W.os;subst eg ed eo;refine c6 ?_;refine c6 ⟨rfl,h',tk',ys,rfl,Y,fun z=>?_,fun b o U e=>?_⟩
    ·rw [M,m]
     constructor
     ·rintro ⟨j,I,rfl⟩
      have:xs.getD j ⟨#[]⟩=xs[j]:=by simp [List.getD,I]
      rw [this];exact C5 I
     ·intro hz
      obtain ⟨j,I,e⟩:=eh hz;exact ⟨j,I,by simp [List.getD,I,e]⟩
    ·have ac:b≠s.heap.objs.size:=j4 U
     have ad:b≠(s.heap.push (eB w)).objs.size:=by rw [zP]; exact j4 (q7 U)
     exact W.heap b o (by simp only [n6,Q0,or_false,not_or]; exact ⟨ac,ad⟩) (c4 _ (c4 _ e))
   ·cases T with
   |error e=>exact f
   |ok C =>
     cases C with
    |ret r =>
      obtain ⟨rfl,h',tk,ys,rfl,q1,q2,q3⟩:=f
      repeat (any_goals (first|assumption|wp_step))
      exact h _ _ _ q1 q2 q3
    |_=>exact f.elim
 |_=>exact hr.elim
end
end L2
namespace L2
open PySem PyProof.Rows
theorem vZ:∀{vs:List a8} ,(∀ v∈vs,∃ y u,v=.str y u)->S5 vs (vs.map EO)
|[],_=>.nil
|v::vs,h=>by
  obtain ⟨y,u,rfl⟩:=h v (E9 ..);exact .cons y u (vZ fun x b=>h x (A7 _ b))
section
variable {prog:j2}{w:k6}{A:q4}{E:a8 -> c5 -> Prop}{s:c5}
theorem qI(M:xs.length < 64)(N:∀(A':q4)(Q':List a8->c5->Prop),A'.handled=A.handled->(∀ vs h' d tk,(∃ C,S5 vs C/\C.Perm xs)->(∀ b o,s.heap.get? b=some o->h'.get? b=some o)->s.heap.objs.size<=h'.objs.size->Q' vs { s with heap:=h',drawn:=d,toks:=tk })->e9 (h9 prog w) A' (jq (.ref a)) Q' E s)(h:∀ h' d tk L its ys n,s.heap.objs.size<=L->S5 its ys->ys.Perm xs->sortedS ys=true->h'.get? L=some (A3 "list" its.toArray n)->(∀ b o,s.heap.get? b=some o->h'.get? b=some o)->Q (.ref L) { s with heap:=h',drawn:=d,toks:=tk }):
  e9 (h9 prog w) A (ax (.builtin "sorted") [.ref a]) Q E s:=by
 refine Calls.call_function_entry sy rm rr (args_sorted1 _) ?_;unfold C0.«sorted»;refine a7 (m:=checkCount "sorted" 1 1 _) (c6 ?_);refine a7 (N _ _ (by simp) fun vs g d tk ⟨C,i,hp⟩ kp B=>?_);have T:vs.length=xs.length:=by rw [← hp.length_eq,← i.strs,g7]
 refine a7 (ik ?_ (by rw [p7]; lia));have q:(g.push (A3 "list" vs.toArray 0)).get? g.objs.size=some (A3 "list" vs.toArray 0):=j5 _ rfl;show e9 _ _ _ _ _ { s with heap:=g.push (A3 "list" vs.toArray 0),drawn:=d,toks:=tk };refine a7 (B2 (K6 oj ⟨_,q,rfl⟩ mw (list_sort_treeK strKind_oneLt q i.keysOf (fun H I jC e=>keyKind_strs (by rw [← e]; exact i)) (by lia) fun D J K=>⟨_,rfl,?_⟩) (args_list_sort _)));refine c6 ⟨_,rfl,?_⟩;obtain ⟨ys,P,R,S⟩:=sorted_out_str i J K;obtain ⟨e,O⟩:=sortedHeap_at (vs:=vs) (out:=(mm D).map (·.2)) q;refine h _ d tk g.objs.size _ ys e B P (R.trans hp) S (by rw [ci]; exact O) fun b o G=>?_;have f:=j6 (kp b o G);rw [sortedHeap_old (j4 f) (by rw [Z5]; exact q7 f)];exact c4 _ (kp b o G)
theorem OT(I:A.handled=none)(N:kE w s.heap a xs)(f:xs.length < 64)(h:∀ h' d tk L its ys n,s.heap.objs.size<=L->S5 its ys->ys.Perm xs->sortedS ys=true->h'.get? L=some (A3 "list" its.toArray n)->(∀ b o,s.heap.get? b=some o->h'.get? b=some o)->Q (.ref L) { s with heap:=h',drawn:=d,toks:=tk }):
  e9 (h9 prog w) A (ax (.builtin "sorted") [.ref a]) Q E s:=by
 refine qI f (fun P R D q=>?_) h;obtain ⟨T,S,t,g,i,C,J,B,H,K⟩:=N;refine ID (D.trans I) g H K (jo B) fun O h' d tk hp kp m=>q O h' d tk ⟨_,vZ fun v M=>?_,?_⟩ kp m
 ·obtain ⟨e,G,rfl⟩:=j1.mp (hp.mem_iff.mp M)
  obtain ⟨y,u,rfl⟩:=i e G;exact ⟨y,u,rfl⟩
 ·have:=hp.map EO
  rw [L1] at this;rw [← C];exact this
end
end L2
namespace L2
open PySem PyProof.Rows
theorem EW:splitId "dict.__len__"=some ("dict","__len__"):=by kernel_rfl
theorem YT:isSubtype (.type "dict") (.type "dict")=D8 true:=by rw [fx]; kernel_rfl
section
variable {prog:j2}{w:k6}{K:Type}[DecidableEq K]{knd:KeyKind prog w K}{A A₂:q4}{E:a8 -> c5 -> Prop}{s:c5}{a it:b8}{kvs:List (K×a8)}{ep:Nat}
theorem QJ(b:s.TypeIs (.ref a) "dict")(h:Q false s):e9 (h9 prog w) A (J2 (.ref a)) Q E s:=by
 unfold J2;refine a7 (X1 b F.slot_dict_len.lookup ?_);dsimp only;rw [EW];dsimp only;refine a7 (bo b YT ?_);rw [if_neg (by simp)];show e9 (h9 prog w) A (if true=true then _ else _) Q E s;rw [if_pos rfl];refine a7 (U5 b ?_);exact c6 h
theorem DR(hh:A.handled=none)(hd:(a==sysModules)=false)(hm:s.heap.DictAt knd a kvs ep)(H:kvs.length<=j0)(h:∀ vs h' tk,vs.length=kvs.length->(∀(i:Nat)(v:a8),vs[i]?=some v->∃ k x,kvs[i]?=some (k,x)/\knd.is k v=true)->(∀ b o,s.heap.get? b=some o->h'.get? b=some o)->s.heap.objs.size<=h'.objs.size->Q vs { s with heap:=h',toks:=tk }):
  e9 (h9 prog w) A (jq (.ref a)) Q E s:=by
 have q:a < s.heap.objs.size:=hm.lt_size;unfold jq;refine a7 (fi (A8 dj ?_));rw [w4 di _];show e9 _ A.in1 (ro [] >>= fun l=>again (.builtin "list.__iadd__" ⟨[l,.ref a],[]⟩)) _ _ s;refine a7 (F5 ?_);refine c6 ⟨E8 P0 _,A8 iz ?_⟩;rw [w4 P0 _];generalize U:s.heap.objs.size=S at *;have Z:(s.heap.push { cls:=.type "list",data:=.seq ([]:List a8).toArray }).get? S=some { cls:=.type "list",data:=.seq ([]:List a8).toArray }:=U ▸ j5 _ rfl;have C:∀ b o,s.heap.get? b=some o->(s.heap.push { cls:=.type "list",data:=.seq ([]:List a8).toArray }).get? b=some o:=fun b o e=>c4 _ e;have R:(s.heap.push { cls:=.type "list",data:=.seq ([]:List a8).toArray }).objs.size=S+1:=by rw [J3,U]
 generalize s.heap.push { cls:=.type "list",data:=.seq ([]:List a8).toArray }=f at Z C R ⊢;have B:f.DictAt knd a kvs ep:=hm.keep C;show e9 _ A.in1 (D5 (.ref S) (.ref a) (.ref S)) _ _ _;unfold D5;have X:U3 { s with heap:=f } (.ref a) "dict":=B.dictOf.typeIs;refine a7 (U5 X ?_);have h1:E7 (.ref S) (.ref a)=false:=by
  simp [E7];exact y6 q
 have h2:(K1 "dict"==K1 "list")=false:=by decide
 have T:(K1 "dict"==K1 "tuple")=false:=by decide
 simp only [h1,h2,T,Z3,O0,if_false];refine a7 (wpAny_pyIter_dict (s:={ s with heap:=f }) hd B ?_);have Y:a≠f.objs.size:=by rw [R]; exact j4 (q7 q)
 have W:=Walks.dictKeys (prog:=prog) (w:=w) (knd:=knd) (A:=A.in1) (by simpa using hh) f.objs.size a Y kvs ep;have st:(f.push { cls:=.type "dict_keyiterator",data:=.fields #[.ref a,.int (0:Nat) 0,.int kvs.length 0,.int ep 0] }).IsKeyIter f.objs.size a 0 kvs.length ep /\
   (f.push { cls:=.type "dict_keyiterator",data:=.fields #[.ref a,.int (0:Nat) 0,.int kvs.length 0,.int ep 0] }).DictAt knd a kvs ep:=⟨⟨_,j5 _ rfl,rfl,rfl⟩,B.push _⟩
 have D:∀ b o,f.get? b=some o->(f.push { cls:=.type "dict_keyiterator",data:=.fields #[.ref a,.int (0:Nat) 0,.int kvs.length 0,.int ep 0] }).get? b=some o:=fun b o e=>c4 _ e;show e9 _ A.in1 _ _ _ { s with heap:=f.push { cls:=.type "dict_keyiterator",data:=.fields #[.ref a,.int (0:Nat) 0,.int kvs.length 0,.int ep 0] } };generalize f.push { cls:=.type "dict_keyiterator",data:=.fields #[.ref a,.int (0:Nat) 0,.int kvs.length 0,.int ep 0] }=h' at st D ⊢;have gS:h'.get? S=some { cls:=.type "list",data:=.seq ([]:List a8).toArray }:=D _ _ Z;have O:S∉[f.objs.size,a]:=by
  rw [R];simp only [n6,Q0,or_false,not_or];exact ⟨j4 (D2 _),y6 q⟩
 refine a7 (B2 (QJ (show U3 { s with heap:=h' } (.ref a) "dict" from st.2.dictOf.typeIs) ?_));show e9 _ A.in1 (if (false || _)=true then _ else _) _ _ _;rw [if_pos (by first|rfl|decide)];refine a7 (P9 ?_);refine a7 ?_;show e9 _ A.in1 (bq S (·.push .none) >>= fun _=>bq S (·.pop)) _ _ _;refine a7 (O8 gS rfl ?_);have J:=C1 (l8 (·.push F7)) gS rfl;refine O8 J rfl ?_;have M:=C1 (l8 (·.pop)) J rfl;have G:∀ b o,b≠S->h'.get? b=some o->((h'.update S (l8 (·.push F7))).update S (l8 (·.pop))).get? b=some o:=
  fun b o H e=>(A4 _ _ (j3 H)).trans ((A4 _ _ (j3 H)).trans e)
 generalize (h'.update S (l8 (·.push F7))).update S (l8 (·.pop))=T at M G ⊢;refine c6 ⟨E8 M9 _,tf W.toS H S O _ kvs.length 0 _ _ _ rfl (y8 _)
  (W.frame 0 h' T st fun b H o e=>G b o (fun z=>O (z ▸ H)) e) M (ItemsOf.nil _) fun s' I c' P N g=>?_⟩
 show e9 _ A (load S >>= _) _ _ s';refine a7 (Z4 N ?_);refine c6 ?_;obtain ⟨h4,g4,d4,t4,o4⟩:=s';have eg:g4=s.gens:=P.gens;have ed:d4=s.drawn:=P.drawn;have eo:o4=s.os:=P.os;subst eg ed eo;refine h I.toList h4 t4 (by rw [C9]; exact g.1) (fun i v hv=>g.2 i v (by simpa using hv)) (fun b o e=>?_) (Q2 (j6 N));have m:b < S:=U ▸ j6 e;exact P.heap b o (by
  rw [R];simp only [n6,Q0,or_false,not_or];exact ⟨j4 m,j4 (q7 m)⟩) (G b o (j4 m) (D _ _ (C _ _ e)))
end
end L2
namespace L2
open PySem PyProof.Rows
theorem CV:cu (.type "list") "keys"=D8 none:=by rw [X2,P1]; kernel_rfl
theorem qH:jp table "dict.update.loop"=some C0.«dict.update.loop»:=lf (by kernel_rfl)
theorem iZ:plainId "dict.update.loop"=true:=by k_is
section
variable {prog:j2}{w:k6}{A:q4}{E:a8 -> c5 -> Prop}{s:c5}
theorem QE(q:s.heap.get? l=some { cls:=.type "list",data:=.seq xs k })(C:A.handled=none)(h:∀ h' tk,(∀ b o,s.heap.get? b=some o->h'.get? b=some o)->Q none { s with heap:=h',toks:=tk }):e9 (h9 prog w) A (getAttr? (.ref l) "keys") Q E s:=by
 obtain ⟨hp,g,d,tk,D⟩:=s;have m:∀ f,(⟨hp,g,d,f,D⟩:c5).TypeIs (.ref l) "list":=fun _=>⟨_,q,rfl⟩
 have G:=sub_AttributeError;have H:=am.lookup;have I:=am.bind (.ref l);have J:=am_list_getattr_none;unfold getAttr? getAttrBy? getAttrBy
 repeat (any_goals (first|assumption|exact m _|((with_reducible show e9 _ _ (ax (a8.builtin "list.__getattribute__") _ _) _ _ _); refine call_meets am (m _) am_entry_list_getattribute (F.args_list_getattribute_2 _ _) (meets_getattribute_miss_list l xs k #[] (B4 "keys") _ CV (by decide)) ⟨q,by simpa using C,fun h' f e i=>?_⟩)|wp_step))
 obtain ⟨M,N,K⟩:=i.there;show e9 _ _ (getattributeRaised _ _ _ _ _ _ _) _ _ _;unfold getattributeRaised
 repeat (any_goals (first|assumption|wp_step))
 exact h h' f fun b o B=>i.keeps b o B
variable {K:Type}[DecidableEq K]{knd:KeyKind prog w K}
noncomputable def vN(kvs:List (K×a8))(ps:List (K×a8)):List (K×a8):=ps.foldl (fun m p=>kx m p.1 p.2) kvs
theorem PM{R:Result->c5->Prop}{I l D:b8}{items:Array a8}{ps:List (K×a8)}(hh:A.handled=none)(hI:l≠I)(C:D≠I)(ae:D≠l)(P:items.size=ps.length)(hps:∀(h:u9)(i:Nat)(v:a8),items[i]?=some v->(∀ b o,s.heap.get? b=some o->b≠I->b≠D->h.get? b=some o)->∃ a f k x,v=.ref a/\h.IsTuple a #[f,x]/\ps[i]?=some (k,x)/\knd.is k f=true)(hsz:ps.length<=1000):
  ∀(n i:Nat)(h:u9)(tk:Nat)(kvs:List (K×a8)),items.size - i=n->i<=items.size->h.IsListIter I l i->h.IsList l items->h.DictOf knd D kvs->kvs.length<=i->(∀ b o,s.heap.get? b=some o->b≠I->b≠D->h.get? b=some o) ->
   (∀ h' tk',h'.DictOf knd D (vN kvs (ps.drop i))->(∀ b o,s.heap.get? b=some o->b≠I->b≠D->h'.get? b=some o)->R (.ok (.ret .none)) { s with heap:=h',toks:=tk' }) ->
   S2 (h9 prog w) A (.builtin "dict.update.loop" ⟨[.ref D,.ref I,B3 (i:Nat),.none],[]⟩) R { s with heap:=h,toks:=tk }:=by
 intro n
 induction n with
|zero =>
  intro i h tk kvs hn hi G U Y hk kp hR;have:i=items.size:=by lia
  subst this;refine A8 qH ?_;rw [w4 iZ _];show e9 _ A.in1 (O6 (.ref I) >>= _) _ _ _;refine a7 (sj (by simpa using hh) G U (by simp) fun h' eb=>?_);show e9 _ A.in1 (C0.Dict.addKeywords D [] >>= _) _ _ _;refine a7 (c6 (c6 (hR h' tk ?_ fun b o e B J=>eb b o B (kp b o e B J))));rw [P,List.drop_length];obtain ⟨o,X,W,g,r⟩:=Y;exact ⟨o,X,W,eb _ _ C g,r⟩
|succ n ih =>
  intro i h tk kvs hn hi G U Y hk kp hR;have hlt:i < items.size:=by lia
  refine A8 qH ?_;rw [w4 iZ _];show e9 _ A.in1 (O6 (.ref I) >>= _) _ _ _;obtain ⟨v,hv⟩:∃ v,items[i]?=some v:=⟨_,C7 hlt⟩
  refine a7 (ri G U hv fun h' N sb=>?_);have S:∀ b o,s.heap.get? b=some o->b≠I->b≠D->h'.get? b=some o:=fun b o e B J=>(sb.2 b B).trans (kp b o e B J);obtain ⟨a,f,k,x,rfl,ht,hp,O⟩:=hps h' i v hv S;have Z:h'.DictOf knd D kvs:=by
   obtain ⟨o,X,W,g,r⟩:=Y;exact ⟨o,X,W,(sb.2 _ C).trans g,r⟩
  have hl':h'.IsList l items:=by
   obtain ⟨o,g,r⟩:=U;exact ⟨o,(sb.2 _ hI).trans g,r⟩
  refine a7 (B2 ?_);refine a7 (wpAny_tryCatch (C6 (Q:=fun r s'=>r=[f,x]/\s'={ s with heap:=h',toks:=tk }) (E:=fun _ _=>False) ?_ (fun r s' q=>?_) fun _ _ z=>z.elim))
  ·unfold C0.Dict.pairItems
   obtain ⟨ot,g,hc,nt,hd⟩:=ht;refine a7 (U5 (T:="tuple") ⟨ot,g,hc⟩ ?_);rw [if_pos (by decide)];unfold gi;refine a7 (a7 (Z4 g ?_));rw [hd];exact c6 (c6 ⟨rfl,rfl⟩)
  ·obtain ⟨rfl,rfl⟩:=q
   show e9 _ A.in1 (da [f,x] (dictSet D f x)) _ _ _;refine B2 (wpAny_dictSet_pairs O Z (fun J ac H=>?_) (by rw [p7]; lia));have eD:ps.drop i=(k,x)::ps.drop (i+1):=by
    have m:i < ps.length:=by lia
    rw [List.drop_eq_getElem_cons m];have:ps[i]=(k,x):=by
     have:=hp;rw [c8 m] at this;exact h8 this
    rw [this]
   refine c6 ⟨E8 iZ _,?_⟩;have:=ih (i+1) J (tk+1) (kx kvs k x) (by lia) (by lia) (by
     obtain ⟨o,g,r⟩:=N;exact ⟨o,(H.2 _ C.symm).trans g,r⟩) (by
     obtain ⟨o,g,r⟩:=hl';exact ⟨o,(H.2 _ ae.symm).trans g,r⟩) ac (by
     have:(kx kvs k x).length<=kvs.length+1:=by unfold kx; split <;> simp
     lia) (fun b o e B M=>(H.2 b M).trans (S b o e B M)) fun h3 BM ad kp3=>hR h3 BM (by rw [eD]; exact ad) kp3
   exact this
theorem JY(hh:A.handled=none)(hl:s.heap.get? l=some { cls:=.type "list",data:=.seq items k })(N:items.size=ps.length)(X:∀(h:u9)(i:Nat)(v:a8),items[i]?=some v->(∀ b o,s.heap.get? b=some o->h.get? b=some o)->∃ a B k x,v=.ref a/\h.IsTuple a #[B,x]/\ps[i]?=some (k,x)/\knd.is k B=true)(hsz:ps.length<=1000)(h:∀ h' tk,h'.DictOf knd s.heap.objs.size (vN [] ps)->(∀ b o,s.heap.get? b=some o->h'.get? b=some o)->Q (.ref s.heap.objs.size) { s with heap:=h',toks:=tk }):e9 (h9 prog w) A (ax (.type "dict") [.ref l]) Q E s:=by
 refine callType_codes (Q₁:=fun S C=>S=.ref s.heap.objs.size/\C={ s with heap:=s.heap.push { cls:=.type "dict",data:=.dict #[] } }) F.kt_called_dict (F.kt_typeCall_dict_1 _) F.entry_dict_init (kt_code_dict_new _ ⟨rfl,rfl⟩) ?_;rintro S C ⟨rfl,rfl⟩;have O:l < s.heap.objs.size:=j6 hl;have z0:(s.heap.push { cls:=.type "dict",data:=.dict #[] }).objs.size=s.heap.objs.size+1:=J3 ..;have f:(s.heap.push { cls:=.type "dict",data:=.dict #[] }).DictOf knd s.heap.objs.size []:=u9.DictOf.new s.heap;have q:(s.heap.push { cls:=.type "dict",data:=.dict #[] }).get? l=some { cls:=.type "list",data:=.seq items k }:=c4 _ hl;have P:∀ b o,s.heap.get? b=some o->(s.heap.push { cls:=.type "dict",data:=.dict #[] }).get? b=some o:=fun b o e=>c4 _ e;generalize s.heap.push { cls:=.type "dict",data:=.dict #[] }=h0 at z0 f q P ⊢;refine ⟨f.typeIs,F.args_dict_init_2 _ _,?_⟩;unfold C0.«dict.__init__»;refine a7 ?_;unfold C0.Dict.selfAndRest;refine a7 (sk f.typeIs ?_);show e9 _ _ (D8 (s.heap.objs.size,[i6 l])) _ _ _;refine c6 ?_;show e9 _ _ (ij "dict.__init__" s.heap.objs.size (.ref l) [] .none) _ _ _;unfold ij;refine a7 (U5 (T:="list") ⟨_,q,rfl⟩ ?_);rw [if_pos (by decide)];refine a7 (QE q (by simpa using hh) fun H ac G=>?_);rw [if_pos (by rfl)];refine a7 (P9 ?_);have M:H.get? l=some { cls:=.type "list",data:=.seq items k }:=G _ _ q;have J:H.DictOf knd s.heap.objs.size []:=by
  obtain ⟨o,es,ep,g,r⟩:=f;exact ⟨o,es,ep,G _ _ g,r⟩
 have m:s.heap.objs.size < H.objs.size:=by
  obtain ⟨o,es,ep,g,r⟩:=J;exact j6 g
 refine a7 (jf ⟨_,M,rfl,k,rfl⟩ ?_);refine c6 ⟨E8 iZ _,?_⟩;have B:=PM (A:=A.in1) (knd:=knd) (s:=s) (R:=wants (fun r U=>r=.none/\Q (.ref s.heap.objs.size) U) E) (I:=H.objs.size) (l:=l) (D:=s.heap.objs.size) (items:=items) (ps:=ps) (by simpa using hh) (j4 (bu O m)) (j4 m) (y6 O) N
  (fun h i v hv kp=>X h i v hv fun b o e=>kp b o e (j4 (bu (j6 e) m)) (j4 (j6 e))) hsz items.size 0 (H.push { cls:=.type "list_iterator",data:=.fields #[.ref l,.int 0 0] }) ac [] rfl (y8 _)
  ⟨_,j5 _ rfl,rfl,rfl⟩ ⟨_,c4 _ M,rfl,k,rfl⟩ (J.push _) (y8 _) (fun b o e _ _=>c4 _ (G _ _ (P _ _ e)))
  fun h' Z W Y=>⟨rfl,h h' Z (by simpa using W) fun b o e=>Y b o e (j4 (bu (j6 e) m)) (j4 (j6 e))⟩
 exact B
end
end L2
namespace L2
open PySem PyProof.Rows
section
variable {prog:j2}{w:k6}{K:Type}[DecidableEq K]{knd:KeyKind prog w K}{A:q4}{E:a8 -> c5 -> Prop}{s:c5}{d:b8}{kvs:List (K×a8)}{k:K}{key dflt:a8}
theorem BT(f:knd.is k key=true)(O:s.heap.DictOf knd d kvs)(hsz:kvs.length<=j0)(U:∀ v,U7 kvs k=some v->Q v { s with toks:=s.toks+1 })(W:U7 kvs k=none->∀ h',h'.DictOf knd d (kvs++[(k,dflt)])->L6 d s.heap h'->Q dflt { s with heap:=h',toks:=s.toks+1 }):
  e9 (h9 prog w) A (dictSetDefault d key dflt) Q E s:=by
 obtain ⟨o,m,R,H,Z,q,hk0,hf⟩:=O.mapOf;obtain ⟨o',T,S,I,Y,B,hk,hp,hn⟩:=O;rw [H] at I;cases I;rw [q] at B;cases B;have M:m.size<=j0:=by
  have P:=hp.length;simp at P;lia
 unfold dictSetDefault;refine B2 (a7 (knd.pyHash f ?_));refine a7 (wpAny_dictFind_of (s:={ s with toks:=s.toks+1 }) f H q hk ?_);have D:(m.findIdx? fun e=>knd.is k e.key)=kvs.findIdx? fun kv=>decide (kv.1=k):=by
  rw [← hp.findIdx k];obtain ⟨l⟩:=m;simp
 have g:=hf k;rw [findBy_of_findIdx?] at g;cases hi:m.findIdx? fun e=>knd.is k e.key with
|some i =>
  rw [hi] at g;have N:i < m.size:=(Array.findIdx?_eq_some_iff_findIdx_eq.mp hi).1;have C:m[i]?=some m[i]:=C7 N;refine a7 (wpAny_dictEntries (s:={ s with toks:=s.toks+1 }) H q ?_);rw [C];refine a7 (P9 (c6 (U _ ?_)));rw [← g];simp [C]
|none =>
  rw [hi] at g;have G:k∉kvs.map (·.1):=not_mem_of_findIdx_none (D ▸ hi);refine a7 (P9 (a7 (wpAny_updateDictKeys (hz:=M) (s:={ s with toks:=s.toks+1 }) H q (c6 (W g.symm _ ⟨_,_,R+1,C1 _ H (Obj.isFreed_of_dict (qy q _)),
   Y.mapDictKeys _,qy q _,hk.push f _,?_,?_⟩ (B0 ..))))))
  ·have:=hp.append f (knd.hash k) dflt
   obtain ⟨l⟩:=m;simpa using this
  ·rw [u7,U8]
   refine ⟨hn,by simp,fun a X b J=>?_⟩;have J:b=k:=by simpa using J
   subst J;exact fun e=>G (e ▸ X)
theorem IF(b:knd.is k key=true)(hs:(d==sysModules)=false)(g:s.heap.DictOf knd d kvs)(hsz:kvs.length<=j0)(i:∀ v,U7 kvs k=some v->Q v { s with toks:=s.toks+1 })(m:U7 kvs k=none->∀ h',h'.DictOf knd d (kvs++[(k,dflt)])->L6 d s.heap h'->Q dflt { s with heap:=h',toks:=s.toks+1 }):
  e9 (h9 prog w) A (ax (.builtin "dict.setdefault") [.ref d,key,dflt]) Q E s:=by
 refine K6 F.slot_dict_setdefault g.typeIs F.entry_dict_setdefault ?_ (F.args_dict_setdefault_3 _ _ _);unfold C0.«dict.setdefault»;refine a7 ?_;unfold C0.Dict.keyAndDefault;refine a7 (sk g.typeIs ?_);show e9 _ _ (D8 (d,key,some dflt)) _ _ s;refine c6 ?_;show e9 _ _ (if (d==sysModules)=true then _ else _) _ _ s;rw [if_neg (by rw [hs]; exact h7)];refine a7 (BT b g hsz (fun v e=>c6 ⟨_,rfl,i v e⟩) fun e h' f o=>c6 ⟨_,rfl,m e h' f o⟩)
end
end L2
namespace L2
open PySem PyProof.Rows
end L2
namespace L2
open PySem PySem.Spec PyProof.Rows
noncomputable def melt(a:b8)(H:Hp):Hp:=fun b=>if b=a then (match H a with|some (.frz _ u)=>some u|o=>o) else H b
theorem sM(h:b≠a):melt a H b=H b:=by unfold melt; rw [if_neg h]
theorem CQ(h:H a=some (.frz o u)):melt a H a=some u:=by unfold melt; rw [if_pos rfl,h]
theorem mB(h:H b=none):melt a H b=none:=by
 unfold melt;split
 ·rename_i e
  subst e;rw [h]
 ·exact h
theorem iF(hn:∀ ob u,o≠.frz ob u)(h:H b=some o):melt a H b=some o:=by
 unfold melt;split
 ·rename_i e
  subst e;rw [h];cases o <;> first|rfl|exact absurd rfl (hn _ _)
 ·exact h
theorem HM(h:H a=some (.frz o u)):melt a H=upd H a u:=by
 funext b;by_cases f:b=a
 ·subst f; rw [CQ h,aC]
 ·rw [sM f,aZ f]
section
variable {X:Cx}{ud:List (b8×Obj)}{σ:St}{H:Hp}{s:c5}{a:b8}
theorem bB.melt(I:bB X ud σ H s)(h0:∀ o u,X.H₀ a≠some (.frz o u)):bB X ud σ (L2.melt a H) s:=by
 refine ⟨I.ok,I.os,I.bare,⟨I.base.keep,I.base.slot,fun b o e n B=>mB (I.base.free b o e n B),I.base.there,fun b A e=>iF (fun _ _ z=>nomatch z) (I.base.tups b A e),fun b o u e=>?_,fun b C e=>?_⟩,
  I.loc,I.cell,mB I.free,fun x c e=>mB (I.freeC x c e),fun p hp=>?_,fun b u e=>?_,I.len⟩
 ·have g:b≠a:=fun z=>by subst z; exact h0 _ _ e
  rw [sM g];exact I.base.frzs b o u e
 ·obtain ⟨f,q⟩:=I.base.tbls b C e
  exact ⟨f,iF (fun _ _ z=>nomatch z) q⟩
 ·obtain ⟨e,n,r⟩:=I.pin p hp
  exact ⟨e,mB n,r⟩
 ·have st:∀{v:HO},dH X.prog X.w H s.heap b v->dH X.prog X.w (L2.melt a H) s.heap b v:=fun {v} x =>
   x.stay (fun _ _ _ q=>q) (fun c q=>iF (fun _ _ z=>nomatch z) q) fun c A q=>iF (fun _ _ z=>nomatch z) q
  by_cases g:b=a
  ·subst g
   cases q:H b with
  |none=>rw [mB q] at e; cases e
  |some z =>
    have m:=I.hok b z q;by_cases i:∃ o v,z=.frz o v
    ·obtain ⟨o,v,rfl⟩:=i
     rw [CQ q] at e;cases e;exact st m.2
    ·rw [iF (fun o v w=>i ⟨o,v,w⟩) q] at e
     cases e;exact st m
  ·rw [sM g] at e
   exact st (I.hok b u e)
theorem bB.freeze(I:bB X ud σ H s)(h:H a=some (.dK kvs))(B:s.heap.get? a=some o):bB X ud σ (upd H a (.frz o (.dK kvs))) s:=by
 have D:∀{b:b8}{u:HO},H b=some u->u≠.dK kvs->b≠a:=fun {b u} e z w=>by subst w; rw [h] at e; exact z (h8 e).symm
 have i:∀{b:b8},H b=none->upd H a (.frz o (.dK kvs)) b=none:=fun {b} e=>by rw [aZ (fun w=>by subst w; rw [h] at e; cases e)]; exact e
 have f:∀{b:b8}{u:HO},H b=some u->u≠.dK kvs->upd H a (.frz o (.dK kvs)) b=some u:=fun {b u} e z=>by rw [aZ (D e z)]; exact e
 refine ⟨I.ok,I.os,I.bare,⟨I.base.keep,I.base.slot,fun b o e n C=>i (I.base.free b o e n C),I.base.there,fun b A e=>f (I.base.tups b A e) (fun z=>nomatch z),fun b o u e=>f (I.base.frzs b o u e) (fun z=>nomatch z),fun b E e=>?_⟩,
  I.loc,I.cell,i I.free,fun x c e=>i (I.freeC x c e),fun p hp=>?_,fun b u e=>?_,I.len⟩
 ·obtain ⟨g,q⟩:=I.base.tbls b E e
  exact ⟨g,f q (fun z=>nomatch z)⟩
 ·obtain ⟨e,n,r⟩:=I.pin p hp
  exact ⟨e,i n,r⟩
 ·have st:∀{v:HO},dH X.prog X.w H s.heap b v->dH X.prog X.w (upd H a (.frz o (.dK kvs))) s.heap b v:=fun {v} x =>
   x.stay (fun _ _ _ q=>q) (fun c q=>f q (fun z=>nomatch z)) fun c A q=>f q (fun z=>nomatch z)
  by_cases m:b=a
  ·subst m
   rw [aC] at e;cases e;exact ⟨B,st (I.hok b _ h)⟩
  ·rw [aZ m] at e
   exact st (I.hok b u e)
end
noncomputable def Jv(a:b8)(o:Obj)(kvs:List (aM×V)):It:=
 ⟨fun i H=>H a=some (.frz o (.dK kvs))/\i < kvs.length,fun i H x H'=>H'=H/\∃ k v,kvs[i]?=some (k,v)/\x=kV k,fun i H=>H a=some (.frz o (.dK kvs))/\kvs.length<=i⟩
theorem Ec{f:Type}:∀{kvs:List (f×V)}{vs:List (f×a8)}{i:Nat}{k:f}{v:V},KV kvs vs->kvs[i]?=some (k,v)->∃ u,vs[i]?=some (k,u)
|_,_,_,_,_,.nil,e=>by simp at e
|_,_,0,k,v,.cons (b:=q) r _,e=>by
  simp at e;subst e;exact ⟨q.2,by simp; exact qg r.1.symm rfl⟩
|_,_,i+1,k,v,.cons _ t,e=>by
  obtain ⟨u,h⟩:=Ec (i:=i) (k:=k) (v:=v) t (by simpa using e);exact ⟨u,by simpa using h⟩
theorem CZ(h:(bR P w).is k u=true):bG (kV k) u:=by
 rcases dO h with ⟨i,t,rfl,rfl⟩|⟨x,t,rfl,rfl⟩
 ·exact ⟨t,rfl⟩
 ·exact ⟨t,rfl⟩
section
variable {X:Cx}{tg:A6}
theorem vR(I:bB X ud σ H s)(h:H a=some (.frz o (.dK kvs))):
  (a==sysModules)=false/\∃ vs es ep,KV kvs vs/\o.data=.dict es ep/\s.heap.DictAt (bR X.prog X.w) a vs ep:=by
 obtain ⟨g,i⟩:=I.hok a _ h;obtain ⟨_,f,vs,b,m,es,ep,e,r⟩:=i;rw [g] at e;cases e;exact ⟨f,vs,es,ep,b,r.2.1,o,es,g,r⟩
theorem OQ{P:j2}{w:k6}{K:m7}(a it:b8)(o:Obj)(kvs:List (aM×V)):RF P w K tg (Jv a o kvs) [it] it (fun i h=>∃ es ep,o.data=.dict es ep/\h.IsKeyIter it a i kvs.length ep) where
 mem:=by simp
 obj:=fun i h st b B=>by
  have e:b=it:=by simpa using B
  subst e;obtain ⟨_,_,_,o,e,c,d⟩:=st;exact ⟨o,e,fun v z=>by rw [d] at z; cases z⟩
 keep:=fun i h G ⟨es,ep,q,st⟩ k=>⟨es,ep,q,st.at fun o e=>k it (by simp) o e⟩
 item:=by
  intro X Z hw Y hc i A s σ H E I J st hg;subst Z hw Y;obtain ⟨ha,M⟩:=hg;obtain ⟨hd,vs,es,ep,m,D,N⟩:=vR I ha;obtain ⟨Q,O,f,st⟩:=st;rw [D] at f;cases f;obtain ⟨R,S,f2,T,U,W⟩:=J it (by simp);obtain ⟨⟨k,v⟩,hx⟩:∃ p,kvs[i]?=some p:=⟨_,c8 M⟩
  obtain ⟨u,hu⟩:=Ec m hx;rw [m.length] at st;refine wpAny_pyNext_dict_item st N hu fun key G C g sb=>?_;rw [← m.length] at g;have I1:bB X A σ H { s with heap:=G }:=I.turned (t':=s.toks) (fun b o B e=>(sb.2 b B).trans e) R S T U W;obtain ⟨oi,e,c,d⟩:=id g;exact ⟨key,rfl,WS (s:={ s with heap:=G }) e c d (by decide) ⟨kV k,H,I1,CZ C,⟨rfl,k,v,hx,rfl⟩,⟨es,ep,D,g⟩,fun b B=>(J b B).1⟩⟩
 done:=by
  intro X Z hw Y hc i A s σ H E I J st hg;subst Z hw Y;obtain ⟨ha,M⟩:=hg;obtain ⟨hd,vs,es,ep,m,D,N⟩:=vR I ha;obtain ⟨Q,O,f,st⟩:=st;rw [D] at f;cases f;obtain ⟨R,S,f2,T,U,W⟩:=J it (by simp);rw [m.length] at st M;exact wpAny_pyNext_dict_end (I.ok.hd hc) st N (by simpa using M) fun G eb=>⟨rfl,I.turned (t':=s.toks) (fun b o B e=>eb b o B e) R S T U W⟩
 self:=fun _ _ _ _ _ ⟨_,_,_,st⟩ h=>wpAny_pyIter_keyiter st h
noncomputable def WN(a:b8)(tl:TE):TI:=fun σ H R=>tl σ H fun x H1=>x=.ref a/\∃ kvs,H1 a=some (.dK kvs)/\∀ o,R (Jv a o kvs) (upd H1 a (.frz o (.dK kvs)))
theorem MX(a:b8)(J:PE X l tl):PI X tg l (WN a tl):=by
 intro f s N H R I h;refine cY (J f s N H _ I h) fun v i ⟨x,O,B,M,K⟩=>?_;obtain ⟨e,w,hk,q⟩:=K;subst e;cases M;obtain ⟨_,G,P,A,o,C,D,g,r⟩:=B.hok a _ hk;have m:=B.freeze hk g;refine wpAny_pyIter_dict G ⟨o,C,g,r⟩ ?_;refine ⟨i.heap.objs.size,[i.heap.objs.size],_,_,_,rfl,m.kept (t':=i.toks) fun b o e=>c4 _ e,OQ a _ o w,⟨C,D,r.2.1,?_⟩,fun b E=>?_,q o⟩
 ·rw [A.length]
  exact ⟨_,j5 _ rfl,rfl,rfl⟩
 ·have e:b=i.heap.objs.size:=by simpa using E
  subst e;exact m.fpOk (i5 _) (m.hok.fresh (i5 _))
noncomputable def Dm(a:b8)(D:iI):iI:=⟨fun σ H=>D.nx σ (melt a H),fun v H=>D.rt v (melt a H),fun σ H=>D.bk σ (melt a H),fun σ H=>D.ct σ (melt a H)⟩
noncomputable def nU(H:Hp)(a:b8):Prop:=∀ o u,H a≠some (.frz o u)
noncomputable def Cb(tl:TE)(g:TG)(tb:TS):TS:=fun D σ H=>∃ a,nU H a/\Fe (WN a tl) g tb (Dm a D) σ H
theorem MS(hp:PassesOwn (h9 X.prog X.w) X.A X.env X.xe)(G:X.calm=true)(K:PE X iter tl)(J:PG X tg g)(E:BH X body tb)(hs:∀ x,P4 iter X.env x=D8 x:=by intro _; rfl):PS X (.For tg iter body [] pos) (Cb tl g tb):=by
 intro m s N H D I h;obtain ⟨a,M,h⟩:=h;have B:∀ o u,X.H₀ a≠some (.frz o u):=fun o u e=>M _ _ (I.base.frzs a o u e);refine cY (fD hp G (MX a K) J E hs m s N H (Dm a D) I h) fun f O q=>?_;cases f with
|next=>obtain ⟨b,C,i,q⟩:=q; exact ⟨b,_,i.melt B,q⟩
|brk=>obtain ⟨b,C,i,q⟩:=q; exact ⟨b,_,i.melt B,q⟩
|cont=>obtain ⟨b,C,i,q⟩:=q; exact ⟨b,_,i.melt B,q⟩
|ret u=>obtain ⟨v,b,C,i,r,q⟩:=q; exact ⟨v,b,_,i.melt B,r,q⟩
variable {scope:V5}{tn names:List Str}{is:List Nat}{elt iter:A6}{ifs:List A6}{pos:Pos}{tl te:TE}{tc:Option TT}{g:TG}
noncomputable def SE(tl:TE)(te:TE)(tc:Option TT)(g:TG)(k:Nat)(is:List Nat):TE:=fun σ H Q=>∃ a,nU H a/\ER (WN a tl) te tc g k is σ H fun v H'=>Q v (melt a H')
theorem GS(i:rB X scope tn names is)(w:X.calm=true)(D:PE X iter tl)(B:∀ C s0 H0 ex,PG (bX X scope (cE X.env names) (tn++names) C s0 H0 ex) tg g)(A:∀ C s0 H0 ex,PE (bX X scope (cE X.env names) (tn++names) C s0 H0 ex) elt te)(E:∀ C s0 H0 ex,Bt (bX X scope (cE X.env names) (tn++names) C s0 H0 ex) ifs tc)(hs:∀ x,P4 iter X.env x=D8 x:=by intro _; rfl):
  PE X (.ListComp elt [⟨tg,iter,ifs,0⟩] scope pos) (SE tl te tc g tn.length is):=by
 intro b s J H Q I h;obtain ⟨a,G,h⟩:=h;have m:∀ o u,X.H₀ a≠some (.frz o u):=fun o u e=>G _ _ (I.base.frzs a o u e);refine cY (eJ i w (MX a D) B A E hs b s J H _ I h) fun u M ⟨v,K,f,r,q⟩=>⟨v,_,f.melt m,r,q⟩
end
section
variable {X:Cx}{ud:List (b8×Obj)}{σ:St}{H:Hp}{s:c5}{tg:A6}
theorem bB.dr(I:bB X ud σ H s)(d:Drawn):bB X ud σ H { s with drawn:=d }:=⟨I.ok,I.os,I.bare,I.base,I.loc,I.cell,I.free,I.freeC,I.pin,I.hok,I.len⟩
noncomputable def Ke(K:m7)(a:b8):It:=
 ⟨fun i H=>∃ xs x,cP K H a xs/\xs[i]?=some x,fun i H v H'=>∃ T x,v=.ref T/\H T=none/\H'=upd H T (.tup [.int i,x])/\∀ xs,cP K H a xs->xs[i]?=some x,fun i H=>∃ xs,cP K H a xs/\xs.length<=i⟩
theorem OP{P:j2}{w:k6}{K:m7}{G:List A6}{k1:Nat}{W:Pos}(a e it:b8)(Q:e≠it):
  RF P w K (.Tuple G k1 W) (Ke K a) [e,it] e (fun i h=>(∃ g,IsEnum h e it i g)/\h.IsListIter it a i) where
 mem:=by simp
 obj:=fun i h st b f=>by
  obtain ⟨⟨g,C⟩,o,e1,c,d⟩:=st;rcases n6.mp f with rfl|f
  ·exact ⟨_,C,fun v z=>nomatch z⟩
  ·have f:b=it:=by simpa using f
   subst f;exact ⟨o,e1,fun v z=>by rw [d] at z; cases z⟩
 keep:=fun i h h' ⟨⟨g,C⟩,st⟩ k=>⟨⟨g,k e (by simp) _ C⟩,st.at fun o q=>k it (by simp) o q⟩
 item:=by
  intro X hP hw hK B i ud s σ H E I hf st hg;subst hP hw hK;obtain ⟨xs,x,hq,S⟩:=hg;obtain ⟨its,rv,p,hz⟩:=I.list hq;obtain ⟨u,hu,ru⟩:=rv.get S;obtain ⟨⟨g,C⟩,D⟩:=st;obtain ⟨f0,f1,f2,f3,f4,f5⟩:=hf e (by simp);obtain ⟨J,Y,g2,g3,g4,g5⟩:=hf it (by simp);refine wpAny_pyNext_enum_item C D p.isList (by simpa using hu) Q fun h' ho R hT hsz hk=>?_;refine ⟨_,rfl,wpAny_letOwnedTupleGo_enum (s:={ s with heap:=h',toks:=s.toks+1 }) ho fun Z he2 sb=>?_⟩;have O:H s.heap.objs.size=none:=I.hok.fresh (i5 _);have N:s.heap.objs.size≠e:=y6 (j6 C);have hTi:s.heap.objs.size≠it:=by obtain ⟨_,q,_⟩:=D; exact y6 (j6 q)
  have T:∀ b o,b≠e->b≠it->s.heap.get? b=some o->Z.get? b=some o:=fun b o n1 n2 q=>(sb.2 b n1).trans (hk b o n1 n2 q);have A:bB X ud σ H { s with heap:=Z,toks:=s.toks+1 }:=by
   refine I.step (g':=s.gens) (d':=s.drawn) (t':=s.toks+1) (ch:=[e,it]) (fun b f=>?_) (fun b o _ _ f q _=>T b o (fun z=>f (by simp [z])) (fun z=>f (by simp [z])) q) (fun b o _ _ f q _=>⟨o.slots,T b o (fun z=>f (by simp [z])) (fun z=>f (by simp [z])) q⟩)
    (fun b o _ _ q=>q) (fun b o f q=>⟨o,T b o (fun z=>f (by simp [z])) (fun z=>f (by simp [z])) q⟩) (fun _ _ q=>q) (fun _ _ _ q=>q) (fun _ ps q=>⟨#[],by simpa using q⟩) (fun m hm=>?_) ?_ I.bare
   ·rcases n6.mp f with rfl|f
    ·exact ⟨f3,f1,f4,f5⟩
    ·have f:b=it:=by simpa using f
     subst f;exact ⟨g3,Y,g4,g5⟩
   ·obtain ⟨o,es,ep,q,r⟩:=hm
    exact ⟨o,es,ep,T _ _ (j3 f1) (j3 Y) q,r⟩
   ·intro b u q
    refine (I.hok b u q).stay (fun c v B r=>T c v ?_ ?_ r) (fun _ q=>q) fun _ _ q=>q
    ·rintro rfl
     rcases B with rfl|B
     ·rw [f0] at q; cases q
     ·rw [f0] at B; cases B
    ·rintro rfl
     rcases B with rfl|B
     ·rw [J] at q; cases q
     ·rw [J] at B; cases B
  have M:Z.get? s.heap.objs.size=some { cls:=.type "tuple",data:=.seq #[.int i s.toks,u] }:=(sb.2 _ N).trans hT;have I2:bB X ud σ (upd H s.heap.objs.size (.tup [.int i,x])) { s with heap:=Z,toks:=s.toks+1 }:=by
   have nn:∀{b:b8},b < s.heap.objs.size->H b=none->upd H s.heap.objs.size (.tup [.int i,x]) b=none:=fun {b} f e=>by rw [aZ (j4 f)]; exact e
   have g:∀{b:b8}{o:HO},H b=some o->upd H s.heap.objs.size (.tup [.int i,x]) b=some o:=fun {b o} e=>by rw [aZ (aB e O)]; exact e
   refine ⟨A.ok,A.os,A.bare,⟨A.base.keep,A.base.slot,fun b o q n S=>nn ?_ (A.base.free b o q n S),A.base.there,fun b ys q=>g (A.base.tups b ys q),fun b o v q=>g (A.base.frzs b o v q),fun b ps q=>?_⟩,A.loc,A.cell,nn I.lt A.free,fun y c q=>nn ?_ (A.freeC y c q),fun p hp=>?_,fun b o q=>?_,A.len⟩
   ·exact c9 (j6 q) I.sz
   ·obtain ⟨U,z⟩:=A.base.tbls b ps q
    exact ⟨U,g z⟩
   ·obtain ⟨v,z⟩:=I.cell y c q
    exact z.lt
   ·obtain ⟨z1,z2,z3⟩:=A.pin p hp
    exact ⟨z1,nn (j6 (I.pin p hp).1) z2,z3⟩
   ·by_cases f:b=s.heap.objs.size
    ·subst f
     rw [aC] at q;cases q;exact ⟨⟨by rw [p7]; simp,_,M,rfl⟩,[.int i s.toks,u],.cons ⟨_,rfl⟩ (.cons ru .nil),_,M,rfl,_,rfl⟩
    ·rw [aZ f] at q
     exact (A.hok b o q).stay (fun _ _ _ z=>z) (fun c z=>g z) fun c ys z=>g z
  exact ⟨.ref s.heap.objs.size,_,I2,rfl,⟨s.heap.objs.size,x,rfl,O,rfl,fun ys hy=>by rw [I.list_inj hy hq]; exact S⟩,⟨⟨u,by simpa using he2⟩,R.at fun o q=>(sb.2 it (j3 Q)).trans q⟩,fun b f=>by
   rcases n6.mp f with rfl|f
   ·rw [aZ (j3 N)]; exact f0
   ·have f:b=it:=by simpa using f
    subst f;rw [aZ (j3 hTi)]; exact J⟩
 done:=by
  intro X hP hw hK B i ud s σ H E I hf st hg;subst hP hw hK;obtain ⟨xs,hq,S⟩:=hg;obtain ⟨its,rv,p,hz⟩:=I.list hq;obtain ⟨⟨g,C⟩,D⟩:=st;obtain ⟨J,Y,g2,g3,g4,g5⟩:=hf it (by simp);have hl:=rv.length;exact wpAny_pyNext_enum_end (I.ok.hd B) C D p.isList (by simp; lia) fun h' eb=>⟨rfl,I.turned (t':=s.toks) (fun b o f e=>eb b o f e) J Y g3 g4 g5⟩
 self:=fun _ _ _ _ _ ⟨⟨_,C⟩,_⟩ h=>wpAny_pyIter_enum C h
noncomputable def Ei(K:m7)(tl:TA):TI:=fun σ H R=>tl σ H fun vs H1=>∃ a,vs=[.ref a]/\(∃ xs,cP K H1 a xs)/\R (Ke K a) H1
theorem MW(D:Gl X "enumerate")(E:X.mg "enumerate"=none)(C:PA X [l] tl)(hs:j8 [l] X.env=[(false,C8 l X.env)]:=by rfl):
  PI X (.Tuple elts k1 tpos) (.Call (.Name "enumerate" p) [l] [] pos) (Ei X.K tl):=by
 intro ud s σ H R I h;refine Call_ (lM I D E DW (I0 (cY (C pos ud s σ H _ I h) fun S i ⟨T,o,f,O,N⟩=>?_) hs rfl));obtain ⟨a,e,⟨U,G⟩,q⟩:=N;subst e;cases O with
|cons r P =>
  cases P;cases r;obtain ⟨M,rv,p,Q⟩:=f.list G;refine call_enumerate_list p.isList fun B w m J kp=>?_;refine wpAny_pyIter_enum w ?_;have A:bB X ud σ o { i with heap:=B }:=f.kept (t':=i.toks) kp;refine ⟨_,[i.heap.objs.size+1,i.heap.objs.size],_,_,o,rfl,A,OP a _ _ (y6 (D2 _)),⟨⟨_,w⟩,m⟩,fun b g=>?_,q⟩;rcases n6.mp g with rfl|g
  ·exact f.fpOk (M0 _) (f.hok.fresh (M0 _))
  ·have g:b=i.heap.objs.size:=by simpa using g
   subst g;exact f.fpOk (i5 _) (f.hok.fresh (i5 _))
noncomputable def Br(w:k6)(a:b8)(xs:List Str):HO:=.ext fun h=>kE w h a xs
theorem sZ:∀{xs:List Str}{us:List a8},bO (xs.map V.str) us->S5 us xs
|[],_,.nil=>.nil
|x::xs,_,.cons r t=>by
  obtain ⟨tk,rfl⟩:=r;exact .cons x tk (sZ t)
theorem zH:∀{us:List a8}{xs:List Str},S5 us xs->bO (xs.map V.str) us
|_,_,.nil=>.nil
|_,_,.cons x t h=>.cons ⟨t,rfl⟩ (zH h)
noncomputable def Mv(w:k6):List V->Hp->VK->Prop:=fun vs H Q=>∃(p:b8)(xs:List Str),vs=[.ref p]/\H p=some (.lst (xs.map V.str))/\xs.length<=4000/\∀(l:b8)(ys:List Str),H l=none->ys.Nodup->(∀ z,z∈ys ↔ z∈xs)->Q (.ref l) (upd H l (Br w l ys))
theorem QY(N:X.calm=true):iM X (.type "set") (Mv X.w):=by
 intro ud s σ H vs us Q I r h;obtain ⟨p,B,rfl,hp,hl,q⟩:=h;obtain ⟨u,rfl,T⟩:=r.one;cases T;obtain ⟨z,m,n,rv,f,e⟩:=I.lstM hp;have P:=sZ rv;refine OY (items:=m.toArray) (xs:=B) (I.ok.hd N) ⟨_,e,rfl,n,rfl⟩ (fun i v A=>?_) (by rw [i4,← f,g7]) (by unfold gj; lia) fun M tk G E O kp=>?_
 ·have A:m[i]?=some v:=by simpa using A
  have K:i < B.length:=by
   have:=(b9.mp A).1;rw [← f,g7] at this;exact this
  obtain ⟨u,J,S⟩:=rv.get (i:=i) (x:=.str B[i]) (by simp [K]);rw [A] at J;cases J;obtain ⟨t,rfl⟩:=S;exact ⟨t,by simp [List.getD,K]⟩
 ·have D:G.Nodup:=by obtain ⟨_,_,_,_,_,_,R,_⟩:=E; exact R
  have C:∃ o,M.get? s.heap.objs.size=some o:=by obtain ⟨W,U,t,g,_⟩:=E; exact ⟨_,g⟩
  refine ⟨.ref s.heap.objs.size,_,I.laid (o:=Br X.w s.heap.objs.size G) (fun b o e=>kp b o (j6 e) e) (i5 _) ⟨E,C,fun Y Z x k=>x.at k⟩,rfl,q _ G (I.hok.fresh (i5 _)) D O⟩
noncomputable def Js(w:k6)(H:Hp)(p:b8)(xs:List Str):Prop:=H p=some (Br w p xs)∨H p=some (.lst (xs.map V.str))∨∃ kvs:List (aM×V),H p=some (.dK kvs)/\kvs.map (·.1)=xs.map a9
noncomputable def Gu(w:k6):List V->Hp->VK->Prop:=fun vs H Q=>∃(p:b8)(xs:List Str),vs=[.ref p]/\Js w H p xs/\xs.length < 64/\∀(l:b8)(ys:List Str),H l=none->ys.Perm xs->sortedS ys=true->Q (.ref l) (upd H l (.lst (ys.map V.str)))
theorem yL(hc:X.calm=true):iM X (.builtin "sorted") (Gu X.w):=by
 intro ud s σ H J G Q I r h;obtain ⟨p,C,rfl,hp,B,q⟩:=h;obtain ⟨u,rfl,ru⟩:=r.one;cases ru;have D:∀ A d tk L m f n,s.heap.objs.size<=L->S5 m f->f.Perm C->sortedS f=true->A.get? L=some (A3 "list" m.toArray n)->(∀ b o,s.heap.get? b=some o->A.get? b=some o)->EP X ud σ Q (.ref L) { s with heap:=A,drawn:=d,toks:=tk }:=fun A d tk L m f n W hS Y hO g kp=>by
  have I1:=(I.dr d).laid (h':=A) (a:=L) (o:=.lst (f.map V.str)) (t':=tk) kp W ⟨by
   have:=Y.length_eq;rw [g7,p7];lia,m,n,zH hS,g⟩
  exact ⟨.ref L,_,I1,rfl,q L f (I.hok.fresh W) Y hO⟩
 rcases hp with hp|hp|⟨kvs,hp,hk⟩
 ·exact OT (I.ok.hd hc) (show kE X.w s.heap p C from (I.hok p _ hp).1) B D
 ·obtain ⟨z,m,n,rv,M,e⟩:=I.lstM hp
  refine qI B (fun A' Q' U k=>collect_list (vs:=m) ⟨_,e,rfl,n,rfl⟩ ?_ (by rw [← M]; exact z)) D;refine k m _ s.drawn s.toks ⟨C,sZ rv,.refl _⟩ (fun b o q=>?_) ?_
  ·have hb:b≠s.heap.objs.size:=j4 (j6 q)
   exact (A4 _ _ (j3 hb)).trans (c4 _ q)
  ·rw [W5,Z5]
   exact M0 _
 ·obtain ⟨z,hd,T,E,O⟩:=yG I.hok hp
  obtain ⟨ep,O⟩:=O.dictAt;refine qI B (fun A' Q' U k=>DR (U.trans (I.ok.hd hc)) hd O (by rw [← E.length]; exact z) fun J A tk hn hv kp R=>?_) D;refine k J A s.drawn tk ⟨C,?_,.refl _⟩ kp R;have S:C.length=J.length:=by
   have:=congrArg qi hk;rw [g7,g7] at this;rw [hn,← E.length,this]
  have N:∀(i:Nat)(v:a8),J[i]?=some v->∃ x t,C[i]?=some x/\v=.str x t:=fun i v e=>by
   obtain ⟨k',x',P,e2⟩:=hv i v e;have K:(T.map (·.1))[i]?=some k':=by rw [i7,P]; rfl
   rw [← E.keys,hk,i7] at K;cases e4:C[i]? with
  |none=>rw [e4] at K; cases K
  |some y =>
    rw [e4] at K;have e5:a9 y=k':=h8 K;subst e5;obtain ⟨t,rfl⟩:=CZ e2;exact ⟨y,t,rfl,rfl⟩
  have go:∀(G:List a8)(f:List Str),f.length=G.length->(∀(i:Nat)(v:a8),G[i]?=some v->∃ x t,f[i]?=some x/\v=.str x t)->S5 G f:=by
   intro G
   induction G with
  |nil =>
    intro f B _;have:f=[]:=K9.mp B;subst this;exact .nil
  |cons u G ih =>
    intro f B Z;cases f with
   |nil=>cases B
   |cons y f =>
     obtain ⟨x,t,P,rfl⟩:=Z 0 u rfl;cases P;exact .cons y t (ih f (by simpa using B) fun i v e=>by simpa using Z (i+1) v (by simpa using e))
  exact go J C S N
noncomputable abbrev ED(H:Hp):List V->List (aM×V)->Prop:=Paired fun v kv=>∃ a,v=.ref a/\H a=some (.tup [kV kv.1,kv.2])
noncomputable def Gy:List V->Hp->VK->Prop:=fun vs H Q=>∃(p:b8)(ts:List V)(kvs:List (aM×V)),vs=[.ref p]/\H p=some (.lst ts)/\ED H ts kvs/\ts.length<=1000/\∀ l:b8,H l=none->Q (.ref l) (upd H l (.dK (iU [] kvs)))
theorem Paired.at{b f:Type}{F:b->f->Prop}:∀{xs:List b}{ys:List f}{i:Nat}{x:b},Paired F xs ys->xs[i]?=some x->∃ y,ys[i]?=some y/\F x y
|_,_,_,_,.nil,e=>by simp at e
|_,_,0,_,.cons r _,e=>by simp at e; subst e; exact ⟨_,rfl,r⟩
|_,_,i+1,x,.cons _ t,e=>by
  obtain ⟨y,g,m⟩:=Paired.at (i:=i) (x:=x) t (by simpa using e);exact ⟨y,by simpa using g,m⟩
theorem xH(ok:pQ P w H h):∀{m:List V}{kvs:List (aM×V)}{f:List a8},ED H m kvs->bO m f ->
  ∃ ps:List (aM×a8),KV kvs ps/\Paired (fun v p=>∃ a i,v=i6 a/\h.IsTuple a #[i,p.2]/\(bR P w).is p.1 i=true) f ps
|_,_,_,.nil,.nil=>⟨[],.nil,.nil⟩
|_,_,_,.cons (b:=kv) ⟨a,e,g⟩ t,.cons r D=>by
  obtain ⟨ps,o,q⟩:=xH ok t D;subst e;cases r;obtain ⟨_,f,rv,E⟩:=ok a _ g;cases rv with
 |cons B rv =>
   cases rv with
  |cons C rv =>
    cases rv;rename_i A G;exact ⟨(kv.1,G)::ps,.cons ⟨rfl,C⟩ o,.cons ⟨a,A,rfl,E,oQ B⟩ q⟩
theorem xX:∀{kvs:List (aM×V)}{ps:List (aM×a8)}{m:List (aM×V)}{n:List (aM×a8)},KV kvs ps->KV m n->KV (iU m kvs) (vN n ps)
|_,_,_,_,.nil,r=>r
|_,_,m,n,.cons (a:=p) (b:=q) ⟨e,rv⟩ t,r=>by
  show KV (iU (eK m p.1 p.2) _) (vN (kx n q.1 q.2) _);refine xX t ?_;rw [← e];exact r.put p.1 rv
theorem rA(O:X.calm=true):iM X (.type "dict") Gy:=by
 intro ud s σ H vs Z Q I r h;obtain ⟨p,W,b,rfl,hp,m,R,q⟩:=h;obtain ⟨u,rfl,T⟩:=r.one;cases T;obtain ⟨z,B,n,rv,f,e⟩:=I.lstM hp;obtain ⟨D,M,G⟩:=xH I.hok m rv;have A:B.length=D.length:=G.length;refine JY (knd:=bR X.prog X.w) (ps:=D) (I.ok.hd O) e (by rw [i4]; exact A) (fun K i v S kp=>?_) (by rw [← A,← f]; exact R) fun K tk P kp=>?_
 ·obtain ⟨y,J,a,C,rfl,U,hk⟩:=Paired.at G (show B[i]?=some v by simpa using S)
  obtain ⟨o,g,r⟩:=U;exact ⟨a,C,y.1,y.2,rfl,⟨o,kp _ _ g,r⟩,J,hk⟩
 ·have E:=xX M (.nil:KV [] [])
  refine ⟨.ref s.heap.objs.size,_,I.laid (o:=.dK (iU [] b)) kp (i5 _) (yH ?_ (beq_eq_false_iff_ne.mpr (j3 (j4 I.big))) E P),rfl,q _ (I.hok.fresh (i5 _))⟩;have N:=lK b [];have Y:W.length=b.length:=m.length;simp at N;rw [p7];lia
end
section
variable {X:Cx}
noncomputable def MN:V->List V->Hp->VK->Prop:=fun x vs H Q=>∃(a:b8)(kvs:List (aM×V)) (k:aM) (d:V),x=.ref a/\vs=[kV k,d]/\H a=some (.dK kvs)/\kvs.length<=1000/\(∀ v,bJ kvs k=some v->Q v H)/\(bJ kvs k=none->Q d (upd H a (.dK (kvs++[(k,d)]))))
theorem AO:Ry X "dict.setdefault" MN:=by
 intro A s Y H x W v U Q I O rv h;obtain ⟨a,f,k,d,rfl,rfl,o,S,G,J⟩:=h;cases O;obtain ⟨T,C,rfl,N,B⟩:=bO.two rv;obtain ⟨z,hs,R,i,D⟩:=yG I.hok o;have b:=i.val k;refine IF (oQ N) hs D (by rw [← i.length]; exact z) (fun w e=>?_) fun e E m P=>?_
 ·rw [e] at b
  cases g:bJ f k with
 |none=>rw [g] at b; exact b.elim
 |some v =>
   rw [g] at b;exact ⟨v,H,I.tok _,b,G v g⟩
 ·rw [e] at b
  have g:bJ f k=none:=by
   cases g:bJ f k with
  |none=>rfl
  |some v=>rw [g] at b; exact b.elim
  have K:∃ q,E.get? a=some q:=let ⟨q,_,_,M,_⟩:=m; ⟨q,M⟩;refine ⟨d,_,sU (t':=s.toks+1) I (by rw [o]; exact F9) P K (yH ?_ hs (show KV (f++[(k,d)]) (R++[(k,C)]) from ?_) m),B,J g⟩
  ·rw [i9,bw,p7]
   lia
  ·have:∀{p:List (aM×V)} {q:List (aM×a8)},KV p q->KV (p++[(k,d)]) (q++[(k,C)]):=fun {p q} r=>by
    induction r with
   |nil=>exact .cons ⟨rfl,B⟩ .nil
   |cons r _ ih=>exact .cons r ih
   exact this i
noncomputable def Mu:V->Option Int->Option Int->Hp->VK->Prop:=fun x lo hi H Q=>∃ z:Str,x=.str z/\z.length<=j0/\Q (.str (W9 z lo hi)) H
theorem NC{v:a8}{lo:Option Int}(h:IsPart v lo):∃ l:Option (Int×Tok),l.map (·.1)=lo/\v=partValue l:=by
 cases h with
|none=>exact ⟨none,rfl,rfl⟩
|int i t=>exact ⟨some (i,t),rfl,rfl⟩
theorem TH:Rw X Mu:=by
 intro f s K H x v G J lo C D Q I B hs w A h;obtain ⟨z,rfl,m,q⟩:=h;obtain ⟨t,rfl⟩:=B;obtain ⟨l,g,rfl⟩:=NC w;obtain ⟨u,i,rfl⟩:=NC A;subst g i;refine ⟨"str",_,F.slot_str_getitem.lookup,typeIs_str _ _ _,wpAny_getItem_str_slice (l:=l) (u:=u) (st:=none) ?_ rfl (post_val_or_str ?_)⟩
 ·obtain ⟨o,a,b,c⟩:=hs
  exact ⟨o,a,b,c⟩
 ·exact ⟨u8 (oy z _ _) m,fun E k=>⟨.str _,H,I.tok _,⟨_,rfl⟩,q⟩⟩
end
end L2
namespace L2
section
variable {α:Type}[DecidableEq α]
noncomputable abbrev jT(α:Type):=α×α×Rat
noncomputable abbrev nE(α:Type):=Rat×Option (Nat×α)
noncomputable abbrev AL(α β:Type):=List (α×β)
noncomputable def aV{β:Type}(l:AL α β)(k:α):Option β:=(l.find? fun kv=>decide (kv.1=k)).map (·.2)
noncomputable def eO{β:Type}(l:AL α β)(k:α)(v:β):AL α β:=if (l.any fun kv=>decide (kv.1=k)) then l.map (fun kv=>if kv.1=k then (kv.1,v) else kv) else l++[(k,v)]
noncomputable def kD{β:Type}(l:AL α β)(k:α):AL α β:=l.filter fun kv=>decide (kv.1≠k)
theorem bU{m:Type}{l:AL α m}{k:α}{v:m}(h:aV l k=some v):(k,v)∈l:=by
 unfold aV at h;rw [j7] at h;obtain ⟨kv,g,i⟩:=h;have f:=List.find?_some g;have o:=List.mem_of_find?_eq_some g;simp at f;obtain ⟨a,b⟩:=kv;simp at i f;subst i f;exact o
theorem jV{f:Type}{l:AL α f}{k:α}(h:aV l k=none):∀ v,(k,v)∉l:=by
 intro v b;unfold aV at h;rw [Option.map_eq_none_iff,List.find?_eq_none] at h;have:=h _ b;simp at this
theorem cZ{m:Type}{l:AL α m}{k:α}{v:m}(f:(l.map (·.1)).Nodup)(h:(k,v)∈l):aV l k=some v:=by
 cases e:aV l k with
|none=>exact absurd h (jV e v)
|some u =>
  have i:=bU e
  induction l with
 |nil=>cases h
 |cons x r ih =>
   rw [D3,Q1] at f;rcases n6.mp h with rfl|g
   ·rcases n6.mp i with b|b
    ·cases b; rfl
    ·exact absurd (j1.mpr ⟨_,b,rfl⟩) f.1
   ·rcases n6.mp i with b|b
    ·subst b
     exact absurd (j1.mpr ⟨_,g,rfl⟩) f.1
    ·have o:aV r k=some u:=by
      unfold aV at e ⊢;rw [L0] at e;have:(decide (x.1=k))=false:=by
       apply decide_eq_false;intro z;subst z;exact f.1 (j1.mpr ⟨_,g,rfl⟩)
      rw [this] at e;exact e
     exact ih f.2 g o b
theorem fL{g:Type}{l:AL α g}{k:α}{v:g}{x:α}{y:g}(h:(x,y)∈eO l k v):(x=k/\y=v)∨(x≠k/\(x,y)∈l):=by
 unfold eO at h;split at h
 ·rw [j1] at h
  obtain ⟨kv,b,f⟩:=h;split at f
  ·rename_i e
   cases f;exact .inl ⟨e,rfl⟩
  ·rename_i e
   subst f;exact .inr ⟨e,b⟩
 ·rename_i e
  rcases m9.mp h with b|b
  ·refine .inr ⟨?_,b⟩
   rintro rfl;apply e;rw [U1];exact ⟨_,b,by simp⟩
  ·rw [f9] at b
   cases b;exact .inl ⟨rfl,rfl⟩
theorem IG{b:Type}{l:AL α b}{k:α}{v:b}:(k,v)∈eO l k v:=by
 unfold eO;split
 ·rename_i e
  rw [U1] at e;obtain ⟨kv,f,g⟩:=e;rw [j1];refine ⟨kv,f,?_⟩;have:=of_decide_eq_true g;rw [if_pos this,this]
 ·exact o0 _ (f9.mpr rfl)
theorem XT{b:Type}{l:AL α b}{k:α}{v:b}{x:α}{y:b}(f:x≠k)(h:(x,y)∈l):(x,y)∈eO l k v:=by
 unfold eO;split
 ·rw [j1]
  exact ⟨_,h,by rw [if_neg f]⟩
 ·exact z9 _ h
theorem sV{f:Type}{l:AL α f}{k:α}{v:f}(m:(l.map (·.1)).Nodup):((eO l k v).map (·.1)).Nodup:=by
 unfold eO;split
 ·rw [L1]
  have:((fun x=>x.1) ∘ fun(kv:α×f)=>if kv.1=k then (kv.1,v) else kv)=fun kv=>kv.1:=by
   funext kv;simp only [Function.comp];split <;> rfl
  rw [this];exact m
 ·rename_i e
  rw [u7,U8];refine ⟨m,by simp,?_⟩;intro a g b i;simp at i;subst i;rintro rfl;apply e;rw [j1] at g;obtain ⟨kv,o,q⟩:=g;rw [U1];exact ⟨kv,o,by simp [q]⟩
theorem RC{f:Type}{l:AL α f}{k:α}{v:f}{x:α}(h:x∈(eO l k v).map (·.1)):x=k∨x∈l.map (·.1):=by
 rw [j1] at h;obtain ⟨⟨a,b⟩,g,rfl⟩:=h;rcases fL g with ⟨e,_⟩|⟨_,e⟩
 ·exact .inl e
 ·exact .inr (j1.mpr ⟨_,e,rfl⟩)
theorem lZ{b:Type}{l:AL α b}{k:α}{x:α×b}:x∈kD l k ↔ x∈l/\x.1≠k:=by
 unfold kD;rw [cz];simp
theorem XW{f:Type}{l:AL α f}{k:α}(b:(l.map (·.1)).Nodup):((kD l k).map (·.1)).Nodup:=by
 unfold kD;exact b.sublist (List.filter_sublist.map _)
theorem kC{g:Type}(l:AL α g)(k j:α)(v:g):aV (eO l k v) j=if j=k then some v else aV l j:=by
 by_cases e:j=k
 ·subst e
  rw [if_pos rfl];unfold aV eO;split
  ·rename_i h
   induction l with
  |nil=>simp at h
  |cons x r ih =>
    rw [D3,L0];by_cases b:x.1=j
    ·simp [b]
    ·rw [if_neg b]
     simp only [b,decide_false];apply ih;rw [Q3] at h;simpa [b] using h
  ·rename_i h
   induction l with
  |nil=>simp
  |cons x r ih =>
    rw [Q3] at h;have b:¬ x.1=j:=fun z=>h (by simp [z]);rw [C2,L0];simp only [b,decide_false];exact ih (by simpa [b] using h)
 ·rw [if_neg e]
  unfold aV eO;split
  ·rename_i h
   clear h
   induction l with
  |nil=>rfl
  |cons x r ih =>
    rw [D3,L0,L0];by_cases b:x.1=k
    ·rw [if_pos b]
     have:¬ x.1=j:=fun z=>e (z.symm.trans b);simp only [this,decide_false];exact ih
    ·rw [if_neg b]
     by_cases f:x.1=j
     ·simp [f]
     ·simp only [f,decide_false]
      exact ih
  ·rename_i h
   rw [List.find?_append];have:List.find? (fun kv=>decide (kv.1=j)) [(k,v)]=none:=by
    simp [j3 e]
   rw [this,Option.or_none]
noncomputable def Jn(r:jT α)(q p:α):Prop:=(r.1=q/\r.2.1=p)∨(r.2.1=q/\r.1=p)
noncomputable def cU(tk:Nat->Option Rat)(k:Nat)(t:Rat):Prop:=∀ u,tk k=some u->t<=u
theorem cU.le(h:cU tk k t)(l:s<=t):cU tk k s:=fun u e=>E6 l (h u e)
variable (net:List (jT α))(push:α -> Option Rat)(tk:Nat -> Option Rat)
inductive KM:α->Rat->Prop
|push {p t}:push p=some t->KM p t
|run {q s p k r}:KM q s->net[k]?=some r->Jn r q p->cU tk k (s+r.2.2)->KM p (s+r.2.2)
structure fJ(m:α->Option Rat):Prop where
 arr:∀ p t,m p=some t->KM net push tk p t
 le:∀ p t,KM net push tk p t->∃ u,m p=some u/\u<=t
variable {net push tk}
theorem fJ.uniq(h:fJ net push tk m)(h':fJ net push tk g):m=g:=by
 have b:∀{m g:α->Option Rat},fJ net push tk m->fJ net push tk g->∀ p t,m p=some t->∃ u,g p=some u/\u<=t:=fun h h' p t e=>h'.le p t (h.arr p t e);funext p;cases e:m p with
|none =>
  cases e':g p with
 |none=>rfl
 |some u =>
   obtain ⟨w,f,_⟩:=b h' h p u e';rw [e] at f;cases f
|some t =>
  obtain ⟨u,i,o⟩:=b h h' p t e;obtain ⟨w,f,q⟩:=b h' h p u i;rw [e] at f;cases f;rw [i];exact congrArg some (jv q o)
noncomputable def En(net:List (jT α))(push:α->Option Rat)(tk:Nat->Option Rat)(F:AL α (nE α))(p:α):nE α->Prop
|(t,none)=>push p=some t
|(t,some (k,q))=>∃ r e,net[k]?=some r/\Jn r q p/\(q,e)∈F/\t=e.1+r.2.2/\cU tk k t
theorem En.mono(h:En net push tk F p e)(s:∀ x∈F,x∈F'):En net push tk F' p e:=by
 obtain ⟨t,o⟩:=e;cases o with
|none=>exact h
|some f =>
  obtain ⟨r,e,a,b,c,d⟩:=h;exact ⟨r,e,a,b,s _ c,d⟩
noncomputable def Kf(W F:AL α (nE α))(p:α)(t:Rat):Prop:=∃ e,((p,e)∈W∨(p,e)∈F)/\e.1<=t
structure mH(net:List (jT α))(push:α->Option Rat)(tk:Nat->Option Rat)(C:α->Nat->α->Prop)(W F:AL α (nE α)):Prop where
 ndW:(W.map (·.1)).Nodup
 ndF:(F.map (·.1)).Nodup
 dis:∀ p,p∈W.map (·.1)->p∉F.map (·.1)
 sup:∀ p e,(p,e)∈W->En net push tk F p e
 ord:∀ i p e,F[i]?=some (p,e)->En net push tk (F.take i) p e
 mono:∀ f∈F,∀ w∈W,f.2.1<=w.2.1
 psh:∀ p t,push p=some t->Kf W F p t
 clo:∀ q e,(q,e)∈F->∀ k r p,net[k]?=some r->Jn r q p->C q k p->cU tk k (e.1+r.2.2)->Kf W F p (e.1+r.2.2)
theorem mH.start(s:(W.map (·.1)).Nodup)(h:∀ p e,(p,e)∈W->e.2=none/\push p=some e.1)(g:∀ p t,push p=some t->(p,(t,none))∈W):mH net push tk C W []:=by
 refine ⟨s,by simp,fun _ _=>by simp,fun p e b=>?_,fun i p e b=>by simp at b,fun f m=>by simp at m,fun p t e=>⟨_,.inl (g p t e),K0⟩,fun q e b=>by simp at b⟩;obtain ⟨t,o⟩:=e;obtain ⟨rfl,z⟩:=h p _ b;exact z
theorem mH.pop(I:mH net push tk (fun _ _ _=>True) W F)(hp:(p,e)∈W)(R:∀ w∈W,e.1<=w.2.1)(P:∀ q k x,C q k x->q≠p):mH net push tk C (kD W p) (F++[(p,e)]):=by
 have K:p∉F.map (·.1):=I.dis p (j1.mpr ⟨_,hp,rfl⟩);have E:∀ {x t},Kf W F x t->Kf (kD W p) (F++[(p,e)]) x t:=fun {x t} ⟨u,g,D⟩=>by
  rcases g with g|g
  ·by_cases o:x=p
   ·subst o
    have:u=e:=h8 ((cZ I.ndW g).symm.trans (cZ I.ndW hp));subst this;exact ⟨u,.inr (by simp),D⟩
   ·exact ⟨u,.inl (lZ.mpr ⟨g,o⟩),D⟩
  ·exact ⟨u,.inr (z9 _ g),D⟩
 refine ⟨XW I.ndW,?_,fun x o=>?_,fun x u S=>?_,fun i x u m=>?_,fun f s w H=>?_,fun x t o=>E (I.psh x t o),fun q u A k r x g D N O=>?_⟩
 ·rw [u7,U8]
  refine ⟨I.ndF,by simp,fun a Q b M=>?_⟩;simp at M;subst M;rintro rfl;exact K Q
 ·rw [j1] at o
  obtain ⟨y,B,rfl⟩:=o;have B:=lZ.mp B;rw [u7,m9];rintro (z|z)
  ·exact I.dis _ (j1.mpr ⟨_,B.1,rfl⟩) z
  ·simp at z
   exact B.2 z
 ·exact (I.sup x u (lZ.mp S).1).mono fun y B=>z9 _ B
 ·by_cases G:i < F.length
  ·rw [K8 G] at m
   rw [List.take_append_of_le_length (Q2 G)];exact I.ord i x u m
  ·rw [E3 (by lia)] at m
   have:i - F.length=0:=by
    cases e2:i - F.length with
   |zero=>rfl
   |succ n=>rw [e2] at m; simp at m
   have J:i=F.length:=by lia
   subst J;simp at m;obtain ⟨rfl,rfl⟩:=m;rw [List.take_left];exact I.sup _ _ hp
 ·have H:=lZ.mp H
  rcases m9.mp s with s|s
  ·exact I.mono f s w H.1
  ·simp at s
   subst s;exact R w H.1
 ·rcases m9.mp A with A|A
  ·exact E (I.clo q u A k r x g D trivial O)
  ·simp at A
   exact absurd A.1 (P _ _ _ N)
theorem mH.turn(I:mH net push tk C W F)(hp:(p,e)∈F)(H:net[k]?=some r)(Q:Jn r p x)(A:∀ w∈F,w.2.1<=e.1)(h0:0 < r.2.2)(M:∀ q j y,C' q j y->C q j y∨(q=p/\j=k/\y=x))
  (P:(W'=W/\(x∈F.map (·.1)∨¬ cU tk k (e.1+r.2.2)∨∃ u,(x,u)∈W/\u.1<=e.1+r.2.2)) ∨
   (x∉F.map (·.1)/\cU tk k (e.1+r.2.2)/\(∀ u,(x,u)∈W->e.1+r.2.2<=u.1)/\W'=eO W x (e.1+r.2.2,some (k,p)))):mH net push tk C' W' F:=by
 rcases P with ⟨rfl,h⟩|⟨J,G,R,rfl⟩
 ·refine ⟨I.ndW,I.ndF,I.dis,I.sup,I.ord,I.mono,I.psh,fun q u B j K y g m o D=>?_⟩
  rcases M q j y o with o|⟨rfl,rfl,rfl⟩
  ·exact I.clo q u B j K y g m o D
  ·rw [H] at g
   cases g;have:u=e:=h8 ((cZ I.ndF B).symm.trans (cZ I.ndF hp));subst this;rcases h with h|h|⟨w,E,O⟩
   ·rw [j1] at h
    obtain ⟨⟨a,b⟩,E,rfl⟩:=h;refine ⟨b,.inr E,?_⟩;have:=A _ E;simp only at this;grind
   ·exact absurd D h
   ·exact ⟨w,.inl E,O⟩
 ·have s:∀ {y t},Kf W F y t->Kf (eO W x (e.1+r.2.2,some (k,p))) F y t:=fun {y t} ⟨u,g,m⟩=>by
   rcases g with g|g
   ·by_cases i:y=x
    ·subst i
     exact ⟨_,.inl IG,E6 (R u g) m⟩
    ·exact ⟨u,.inl (XT i g),m⟩
   ·exact ⟨u,.inr g,m⟩
  refine ⟨sV I.ndW,I.ndF,fun y i=>?_,fun y u i=>?_,I.ord,fun f N w S=>?_,fun y t i=>s (I.psh y t i),fun q u B j K y g m o D=>?_⟩
  ·rcases RC i with rfl|i
   ·exact J
   ·exact I.dis y i
  ·rcases fL i with ⟨rfl,rfl⟩|⟨_,i⟩
   ·exact ⟨r,e,H,Q,hp,rfl,G⟩
   ·exact I.sup y u i
  ·obtain ⟨y,u⟩:=w
   rcases fL S with ⟨rfl,rfl⟩|⟨_,i⟩
   ·have:=A f N
    show f.2.1<=e.1+r.2.2;grind
   ·exact I.mono f N _ i
  ·rcases M q j y o with o|⟨rfl,rfl,rfl⟩
   ·exact s (I.clo q u B j K y g m o D)
   ·rw [H] at g
    cases g;have:u=e:=h8 ((cZ I.ndF B).symm.trans (cZ I.ndF hp));subst this;exact ⟨_,.inl IG,K0⟩
structure zC(net:List (jT α))(push:α->Option Rat)(tk:Nat->Option Rat)(F:AL α (nE α)):Prop where
 nd:(F.map (·.1)).Nodup
 ord:∀ i p e,F[i]?=some (p,e)->En net push tk (F.take i) p e
 psh:∀ p t,push p=some t->∃ e,(p,e)∈F/\e.1<=t
 clo:∀ q e,(q,e)∈F->∀ k r p,net[k]?=some r->Jn r q p->cU tk k (e.1+r.2.2)->∃ u,(p,u)∈F/\u.1<=e.1+r.2.2
theorem mH.done(I:mH net push tk (fun _ _ _=>True) [] F):zC net push tk F:=by
 refine ⟨I.ndF,I.ord,fun p t h=>?_,fun q e o k r p b f g=>?_⟩
 ·obtain ⟨e,b,f⟩:=I.psh p t h
  exact ⟨e,b.resolve_left (by simp),f⟩
 ·obtain ⟨u,i,m⟩:=I.clo q e o k r p b f trivial g
  exact ⟨u,i.resolve_left (by simp),m⟩
noncomputable def bS(F:AL α (nE α))(p:α):Option Rat:=(aV F p).map (·.1)
theorem zC.arr(O:zC net push tk F):∀(i:Nat)(p:α)(e:nE α),F[i]?=some (p,e)->KM net push tk p e.1:=by
 intro i
 induction i using Nat.strongRecOn with
|ind i ih =>
  intro p e B;have h:=O.ord i p e B;obtain ⟨t,o⟩:=e;cases o with
 |none=>exact .push h
 |some C =>
   obtain ⟨k,q⟩:=C;obtain ⟨r,e,g,m,s,w,A⟩:=h;obtain ⟨j,b⟩:=pf.mp s;rw [List.getElem?_take] at b;split at b
   ·rename_i f
    subst w;exact .run (ih j f q e b) g m A
   ·cases b
theorem zC.falls(O:zC net push tk F):fJ net push tk (bS F):=by
 refine ⟨fun p t h=>?_,fun p t h=>?_⟩
 ·unfold bS at h
  rw [j7] at h;obtain ⟨e,f,rfl⟩:=h;obtain ⟨i,D⟩:=pf.mp (bU f);exact O.arr i p e D
 ·induction h with
 |push h =>
   obtain ⟨e,f,g⟩:=O.psh _ _ h;exact ⟨e.1,by unfold bS; rw [cZ O.nd f]; rfl,g⟩
 |run f g o w ih =>
   obtain ⟨u,m,E⟩:=ih;unfold bS at m;rw [j7] at m;obtain ⟨e,A,rfl⟩:=m;rename_i q s p k r;have b:e.1+r.2.2<=s+r.2.2:=by grind
   obtain ⟨u,B,C⟩:=O.clo q e (bU A) k r p g o (w.le b);exact ⟨u.1,by unfold bS; rw [cZ O.nd B]; rfl,E6 C b⟩
end
end L2
namespace L2
section
variable {α:Type}[DecidableEq α]{net:List (jT α)}{push:α -> Option Rat}{tk:Nat -> Option Rat}{F:AL α (nE α)}
noncomputable def Pm(f:α->Option Rat)(p:α)(t:Rat):Prop:=∃ u,f p=some u/\u<=t
noncomputable def Rv(net:List (jT α))(push:α->Option Rat)(tk:Nat->Option Rat)(f:α->Option Rat):Prop:=∀ p t,f p=some t->KM net push tk p t
end
end L2
namespace L2
section
variable {κ:Type}[DecidableEq κ]
noncomputable def fM(m:AL κ Rat)(x:κ×Rat):AL κ Rat:=match aV m x.1 with
|none=>eO m x.1 x.2
|some r=>if x.2 < r then eO m x.1 x.2 else m
noncomputable def lst(l:List (κ×Rat)):AL κ Rat:=l.foldl fM []
theorem mC(l:List (κ×Rat))(x:κ×Rat):lst (l++[x])=fM (lst l) x:=by
 unfold lst;rw [List.foldl_append];rfl
theorem WB{m:AL κ Rat}{x:κ×Rat}(h:(m.map (·.1)).Nodup):((fM m x).map (·.1)).Nodup:=by
 unfold fM;split
 ·exact sV h
 ·split
  ·exact sV h
  ·exact h
theorem AQ{m:AL κ Rat}{x:κ×Rat}{k:κ}{q:Rat}(h:(k,q)∈fM m x):(k,q)∈m∨(k,q)=x:=by
 unfold fM at h;split at h
 ·rcases fL h with ⟨rfl,rfl⟩|⟨_,h⟩
  ·exact .inr rfl
  ·exact .inl h
 ·split at h
  ·rcases fL h with ⟨rfl,rfl⟩|⟨_,h⟩
   ·exact .inr rfl
   ·exact .inl h
  ·exact .inl h
theorem NG(P:AL κ Rat->Prop)(l:List (κ×Rat))(h0:P [])(hs:∀ m x,x∈l->P m->P (fM m x)):P (lst l):=by
 unfold lst;have:∀(b:List (κ×Rat)) (m:AL κ Rat),(∀ x∈b,x∈l)->P m->P (b.foldl fM m):=by
  intro b
  induction b with
 |nil=>intro m _ h; exact h
 |cons x r ih=>intro m f h; exact ih _ (fun y g=>f y (A7 _ g)) (hs m x (f x E9) h)
 exact this l [] (fun x h=>h) h0
theorem CS(l:List (κ×Rat)):((lst l).map (·.1)).Nodup:=NG (fun m=>(m.map (·.1)).Nodup) l (by simp) fun m x _ h=>WB h
theorem jQ{l:List (κ×Rat)}{x:κ×Rat}(h:x∈lst l):x∈l:=by
 refine NG (fun m=>∀ y∈m,y∈l) l (by simp) (fun m x b ih y f=>?_) x h;obtain ⟨k,q⟩:=y;rcases AQ f with h|h
 ·exact ih _ h
 ·rw [h]; exact b
theorem PZ{m:AL κ Rat}{x:κ×Rat}:(fM m x).length<=m.length+1:=by
 have:∀ v,(eO m x.1 v).length<=m.length+1:=fun v=>by unfold eO; split <;> simp
 unfold fM;split
 ·exact this _
 ·split
  ·exact this _
  ·lia
end
end L2
namespace L2
theorem NH{f:Type}[DecidableEq f](l:List (f×Rat)):(lst l).length<=l.length:=by
 have:∀(b:List (f×Rat)) (m:AL f Rat),(b.foldl fM m).length<=m.length+b.length:=by
  intro b
  induction b with
 |nil=>intro m; simp
 |cons x r ih =>
   intro m;have g:=ih (fM m x);have i:=PZ (m:=m) (x:=x);rw [ir,B7];lia
 have:=this l [];unfold lst;simpa using this
end L2
namespace L2
open PySem PySem.Spec PyProof.Rows
section
variable {X:Cx}{a b:A6}{ta tb td ty tv:TE}{pos:Pos}{jC:List A6}{σ:St}{H H':Hp}{Q:VK}{D:iI}{K:m7}{w:k6}{v x:V}
noncomputable def Kq(K:m7)(ta tb:TE):TE:=fun σ H Q=>ta σ H fun x H1=>∃ k,yQ K x H1 k/\if k=true then Q x H1 else tb σ H1 Q
theorem JD(G:PE X a ta)(J:PE X (.BoolOp .Or (b::jC) pos) tb):PE X (.BoolOp .Or (a::b::jC) pos) (Kq X.K ta tb):=by
 intro f s σ H Q I h;refine BoolOp_or (cY (G f s σ H _ I h) fun v M ⟨x,o,B,A,k,O,i⟩=>?_);refine cY (RX f M σ o x v (fun m g=>g=o/\m=k) B A ⟨k,O,rfl,rfl⟩) fun m N ⟨g,q,C,E⟩=>?_;subst C E;cases m with
|true=>exact ⟨x,g,q,A,by rw [if_pos rfl] at i; exact i⟩
|false=>exact J f N σ g Q q (by rw [if_neg h7] at i; exact i)
theorem Ls(k:ta σ H fun x H1=>∃ k,yQ K x H1 k/\if k=true then Q x H1 else tb σ H1 Q):Kq K ta tb σ H Q:=k
noncomputable def Kk(K:m7)(ta:TE):TT:=fun σ H R=>ta σ H fun x H'=>∃ k,yQ K x H' k/\R k H'
theorem Gz(f:PE X a ta)(g:∀ whole,isTrue a X.env whole=(do let v ← whole; cw a.pos; da [v] (truthy v)):=by intro _; rfl):PT X a (Kk X.K ta):=UX f g
theorem Ln(k:ta σ H fun x H'=>∃ k,yQ K x H' k/\R k H'):Kk K ta σ H R:=k
theorem Fb{R:Bool->Hp->Prop}(h:H p=some (.dK kvs))(k:R (!kvs.isEmpty) H):∃ k,yQ K (.ref p) H k/\R k H:=⟨_,.inr (.inr ⟨kvs,h,rfl⟩),k⟩
theorem Fa{R:Bool->Hp->Prop}(h:H p=some (.lst xs))(k:R (!xs.isEmpty) H):∃ k,yQ K (.ref p) H k/\R k H:=⟨_,.inl ⟨xs,cP.of h,rfl⟩,k⟩
theorem Ez{R:Bool->Hp->Prop}(k:R false H):∃ k,yQ K .non H k/\R k H:=⟨false,rfl,k⟩
theorem tN(k:∀ p,H p=none->Q (.ref p) (upd H p (.dK []))):SA σ H Q:=k
noncomputable def dG(x y:V)(H:Hp)(Q:VK):Prop:=∃ a v,x=.ref a/\pB H a y (some v)/\Q v H
theorem Gi(k:td σ H fun x H1=>ty σ H1 fun y H2=>dG x y H2 Q):Ce td ty σ H Q:=k
theorem cJ(h:Rd H p (.dK kvs))(e:bJ kvs (a9 s)=some v)(k:Q v H):dG (.ref p) (.str s) H Q:=⟨p,v,rfl,.inl ⟨kvs,a9 s,h,rfl,e.symm⟩,k⟩
theorem MJ(h:Rd H p (.dK kvs))(e:bJ kvs (c7 i)=some v)(k:Q v H):dG (.ref p) (.int i) H Q:=⟨p,v,rfl,.inl ⟨kvs,c7 i,h,rfl,e.symm⟩,k⟩
noncomputable def dI(y x:V)(H:Hp)(Q:VK):Prop:=∃ a o,x=.ref a/\pB H a y o/\Q (.bl o.isSome) H
noncomputable def dN(y x:V)(H:Hp)(Q:VK):Prop:=∃ a o,x=.ref a/\pB H a y o/\Q (.bl (!o.isSome)) H
theorem Mj(k:ty σ H fun y H1=>td σ H1 fun x H2=>dI y x H2 Q):Ku ty td σ H Q:=k
theorem Gh(k:ty σ H fun y H1=>td σ H1 fun x H2=>dN y x H2 Q):KR ty td σ H Q:=k
theorem Ml(h:Rd H p (.dK kvs))(k:Q (.bl (bJ kvs (a9 s)).isSome) H):dI (.str s) (.ref p) H Q:=⟨p,_,rfl,.inl ⟨kvs,a9 s,h,rfl,rfl⟩,k⟩
theorem Dk(h:Rd H p (.dK kvs))(k:Q (.bl (bJ kvs (c7 i)).isSome) H):dI (.int i) (.ref p) H Q:=⟨p,_,rfl,.inl ⟨kvs,c7 i,h,rfl,rfl⟩,k⟩
theorem nM(h:Rd H p (.dK kvs))(e:bJ kvs c=some v)(k:Q v H):dG (.ref p) (kV c) H Q:=⟨p,v,rfl,.inl ⟨kvs,c,h,rfl,e.symm⟩,k⟩
theorem Mm(h:Rd H p (.dK kvs))(k:Q (.bl (bJ kvs c).isSome) H):dI (kV c) (.ref p) H Q:=⟨p,_,rfl,.inl ⟨kvs,c,h,rfl,rfl⟩,k⟩
theorem UN(h:Rd H p (.dK kvs))(k:Q (.bl (!(bJ kvs c).isSome)) H):dN (kV c) (.ref p) H Q:=⟨p,_,rfl,.inl ⟨kvs,c,h,rfl,rfl⟩,k⟩
noncomputable def dP(D:iI)(σ:St)(v x y:V)(H:Hp):Prop:=∃ a H4,x=.ref a/\RI H a y v H4/\D.nx σ H4
theorem Gg(k:tv σ H fun v H1=>td σ H1 fun x H2=>ty σ H2 fun y H3=>dP D σ v x y H3):Da td ty tv D σ H:=k
theorem lV(h:H p=some (.dK kvs))(f:kvs.length<=1000)(k:D.nx σ (upd H p (.dK (eK kvs c v)))):dP D σ v (.ref p) (kV c) H:=⟨p,_,rfl,RI.k h (eA f),k⟩
noncomputable def dG1(ty:TE)(σ:St)(Q:VK)(x:V)(H1:Hp):Prop:=∃ a,x=.ref a/\Jw H1 a/\ty σ H1 fun y H2=>∃ o,pB H2 a y o/\Q (o.getD .non) H2
theorem ZQ(k:td σ H (dG1 ty σ Q)):SC td ty σ H Q:=k
noncomputable def dG2(ty tx:TE)(σ:St)(Q:VK)(x:V)(H1:Hp):Prop:=∃ a,x=.ref a/\Jw H1 a/\ty σ H1 fun y H2=>tx σ H2 fun z H3=>∃ o,pB H3 a y o/\Q (o.getD z) H3
theorem ZP(k:td σ H (dG2 ty tx σ Q)):SB td ty tx σ H Q:=k
noncomputable def dpK(ty:TE)(σ:St)(Q:VK)(x:V)(H1:Hp):Prop:=∃ a,x=.ref a/\Jw H1 a/\ty σ H1 fun y H2=>∃ kvs k v,H2 a=some (.dK kvs)/\y=kV k/\bJ kvs k=some v/\Q v (upd H2 a (.dK (eL kvs k)))
theorem ZN(k:td σ H (dpK ty σ Q)):RZ td ty σ H Q:=k
theorem UL{g:TG}{i:TE}{f:TS}(a:b8)(m:nU H a)(k:i σ H fun x H1=>x=.ref a/\∃ kvs,H1 a=some (.dK kvs)/\∀ o,DG g f (Dm a D) σ (Jv a o kvs) (upd H1 a (.frz o (.dK kvs)))):Cb i g f D σ H:=⟨a,m,k⟩
theorem MI{a:b8}{o:Obj}{kvs:List (aM×V)}{g:TG}{B:TS}{D:iI}(f:Nat->St->Hp->Prop)(h0:f 0 σ H)(A:∀ i σ H,i<=kvs.length->f i σ H->H a=some (.frz o (.dK kvs)))(hs:∀ i k v σ H,kvs[i]?=some (k,v)->f i σ H->g (kV k) σ H fun σ2 H2=>B ⟨f (i+1),D.rt,D.nx,f (i+1)⟩ σ2 H2)(C:∀ σ H,f kvs.length σ H->D.nx σ H):DG g B D σ (Jv a o kvs) H:=by
 refine ⟨fun i m σ H=>m=kvs.length - i/\i<=kvs.length/\f i σ H,⟨_,rfl,y8 _,h0⟩,?_⟩;rintro i m σ H ⟨rfl,E,p⟩;by_cases s:i < kvs.length
 ·refine .inr ⟨⟨A i σ H E p,s⟩,f (i+1),fun G H' q=>⟨kvs.length - (i+1),by lia,rfl,s,q⟩,fun x H' y=>?_⟩
  obtain ⟨rfl,k,v,e,rfl⟩:=y;exact hs i k v σ _ e p
 ·have:i=kvs.length:=by lia
  subst this;exact .inl ⟨⟨A _ σ H (i5 _) p,i5 _⟩,C σ H p⟩
theorem UK{a:b8}{xs:List V}{g:TG}{s:TS}(f:Nat->St->Hp->Prop)(h0:f 0 σ H)(E:∀ i σ H,i<=xs.length->f i σ H->cP K H a xs)(hs:∀ i x T σ H,xs[i]?=some x->H T=none->f i σ H->g (.ref T) σ (upd H T (.tup [.int i,x])) fun σ2 H2=>s ⟨f (i+1),D.rt,D.nx,f (i+1)⟩ σ2 H2)(B:∀ σ H,f xs.length σ H->D.nx σ H):DG g s D σ (Ke K a) H:=by
 refine ⟨fun i m σ H=>m=xs.length - i/\i<=xs.length/\f i σ H,⟨_,rfl,y8 _,h0⟩,?_⟩;rintro i m σ H ⟨rfl,C,p⟩;have q:=E i σ H C p;by_cases o:i < xs.length
 ·refine .inr ⟨⟨xs,xs[i],q,by simp [o]⟩,f (i+1),fun I H' q=>⟨xs.length - (i+1),by lia,rfl,o,q⟩,fun x H' y=>?_⟩
  obtain ⟨T,G,rfl,A,rfl,e⟩:=y;exact hs i G T σ H (e xs q) A p
 ·have:i=xs.length:=by lia
  subst this;exact .inl ⟨⟨xs,q,i5 _⟩,B σ H p⟩
theorem ZJ(k:tl σ H fun vs H1=>∃ a,vs=[.ref a]/\(∃ xs,cP K H1 a xs)/\R (Ke K a) H1):Ei K tl σ H R:=k
theorem e_K{a:b8}{xs:List V}{R:It->Hp->Prop}(h:H a=some (.lst xs))(k:R (Ke K a) H):∃ f,[V.ref a]=[.ref f]/\(∃ xs,cP K H f xs)/\R (Ke K f) H:=⟨a,rfl,⟨xs,cP.of h⟩,k⟩
theorem vJ(h:H p=some (.tup [x,y]))(k:t [x,y] σ H R):HU K 2 t (.ref p) σ H R:=⟨p,_,rfl,EC.of h,rfl,k⟩
theorem MH(h:H p=some (.tup [x,y,z]))(k:t [x,y,z] σ H R):HU K 3 t (.ref p) σ H R:=⟨p,_,rfl,EC.of h,rfl,k⟩
theorem Gd(k:R σ H):QN [] σ H R:=⟨rfl,k⟩
theorem ZL(k:t v σ H fun σ' H'=>u r σ' H' R):oU t u (v::r) σ H R:=⟨v,r,rfl,k⟩
end
noncomputable def TK(H H':Hp):Prop:=∀ p xs,H p=some (.tup xs)->H' p=some (.tup xs)
theorem TK.trans(a:TK H H1)(b:TK H1 H2):TK H H2:=fun p f h=>b p f (a p f h)
theorem aJ.tk(s:aJ H H'):TK H H':=fun p b h=>s _ _ h
theorem TK.new(h:H q=none):TK H (upd H q o):=(aJ.new h).tk
theorem TK.lst(h:H q=some (.lst ys)):TK H (upd H q o):=fun p b e=>by rw [aZ (iE e h (by intro z; cases z))]; exact e
theorem TK.dic(h:H q=some (.dK ys)):TK H (upd H q o):=fun p b e=>by rw [aZ (iE e h (by intro z; cases z))]; exact e
theorem TK.melt:TK H (melt a H):=fun p b e=>iF (fun _ _ z=>nomatch z) e
noncomputable def cA(H:Hp)(v:V)(q:Rat):Prop:=∃ p,v=.ref p/\H p=some (.tup [.int q.num,.int q.den])
theorem cA.tk(h:cA H v q)(t:TK H H'):cA H' v q:=let ⟨p,e,h⟩:=h; ⟨p,e,t _ _ h⟩
noncomputable def nX(H:Hp)(v:V)(x:aM×Rat):Prop:=∃ p u,v=.ref p/\H p=some (.tup [kV x.1,u])/\cA H u x.2
theorem nX.tk(h:nX H v x)(t:TK H H'):nX H' v x:=let ⟨p,u,e,h,f⟩:=h; ⟨p,u,e,t _ _ h,f.tk t⟩
noncomputable def fA(H:Hp)(v:V)(r:aM×aM×Rat):Prop:=∃ p u,v=.ref p/\H p=some (.tup [kV r.1,kV r.2.1,u])/\cA H u r.2.2
theorem fA.tk(h:fA H v r)(t:TK H H'):fA H' v r:=let ⟨p,u,e,h,f⟩:=h; ⟨p,u,e,t _ _ h,f.tk t⟩
noncomputable def kO(H:Hp)(v:V)(e:Rat×Option (Nat×aM)):Prop:=∃ p u,v=.ref p/\H p=some (.tup [u,(match e.2 with|none=>.non|some kq=>.int kq.1),(match e.2 with|none=>.non|some kq=>kV kq.2)])/\cA H u e.1
theorem kO.tk(h:kO H v e)(t:TK H H'):kO H' v e:=let ⟨p,u,a,h,f⟩:=h; ⟨p,u,a,t _ _ h,f.tk t⟩
noncomputable def KJ(H:Hp)(v:V)(x:Nat×aM):Prop:=∃ p,v=.ref p/\H p=some (.tup [.int x.1,kV x.2])
theorem KJ.tk(h:KJ H v x)(t:TK H H'):KJ H' v x:=let ⟨p,e,h⟩:=h; ⟨p,e,t _ _ h⟩
section
variable {α β:Type}{F G:α -> β -> Prop}
theorem Pd.imp:∀{l:List α}{m:List β},Paired F l m->(∀ a b,F a b->G a b)->Paired G l m
|_,_,.nil,_=>.nil
|_,_,.cons r t,f=>.cons (f _ _ r) (Pd.imp t f)
theorem Pd.snoc:∀{l:List α}{m:List β}{a:α}{b:β},Paired F l m->F a b->Paired F (l++[a]) (m++[b])
|_,_,_,_,.nil,r=>.cons r .nil
|_,_,_,_,.cons q t,r=>.cons q (Pd.snoc t r)
theorem Pd.get:∀{l:List α}{m:List β}{i:Nat}{b:β},Paired F l m->m[i]?=some b->∃ a,l[i]?=some a/\F a b
|_,_,_,_,.nil,e=>by simp at e
|_,_,0,_,.cons r _,e=>by simp at e; subst e; exact ⟨_,rfl,r⟩
|_,_,i+1,b,.cons _ t,e=>by
  obtain ⟨y,f,g⟩:=Pd.get (i:=i) (b:=b) t (by simpa using e);exact ⟨y,by simpa using f,g⟩
end
noncomputable def LQ{β:Type}(R:Hp->V->β->Prop)(H:Hp)(l:b8)(ds:List β):Prop:=∃ vs,H l=some (.lst vs)/\Paired (R H) vs ds
noncomputable def KQ{β:Type}(R:Hp->V->β->Prop)(H:Hp)(kvs:List (aM×V))(m:List (aM×β)):Prop:=Paired (fun kv ab=>kv.1=ab.1/\R H kv.2 ab.2) kvs m
noncomputable def DQ{β:Type}(R:Hp->V->β->Prop)(H:Hp)(d:b8)(m:List (aM×β)):Prop:=∃ kvs,H d=some (.dK kvs)/\KQ R H kvs m
section
variable {β:Type}{R:Hp -> V -> β -> Prop}{H H':Hp}{l d:b8}{ds:List β}{m:List (aM×β)}{kvs:List (aM×V)}
theorem LQ.same(h:LQ R H l ds)(f:∀ v b,R H v b->R H' v b)(s:aJ H H'):LQ R H' l ds:=let ⟨g,a,b⟩:=h; ⟨g,s _ _ a,Pd.imp b f⟩
theorem KQ.imp(h:KQ R H kvs m)(f:∀ v b,R H v b->R' H' v b):KQ R' H' kvs m:=Pd.imp h fun _ _ q=>⟨q.1,f _ _ q.2⟩
theorem KQ.keys:∀{kvs:List (aM×V)}{m:List (aM×β)},KQ R H kvs m->kvs.map (·.1)=m.map (·.1)
|_,_,.nil=>rfl
|_,_,.cons r t=>by rw [D3,D3,r.1,KQ.keys t]
theorem KQ.len(h:KQ R H kvs m):kvs.length=m.length:=Paired.length h
theorem KQ.val:∀{kvs:List (aM×V)}{m:List (aM×β)}{k:aM},KQ R H kvs m->(bJ kvs k=none/\aV m k=none)∨∃ v b,bJ kvs k=some v/\aV m k=some b/\R H v b
|_,_,_,.nil=>.inl ⟨rfl,rfl⟩
|_,_,k,.cons (a:=p) (b:=q) (l₁:=as) (l₂:=g) r t=>by
  by_cases e:p.1=k
  ·refine .inr ⟨p.2,q.2,gX e,?_,r.2⟩
   have f:q.1=k:=r.1 ▸ e;simp [aV,L0,f]
  ·have f:¬ q.1=k:=fun z=>e (r.1.trans z)
   have i:bJ (p::as) k=bJ as k:=fK e;rw [i];have o:aV (q::g) k=aV g k:=by simp [aV,L0,f]
   rw [o];exact KQ.val t
theorem KQ.repl(f:R H v b):∀{kvs:List (aM×V)}{m:List (aM×β)},KQ R H kvs m->KQ R H (kvs.map fun kv=>if kv.1=k then (kv.1,v) else kv) (m.map fun kv=>if kv.1=k then (kv.1,b) else kv)
|_,_,.nil=>.nil
|_,_,.cons (a:=p) (b:=q) r t=>by
  refine .cons ?_ (KQ.repl f t);dsimp only;by_cases e:p.1=k
  ·rw [if_pos e,if_pos (r.1 ▸ e)]
   exact ⟨r.1,f⟩
  ·rw [if_neg e,if_neg (fun z=>e (r.1.trans z))]
   exact r
theorem KQ.any:∀{kvs:List (aM×V)}{m:List (aM×β)},KQ R H kvs m->(kvs.any fun kv=>decide (kv.1=k))=m.any fun kv=>decide (kv.1=k)
|_,_,.nil=>rfl
|_,_,.cons r t=>by rw [Q3,Q3,r.1,KQ.any t]
theorem KQ.put(h:KQ R H kvs m)(f:R H v b):KQ R H (eK kvs k v) (eO m k b):=by
 unfold eK eO;rw [KQ.any h];split
 ·exact KQ.repl f h
 ·exact Pd.snoc h ⟨rfl,f⟩
theorem KQ.drop:∀{kvs:List (aM×V)}{m:List (aM×β)},KQ R H kvs m->KQ R H (eL kvs k) (kD m k)
|_,_,.nil=>.nil
|_,_,.cons (a:=p) (b:=q) (l₁:=as) (l₂:=f) r t=>by
  have ih:=KQ.drop (k:=k) t;by_cases e:p.1=k
  ·have g:eL (p::as) k=eL as k:=QT e
   rw [g];have i:kD (q::f) k=kD f k:=by unfold kD; rw [U0]; simp [show q.1=k from r.1 ▸ e]
   rw [i];exact ih
  ·have g:eL (p::as) k=p::eL as k:=QU e
   rw [g];have i:kD (q::f) k=q::kD f k:=by unfold kD; rw [U0]; simp [show ¬ q.1=k from fun z=>e (r.1.trans z)]
   rw [i];exact .cons r ih
end
theorem Qs{b:Type}{A B:Prop}(k:B):if (none:Option b).isSome=true then A else B:=k
theorem Qr{f:Type}{b:f}{A B:Prop}(k:A):if (some b).isSome=true then A else B:=k
theorem RP(h:H a=some o):upd H a o=H:=by
 funext b;by_cases e:b=a
 ·subst e; rw [aC,h]
 ·rw [aZ e]
theorem Lv{D:iI}{b:St}{H:Hp}(k:D.nx b H):D.nx b H:=k
theorem Lo{D:iI}{v:V}{H:Hp}(k:D.rt v H):D.rt v H:=k
theorem Mn{D:iI}{b:St}{H:Hp}(k:D.ct b H):D.ct b H:=k
theorem UM(k:D.nx σ (melt a H)):(Dm a D).nx σ H:=k
theorem eR.u1(r:eR k A):A.units+1 < F6:=by have:=r.units; lia
section
variable {X:Cx}{σ:St}{H H':Hp}{Q:VK}{K:m7}{v x y:V}{w:k6}
theorem aX(n:b≠q)(h:H b=some u):upd H q o b=some u:=by rw [aZ n]; exact h
noncomputable def ZX:R2:=fun x y H Q=>y=.non/\Q (.bl (decide (x=.non))) H
noncomputable def UV:R2:=fun x y H Q=>y=.non/\Q (.bl (!decide (x=.non))) H
theorem mU:kJ X (A0 .Is) ZX:=Hk
theorem jZ:kJ X (A0 .IsNot) UV:=Ad
theorem Fy(k:Q (.bl false) H):ZX (.ref p) .non H Q:=⟨rfl,k⟩
theorem Fz(k:Q (.bl true) H):ZX .non .non H Q:=⟨rfl,k⟩
theorem Ga(k:Q (.bl false) H):ZX (kV c) .non H Q:=⟨rfl,by cases c <;> exact k⟩
theorem Ft(k:Q (.bl true) H):UV (.ref p) .non H Q:=⟨rfl,k⟩
theorem Fu(k:Q (.bl false) H):UV .non .non H Q:=⟨rfl,k⟩
noncomputable def Qx(K:m7)(T:String)(r:V->List V->Hp->VK->Prop)(t:TA)(σ:St)(Q:VK):VK:=fun x H1=>Pr K T x H1/\t σ H1 fun xs H2=>r x xs H2 Q
theorem Qf(k:to σ H (Qx K T r t σ Q)):Ro K T r to t σ H Q:=k
theorem UT(h:H l=some (.lst xs))(k:t σ H fun vs H2=>r (.ref l) vs H2 Q):Qx K "list" r t σ Q (.ref l) H:=⟨.inl ⟨rfl,xs,cP.of h⟩,k⟩
theorem Mp(h:H l=some (.dK xs))(k:t σ H fun vs H2=>r (.ref l) vs H2 Q):Qx K "dict" r t σ Q (.ref l) H:=⟨.inr (.inr (.inl ⟨rfl,.inl ⟨xs,h⟩⟩)),k⟩
theorem gJ(h:H l=some (.lst xs))(b:xs.length<=1000)(k:Q .non (upd H l (.lst (xs++[y])))):MP (.ref l) [y] H Q:=⟨l,xs,y,rfl,rfl,h,eA b,k⟩
theorem xB(h:H a=some (.dK kvs))(b:kvs.length<=1000)(f:∀ u,bJ kvs c=some u->Q u H)(g:bJ kvs c=none->Q v (upd H a (.dK (kvs++[(c,v)])))):MN (.ref a) [kV c,v] H Q:=⟨a,kvs,c,v,rfl,rfl,h,b,f,g⟩
theorem ML(a:b8)(b:nU H a)(h:tl σ H fun x H1=>x=.ref a/\∃ kvs,H1 a=some (.dK kvs)/\∀ o',lD te o g (x8 k none) (pU σ is) (fun v H'=>Q v (melt a H')) (Jv a o' kvs) (upd H1 a (.frz o' (.dK kvs)))):SE tl te o g k is σ H Q:=⟨a,b,h⟩
theorem nU.dK(h:H a=some (.dK kvs)):nU H a:=fun o u e=>by rw [h] at e; cases e
end
theorem mJ{kvs:List (aM×V)}{p q:aM}{v:V}(h:bJ kvs p=none):bJ (kvs++[(p,v)]) q=if q=p then some v else bJ kvs q:=by
 by_cases e:q=p
 ·subst e
  rw [if_pos rfl]
  induction kvs with
 |nil=>exact gX rfl
 |cons kv r ih =>
   by_cases z:kv.1=q
   ·rw [gX z] at h; cases h
   ·rw [fK z] at h
    rw [C2,fK z];exact ih h
 ·rw [if_neg e]
  clear h
  induction kvs with
 |nil=>exact fK (fun z=>e z.symm)
 |cons kv r ih =>
   by_cases z:kv.1=q
   ·rw [C2,gX z,gX z]
   ·rw [C2,fK z,fK z]
    exact ih
structure BI(H H1:Hp)(d:b8)(f:aM->List (Nat×aM))(n:Nat):Prop where
 same:aJ H H1
 dn:H d=none
 ex:∃ kvs,H1 d=some (.dK kvs)/\kvs.length<=n/\(∀ p,bJ kvs p=none->f p=[])/\(∀ p v,bJ kvs p=some v->∃ l,v=.ref l/\H l=none/\LQ KJ H1 l (f p))/\∀ p q l,bJ kvs p=some (.ref l)->bJ kvs q=some (.ref l)->p=q
noncomputable def YJ(f:aM->List (Nat×aM))(p:aM)(x:Nat×aM):aM->List (Nat×aM):=fun q=>if q=p then f q++[x] else f q
theorem BI.start(h:H d=none):BI H (upd H d (.dK [])) d (fun _=>[]) 0:=
 ⟨aJ.new h,h,[],aC,i5 _,fun _ _=>rfl,fun p v e=>(by cases e),fun p q l e=>(by cases e)⟩
theorem KJ.imp(t:TK H H'):∀ v b,KJ H v b->KJ H' v b:=fun v b h=>h.tk t
theorem BI.alloc(B:BI H H1 d f n)(h:H1 q=none):BI H (upd H1 q o) d f n:=by
 obtain ⟨i,a,b,c,e,g⟩:=B.ex;refine ⟨B.same.trans (aJ.new h),B.dn,i,aL h a,b,c,fun p v z=>?_,g⟩;obtain ⟨l,rfl,m,q⟩:=e p v z;exact ⟨l,rfl,m,q.same (KJ.imp (TK.new h)) (aJ.new h)⟩
theorem BI.old(B:BI H H1 d f n)(C:H1 d=some (.dK kvs))(A:bJ kvs p=some (.ref l))(D:H1 l=some (.lst xs))(K:H1 t=some (.tup [.int x.1,kV x.2])):
  BI H (upd H1 l (.lst (xs++[.ref t]))) d (YJ f p x) n:=by
 obtain ⟨G,a,b,c,e,g⟩:=B.ex;rw [C] at a;cases a;have tk:TK H1 (upd H1 l (.lst (xs++[.ref t]))):=TK.lst D;obtain ⟨Q,I,i,R,E,N⟩:=e p _ A;cases I;rw [D] at E;cases E;refine ⟨fun b o h=>?_,B.dn,kvs,?_,b,fun q z=>?_,fun q v z=>?_,g⟩
 ·rw [aZ (aB h i)]
  exact B.same _ _ h
 ·rw [aZ (iE C D (by intro z; cases z))]
  exact C
 ·have s:q≠p:=fun w=>by subst w; rw [A] at z; cases z
  show (if q=p then _ else _)=_;rw [if_neg s];exact c q z
 ·obtain ⟨m,rfl,J,P,M,O⟩:=e q v z
  by_cases s:q=p
  ·subst s
   rw [A] at z;cases z;refine ⟨l,rfl,i,xs++[.ref t],aC,?_⟩;show Paired _ _ (if q=q then _ else _);rw [if_pos rfl];exact Pd.snoc (Pd.imp N (KJ.imp tk)) ⟨t,rfl,tk _ _ K⟩
  ·refine ⟨m,rfl,J,P,?_,?_⟩
   ·have:m≠l:=fun w=>by subst w; exact s (g _ _ _ z A)
    rw [aZ this];exact M
   ·show Paired _ _ (if q=p then _ else _)
    rw [if_neg s];exact Pd.imp O (KJ.imp tk)
theorem BI.key(B:BI H H1 d f n)(D:H1 d=some (.dK kvs))(E:bJ kvs p=none)(I:H1 l=some (.lst []))(hn:H l=none)(G:∀ q,bJ kvs q≠some (.ref l)):
  BI H (upd H1 d (.dK (kvs++[(p,.ref l)]))) d f (n+1):=by
 obtain ⟨K,a,b,c,e,g⟩:=B.ex;rw [D] at a;cases a;have tk:TK H1 (upd H1 d (.dK (kvs++[(p,.ref l)]))):=TK.dic D;refine ⟨fun b o h=>?_,B.dn,kvs++[(p,.ref l)],aC,by simp; exact b,fun q z=>?_,fun q v z=>?_,fun q r m i s=>?_⟩
 ·rw [aZ (aB h B.dn)]
  exact B.same _ _ h
 ·rw [mJ E] at z
  by_cases w:q=p
  ·rw [if_pos w] at z; cases z
  ·rw [if_neg w] at z; exact c q z
 ·rw [mJ E] at z
  by_cases w:q=p
  ·rw [if_pos w] at z
   cases z;subst w;refine ⟨l,rfl,hn,[],?_,?_⟩
   ·rw [aZ (iE I D (by intro z; cases z))]; exact I
   ·rw [c q E]; exact .nil
  ·rw [if_neg w] at z
   obtain ⟨m,rfl,M,O,J,N⟩:=e q v z;refine ⟨m,rfl,M,O,?_,Pd.imp N (KJ.imp tk)⟩;rw [aZ (iE J D (by intro z; cases z))]; exact J
 ·rw [mJ E] at i s
  by_cases A:q=p <;> by_cases C:r=p
  ·rw [A,C]
  ·rw [if_pos A] at i; rw [if_neg C] at s
   cases i;exact absurd s (G r)
  ·rw [if_neg A] at i; rw [if_pos C] at s
   cases s;exact absurd i (G q)
  ·rw [if_neg A] at i; rw [if_neg C] at s
   exact g q r m i s
theorem BI.mono(B:BI H H1 d f m)(h:m<=n):BI H H1 d f n:=by
 obtain ⟨g,a,b,c⟩:=B.ex;exact ⟨B.same,B.dn,g,a,u8 b h,c⟩
theorem BI.non(B:BI H H1 d f n)(h:H1 l=none):H l=none:=by
 cases e:H l with
|none=>rfl
|some o=>rw [B.same _ _ e] at h; cases h
theorem BI.more(B:BI H H1 d f n)(i:H1 d=some (.dK kvs))(o:bJ kvs p=some (.ref l))(m:H1 l=some (.lst xs))(b:H1 q=none)(g:upd H1 q (.lst []) t=none):
  BI H (upd (upd (upd H1 q (.lst [])) t (.tup [.int x.1,kV x.2])) l (.lst (xs++[.ref t]))) d (YJ f p x) (n+1):=
 (((B.alloc b).alloc g).old (aL g (aL b i)) o (aL g (aL b m)) aC).mono (M0 _)
theorem BI.new(B:BI H H1 d f n)(g:H1 d=some (.dK kvs))(w:bJ kvs p=none)(b:H1 l=none)(s:upd (upd H1 l (.lst [])) d (.dK (kvs++[(p,.ref l)])) t=none):
  BI H (upd (upd (upd (upd H1 l (.lst [])) d (.dK (kvs++[(p,.ref l)]))) t (.tup [.int x.1,kV x.2])) l (.lst ([]++[.ref t]))) d (YJ f p x) (n+1):=by
 have i:l≠d:=fun z=>by subst z; rw [b] at g; cases g
 have D:=(B.alloc (o:=.lst []) b).key (l:=l) (aL b g) w aC (B.non b) (fun q z=>by
  obtain ⟨C,a,_,_,e,_⟩:=B.ex;rw [g] at a;cases a;obtain ⟨m,E,_,G,A,_⟩:=e q _ z;cases E;rw [b] at A;cases A)
 exact (D.alloc s).old (aL s aC) (by rw [mJ w,if_pos rfl]) (aL s (by rw [aZ i]; exact aC)) aC
noncomputable def EI(net:List (jT aM))(i:Nat)(f:aM->List (Nat×aM)):Prop:=∀ q k x,(k,x)∈f q ↔ k < i/\∃ r,net[k]?=some r/\Jn r q x
theorem EI.zero:EI net 0 (fun _=>[]):=fun q k x=>⟨fun h=>by simp at h,fun h=>absurd h.1 (T5 _)⟩
theorem EI.next(h:EI net i f)(g:net[i]?=some r):EI net (i+1) (YJ (YJ f r.1 (i,r.2.1)) r.2.1 (i,r.1)):=by
 intro q k x;have m:(k,x)∈YJ (YJ f r.1 (i,r.2.1)) r.2.1 (i,r.1) q ↔ (k,x)∈f q∨(q=r.1/\k=i/\x=r.2.1)∨(q=r.2.1/\k=i/\x=r.1):=by
  unfold YJ;split <;> split <;> simp_all
 rw [m,h q k x];constructor
 ·rintro (⟨s,b⟩|⟨rfl,rfl,rfl⟩|⟨rfl,rfl,rfl⟩)
  ·exact ⟨by lia,b⟩
  ·exact ⟨by lia,r,g,.inl ⟨rfl,rfl⟩⟩
  ·exact ⟨by lia,r,g,.inr ⟨rfl,rfl⟩⟩
 ·rintro ⟨s,w,b,o⟩
  by_cases hk:k=i
  ·subst hk
   rw [g] at b;cases b;rcases o with ⟨rfl,rfl⟩|⟨rfl,rfl⟩
   ·exact .inr (.inl ⟨rfl,rfl,rfl⟩)
   ·exact .inr (.inr ⟨rfl,rfl,rfl⟩)
  ·exact .inl ⟨by lia,w,b,o⟩
theorem jB(h:∀ q,(f q).length<=n)(q:aM):(YJ f p x q).length<=n+1:=by
 unfold YJ;have:=h q;split
 ·rw [i9]; simp; exact this
 ·lia
noncomputable def Bv(H:Hp)(d:b8)(net:List (jT aM)):Prop:=∃ kvs f,H d=some (.dK kvs)/\EI net net.length f/\(∀ q,(f q).length<=2 * net.length)/\(∀ p,bJ kvs p=none->f p=[])/\∀ p v,bJ kvs p=some v->∃ l,v=.ref l/\LQ KJ H l (f p)
theorem BI.bes(B:BI H H1 d f n)(h:EI net net.length f)(m:∀ q,(f q).length<=2 * net.length):Bv H1 d net:=by
 obtain ⟨i,a,b,c,e,g⟩:=B.ex;exact ⟨i,f,a,h,m,c,fun p v z=>let ⟨l,a,b,c⟩:=e p v z; ⟨l,a,c⟩⟩
theorem iS{o:Type}[DecidableEq o]:∀{l m:List o},l.Nodup->(∀ x∈l,x∈m)->l.length<=m.length
|[],_,_,_=>y8 _
|a::l,m,f,h=>by
  rw [Q1] at f;have g:=h a (by simp);have:=iS (l:=l) (m:=m.erase a) f.2 fun x i=>by
   have b:x≠a:=fun z=>f.1 (by rw [← z]; exact i);exact (List.mem_erase_of_ne b).mpr (h x (by simp [i]))
  have q:=List.length_erase_of_mem g;have s:0 < m.length:=np g;rw [B7];lia
theorem PF{kvs:List (aM×V)}{k:aM}{v:V}(h:k∉kvs.map (·.1)):eK kvs k v=kvs++[(k,v)]:=by
 unfold eK;rw [if_neg];intro z;obtain ⟨x,b,e⟩:=U1.mp z;exact h (j1.mpr ⟨x,b,of_decide_eq_true e⟩)
theorem RB{b:Type}{m:AL aM b}{k:aM}{v:b}(h:k∉m.map (·.1)):eO m k v=m++[(k,v)]:=by
 unfold eO;rw [if_neg];intro z;obtain ⟨x,f,e⟩:=U1.mp z;exact h (j1.mpr ⟨x,f,of_decide_eq_true e⟩)
theorem lY:∀{b kvs:List (aM×V)},((kvs++b).map (·.1)).Nodup->iU kvs b=kvs++b
|[],kvs,_=>by simp [iU]
|kv::r,kvs,f=>by
  have g:kv.1∉kvs.map (·.1):=by
   rw [u7,U8] at f;intro z;exact f.2.2 _ z kv.1 (by simp) rfl
  show iU (eK kvs kv.1 kv.2) r=_;rw [PF g,lY (by simpa using f)];simp
section
variable {te:TE}{Q:VK}{H:Hp}{uf:St}
theorem UQ(hn:kvs.length<=1000)(s:b8->Nat->List V->Hp->Prop)(h0:∀ b,H b=none->s b 0 [] (upd H b (.lst [])))(A:∀ b i ys g,H b=none->i<=kvs.length->s b i ys g->g a=some (.frz o (.dK kvs)))(hs:∀ b i ys g k v,H b=none->kvs[i]?=some (k,v)->ys.length=i->g b=some (.lst ys)->s b i ys g->te (some (kV k)::uf) g (BA kvs.length b (s b) ys i))(D:∀ b ys g,H b=none->g b=some (.lst ys)->ys.length=kvs.length->s b kvs.length ys g->Q (.ref b) g):lD te none (gM 0) (x8 1 none) uf Q (Jv a o kvs) H:=by
 intro b f;refine ⟨cW kvs.length b (s b),⟨kvs.length,by simp,y8 _,rfl,aC,h0 b f⟩,?_⟩;rintro i m ys g ⟨rfl,E,C,w,p⟩;have q:=A b i ys g f E p;refine ⟨w,?_⟩;by_cases B:i < kvs.length
 ·refine .inr ⟨eA (by lia),⟨q,B⟩,fun J x I G y=>?_⟩
  obtain ⟨rfl,k,v,e,rfl⟩:=y;obtain ⟨o,rfl⟩:=WE G;exact ⟨⟨[some (kV k)],rfl,rfl⟩,hs b i ys _ k v f e C w p⟩
 ·have e:i=kvs.length:=by lia
  subst e;exact .inl ⟨⟨q,i5 _⟩,D b ys g f w C p⟩
end
noncomputable def pV(a b:b8)(H H':Hp):Prop:=∀ c o,c≠a->c≠b->H c=some o->H' c=some o
theorem pV.refl(H:Hp):pV a b H H:=fun _ _ _ _ h=>h
theorem pV.trans(x:pV a b H H1)(y:pV a b H1 H2):pV a b H H2:=fun c o f g h=>y c o f g (x c o f g h)
theorem aJ.kp2(s:aJ H H'):pV a b H H':=fun c o _ _ h=>s _ _ h
theorem pV.l:pV a b H (upd H a o):=fun c u f _ h=>by rw [aZ f]; exact h
theorem pV.r:pV a b H (upd H b o):=fun c u _ f h=>by rw [aZ f]; exact h
theorem pV.tk(k:pV a b H H')(f:H a=some (.dK x))(g:H b=some (.dK y)):TK H H':=fun p i h=>k p _ (iE h f (by intro z; cases z)) (iE h g (by intro z; cases z)) h
theorem pV.lst(k:pV a b H H')(f:H a=some (.dK x))(g:H b=some (.dK y))(h:H p=some (.lst xs)):H' p=some (.lst xs):=k p _ (iE h f (by intro z; cases z)) (iE h g (by intro z; cases z)) h
theorem pV.same(k:pV a b H H')(s:aJ H0 H)(f:H0 a=none)(g:H0 b=none):aJ H0 H':=fun c o h=>k c o (aB h f) (aB h g) (s _ _ h)
structure pA(H:Hp)(l:b8)(net:List (jT aM))(D M:Nat):Prop where
 lq:LQ fA H l net
 len:net.length<=120
 bd:∀ r∈net,Bd D M r.2.2
 pos:∀ r∈net,0 < r.2.2
structure IJ(H:Hp)(l:b8)(ps:List (aM×Rat))(D M:Nat):Prop where
 lq:LQ nX H l ps
 len:ps.length<=100
 bd:∀ r∈ps,Bd D M r.2
structure zA(H:Hp)(v:V)(ts:List (aM×Rat)):Prop where
 lq:(v=.non/\ts=[])∨∃ l,v=.ref l/\LQ nX H l ts
 len:ts.length<=100
 sz:∀ r∈ts,Sz 8000 r.2
structure yR(D M:Nat):Prop where
 ne:D≠0
 d:D < 2 ^ 8000
 m:M * 1000 * D < 2 ^ 8000
theorem yR.sz(R:yR D M)(h:Bd D N q)(hn:N<=M * 1000):Sz 8000 q:=h.sz R.ne R.d (B8 (de _ hn) R.m)
theorem LQ.sm{f:Type}{R:Hp->V->f->Prop}{H H':Hp}{l:b8}{ds:List f}(h:LQ R H l ds)(g:∀ {H H' v b},R H v b->TK H H'->R H' v b)(s:aJ H H'):LQ R H' l ds:=h.same (fun v b q=>g q s.tk) s
theorem DQ.sm{f:Type}{R:Hp->V->f->Prop}{H H':Hp}{l:b8}{ds:List (aM×f)}(h:DQ R H l ds)(g:∀ {H H' v b},R H v b->TK H H'->R H' v b)(s:aJ H H'):DQ R H' l ds:=let ⟨k,a,b⟩:=h; ⟨k,s _ _ a,b.imp fun v b q=>g q s.tk⟩
theorem pA.sm(h:pA H l net D M)(s:aJ H H'):pA H' l net D M:=⟨h.lq.sm fA.tk s,h.len,h.bd,h.pos⟩
theorem IJ.sm(h:IJ H l ps D M)(s:aJ H H'):IJ H' l ps D M:=⟨h.lq.sm nX.tk s,h.len,h.bd⟩
theorem zA.sm(h:zA H v ts)(s:aJ H H'):zA H' v ts:=⟨h.lq.imp id fun ⟨l,e,q⟩=>⟨l,e,q.sm nX.tk s⟩,h.len,h.sz⟩
theorem Bv.k2(h:Bv H d net)(k:pV a b H H')(i:H a=some (.dK x))(m:H b=some (.dK y))(o:d≠a)(q:d≠b):Bv H' d net:=by
 obtain ⟨g,f,B,C,D,E,G⟩:=h;refine ⟨g,f,k _ _ o q B,C,D,E,fun p v e=>?_⟩;obtain ⟨l,rfl,A,s,w⟩:=G p v e;exact ⟨l,rfl,A,k.lst i m s,Pd.imp w (KJ.imp (k.tk i m))⟩
theorem Bv.sm(h:Bv H d net)(s:aJ H H'):Bv H' d net:=by
 obtain ⟨b,f,g,i,m,o,w⟩:=h;exact ⟨b,f,s _ _ g,i,m,o,fun p v e=>let ⟨l,a,q⟩:=w p v e; ⟨l,a,q.sm KJ.tk s⟩⟩
section
variable {σ:St}{H:Hp}{Q:VK}{K:m7}
theorem UI(h:zA H vt ts)(k:∀ lt H1,aJ H H1->LQ nX H1 lt ts->Q (.ref lt) H1):∃ b,yQ K vt H b/\if b=true then Q vt H else OR BN σ H Q:=by
 have hn:ts=[]->OR BN σ H Q:=fun e=>by
  subst e;exact Dg (De (dA fun p hp=>k p _ (aJ.new hp) ⟨[],aC,.nil⟩))
 rcases h.lq with ⟨rfl,e⟩|⟨l,rfl,q⟩
 ·exact Ez (R:=fun b H=>if b=true then Q .non H else OR BN σ H Q) (hn e)
 ·obtain ⟨i,f,g⟩:=q
  refine Fa (R:=fun b H=>if b=true then Q (.ref l) H else OR BN σ H Q) f ?_;cases g with
 |nil=>exact hn rfl
 |cons a b=>exact k l H (aJ.refl _) ⟨_,f,.cons a b⟩
theorem Gq(B:Bv H d net)(hz:H z=some (.lst []))(k:∀ l L,LQ KJ H l L->L.length<=2 * net.length->(∀ j x,(j,x)∈L ↔ ∃ r,net[j]?=some r/\Jn r c x)->Q (.ref l) H):∃ o,pB H d (kV c) o/\Q (o.getD (.ref z)) H:=by
 obtain ⟨b,f,m,s,i,w,A⟩:=B;refine ⟨bJ b c,.inl ⟨b,c,.inl m,rfl,rfl⟩,?_⟩;have g:∀ j x,(j,x)∈f c ↔ ∃ r,net[j]?=some r/\Jn r c x:=fun j x=>by
  rw [s c j x];exact ⟨fun h=>h.2,fun h=>⟨let ⟨r,e,_⟩:=h; (b9.mp e).1,h⟩⟩
 cases e:bJ b c with
|none=>exact k z (f c) (by rw [w c e]; exact ⟨[],hz,.nil⟩) (i c) g
|some v =>
  obtain ⟨l,rfl,q⟩:=A c v e;exact k l (f c) q (i c) g
end
theorem KF{f:Type}{m:AL aM f}{k:aM}(h:aV m k=none):k∉m.map (·.1):=fun z=>by
 obtain ⟨y,b,rfl⟩:=j1.mp z;exact jV h y.2 b
theorem YR{K:m7}{H:Hp}{p:b8}{kvs:List (aM×V)}{A B:Prop}(h:H p=some (.dK kvs))(f:kvs≠[]->A)(g:kvs=[]->B):∃ k,yQ K (.ref p) H k/\if k=true then A else B:=by
 refine Fb (R:=fun k _=>if k=true then A else B) h ?_;cases kvs with
|nil=>exact g rfl
|cons a b=>exact f (by simp)
theorem mH.imp(I:mH net push tk C W F)(h:∀ q k x r,net[k]?=some r->Jn r q x->C' q k x->C q k x):mH net push tk C' W F:=
 ⟨I.ndW,I.ndF,I.dis,I.sup,I.ord,I.mono,I.psh,fun q e m k r p b f g i=>I.clo q e m k r p b f (h q k p r b f g) i⟩
noncomputable def univ(net:List (jT aM))(ps:List (aM×Rat)):List aM:=ps.map (·.1)++(net.map (·.1)++net.map (·.2.1))
theorem En.univ(h:En net (aV (lst ps)) tk F p e):p∈univ net ps:=by
 obtain ⟨t,o⟩:=e;cases o with
|none =>
  have:=jQ (bU (show aV (lst ps) p=some t from h));exact z9 _ (j1.mpr ⟨_,this,rfl⟩)
|some i =>
  obtain ⟨r,e,f,g,_⟩:=h;have b:=i3 f;refine o0 _ ?_;rcases g with ⟨_,rfl⟩|⟨_,rfl⟩
  ·exact o0 _ (j1.mpr ⟨r,b,rfl⟩)
  ·exact z9 _ (j1.mpr ⟨r,b,rfl⟩)
theorem mH.lens{tk:Nat->Option Rat}{C:aM->Nat->aM->Prop}(I:mH net (aV (lst ps)) tk C W F):W.length<=ps.length+2 * net.length/\F.length<=ps.length+2 * net.length:=by
 have o:(univ net ps).length=ps.length+2 * net.length:=by simp [univ]; lia
 rw [← o];constructor
 ·have:=iS (m:=univ net ps) I.ndW fun x b=>by
   obtain ⟨y,f,rfl⟩:=j1.mp b;exact (I.sup y.1 y.2 f).univ
  rwa [g7] at this
 ·have:=iS (m:=univ net ps) I.ndF fun x b=>by
   obtain ⟨y,f,rfl⟩:=j1.mp b;obtain ⟨i,g⟩:=J1 f;exact (I.ord i y.1 y.2 g).univ
  rwa [g7] at this
theorem sJ{f:Type}{R:Hp->V->f->Prop}{H:Hp}:∀{ys:List V}{m:List (aM×f)},Paired (fun v (x:aM×f)=>∃ a u,v=.ref a/\H a=some (.tup [kV x.1,u])/\R H u x.2) ys m->∃ kvs,ED H ys kvs/\KQ R H kvs m
|_,_,.nil=>⟨[],.nil,.nil⟩
|_,_,.cons (b:=b) r t=>by
  obtain ⟨a,u,rfl,g,i⟩:=r;obtain ⟨kvs,p,q⟩:=sJ t;exact ⟨(b.1,u)::kvs,.cons ⟨a,rfl,g⟩ p,.cons ⟨rfl,i⟩ q⟩
theorem jJ:YC (bX X scope uf N C s0 H0 ex) (AI X.K):=aQ
noncomputable abbrev dE:=Str×Str×Rat
noncomputable def kn(n:List dE):List (jT aM):=n.map fun r=>(a9 r.1,a9 r.2.1,r.2.2)
noncomputable def names(n:List dE):List Str:=n.map (·.1)++n.map (·.2.1)
theorem Ed{i:Nat}(h:(kn n)[i]?=some r):∃ s,n[i]?=some s/\r=(a9 s.1,a9 s.2.1,s.2.2):=by
 unfold kn at h;rw [i7] at h;cases e:n[i]? with
|none=>rw [e] at h; cases h
|some s=>rw [e] at h; exact ⟨s,rfl,(h8 h).symm⟩
noncomputable def eI(H:Hp)(v:V)(o:Option Rat):Prop:=match o with|none=>v=.non|some q=>cA H v q
theorem eI.tk(h:eI H v o)(t:TK H H'):eI H' v o:=by
 cases o with
|none=>exact h
|some q=>exact cA.tk h t
theorem pM(f:b≠0):(i0 t b).num=eM t b/\((i0 t b).den:Int)=eQ t b:=UG f (sP f) (Aw f) (uA f)
theorem cA.low(f:b≠0)(h:H p=some (.tup [.int (eM t b),.int (eQ t b)])):cA H (.ref p) (i0 t b):=⟨p,rfl,by rw [h,(pM f).1,(pM f).2]⟩
theorem Av(g:0 < t)(f:0 < b):0 < i0 t b:=by
 rw [Rat.lt_iff,(pM (t:=t) (b:=b) (by lia)).1];show (0:Int) * _ < eM t b * 1;rw [Int.zero_mul,re];have e:=uA (t:=t) (b:=b) (by lia);have hp:=sP (t:=t) (b:=b) (by lia);have:0 < eM t b * b:=by rw [e]; exact Y9 g hp
 exact nu this f
noncomputable abbrev On:Str:=B4 "abcdefghijklmnopqrstuvwxyz"
theorem Bq:On.length=26:=by k_is
theorem XY:∀ j:Nat,j < 26->yN On.cps.toList (j:Int)=some (97+j):=by k_is
section
variable {σ:St}{H:Hp}{Q:VK}{K:m7}
theorem Dh(hz:z.length<=100000)(e:yN z.cps.toList i=some c)(k:Q (.str ⟨#[c]⟩) H):AI K (.str z) (.int i) H Q:=.inr (.inr ⟨z,i,c,rfl,rfl,by rw [p7]; lia,e,k⟩)
theorem CB(h:a.length+b.length<=100000)(k:Q (.str (a++b)) H):GM K (.str a) (.str b) H Q:=.inr (.inr (.inr ⟨a,b,rfl,rfl,by rw [p7]; lia,k⟩))
end
theorem vL(a b:Str):(a++b).length=a.length+b.length:=by
 show (a.cps++b.cps).size=_;simp [Str.length]
theorem Kp.sm(k:Kp p H1 H2)(s:aJ H H1)(hp:H p=none):aJ H H2:=fun b o h=>k _ _ (aB h hp) (s _ _ h)
theorem Hv(i:LQ fA H l (kn n))(g:n.length<=120)(f:∀ r∈n,Bd D M r.2.2)(hp:∀ r∈n,0 < r.2.2):pA H l (kn n) D M:=by
 refine ⟨i,by simpa [kn] using g,fun r b=>?_,fun r b=>?_⟩
 ·obtain ⟨s,hs,rfl⟩:=j1.mp b
  exact f s hs
 ·obtain ⟨s,hs,rfl⟩:=j1.mp b
  exact hp s hs
noncomputable def yS(q:Rat):Dt:=.tup [.int q.num,.int q.den]
noncomputable def Jg:aM->Dt
|.inl i=>.int i
|.inr s=>.str s
noncomputable def Em(x:aM×Rat):Dt:=.tup [Jg x.1,yS x.2]
theorem lO(h:cA H v q):lP H (yS q) v:=let ⟨p,e,h⟩:=h; e ▸ Jd h
theorem NZ(k:aM):lP H (Jg k) (kV k):=by cases k <;> rfl
theorem NY:∀{ps:List (aM×Rat)}{vs:List V},Paired (nX H) vs ps->iJ H (ps.map Em) vs
|[],_,.nil=>rfl
|x::ps,_,.cons h t=>by
  obtain ⟨p,u,rfl,b,f⟩:=h;exact ⟨_,_,rfl,⟨p,_,rfl,b,_,_,rfl,NZ _,_,_,rfl,lO f,rfl⟩,NY t⟩
theorem NV:∀ n:List (aM×Rat),gQ (n.map Em)<=10
|[]=>by decide
|r::n=>by
  have b:=NV n;have f:uF (Em r)<=10:=by
   obtain ⟨k,q⟩:=r;cases k <;> exact v9 rfl
  show max _ _<=_;lia
noncomputable abbrev sA:Str:=B4 "a"
noncomputable abbrev sB:Str:=B4 "b"
noncomputable def n0:List dE:=[(sA,sB,i0 1 2)]
noncomputable def Pe:List (aM×Rat):=[(a9 sB,i0 1 3)]
noncomputable def F0:AL aM (nE aM):=[(a9 sB,(i0 1 3,none)),(a9 sA,(i0 1 3+i0 1 2,some (0,a9 sB)))]
theorem WD(g:0 < t)(f:0 < b):0 < eM t b:=by
 have e:=uA (t:=t) (b:=b) (by lia);have hp:=sP (t:=t) (b:=b) (by lia);have:0 < eM t b * b:=by rw [e]; exact Y9 g hp
 exact nu this f
theorem ZG(k:Q (.int 1000000000000) H):rI YE (fun i j=>.int (i ^ j.toNat)) (.int 10) (.int 12) H Q:=Dl ⟨by decide,by decide,by decide⟩ k
end L2
namespace L2
open PySem PySem.Spec PySem.W PySem.Calls PyProof.Rows PySem.Builtin PySem.Builtin.ObjectAttr PySem.Builtin.Getset_descriptor
section
variable {prog:j2}{w:k6}{A:q4}{E:a8 -> c5 -> Prop}{s:c5}{K:m7}{x C:b8}
end
end L2
namespace L2
open PySem PySem.Spec PyProof.Rows
section
variable {fs fs' xs xs':List b8}{h h0 h1 h2 h':u9}{H H':Hp}{P:j2}{w:k6}
end
section
variable {M:Model}{A:q4}{E:a8 -> c5 -> Prop}{s:c5}{base:u9}{env:Env}{outer l:List Env}{L x T C:b8}{Q:Unit -> c5 -> Prop}
end
section
variable {P:j2}{w:k6}{K:m7}{mg:Str -> Option a8}{base:u9}{N:List Str}{qual:Str}{scope:V5}{f:b8}{cd:a8}{A:q4}{outer:List Env}{s:c5}{H:Hp}{E:XK}
end
section
variable {P:j2}{w:k6}{K:m7}{mg:Str -> Option a8}{base:u9}{j k:Nat}{x:Str}{st:A1}{N ps:List Str}{dvs:List V}{sp:Sp}
end
section
variable {X:Cx}{k:Nat}{x:Str}{ps:List Str}{dvs:List V}{sp:Sp}{p pos:Pos}{e:A6}{es:List A6}{t:TA}{E:XK}
end
noncomputable abbrev Rt:=St->Hp->VK->XK->Prop
section
variable {X:Cx}{k:Nat}{f:b8}{fd:D4}{x:Str}{ps:List Str}{dvs:List V}{ds:List a8}{sp:Sp}{p pos:Pos}{e:A6}{es:List A6}{t:TA}{E:XK}
end
section
variable {X:Cx}{e:A6}{te:Rt}{pos:Pos}
end
noncomputable abbrev Cx.hld(X:Cx)(x:b8):Cx:={ X with A:=X.A.mark (some (.ref x)),calm:=false,xe:=fun _ _=>False }
section
variable {X:Cx}{ud:List (b8×Obj)}{σ:St}{H:Hp}{s:c5}{x:b8}
end
section
variable {X:Cx}
end
section
variable {X:Cx}{e:A6}{te:Rt}{pos:Pos}
end
section
variable {X:Cx}
end
section
variable {prog:j2}{w:k6}{A:q4}{E:a8 -> c5 -> Prop}{s:c5}
end
section
variable {X:Cx}{tg:A6}{y:b8}
variable {scope:V5}{tn names:List Str}{is:List Nat}{elt iter:A6}{ifs:List A6}{pos:Pos}{wi:TI}{te:TE}{tc:Option TT}{g:TG}
end
section
variable {te:TE}{Q:VK}{H:Hp}{uf:St}{y:b8}
end
section
variable {X:Cx}{k:Nat}{x:Str}{ps:List Str}{sp:b8 -> Sp}{p pos:Pos}{e:A6}{es:List A6}{t:TA}{y:b8}
end
section
variable {X:Cx}
end
section
variable {K:m7}{σ:St}{H:Hp}{Q:VK}{D:iI}{E:XK}
end
end L2
namespace L2
open PySem PySem.Spec PyProof.Rows PySem.W
structure sY(K:m7)(C:b8)(st:A1)(m qual:Str)(ps:List Str):Prop where
 ex:∃(f:b8)(fd:D4),(∃(oc:a8)(od:Option b8)(dV kV doc pm:a8)(an:Option b8)(ui ct:a8)(osl:Array (Option a8)),
  fd=V1 m qual (bQ st) (bL st) (aG st) dV kV doc pm an ui ct/\K.lookup f=some ⟨oc,od,.func fd,osl⟩/\codeIn K ui qual=true)/\YA K C m f/\fR K fd ps []
theorem dfc2_mk{K:m7}{C f:b8}{st:A1}{m g:Str}{ps:List Str}{D:a8}{E s:Option b8}{q:Array (Option a8)}{A kV o B i w:a8}(a:findIn K (.ref C) m=some (some (.ref f)))(l:K.lookup f=some ⟨D,E,.func (V1 m g (bQ st) (bL st) (aG st) A kV o B s i w),q⟩)(c:codeIn K i g=true)(G:isFn K (.ref f)=true)(kp:keepIn K (.ref f)=true)(b:∀ us:List a8,us.length=ps.length->oq (V1 m g (bQ st) (bL st) (aG st) A kV o B s i w) ⟨us,[]⟩=D8 (ps.zip us)):sY K C st m g ps:=
 ⟨f,_,⟨D,E,A,kV,o,B,s,i,w,q,rfl,l,c⟩,⟨a,G,kp⟩,.all b⟩
structure kK(CX:EH)(P:j2)(w:k6)(K:m7)(mg:Str->Option a8)(base:u9)(k:Nat)(C:b8)(m:Str)(ps:List Str)(sp:Sp):Prop where
 ex:∃(f:b8)(fd:D4),YA K C m f/\fR K fd ps []/\mG P w K mg base CX k f fd ps sp
section
variable {CX:EH}{P:j2}{w:k6}{K:m7}{mg:Str -> Option a8}{base:u9}{j k:Nat}{C:b8}{st:A1}{m qual:Str}{N ps:List Str}{sp:Sp}
theorem kK.mono(o:kK CX P w K mg base j C m ps sp)(h:j<=k):kK CX P w K mg base k C m ps sp:=let ⟨f,g,a,b,c⟩:=o.ex; ⟨f,g,a,b,c.mono h⟩
theorem kK.of(d:sY K C st m qual ps)(S:aO N ps (aG st))(G:∀ vs H Q E,sp vs H Q E->vs.length=ps.length)
  (o:∀ (f:b8) (i:a8) (A:q4)(g:List Env)(s:c5)(H:Hp)(vs:List V)(Q:VK)(E:XK),eR k (A.deeper (X4 qual (aG st) s.heap.objs.size f i))->sp vs H Q E ->
   ∃ t,BH (vA mI P w K mg base N qual (aG st) f i A g s H E).nox (bL st) t/\t { nx:=fun _ H'=>Q .non H',rt:=Q } (start N vs) H):kK mI P w K mg base (k+1) C m ps sp:=by
 obtain ⟨f,X,⟨Y,Z,W,kV,I,pm,T,i,U,R,rfl,M,B⟩,O,b⟩:=d.ex;refine ⟨f,_,O,b,AV M B S G fun A g s H vs Q E J D=>?_⟩;obtain ⟨t,h,q⟩:=o f i A g s H vs Q E J D;exact ⟨t,h.nox,q⟩
end
section
variable {X:Cx}{CX:EH}{k:Nat}{C:b8}{ps:List Str}{sp:Sp}{E:XK}{x m:Str}{p pos ug:Pos}{e o:A6}{es:List A6}{ta:TE}{t:TA}{pl:Sem Bool}
theorem rY(I:kK CX X.prog X.w X.K X.mg X.base k C m ps sp)(c:EG X.K C)(B:eR k X.A)(G:kH CX X E)(s:PE X o ta)(q:PA X (e::es) t)(i:j8 (e::es) X.env=(false,C8 e X.env)::j8 es X.env:=by rfl)(g:(K3 pos (j8 es X.env)).any (·.1)=false:=by rfl)
  (D:C8 (.Call (.Attribute o m ug) (e::es) [] pos) X.env=(do
   let ov ← C8 o X.env
   cw ug.atName
   let (f,first) ← da [ov] (gs ov m pl)
   oo pos f first (K3 pos (j8 (e::es) X.env)) (ce pos (T9 [] X.env))):=by rfl) :
  PE X (.Call (.Attribute o m ug) (e::es) [] pos) (EQ C m sp [] E ta t):=by
 obtain ⟨f,J,H,b,F⟩:=I.ex;exact Aa s c H F B b .nil G q i g D
theorem lJ(D:kK CX X.prog X.w X.K X.mg X.base k C m ps sp)(c:EG X.K C)(i:eR k X.A)(s:kH CX X E)(g:PE X o ta)
  (q:C8 (.Call (.Attribute o m ug) [] [] pos) X.env=(do
   let ov ← C8 o X.env
   cw ug.atName
   let (f,first) ← da [ov] (gs ov m pl)
   oo pos f first (K3 pos (j8 [] X.env)) (ce pos (T9 [] X.env))):=by rfl) :
  PE X (.Call (.Attribute o m ug) [] [] pos) (EQ C m sp [] E ta BN):=by
 obtain ⟨f,G,B,b,F⟩:=D.ex;exact VF g c B F i b .nil s q
theorem Nf(M:kK CX X.prog X.w X.K X.mg X.base k C "__init__" ps sp)(i:makesIn X.K C=true)(kp:keepIn X.K (.ref C)=true)(I:eR (k+1) X.A)(J:kH CX X E)(G:Gl X x)(H:X.mg x=some (.ref C))(D:PA X (e::es) t)(g:(x==("__debug__":Str))=false:=by decide)(s:j8 (e::es) X.env=(false,C8 e X.env)::j8 es X.env:=by rfl)(q:(K3 pos (j8 es X.env)).any (·.1)=false:=by rfl):
  PE X (.Call (.Name x p) (e::es) [] pos) (KP C sp [] E t):=by
 obtain ⟨f,N,B,b,F⟩:=M.ex;exact Ab ⟨i,B.at_,B.fn,kp⟩ F I G H b .nil J D g s q
end
structure RG(CX:EH)(P:j2)(w:k6)(K:m7)(mg:Str->Option a8)(base:u9)(k:Nat)(C:b8)(ps:List Str)(sp:Sp):Prop where
 ex:∃ j,j+1<=k/\kK CX P w K mg base j C "__init__" ps sp
theorem RG.mono{CX:EH}{P:j2}{w:k6}{K:m7}{g:Str->Option a8}{f:u9}{j k:Nat}{C:b8}{ps:List Str}{sp:Sp}(o:RG CX P w K g f j C ps sp)(h:j<=k):RG CX P w K g f k C ps sp:=let ⟨i,a,b⟩:=o.ex; ⟨i,u8 a h,b⟩
theorem kK.toMk{CX:EH}{P:j2}{w:k6}{K:m7}{f:Str->Option a8}{b:u9}{k:Nat}{C:b8}{ps:List Str}{sp:Sp}(o:kK CX P w K f b k C "__init__" ps sp):RG CX P w K f b (k+1) C ps sp:=⟨k,i5 _,o⟩
theorem Hd(H:RG CX X.prog X.w X.K X.mg X.base k C ps sp)(f:makesIn X.K C=true)(kp:keepIn X.K (.ref C)=true)(D:eR k X.A)(G:kH CX X E)(q:Gl X x)(B:X.mg x=some (.ref C))(m:PA X (e::es) t)(b:(x==("__debug__":Str))=false:=by decide)(i:j8 (e::es) X.env=(false,C8 e X.env)::j8 es X.env:=by rfl)(g:(K3 pos (j8 es X.env)).any (·.1)=false:=by rfl):
  PE X (.Call (.Name x p) (e::es) [] pos) (KP C sp [] E t):=by
 obtain ⟨j,s,o⟩:=H.ex;exact Nf o f kp (D.mono s) G q B m b i g
section
variable {C:b8}{m:Str}{sp:Sp}{E:XK}{ta:TE}{t:TA}{σ:St}{H:Hp}{Q:VK}{D:iI}{K:m7}{f:Str}{tv:TE}
theorem Qc(k:ta σ H fun x H1=>∃ a dx fs,x=.ref a/\H1 a=some (.ins C dx fs)/\fs.lookup m=none/\t σ H1 fun vs H2=>sp (x::(vs++[])) H2 Q E):EQ C m sp [] E ta t σ H Q:=k
theorem Mh(k:ta σ H fun x H1=>∃ a C dx fs v,x=.ref a/\H1 a=some (.ins C dx fs)/\EG K C/\fG K C f/\fs.lookup f=some v/\Q v H1):Ff K ta f σ H Q:=k
theorem Fk(k:tv σ H fun y H1=>ta σ H1 fun x H2=>∃ a C dx fs,x=.ref a/\H2 a=some (.ins C dx fs)/\EG K C/\fG K C f/\fs.length < 1000/\D.nx σ (upd H2 a (.ins C dx (iA f y fs)))):Lg K ta tv f D σ H:=k
theorem Lz(k:t σ H fun vs H1=>∀ x dx,H1 x=none->H1 dx=none->dx≠x->sp (.ref x::(vs++[])) (upd (upd H1 dx (.own x)) x (.ins C dx [])) (fun v H2=>v=.non/\Q (.ref x) H2) E):KP C sp [] E t σ H Q:=k
end
section
variable {C:b8}{m f:Str}{K:m7}{H:Hp}{a dx:b8}{fs:List (Str×V)}{v:V}
theorem Qo(h:H a=some (.ins C dx fs))(l:fs.lookup m=none)(k:R):∃ g b fs',V.ref a=.ref g/\H g=some (.ins C b fs')/\fs'.lookup m=none/\R:=⟨a,dx,fs,rfl,h,l,k⟩
theorem Qt{Q:V->Prop}(h:H a=some (.ins C dx fs))(c:EG K C)(n:fG K C f)(l:fs.lookup f=some v)(k:Q v):∃ i b g fs' o,V.ref a=.ref i/\H i=some (.ins b g fs')/\EG K b/\fG K b f/\fs'.lookup f=some o/\Q o:=⟨a,C,dx,fs,v,rfl,h,c,n,l,k⟩
theorem Pu{N:b8->b8->b8->List (Str×V)->Prop}(h:H a=some (.ins C dx fs))(c:EG K C)(n:fG K C f)(o:fs.length < 1000)(k:N a C dx fs):∃ i g b fs',V.ref a=.ref i/\H i=some (.ins g b fs')/\EG K g/\fG K g f/\fs'.length < 1000/\N i g b fs':=⟨a,C,dx,fs,rfl,h,c,n,o,k⟩
end
noncomputable def jW(L:List b8)(H H':Hp):Prop:=∀ b o,b∉L->H b=some o->H' b=some o
section
variable {L:List b8}{H H1 H2:Hp}
theorem jW.trans(a:jW L H H1)(b:jW L H1 H2):jW L H H2:=fun c o n h=>b c o n (a c o n h)
theorem aJ.kpL(s:aJ H H1):jW L H H1:=fun c o _ h=>s c o h
theorem jW.upd(h:p∈L):jW L H (L2.upd H p o):=fun c u n e=>by rw [aZ (fun z:c=p=>n (z ▸ h))]; exact e
theorem jW.mono(s:∀ x∈L,x∈L')(k:jW L H H1):jW L' H H1:=fun c o n e=>k c o (fun z=>n (s c z)) e
theorem jW.tk(k:jW L H H1)(h:∀ p∈L,∀ xs,H p≠some (.tup xs)):TK H H1:=fun p xs e=>k p _ (fun z=>h p z xs e) e
end
noncomputable def cB(ln lp lt:b8)(vm:V)(dm:b8):List (Str×V):=[("net",.ref ln),("pushes",.ref lp),("takings",.ref lt),("moment",vm),("moments",.ref dm)]
noncomputable def vB(m:Rat)(o:Option Rat):Bool:=match o with|none=>false|some q=>!decide (m < q)
theorem vY(h:H a=some (.ins C dx fs)):TK H (L2.upd H a o):=fun p b e=>by rw [aZ (iE e h (by intro z; cases z))]; exact e
theorem DQ.mv{f:Type}{R:Hp->V->f->Prop}{H H':Hp}{l:b8}{ds:List (aM×f)}(h:DQ R H l ds)(g:∀ {H H' v b},R H v b->TK H H'->R H' v b)(e:∀ o,H l=some o->H' l=some o)(t:TK H H'):DQ R H' l ds:=let ⟨k,a,b⟩:=h; ⟨k,e _ a,b.imp fun v b q=>g q t⟩
theorem LQ.mv{f:Type}{R:Hp->V->f->Prop}{H H':Hp}{l:b8}{ds:List f}(h:LQ R H l ds)(g:∀ {H H' v b},R H v b->TK H H'->R H' v b)(e:∀ o,H l=some o->H' l=some o)(t:TK H H'):LQ R H' l ds:=let ⟨k,a,b⟩:=h; ⟨k,e _ a,Pd.imp b fun v b q=>g q t⟩
theorem BP(f:G q=none)(g:G h=some (.ins C dx fs)):∃ b,L2.upd (L2.upd G q o) h (.ins C dx fs')=b/\jW [h] G b/\b q=some o/\b h=some (.ins C dx fs')/\q≠h:=by
 have n:q≠h:=fun z=>by rw [z,g] at f; cases f
 exact ⟨_,rfl,(aJ.kpL (aJ.new f)).trans (.upd (.head _)),aX n aC,aC,n⟩
theorem jW.app1(k:jW [h] H H')(n:b≠h)(e:H b=some o):H' b=some o:=k _ _ (fun z=>n (f9.mp z)) e
theorem jW.fr(k:jW L H H')(n:b∉L)(e:H' b=none):H b=none:=by
 cases z:H b with
|none=>rfl
|some o=>rw [k _ _ n z] at e; cases e
theorem dC:M6 (.Name x p) f env (C8 (.Name x p) env)=C8 (.Name x p) env:=rfl
theorem MY(g:PE (bX X scope uf N C s0 H0 ex) e ta)(b:M6 e f (bX X scope uf N C s0 H0 ex).env (C8 e (bX X scope uf N C s0 H0 ex).env)=C8 e (bX X scope uf N C s0 H0 ex).env):PE (bX X scope uf N C s0 H0 ex) (.Attribute e f pos) (Ff X.K ta f):=dL g b
end L2
namespace L2
open PySem PySem.Spec PyProof.Rows
section
variable {σ:St}{H:Hp}{Q:VK}{K:m7}
end
noncomputable abbrev sC:Str:=B4 "c"
noncomputable def n2:List dE:=[(sA,sB,i0 1 2),(sB,sC,i0 1 3)]
section
variable {H:Hp}{Q:VK}{K:m7}{σ:St}{D:iI}{v:V}
end
theorem WK{i:Int}{ys:List Int}:Pg (.int i) (ys.map V.int)=decide (i∈ys):=by
 unfold Pg
 induction ys with
|nil=>rfl
|cons y r ih =>
  rw [D3,Q3,ih];show ((y==i) || _)=_;by_cases h:i=y
  ·subst h
   simp
  ·by_cases b:i∈r
   ·simp [b]
   ·simp [b,h,j3 h]
theorem AW:∀ ys:List Int,(ys.map V.int).all nQ=true
|[]=>rfl
|y::r=>by
  rw [D3,tu,AW r];rfl
theorem Dj{K:m7}{H:Hp}{Q:VK}{p:b8}{ys:List Int}{i:Int}(h:H p=some (.lst (ys.map V.int)))(k:Q (.bl (decide (i∈ys))) H):Qj K false (.int i) (.ref p) H Q:=⟨p,_,rfl,.inl (cP.of h),rfl,AW _,by rw [WK]; exact k⟩
theorem AY:∀ b:List Int,gQ (b.map Dt.int)<=0
|[]=>i5 _
|z::b=>by
  show max 0 (gQ (b.map Dt.int))<=0;have:=AY b;lia
theorem AZ:∀ b:List Int,iJ H (b.map Dt.int) (b.map V.int)
|[]=>rfl
|z::b=>⟨_,_,rfl,rfl,AZ b⟩
noncomputable def gK{α:Type}(n:Nat)(us ws:List α):List α:=if us.length=n/\ws.length=1 then us++ws else []
theorem Ix(b:bO vs us)(f:bO zs ws):bO (gK n vs zs) (gK n us ws):=by
 unfold gK;rw [b.length,f.length];split
 ·exact b.append f
 ·exact .nil
structure Kh(K:m7)(mg:Str->Option a8)(x:Str)(st:A1)(ps:List Str)(dvs:List V)(n:Nat)(ks:List Str):Prop where
 ex:∃(f:b8)(fd:D4),(∃(oc:a8)(od:Option b8)(dV kV doc pm:a8)(an:Option b8)(ui ct:a8)(osl:Array (Option a8)),
  fd=V1 x x (bQ st) (bL st) (aG st) dV kV doc pm an ui ct/\K.lookup f=some ⟨oc,od,.func fd,osl⟩/\w8 K ui x=true)/\n7 K (.ref f)=true/\mg x=some (.ref f)/\fR K fd ps []/\(∃ ds,bO dvs ds/\fR K fd ps ds)/\YB K fd ps ks (gK n) (gK n)
structure uG(P:j2)(w:k6)(K:m7)(mg:Str->Option a8)(base:u9)(k:Nat)(x:Str)(ps:List Str)(dvs:List V)(n:Nat)(ks:List Str)(sp:Sp):Prop where
 ex:∃(f:b8)(fd:D4),mg x=some (.ref f)/\n7 K (.ref f)=true/\fR K fd ps []/\(∃ ds,bO dvs ds/\fR K fd ps ds)/\YB K fd ps ks (gK n) (gK n)/\mG P w K mg base mI k f fd ps sp
theorem uG.mono{P:j2}{w:k6}{K:m7}{m:Str->Option a8}{g:u9}{j k:Nat}{x:Str}{ps:List Str}{i:List V}{n:Nat}{ks:List Str}{sp:Sp}(o:uG P w K m g j x ps i n ks sp)(h:j<=k):uG P w K m g k x ps i n ks sp:=
 let ⟨f,q,a,b,c,e,z,d⟩:=o.ex; ⟨f,q,a,b,c,e,z,d.mono h⟩
theorem uG.d{P:j2}{w:k6}{K:m7}{m:Str->Option a8}{g:u9}{k:Nat}{x:Str}{ps:List Str}{i:List V}{n:Nat}{ks:List Str}{sp:Sp}(o:uG P w K m g k x ps i n ks sp):nW P w K m g k x ps i sp:=
 let ⟨f,q,a,b,c,e,_,d⟩:=o.ex; ⟨f,q,a,b,c,e,d⟩
theorem uG.of{P:j2}{w:k6}{K:m7}{I:Str->Option a8}{m:u9}{k:Nat}{x:Str}{st:A1}{N ps:List Str}{B:List V}{n:Nat}{ks:List Str}{sp:Sp}(d:Kh K I x st ps B n ks)(S:aO N ps (aG st))(G:∀ vs H Q E,sp vs H Q E->vs.length=ps.length)
  (o:∀ (f:b8) (i:a8) (A:q4)(g:List Env)(s:c5)(H:Hp)(vs:List V)(Q:VK)(E:XK),eR k (A.deeper (X4 x (aG st) s.heap.objs.size f i))->sp vs H Q E ->
   ∃ t,BH (vA mI P w K I m N x (aG st) f i A g s H E).nox (bL st) t/\t { nx:=fun _ H'=>Q .non H',rt:=Q } (start N vs) H):uG P w K I m (k+1) x ps B n ks sp:=by
 obtain ⟨f,Z,⟨oc,od,Y,kV,O,pm,W,i,X,U,rfl,T,C⟩,kp,a,b,J,M⟩:=d.ex;refine ⟨f,_,a,kp,b,J,M,AV T C S G fun A g s H vs Q E R D=>?_⟩;obtain ⟨t,h,q⟩:=o f i A g s H vs Q E R D;exact ⟨t,h.nox,q⟩
theorem XG{K:m7}{J:Str->Option a8}{h:u9}{x:Str}{st:A1}{ps:List Str}{f T:b8}{M:a8}{N A:Option b8}{D:Array (Option a8)}{kV i E g B:a8}{o:Obj}{items:Array a8}{n:Nat}{C:List V}{ds:List a8}{m:Nat}{ks:List Str}(X:K.In h)(G:h.Ns r9 J)(a:rn K r9 x=some (some (.ref f)))(l:K.lookup f=some ⟨M,N,.func (V1 x x (bQ st) (bL st) (aG st) (.ref T) kV i E A g B),D⟩)(c:w8 K g x=true)(k:n7 K (.ref f)=true)(t:K.lookup T=some o)(U:o.data=.seq items n)(b:∀(s:c5)(us:List a8),s.heap.get? T=some o->us.length=ps.length->E4 s (V1 x x (bQ st) (bL st) (aG st) (.ref T) kV i E A g B) ⟨us,[]⟩ (ps.zip us))(S:bO C ds)(O:∀(s:c5)(us:List a8),s.heap.get? T=some o->(us++ds).length=ps.length->E4 s (V1 x x (bQ st) (bL st) (aG st) (.ref T) kV i E A g B) ⟨us,[]⟩ (ps.zip (us++ds)))(I:ps.length≠0)(P:∀(s:c5)(us H:List a8),s.heap.get? T=some o->us.length=m->H.length=1->E4 s (V1 x x (bQ st) (bL st) (aG st) (.ref T) kV i E A g B) ⟨us,ks.zip H⟩ (ps.zip (us++H))):Kh K J x st ps C m ks:=
 ⟨f,_,⟨M,N,.ref T,kV,i,E,A,g,B,D,rfl,l,c⟩,k,mg_of X G a,fun s us w q=>by rw [D6] at q ⊢; exact b s us (w T o t) q,⟨ds,S,fun s us w q=>O s us (w T o t) q⟩,fun s us H w q=>by
  unfold gK at q ⊢;split
  ·next z=>exact P s us H (w T o t) z.1 z.2
  ·next z=>rw [if_neg z] at q; exact absurd q.symm I,fun Q R=>Ix Q R⟩
section
variable {X:Cx}{k n:Nat}{x:Str}{ps ks:List Str}{dvs:List V}{sp:Sp}{p pos:Pos}{e:A6}{es:List A6}{kws:List dg}{t tk:TA}
end
theorem uQ{s:TS}{b:St}{H:Hp}(J:St->Hp->Prop)(f:∀ b H,J b H->D.nx b H)(k:∀ NX:St->Hp->Prop,(∀ b H,J b H->NX b H)->s ⟨NX,D.rt,D.bk,D.ct⟩ b H):s D b H:=k D.nx f
section
variable {σ:St}{H:Hp}{Q:VK}{K:m7}
end
noncomputable def n3:List dE:=[(sA,sB,i0 1 2),(sB,sC,i0 1 1)]
noncomputable def ts3:List (aM×Rat):=[(c7 0,i0 1 2),(c7 1,i0 1 1)]
noncomputable def BM:Nat->Option Rat:=fun k=>aV (lst ts3) (c7 (k:Int))
section
variable {X:Cx}
noncomputable def Qn(H:Hp)(x y:V):Prop:=(x=.non/\∃ p xs,y=.ref p/\H p=some (.tup xs))∨(y=.non/\∃ p xs,x=.ref p/\H p=some (.tup xs))
noncomputable def Mw:R2:=fun x y H Q=>Qn H x y/\Q (.bl true) H
theorem Hg(w:X.A.units+64 < F6):kJ X (A0 .NotEq) Mw:=by
 intro g s B H x y v u Q I i m h;obtain ⟨b|b,q⟩:=h
 ·obtain ⟨rfl,p,o,rfl,hp⟩:=b
  cases i;cases m;obtain ⟨f,r,t⟩:=iN I hp;exact aa.none_tuple t (by lia) _ _ _ _ ⟨.bl _,H,I,rfl,q⟩
 ·obtain ⟨rfl,p,o,rfl,hp⟩:=b
  cases i;cases m;obtain ⟨f,r,t⟩:=iN I hp;exact aa.tuple_none t (by lia) _ _ _ _ ⟨.bl _,H,I,rfl,q⟩
noncomputable def Gw:R2:=fun x y H Q=>GL x y H Q∨Mw x y H Q
theorem Hj(b:X.A.units+64 < F6):kJ X (A0 .NotEq) Gw:=(tU b).or (Hg b)
end
section
variable {H:Hp}{Q:VK}{u v:V}{a b:Option Rat}
theorem ZD{q r:Rat}:decide (q.num=r.num/\(q.den:Int)=(r.den:Int))=decide (some q=some r):=by
 rw [Q9,decide_eq_true_iff,decide_eq_true_iff];constructor
 ·rintro ⟨f,g⟩
  exact congrArg some (Rat.ext f (by lia))
 ·intro h
  cases h;exact ⟨rfl,rfl⟩
theorem Np(i:eI H v a)(f:eI H u b)(k:Q (.bl (!decide (a=b))) H):Gw v u H Q:=by
 cases a with
|none =>
  cases (show v=.non from i);cases b with
 |none =>
   cases (show u=.non from f);exact .inl (.inl ⟨rfl,by simpa using k⟩)
 |some r =>
   obtain ⟨p,rfl,hp⟩:=id (show cA H u r from f);exact .inr ⟨.inl ⟨rfl,p,_,rfl,hp⟩,by simpa using k⟩
|some q =>
  obtain ⟨p,rfl,hp⟩:=id (show cA H v q from i);cases b with
 |none =>
   cases (show u=.non from f);exact .inr ⟨.inr ⟨rfl,p,_,rfl,hp⟩,by simpa using k⟩
 |some r =>
   obtain ⟨m,rfl,g⟩:=id (show cA H u r from f);exact .inl (n_2 hp g (by rw [ZD]; exact k))
end
section
variable {net:List (jT aM)}{a b:aM}{m:Rat}{tk:Nat -> Option Rat}{f:aM -> Option Rat}
end
open Classical in
noncomputable def dst(n:List dE)(a:aM)(m:Rat):aM->Option Rat:=if h:∃ f,fJ (kn n) (aV (lst [(a,m)])) (fun _=>none) f then Classical.choose h else fun _=>none
noncomputable def gd(n:List dE)(s z:Str):Option Rat:=if z∈names n then dst n (a9 s) (i0 0 1) (a9 z) else none
noncomputable def Pf(ys:List Str):List (Str×Str):=ys.flatMap fun y=>ys.map fun z=>(y,z)
theorem Pd.app{b:Type}{R:V->b->Prop}:∀{xs ys:List V}{ds es:List b},Paired R xs ds->Paired R ys es->Paired R (xs++ys) (ds++es)
|_,_,_,_,.nil,h=>h
|_,_,_,_,.cons r t,h=>.cons r (Pd.app t h)
noncomputable def fW(n:Nat)(uj:b8)(Pv:Nat->List V->Hp->Prop):Nat->Nat->List V->Hp->Prop:=fun i m ys H1=>m=n - i/\i<=n/\ys.length<=i/\H1 uj=some (.lst ys)/\Pv i ys H1
noncomputable def AX(n:Nat)(uj:b8)(Pv:Nat->List V->Hp->Prop)(ys:List V)(i:Nat):VK:=fun y H3=>H3 uj=some (.lst ys)/\∃ m',m' < n - i/\fW n uj Pv (i+1) m' (ys++[y]) (upd H3 uj (.lst (ys++[y])))
noncomputable def yF(n:Nat)(uj:b8)(Pv:Nat->List V->Hp->Prop)(ys:List V)(i:Nat)(H3:Hp):Prop:=∃ m',m' < n - i/\fW n uj Pv (i+1) m' ys H3
theorem oV(b:i < n)(g:ys.length<=i)(f:H3 uj=some (.lst ys))(p:Pv (i+1) (ys++[y]) (upd H3 uj (.lst (ys++[y])))):AX n uj Pv ys i y H3:=
 ⟨f,n - (i+1),by lia,rfl,b,by rw [i9]; simp; exact g,aC,p⟩
theorem mY(b:i < n)(g:ys.length<=i)(f:H3 uj=some (.lst ys))(p:Pv (i+1) ys H3):yF n uj Pv ys i H3:=
 ⟨n - (i+1),by lia,rfl,b,by lia,f,p⟩
section
variable {te:TE}{Q:VK}{H:Hp}{uf:St}{K:m7}
theorem xE(hn:xs.length<=1000)(w:b8->Nat->List V->Hp->Prop)(h0:∀ f,H f=none->w f 0 [] (upd H f (.lst [])))(B:∀ f i ys s,H f=none->i<=xs.length->w f i ys s->cP K s a xs)(hs:∀ f i ys s x,H f=none->xs[i]?=some x->ys.length<=i->s f=some (.lst ys)->w f i ys s->c (some x::uf) s fun b H3=>if b=true then te (some x::uf) H3 (AX xs.length f (w f) ys i) else yF xs.length f (w f) ys i H3)(E:∀ f ys s,H f=none->s f=some (.lst ys)->ys.length<=xs.length->w f xs.length ys s->Q (.ref f) s):lD te (some c) (gM 0) (x8 1 none) uf Q (OK K a) H:=by
 intro f g;refine ⟨fW xs.length f (w f),⟨xs.length,by simp,y8 _,i5 _,aC,h0 f g⟩,?_⟩;rintro i m ys s ⟨rfl,G,D,A,p⟩;have q:=B f i ys s g G p;refine ⟨A,?_⟩;by_cases C:i < xs.length
 ·refine .inr ⟨eA (by lia),⟨xs,xs[i],q,by simp [C]⟩,fun M x J I y=>?_⟩
  obtain ⟨e,y⟩:=y;subst e;obtain ⟨o,rfl⟩:=WE I;exact ⟨⟨[some x],rfl,rfl⟩,hs f i ys _ x g (y xs q) D A p⟩
 ·have e:i=xs.length:=by lia
  subst e;exact .inl ⟨⟨xs,q,i5 _⟩,E f ys s g A D p⟩
end
section
variable {X:Cx}{tg:A6}
end
section
variable {σ:St}{H:Hp}{D:iI}{K:m7}
end
section
variable {X:Cx}
end
section
variable {H:Hp}{Q:VK}
end
section
variable {net:List (jT aM)}{push:aM -> Option Rat}{tk:Nat -> Option Rat}
end
noncomputable def n4:List dE:=[(sA,sB,i0 1 1),(sB,sA,i0 1 1)]
theorem UH{H:Hp}{Q:VK}{z:Str}{lo b:Option Int}(hz:z.length<=100000)(k:Q (.str (W9 z lo b)) H):Mu (.str z) lo b H Q:=⟨z,rfl,by rw [p7]; lia,k⟩
section
variable {X:Cx}{scope:V5}{uf:List (Str×b8)}{N:List Str}{C:b8}{s0:c5}{H0:Hp}{ex:List b8}
end
section
variable {te:TE}{Q:VK}{H:Hp}{uf:St}{K:m7}{σ:St}
end
theorem VN:kJ (bX X scope uf N C s0 H0 ex) (O1 .Add) (GM X.K):=bP
noncomputable def n5:List dE:=[(sA,sB,i0 1 1)]
mutual
theorem lP.inj{H:Hp}:∀(d e:Dt){x:V},lP H d x->lP H e x->d=e
|.tup ds,.tup es,x,g,f=>by
  obtain ⟨p,vs,rfl,a,b⟩:=g;obtain ⟨q,m,i,c,d⟩:=f;cases i;rw [a] at c;cases c;rw [iJ.inj ds es b d]
|.lst ds,.lst es,x,g,f=>by
  obtain ⟨p,vs,rfl,a,b⟩:=g;obtain ⟨q,m,i,c,d⟩:=f;cases i;rw [a] at c;cases c;rw [iJ.inj ds es b d]
|.tup ds,.lst es,x,g,f=>by
  obtain ⟨p,vs,rfl,a,b⟩:=g;obtain ⟨q,m,i,c,d⟩:=f;cases i;rw [a] at c;cases c
|.lst ds,.tup es,x,g,f=>by
  obtain ⟨p,vs,rfl,a,b⟩:=g;obtain ⟨q,m,i,c,d⟩:=f;cases i;rw [a] at c;cases c
|.non,e,x,g,f=>by
  have g:x=.non:=g;subst g;cases e <;> first|rfl|(have f:V.non=_:=f; cases f)|(obtain ⟨_,_,z,_⟩:=f; cases z)
|.bl b,e,x,g,f=>by
  have g:x=.bl b:=g;subst g;cases e <;> first|(have f:V.bl b=_:=f; cases f; rfl)|(have f:V.bl b=_:=f; cases f; done)|(obtain ⟨_,_,z,_⟩:=f; cases z)
|.int b,e,x,g,f=>by
  have g:x=.int b:=g;subst g;cases e <;> first|(have f:V.int b=_:=f; cases f; rfl)|(have f:V.int b=_:=f; cases f; done)|(obtain ⟨_,_,z,_⟩:=f; cases z)
|.str b,e,x,g,f=>by
  have g:x=.str b:=g;subst g;cases e <;> first|(have f:V.str b=_:=f; cases f; rfl)|(have f:V.str b=_:=f; cases f; done)|(obtain ⟨_,_,z,_⟩:=f; cases z)
|.tup ds,.non,x,g,f=>by obtain ⟨p,vs,rfl,_⟩:=g; have f:V.ref p=_:=f; cases f
|.tup ds,.bl _,x,g,f=>by obtain ⟨p,vs,rfl,_⟩:=g; have f:V.ref p=_:=f; cases f
|.tup ds,.int _,x,g,f=>by obtain ⟨p,vs,rfl,_⟩:=g; have f:V.ref p=_:=f; cases f
|.tup ds,.str _,x,g,f=>by obtain ⟨p,vs,rfl,_⟩:=g; have f:V.ref p=_:=f; cases f
|.lst ds,.non,x,g,f=>by obtain ⟨p,vs,rfl,_⟩:=g; have f:V.ref p=_:=f; cases f
|.lst ds,.bl _,x,g,f=>by obtain ⟨p,vs,rfl,_⟩:=g; have f:V.ref p=_:=f; cases f
|.lst ds,.int _,x,g,f=>by obtain ⟨p,vs,rfl,_⟩:=g; have f:V.ref p=_:=f; cases f
|.lst ds,.str _,x,g,f=>by obtain ⟨p,vs,rfl,_⟩:=g; have f:V.ref p=_:=f; cases f
theorem iJ.inj{H:Hp}:∀(ds es:List Dt){xs:List V},iJ H ds xs->iJ H es xs->ds=es
|[],[],xs,_,_=>rfl
|[],e::es,xs,f,g=>by
  have f:xs=[]:=f;subst f;obtain ⟨_,_,z,_⟩:=g;cases z
|d::ds,[],xs,f,g=>by
  have g:xs=[]:=g;subst g;obtain ⟨_,_,z,_⟩:=f;cases z
|d::ds,e::es,xs,f,g=>by
  obtain ⟨v,r,rfl,a,b⟩:=f;obtain ⟨q,o,z,i,m⟩:=g;cases z;rw [lP.inj d e a i,iJ.inj ds es b m]
end
noncomputable def vOf:a8->V
|.bool b=>.bl b
|.int i _=>.int i
|.str s _=>.str s
|.ref a=>.ref a
|_=>.non
theorem NW(h:lP H d x)(r:bG x u):x=vOf u:=by
 cases d with
|non =>
  cases (show x=.non from h);cases r;rfl
|bl b =>
  cases (show x=.bl b from h);cases r;rfl
|int b =>
  cases (show x=.int b from h);obtain ⟨t,rfl⟩:=r;rfl
|str b =>
  cases (show x=.str b from h);obtain ⟨t,rfl⟩:=r;rfl
|tup f =>
  obtain ⟨p,_,rfl,_⟩:=h;cases r;rfl
|lst f =>
  obtain ⟨p,_,rfl,_⟩:=h;cases r;rfl
theorem ZC(b:lP H d x)(f:lP H e y)(g:bG x u)(i:bG y u):x=y:=(NW b g).trans (NW f i).symm
open Classical in
noncomputable def Iu(H:Hp)(d:Dt)(u:a8):Bool:=decide (∃ x e,bG x u/\lP H e x/\yI e d=true)
open Classical in
theorem WL(r:bG x u)(h:lP H e x):Iu H d u=yI e d:=by
 unfold Iu;cases c:yI e d with
|true=>exact decide_eq_true ⟨x,e,r,h,c⟩
|false =>
  refine decide_eq_false fun ⟨y,g,i,b,f⟩=>?_;have:=ZC h b r i;subst this;rw [lP.inj e g h b,f] at c;cases c
theorem OF:∀{ds:List Dt}{vs:List V}{us:List a8},iJ H ds vs->bO vs us->us.any (Iu H d)=ds.any fun e=>yI e d
|[],vs,us,h,r=>by
  have h:vs=[]:=h;subst h;cases r;rfl
|e::ds,vs,us,h,r=>by
  obtain ⟨v,w,rfl,a,b⟩:=h;cases r with
 |cons f g=>rw [Q3,Q3,WL f a,OF b g]
noncomputable def Mz(neg:Bool):R2:=fun x y H Q=>∃ p vs d ds,y=.ref p/\H p=some (.lst vs)/\lP H d x/\iJ H ds vs/\gQ ds<=50/\Q (.bl (if neg then !(ds.any fun e=>yI e d) else ds.any fun e=>yI e d)) H
theorem NP(I:bB X ud σ H s)(g:X.A.units+64 < F6)(i:lP H d x)(o:bG x v):∀{ds:List Dt}{vs:List V}{us:List a8},iJ H ds vs->bO vs us->gQ ds<=50->∀ u∈us,w6 X.A.in1 s u v (Iu H d u)
|[],vs,us,h,r,_=>by
  have h:vs=[]:=h;subst h;cases r;exact fun u g=>by cases g
|e::ds,vs,us,h,r,q=>by
  obtain ⟨w,D,rfl,a,b⟩:=h;cases r with
 |cons m C =>
   have B:max (uF e) (gQ ds)<=50:=q;intro u f;rcases n6.mp f with rfl|f
   ·rw [WL m a]
    exact JW I e d a i m o (by show X.A.units+1+uF e < F6; lia)
   ·exact NP I g i o b C (by lia) u f
theorem PN(o:X.A.units+64 < F6):kJ X (A0 .NotIn) (Mz true):=by
 intro g s J H x y v u Q I C D h;obtain ⟨p,G,d,E,rfl,hp,i,b,m,q⟩:=h;cases D;obtain ⟨f,r,t⟩:=jI I hp;refine SeqAt.notIn_listAt (Iu H d) t (fun w B=>NP I o i C b r m w (by simpa using B)) ⟨.bl _,H,I,rfl,?_⟩;rw [show f.toArray.any (Iu H d)=f.any (Iu H d) by simp,OF b r];exact q
section
variable {prog:j2}{w:k6}{A:q4}{E:a8 -> c5 -> Prop}{s:c5}{r:b8}
end
section
variable {X:Cx}{a:A6}{ta:TE}
end
section
variable {te:TE}{Q:VK}{H:Hp}{uf:St}
theorem GK{c:TT}{lo:Int}{n:Nat}(hn:n<=1000)(s:b8->Nat->List V->Hp->Prop)(h0:∀ f,H f=none->s f 0 [] (upd H f (.lst [])))(hs:∀ f i ys q,H f=none->i < n->ys.length<=i->q f=some (.lst ys)->s f i ys q->c (some (.int (lo+i))::uf) q fun b H3=>if b=true then te (some (.int (lo+i))::uf) H3 (AX n f (s f) ys i) else yF n f (s f) ys i H3)(C:∀ f ys q,H f=none->q f=some (.lst ys)->ys.length<=n->s f n ys q->Q (.ref f) q):lD te (some c) (gM 0) (x8 1 none) uf Q (OJ lo n) H:=by
 intro f g;refine ⟨fW n f (s f),⟨n,by simp,y8 _,i5 _,aC,h0 f g⟩,?_⟩;rintro i m ys q ⟨rfl,G,B,A,p⟩;refine ⟨A,?_⟩;by_cases w:i < n
 ·refine .inr ⟨eA (by lia),w,fun I x E D y=>?_⟩
  obtain ⟨e,y⟩:=y;subst e y;obtain ⟨o,rfl⟩:=WE D;exact ⟨⟨[some (.int (lo+i))],rfl,rfl⟩,hs f i ys _ g w B A p⟩
 ·have e:i=n:=by lia
  subst e;exact .inl ⟨i5 _,C f ys q g A B p⟩
end
section
variable (net:List (jT aM))(tk:Nat -> Option Rat)(f:aM -> Option Rat)(s:aM)
end
section
variable {net:List (jT aM)}{push:aM -> Option Rat}{tk:Nat -> Option Rat}{F:AL aM (nE aM)}
end
theorem US(k:ta σ H fun x H1=>tb σ H1 fun y H2=>r x y H2 fun z H3=>∃ k,z=.bl k/\(if k=true then tc σ H3 fun w' H4=>r' y w' H4 Q else Q (.bl false) H3)):SG r r' ta tb tc σ H Q:=k
theorem BJ:∀{kvs:List (aM×V)}{i:Nat}{k:aM}{v:V},(kvs.map (·.1)).Nodup->kvs[i]?=some (k,v)->bJ kvs k=some v
|[],i,k,v,_,h=>by simp at h
|p::r,0,k,v,_,h=>by
  cases (h8 h:p=(k,v));exact gX rfl
|p::r,i+1,k,v,b,h=>by
  rw [D3,Q1] at b;have h':r[i]?=some (k,v):=h;rw [fK fun e=>b.1 (j1.mpr ⟨_,i3 h',e.symm⟩)];exact BJ b.2 h'
section
variable {c m:Nat -> Int}
end
section
variable {σ:St}{H:Hp}{D:iI}{K:m7}
theorem pI{lo:Int}{n:Nat}{g:TG}{f:TS}(b:Nat->St->Hp->Prop)(h0:b 0 σ H)(hs:∀(P':Nat->St->Hp->Prop)(rt:VK)(bk:St->Hp->Prop),(∀ i σ H,b i σ H->P' i σ H)->∀ i σ H,i < n->b i σ H->g (.int (lo+i)) σ H fun σ2 H2=>f ⟨P' (i+1),rt,bk,P' (i+1)⟩ σ2 H2)(m:∀ σ H,b n σ H->D.nx σ H):DG g f D σ (OJ lo n) H:=Ge b h0 (hs b D.rt D.nx fun _ _ _ h=>h) m
theorem rS(b:Nat->St->Hp->Prop)(h0:b 0 σ H)(m:∀ i σ H,i<=xs.length->b i σ H->cP K H a xs)(hs:∀(P':Nat->St->Hp->Prop)(rt:VK)(bk:St->Hp->Prop),(∀ i σ H,b i σ H->P' i σ H)->∀ i x σ H,xs[i]?=some x->b i σ H->g x σ H fun σ2 H2=>tb ⟨P' (i+1),rt,bk,P' (i+1)⟩ σ2 H2)(f:∀ σ H,b xs.length σ H->D.nx σ H):DG g tb D σ (OK K a) H:=JC b h0 m (hs b D.rt D.nx fun _ _ _ h=>h) f
end
theorem Hz:∀{l:List (aM×Rat)}{k:aM}{q:Rat},(k,q)∈l->∃ v,aV (lst l) k=some v/\v<=q:=by
 intro l;rw [← List.reverse_reverse l]
 induction l.reverse with
|nil=>intro k q h; simp at h
|cons x r ih =>
  intro k q h;rw [List.reverse_cons] at h ⊢;rw [mC];have b:∀(m:AL aM Rat)(c:aM)(v:Rat),aV (eO m c v) k=if k=c then some v else aV m k:=fun m c v=>kC m c k v
  have g:(∃ v,aV (fM (lst r.reverse) x) k=some v/\∀ u,aV (lst r.reverse) k=some u->v<=u)∨(aV (lst r.reverse) k=none/\k≠x.1):=by
   unfold fM;by_cases z:k=x.1
   ·left
    subst z;cases e:aV (lst r.reverse) x.1 with
   |none=>exact ⟨x.2,by dsimp only; rw [b,if_pos rfl],fun u h=>by cases h⟩
   |some u =>
     dsimp only;by_cases c:x.2 < u
     ·rw [if_pos c]
      exact ⟨x.2,by rw [b,if_pos rfl],fun w h=>by cases h; exact P6 c⟩
     ·rw [if_neg c]
      exact ⟨u,e,fun w h=>by cases h; exact K0⟩
   ·cases e:aV (lst r.reverse) k with
   |none=>exact .inr ⟨rfl,z⟩
   |some u =>
     left;refine ⟨u,?_,fun w h=>by cases h; exact K0⟩;split
     ·rw [b,if_neg z]
      exact e
     ·split
      ·rw [b,if_neg z]
       exact e
      ·exact e
  rcases m9.mp h with h|h
  ·obtain ⟨v,e,o⟩:=ih h
   rcases g with ⟨w,f,i⟩|⟨f,_⟩
   ·exact ⟨w,f,E6 (i v e) o⟩
   ·rw [e] at f
    cases f
  ·cases f9.mp h
   unfold fM;cases e:aV (lst r.reverse) k with
  |none=>exact ⟨q,by dsimp only; rw [b,if_pos rfl],K0⟩
  |some u =>
    dsimp only;by_cases c:q < u
    ·rw [if_pos c]
     exact ⟨q,by rw [b,if_pos rfl],K0⟩
    ·rw [if_neg c]
     exact ⟨u,e,X5.mp c⟩
section
variable {net:List (jT aM)}{push push':aM -> Option Rat}{tk tk':Nat -> Option Rat}
theorem XS(hp:∀ p t,push p=some t->∃ u,push' p=some u/\u<=t)(m:∀ k t,cU tk k t->cU tk' k t)(h:KM net push tk p t):∃ u,u<=t/\KM net push' tk' p u:=by
 induction h with
|push h =>
  obtain ⟨u,e,l⟩:=hp _ _ h;exact ⟨u,l,.push e⟩
|@run q s p k r _ f g i ih =>
  obtain ⟨u,l,a⟩:=ih;have b:u+r.2.2<=s+r.2.2:=qx.mpr l;exact ⟨_,b,.run a f g ((m _ _ i).le b)⟩
theorem qU(hp:∀ p t,push p=some t->∃ u,push' p=some u/\u<=t)(o:∀ k t,cU tk k t->cU tk' k t)(i:fJ net push tk f)(m:fJ net push' tk' g)(e:f p=some t):∃ u,g p=some u/\u<=t:=by
 obtain ⟨u,l,a⟩:=XS hp o (i.arr p t e);obtain ⟨w,b,q⟩:=m.le p u a;exact ⟨w,b,E6 q l⟩
end
section
variable {net:List (jT aM)}{push push':aM -> Option Rat}{tk tk':Nat -> Option Rat}
end
section
variable {n:List dE}{ps:List (aM×Rat)}{tk:Nat -> Option Rat}{f:aM -> Option Rat}{y:Str}{ms:List Rat}
end
theorem Ih{us:St}(h:us.length=2):∃ o p,us=[o,p]:=by
 cases us with
|nil=>cases h
|cons o us=>cases us with
 |nil=>cases h
 |cons p us=>cases us with
  |nil=>exact ⟨o,p,rfl⟩
  |cons q us=>cases h
section
variable {te:TE}{Q:VK}{H:Hp}{uf:St}{K:m7}
theorem UO(hn:xs.length<=1000)(s:b8->Nat->List V->Hp->Prop)(h0:∀ f,H f=none->s f 0 [] (upd H f (.lst [])))(C:∀ f i ys g,H f=none->i<=xs.length->s f i ys g->cP K g a xs)(hs:∀ f i ys g x,H f=none->xs[i]?=some x->ys.length<=i->g f=some (.lst ys)->s f i ys g->∃ p u v,x=.ref p/\g p=some (.tup [u,v])/\c (some u::some v::uf) g fun b H3=>if b=true then te (some u::some v::uf) H3 (AX xs.length f (s f) ys i) else yF xs.length f (s f) ys i H3)(M:∀ f ys g,H f=none->g f=some (.lst ys)->ys.length<=xs.length->s f xs.length ys g->Q (.ref f) g):lD te (some c) (HU K 2 (oU (gM 0) (oU (gM 1) QN))) (x8 2 none) uf Q (OK K a) H:=by
 intro f o;refine ⟨fW xs.length f (s f),⟨xs.length,by simp,y8 _,i5 _,aC,h0 f o⟩,fun i m ys g I=>?_⟩;obtain ⟨rfl,E,B,w,p⟩:=I;have q:=C f i ys g o E p;refine ⟨w,?_⟩;rcases bv i xs.length with D|A
 ·refine .inr ⟨eA (u8 B (by lia)),⟨xs,xs[i],q,by simp [D]⟩,fun R x G N z=>?_⟩
  obtain ⟨rfl,z⟩:=z;obtain ⟨O,P,rfl⟩:=Ih N;obtain ⟨b,u,v,rfl,J,k⟩:=hs f i ys G x o (z xs q) B w p;exact vJ J ⟨u,[v],rfl,v,[],rfl,rfl,⟨[some u,some v],rfl,rfl⟩,k⟩
 ·cases (fk E A:i=xs.length)
  exact .inl ⟨⟨xs,q,i5 _⟩,M f ys g o w B p⟩
theorem MK(hn:xs.length<=1000)(s:b8->Nat->List V->Hp->Prop)(h0:∀ f,H f=none->s f 0 [] (upd H f (.lst [])))(B:∀ f i ys g,H f=none->i<=xs.length->s f i ys g->cP K g a xs)(hs:∀ f i ys g x,H f=none->xs[i]?=some x->ys.length=i->g f=some (.lst ys)->s f i ys g->∃ p u v,x=.ref p/\g p=some (.tup [u,v])/\te (some u::some v::uf) g (BA xs.length f (s f) ys i))(M:∀ f ys g,H f=none->g f=some (.lst ys)->ys.length=xs.length->s f xs.length ys g->Q (.ref f) g):lD te none (HU K 2 (oU (gM 0) (oU (gM 1) QN))) (x8 2 none) uf Q (OK K a) H:=by
 intro f o;refine ⟨cW xs.length f (s f),⟨xs.length,by simp,y8 _,rfl,aC,h0 f o⟩,fun i m ys g I=>?_⟩;obtain ⟨rfl,D,E,w,p⟩:=I;have q:=B f i ys g o D p;refine ⟨w,?_⟩;rcases bv i xs.length with C|A
 ·refine .inr ⟨eA (by lia),⟨xs,xs[i],q,by simp [C]⟩,fun R x G N z=>?_⟩
  obtain ⟨rfl,z⟩:=z;obtain ⟨O,P,rfl⟩:=Ih N;obtain ⟨b,u,v,rfl,J,k⟩:=hs f i ys G x o (z xs q) E w p;exact vJ J ⟨u,[v],rfl,v,[],rfl,rfl,⟨[some u,some v],rfl,rfl⟩,k⟩
 ·cases (fk D A:i=xs.length)
  exact .inl ⟨⟨xs,q,i5 _⟩,M f ys g o w E p⟩
end
theorem jO(f:(bX X scope uf N C s0 H0 ex).calm=true)(h:Kc (bX X scope uf N C s0 H0 ex) es t)(hn:(V9 es (bX X scope uf N C s0 H0 ex).env).length=n:=by rfl)(b:(V9 es (bX X scope uf N C s0 H0 ex).env).findIdx? (·.1)=none:=by rfl):PG (bX X scope uf N C s0 H0 ex) (.Tuple es k pos) (HU X.K n t):=iR f h hn b
theorem xJ:kJ (bX X scope uf N C s0 H0 ex) (A0 .In) (Qj X.K false):=PP
theorem Aq(q r:Rat):i0 (q.num * r.num) ((q.den:Int) * r.den)=q * r:=by
 rw [← O7,y0,y0]
theorem Bh(q r:Rat):i0 (q.num * r.den) ((q.den:Int) * r.num)=q / r:=by
 rw [V4,← O7,y0];congr 1;rw [← Rat.inv_divInt,y0]
noncomputable def wQ(o:Option Rat)(T m:Rat):Rat:=match o with|none=>0|some f=>if m < f then 0 else (m - f) / T
noncomputable def xW(tk:Option Rat)(m:Rat):Bool:=match tk with|none=>false|some u=>!decide (m < u)
noncomputable def BO(oa ob tk:Option Rat)(T m:Rat):Option (Rat×Rat):=
 if xW tk m=true then none else if wQ oa T m < 1 - wQ ob T m then some (wQ oa T m,1 - wQ ob T m) else none
inductive iW where
|stands|swept (p:Str) (t:Rat)|met (t s:Rat)|taken (t:Rat)
noncomputable def RJ(o:Option Rat)(T:Rat)(p:Option Rat):Bool:=match o with|none=>false|some f=>match p with|none=>true|some g=>!decide (g < f+T)
noncomputable def fF(a b:Str)(oa ob:Option Rat)(T:Rat):iW:=
 if oa=none/\ob=none then .stands else if RJ oa T ob=true then .swept a (oa.getD 0+T) else if RJ ob T oa=true then .swept b (ob.getD 0+T) else .met ((oa.getD 0+ob.getD 0+T) * (1 / 2)) (((oa.getD 0+ob.getD 0+T) * (1 / 2) - oa.getD 0) / T)
noncomputable def fP:iW->Option Rat
|.stands=>none
|.swept _ t=>some t
|.met t _=>some t
|.taken t=>some t
noncomputable def qE(u:Rat)(o:Option Rat):Bool:=match o with|none=>true|some t=>decide (u < t)
noncomputable def mD(e:iW)(tk:Option Rat):iW:=match tk with|none=>e|some u=>if qE u (fP e)=true then .taken u else e
noncomputable def RH(H:Hp)(v:V):iW->Prop
|.stands=>∃ p,v=.ref p/\H p=some (.tup [.str "stands"])
|.swept s t=>∃ p u,v=.ref p/\H p=some (.tup [.str "swept",.str s,u])/\cA H u t
|.met t s=>∃ p u w,v=.ref p/\H p=some (.tup [.str "met",u,w])/\cA H u t/\cA H w s
|.taken t=>∃ p u,v=.ref p/\H p=some (.tup [.str "taken",u])/\cA H u t
noncomputable def sW(H:Hp)(v:V):Option (Rat×Rat)->Prop
|none=>v=.non
|some x=>∃ p u w,v=.ref p/\H p=some (.tup [u,w])/\cA H u x.1/\cA H w x.2
theorem sW.tk(h:sW H v o)(t:TK H H'):sW H' v o:=by
 cases o with
|none=>exact h
|some x=>obtain ⟨p,u,w,e,h,f,g⟩:=h; exact ⟨p,u,w,e,t _ _ h,f.tk t,g.tk t⟩
theorem HP(h:H p=some (.tup [u,w]))(f:cA H u q)(g:cA H w r):lP H (.tup [yS q,yS r]) (.ref p):=⟨p,_,rfl,h,_,_,rfl,lO f,_,_,rfl,lO g,rfl⟩
section
variable {H:Hp}{Q:VK}
theorem XH(q:Rat):yI (yS q) (yS q)=true:=by
 show (q.num==q.num&&((q.den:Int)==(q.den:Int)&&true))=true;rw [beq_self_eq_true,beq_self_eq_true];rfl
theorem Hw(i:sW H u o)(m:sW H v o)(k:Q (.bl false) H):Gw u v H Q:=by
 cases o with
|none =>
  cases (show u=.non from i);cases (show v=.non from m);exact Np (a:=none) (b:=none) rfl rfl (by rw [decide_eq_true rfl]; exact k)
|some x =>
  obtain ⟨p,a,b,rfl,h,f,g⟩:=i;obtain ⟨C,A,B,rfl,w,q,s⟩:=m;have e:pS [yS x.1,yS x.2] [yS x.1,yS x.2]=true:=by
   show (yI (yS x.1) (yS x.1)&&(yI (yS x.2) (yS x.2)&&true))=true;rw [XH,XH];rfl
  exact .inl (Dz (HP h f g) (HP w q s) (by simp [gQ,uF,yS]) (by rw [e]; exact k))
theorem rR(k:Q (.int 1000000000000000000000000000000) H):rI YE (fun i j=>.int (i ^ j.toNat)) (.int 10) (.int 30) H Q:=Dl ⟨by decide,by decide,by decide⟩ k
theorem ZF(k:Q (.int 1000000000000000000000000000000000000000000000000000000000) H):rI YE (fun i j=>.int (i ^ j.toNat)) (.int 10) (.int 57) H Q:=Dl ⟨by decide,by decide,by decide⟩ k
end
theorem Qp{us:St}(h:us.length=3):∃ o p q,us=[o,p,q]:=by
 cases us with
|nil=>cases h
|cons o us=>cases us with
 |nil=>cases h
 |cons p us=>cases us with
  |nil=>cases h
  |cons q us=>cases us with
   |nil=>exact ⟨o,p,q,rfl⟩
   |cons r us=>cases h
theorem rT{I:TE}{Q:VK}{H:Hp}{s:St}{K:m7}{a:b8}{xs:List V}(hn:xs.length<=1000)(w:b8->Nat->List V->Hp->Prop)(h0:∀ f,H f=none->w f 0 [] (upd H f (.lst [])))(C:∀ f i ys g,H f=none->i<=xs.length->w f i ys g->cP K g a xs)(hs:∀ f i ys g x,H f=none->xs[i]?=some x->ys.length=i->g f=some (.lst ys)->w f i ys g->∃ p u v z,x=.ref p/\g p=some (.tup [u,v,z])/\I (some u::some v::some z::s) g (BA xs.length f (w f) ys i))(O:∀ f ys g,H f=none->g f=some (.lst ys)->ys.length=xs.length->w f xs.length ys g->Q (.ref f) g):lD I none (HU K 3 (oU (gM 0) (oU (gM 1) (oU (gM 2) QN)))) (x8 3 none) s Q (OK K a) H:=by
 intro f o;refine ⟨cW xs.length f (w f),⟨xs.length,by simp,y8 _,rfl,aC,h0 f o⟩,fun i m ys g M=>?_⟩;obtain ⟨rfl,E,G,A,p⟩:=M;have q:=C f i ys g o E p;refine ⟨A,?_⟩;rcases bv i xs.length with D|B
 ·refine .inr ⟨eA (by lia),⟨xs,xs[i],q,by simp [D]⟩,fun U x J P z=>?_⟩
  obtain ⟨rfl,z⟩:=z;obtain ⟨R,S,T,rfl⟩:=Qp P;obtain ⟨b,u,v,y,rfl,N,k⟩:=hs f i ys J x o (z xs q) G A p;exact MH N ⟨u,[v,y],rfl,v,[y],rfl,y,[],rfl,rfl,⟨[some u,some v,some y],rfl,rfl⟩,k⟩
 ·cases (fk E B:i=xs.length)
  exact .inl ⟨⟨xs,q,i5 _⟩,O f ys g o A G p⟩
noncomputable def nV(H:Hp)(v:V)(r:Int×Int×Int):Prop:=∃ p,v=.ref p/\H p=some (.tup [.int r.1,.int r.2.1,.int r.2.2])
theorem nV.tk(h:nV H v r)(t:TK H H'):nV H' v r:=let ⟨p,e,h⟩:=h; ⟨p,e,t _ _ h⟩
noncomputable def iH(H:Hp)(v:V)(r:Int×Int):Prop:=∃ p,v=.ref p/\H p=some (.tup [.int r.1,.int r.2])
theorem iH.tk(h:iH H v r)(t:TK H H'):iH H' v r:=let ⟨p,e,h⟩:=h; ⟨p,e,t _ _ h⟩
noncomputable def cK(ln:b8)(u:Int)(lr lp lt:b8)(nw:List (aM×V):=[]):List (aM×V):=(a9 "names",.ref ln)::(a9 "unit",.int u)::(a9 "runs",.ref lr)::(a9 "pushes",.ref lp)::(a9 "takings",.ref lt)::nw
section
variable {ln lr lp lt:b8}{u:Int}{nw:List (aM×V)}
theorem mX:bJ (cK ln u lr lp lt nw) (a9 "names")=some (.ref ln):=by with_unfolding_all rfl
theorem uE:bJ (cK ln u lr lp lt nw) (a9 "unit")=some (.int u):=by with_unfolding_all rfl
theorem dS:bJ (cK ln u lr lp lt nw) (a9 "runs")=some (.ref lr):=by with_unfolding_all rfl
theorem oR:bJ (cK ln u lr lp lt nw) (a9 "pushes")=some (.ref lp):=by with_unfolding_all rfl
theorem jS:bJ (cK ln u lr lp lt nw) (a9 "takings")=some (.ref lt):=by with_unfolding_all rfl
end
structure Pa(U:List Str)(u:Int)(rs:List (Int×Int×Int))(ps ts:List (Int×Int))(m:Nat):Prop where
 u0:0 < u
 u1:u<=10 ^ 12
 n2:2<=U.length
 n8:U.length<=8
 rok:∀ r∈rs,0<=r.1/\r.1 < U.length/\0<=r.2.1/\r.2.1 < U.length/\1<=r.2.2/\r.2.2<=10 ^ 31
 pok:∀ r∈ps,0<=r.1/\r.1 < U.length/\0<=r.2/\r.2<=10 ^ 105
 tok:∀ r∈ts,0<=r.1/\0<=r.2/\r.2<=10 ^ 105
 len:rs.length+ps.length+ts.length<=m
structure lE(H:Hp)(dd:b8)(U:List Str)(u:Int)(rs:List (Int×Int×Int))(ps ts:List (Int×Int))(ln lr lp lt:b8):Prop where
 e:∃ nw,H dd=some (.dK (cK ln u lr lp lt nw))
 nm:H ln=some (.lst (U.map V.str))
 rq:LQ nV H lr rs
 pq:LQ iH H lp ps
 tq:LQ iH H lt ts
theorem lE.d(h:lE H dd U u rs ps ts ln lr lp lt):H dd=some (.dK (cK ln u lr lp lt (Classical.choose h.e))):=Classical.choose_spec h.e
theorem lE.sm(h:lE H dd U u rs ps ts ln lr lp lt)(s:aJ H H'):lE H' dd U u rs ps ts ln lr lp lt:=⟨⟨_,s _ _ h.d⟩,s _ _ h.nm,h.rq.sm nV.tk s,h.pq.sm iH.tk s,h.tq.sm iH.tk s⟩
theorem IA:∀{f:List V}{b:List (Int×Int×Int)},Paired (nV H) f b->iJ H (b.map fun r=>.tup [.int r.1,.int r.2.1,.int r.2.2]) f
|_,_,.nil=>rfl
|_,_,.cons ⟨p,e,h⟩ t=>⟨_,_,rfl,⟨p,_,e,h,_,_,rfl,rfl,_,_,rfl,rfl,_,_,rfl,rfl,rfl⟩,IA t⟩
theorem HZ:∀ rs:List (Int×Int×Int),gQ (rs.map fun r=>Dt.tup [.int r.1,.int r.2.1,.int r.2.2])<=10
|[]=>by decide
|u::r=>by
  have:=HZ r;show max (uF (Dt.tup [.int u.1,.int u.2.1,.int u.2.2])) (gQ (r.map fun r=>Dt.tup [.int r.1,.int r.2.1,.int r.2.2]))<=10;have e:uF (Dt.tup [.int u.1,.int u.2.1,.int u.2.2])<=10:=by simp [uF,gQ]
  lia
theorem Ja(f:H l=some (.lst zs))(i:Paired (nV H) zs b)(g:H p=some (.lst []))(k:Q (.bl (decide (b=[]))) H):UW (.ref l) (.ref p) H Q:=by
 refine El (es:=[]) ⟨l,_,rfl,f,IA i⟩ ⟨p,_,rfl,g,rfl⟩ (u8 (HZ b) (by decide)) ?_;cases b with
|nil=>rw [decide_eq_true rfl] at k; exact k
|cons r b=>rw [decide_eq_false (List.cons_ne_nil _ _)] at k; exact k
noncomputable def Og(p:b8)(Q:VK)(x1 y1 x2 y2 x3 y3 x4 y4 x5 y5:V)(H4:Hp):Prop:=H4 p=some (.dK [])/\∃ kvs:List (aM×V),[(x1,y1),(x2,y2),(x3,y3),(x4,y4),(x5,y5)]=kvs.map (fun kv=>(kV kv.1,kv.2))/\kvs.length<=15/\Q (.ref p) (upd H4 p (.dK (iU [] kvs)))
theorem ZO(k:∀ p,H p=none->k1 σ (upd H p (.dK [])) fun x1 H1=>v1 σ H1 fun y1 H2=>k2 σ H2 fun x2 H3=>v2 σ H3 fun y2 H4=>k3 σ H4 fun x3 H5=>v3 σ H5 fun y3 H6=>k4 σ H6 fun x4 H7=>v4 σ H7 fun y4 H8=>k5 σ H8 fun x5 H9=>v5 σ H9 fun y5 H10=>Og p Q x1 y1 x2 y2 x3 y3 x4 y4 x5 y5 H10):Cd [(k1,v1),(k2,v2),(k3,v3),(k4,v4),(k5,v5)] σ H Q:=k
theorem QS(h:H p=some (.dK []))(k:Q (.ref p) (upd H p (.dK (cK ln u lr lp lt)))):Og p Q (.str "names") (.ref ln) (.str "unit") (.int u) (.str "runs") (.ref lr) (.str "pushes") (.ref lp) (.str "takings") (.ref lt) H:=
 ⟨h,cK ln u lr lp lt,rfl,v9 rfl,by
  rw [lY (by rw [J5]; show (([a9 "names",a9 "unit",a9 "runs",a9 "pushes",a9 "takings"]:List aM)).Nodup; decide +kernel),J5];exact k⟩
theorem uD:∀{xs:List Int}{us:List a8},bO (xs.map V.int) us->gt us xs
|[],_,.nil=>.nil
|x::xs,_,.cons ⟨t,e⟩ r=>by
  subst e;exact .cons x t (uD r)
noncomputable def Gv:List V->Hp->VK->Prop:=fun vs H Q=>∃(p:b8)(xs:List Int),vs=[.ref p]/\H p=some (.lst (xs.map V.int))/\xs.length < 64/\∀(l:b8)(ys:List Int),H l=none->ys.Perm xs->ys.Pairwise (·<=·)->Q (.ref l) (upd H l (.lst (ys.map V.int)))
theorem KA:iM X (.builtin "sorted") Gv:=by
 intro C s U H D S Q I r h;obtain ⟨p,T,rfl,hp,R,q⟩:=h;obtain ⟨u,rfl,P⟩:=r.one;cases P;obtain ⟨z,f,n,rv,i,e⟩:=I.lstM hp;rw [g7] at i;refine sorted_ints (vs:=f) ⟨_,e,rfl,n,rfl⟩ (uD rv) (by lia) fun g E J A K=>?_;have m:((s.heap.push (A3 "list" #[] 0)).update s.heap.objs.size (l8 (·++f.toArray))).objs.size=s.heap.objs.size+1:=by
  rw [W5,Z5]
 have N:(((s.heap.push (A3 "list" #[] 0)).update s.heap.objs.size (l8 (·++f.toArray))).push (A3 "list" f.toArray 0)).get? (s.heap.objs.size+1)=some (A3 "list" f.toArray 0):=by
  rw [← m]; exact j5 _ rfl
 obtain ⟨M,O⟩:=sortedHeap_at (vs:=f) (out:=g) N;have G:=I.laid (h':=sortedAll s.heap f g) (a:=s.heap.objs.size+1) (o:=.lst (E.map V.int)) (t':=s.toks) (fun b o B=>by
  have w:=j6 B;unfold sortedAll;rw [sortedHeap_old (j4 (q7 w)) (by rw [Z5,m]; exact q7 (q7 w))];refine c4 _ ?_;exact (A4 _ _ (j3 (j4 w))).trans (c4 _ B)) (M0 _) ⟨by
  have:=A.length_eq;rw [g7,p7];lia,g.toList,M,tD J,by rw [ci]; exact O⟩
 exact ⟨.ref (s.heap.objs.size+1),_,G,rfl,q _ E (I.hok.fresh (M0 _)) A K⟩
noncomputable def ut(u z:Int):Rat:=i0 z u
section
variable {u:Int}
theorem nF(u z:Int):ut u z=(z:Rat) / (u:Rat):=Rat.divInt_eq_div z u
theorem up(b:0 < u):(0:Rat) < (u:Rat):=by
 have:=pc.mpr b;simpa using this
theorem kQ(f:0 < u):ut u a < ut u b ↔ a < b:=by
 rw [nF,nF];have h:=up f;rw [Rat.div_lt_iff h,Rat.div_mul_cancel (S8 h)];exact pc
theorem vX(f:0 < u):ut u a<=ut u b ↔ a<=b:=by
 rw [← X5,kQ f,Int.not_lt]
theorem tE(u a b:Int):ut u a+ut u b=ut u (a+b):=by
 rw [nF,nF,nF,Rat.intCast_add,V4,V4,V4,Rat.add_mul]
theorem RN(u a b:Int):ut u a - ut u b=ut u (a - b):=by
 rw [nF,nF,nF,Rat.intCast_sub];grind
theorem Et(g:0 < u)(f:0 < b):ut u a / ut u b=ut b a:=by
 rw [nF,nF,nF];have i:=up g;have m:=up f;grind
theorem Es(b:0 < u):ut u u=1:=Rat.divInt_self' (by lia)
theorem BK(u:Int):ut u 0=0:=by
 unfold ut;exact Rat.zero_divInt u
end
noncomputable def IQ(_:Hp)(v:V)(z:Int):Prop:=v=.int z
theorem IQ.tk(h:IQ H v z)(_:TK H H'):IQ H' v z:=h
noncomputable def jM(U:List Str)(i:Int):Str:=U.getD i.toNat ""
noncomputable def eG(U:List Str)(u:Int)(rs:List (Int×Int×Int)):List dE:=rs.map fun r=>(jM U r.1,jM U r.2.1,ut u r.2.2)
noncomputable def nY(U:List Str)(u:Int)(ps:List (Int×Int)):List (aM×Rat):=ps.map fun x=>(a9 (jM U x.1),ut u x.2)
noncomputable def jK(u:Int)(ts:List (Int×Int)):List (aM×Rat):=ts.map fun x=>(c7 x.1,ut u x.2)
noncomputable def mT(U:List Str)(u:Int)(D:AL aM Int):aM->Option Rat
|.inl _=>none
|.inr s=>(aV D (c7 ((U.idxOf s:Nat):Int))).map (ut u)
theorem xS(h0:0<=i)(b:i < U.length):∃ h:i.toNat < U.length,jM U i=U[i.toNat]:=⟨by lia,by
 unfold jM;rw [List.getD_eq_getElem?_getD,c8 (by lia)];rfl⟩
theorem WM{U:List Str}(f:U.Nodup){i:Int}(h0:0<=i)(b:i < U.length):((U.idxOf (jM U i):Nat):Int)=i:=by
 obtain ⟨h,e⟩:=xS h0 b;rw [e,f.idxOf_getElem];lia
theorem sO(f:U.Nodup)(h0:0<=i)(b:i < U.length):mT U u D (a9 (jM U i))=(aV D (c7 i)).map (ut u):=by
 show (aV D (c7 ((U.idxOf (jM U i):Nat):Int))).map (ut u)=_;rw [WM f h0 b]
theorem JR(o:U.Nodup)(h0:0<=b)(f:b < U.length)(c:Int):mT U u (eO D (c7 b) c)=fun p=>if p=a9 (jM U b) then some (ut u c) else mT U u D p:=by
 funext p;cases p with
|inl i=>rfl
|inr s =>
  show (aV (eO D (c7 b) c) (c7 ((U.idxOf s:Nat):Int))).map (ut u)=_;rw [kC];by_cases e:s=jM U b
  ·subst e
   rw [WM o h0 f,if_pos rfl];simp
  ·rw [if_neg,if_neg (fun z=>e (Q6 z))]
   ·rfl
   ·intro z
    have w:((U.idxOf s:Nat):Int)=b:=ay z;obtain ⟨q,g⟩:=xS h0 f;have m:U.idxOf s < U.length:=by lia
    refine e ?_;rw [g];have:U[U.idxOf s]=s:=List.getElem_idxOf m;rw [← this];congr 1;lia
theorem Ar:mT U u [] p=none:=by
 cases p with
|inl i=>rfl
|inr s=>rfl
theorem AR(m:AL aM Rat)(x:aM×Rat)(p:aM):aV (fM m x) p=if p=x.1 then some (match aV m x.1 with|none=>x.2|some q=>if x.2 < q then x.2 else q) else aV m p:=by
 unfold fM;cases e:aV m x.1 with
|none =>
  dsimp only;rw [kC]
|some q =>
  dsimp only;by_cases h:x.2 < q
  ·rw [if_pos h,kC,if_pos h]
  ·rw [if_neg h,if_neg h]
   by_cases hp:p=x.1
   ·rw [if_pos hp,hp,e]
   ·rw [if_neg hp]
noncomputable def WC(D:AL aM Int)(x:Int×Int):AL aM Int:=eO D (c7 x.1) (match aV D (c7 x.1) with|none=>x.2|some v=>if v < x.2 then v else x.2)
theorem Hy(i:U.Nodup)(b:0 < u)(h0:0<=x.1)(f:x.1 < U.length)(h:mT U u D=aV (lst qs)):mT U u (WC D x)=aV (lst (qs++[(a9 (jM U x.1),ut u x.2)])):=by
 rw [mC];unfold WC;rw [JR i h0 f];funext p;rw [AR];dsimp only;by_cases hp:p=a9 (jM U x.1)
 ·rw [if_pos hp,if_pos hp,← h,sO i h0 f]
  cases aV D (c7 x.1) with
 |none=>rfl
 |some v =>
   dsimp only [Option.map];by_cases g:v < x.2
   ·rw [if_pos g,if_neg (by rw [kQ b]; lia)]
   ·rw [if_neg g]
    by_cases m:x.2 < v
    ·rw [if_pos (by rw [kQ b]; lia)]
    ·rw [if_neg (by rw [kQ b]; lia),show x.2=v by lia]
 ·rw [if_neg hp,if_neg hp,h]
noncomputable def Jr(u:Int)(D:AL aM Int)(zs:List (aM×Rat)):Prop:=∀ k:Int,(aV D (c7 k)).map (ut u)=aV (lst zs) (c7 k)
theorem Jr.step(b:0 < u)(h:Jr u D zs):Jr u (WC D x) (zs++[(c7 x.1,ut u x.2)]):=by
 intro k;rw [mC,AR];unfold WC;rw [kC];by_cases hp:(c7 k:aM)=c7 x.1
 ·rw [if_pos hp,if_pos hp,← h]
  cases aV D (c7 x.1) with
 |none=>rfl
 |some v =>
   dsimp only [Option.map];by_cases f:v < x.2
   ·rw [if_pos f,if_neg (by rw [kQ b]; lia)]
   ·rw [if_neg f]
    by_cases g:x.2 < v
    ·rw [if_pos (by rw [kQ b]; lia)]
    ·rw [if_neg (by rw [kQ b]; lia),show x.2=v by lia]
 ·rw [if_neg hp,if_neg hp,h]
section
variable {α:Type}{net:List (jT α)}{push:α -> Option Rat}{tk:Nat -> Option Rat}{m:α -> Option Rat}
theorem DH(H:Rv net push tk m)(E:∀ p t,push p=some t->Pm m p t)(cl:∀ k r a b s,net[k]?=some r->Jn r a b->m a=some s->cU tk k (s+r.2.2)->Pm m b (s+r.2.2)):fJ net push tk m:=by
 refine ⟨H,fun p t h=>?_⟩
 induction h with
|push e=>exact E _ _ e
|run _ B A hn ih =>
  obtain ⟨w,i,C⟩:=ih;rename_i q G J I g _;have f:w+g.2.2<=G+g.2.2:=qx.mpr C;obtain ⟨z,o,D⟩:=cl _ _ _ _ w B A i (hn.le f);exact ⟨z,o,E6 D f⟩
end
noncomputable def Qm(D:AL aM Int)(i:Nat):Nat:=match aV D (c7 (i:Int)) with|none=>10 ^ 108|some v=>v.toNat
noncomputable def mu(n:Nat)(D:AL aM Int):Nat:=((k9 n).map (Qm D)).sum
theorem SJ{f g:Nat->Nat}:∀ n,(∀ i < n,g i<=f i)->((k9 n).map g).sum<=((k9 n).map f).sum
|0,_=>i5 _
|n+1,h=>by
  rw [List.range_succ,u7,u7,og,og];have m:=SJ n fun i b=>h i (q7 b);have o:=h n (D2 n);simp only [D3,rp,sum_cons,sum_nil];lia
theorem SI{f g:Nat->Nat}:∀ n,(∀ i < n,g i<=f i)->j < n->g j < f j->((k9 n).map g).sum < ((k9 n).map f).sum
|0,_,m,_=>absurd m (T5 _)
|n+1,h,m,q=>by
  rw [List.range_succ,u7,u7,og,og];have s:=h n (D2 n);simp only [D3,rp,sum_cons,sum_nil];by_cases e:j=n
  ·subst e
   have o:=SJ j fun i b=>h i (q7 b);lia
  ·have o:=SI n (fun i b=>h i (q7 b)) (by lia) q
   lia
structure EK(U:List Str)(u:Int)(rs:List (Int×Int×Int))(qs:List (aM×Rat))(tk:Nat->Option Rat)(D:AL aM Int):Prop where
 nd:(D.map (·.1)).Nodup
 ky:∀ x∈D,∃ i:Nat,x.1=c7 (i:Int)/\i < U.length
 bd:∀ x∈D,0<=x.2/\x.2<=10 ^ 105 * D.length
 sn:Rv (kn (eG U u rs)) (aV (lst qs)) tk (mT U u D)
 pu:∀ p t,aV (lst qs) p=some t->Pm (mT U u D) p t
section
variable {U:List Str}{u:Int}{rs:List (Int×Int×Int)}{qs:List (aM×Rat)}{tk:Nat -> Option Rat}{D:AL aM Int}
theorem EK.len(h:EK U u rs qs tk D):D.length<=U.length:=by
 have b:(D.map (·.1)) ⊆ (k9 U.length).map fun(i:Nat)=>(c7 (i:Int):aM):=by
  intro k hk;obtain ⟨x,g,rfl⟩:=j1.mp hk;obtain ⟨i,e,f⟩:=h.ky x g;rw [e];exact j1.mpr ⟨i,T6.mpr f,rfl⟩
 have:=iS h.nd b;simpa using this
theorem EK.val(h:EK U u rs qs tk D)(e:aV D (c7 i)=some v):0<=v/\v<=10 ^ 105 * D.length/\0<=i/\i < U.length:=by
 have b:=bU e;obtain ⟨j,m,q⟩:=h.ky _ b;have o:i=(j:Int):=ay m;obtain ⟨f,g⟩:=h.bd _ b;exact ⟨f,g,by lia,by lia⟩
theorem IH{b:Type}{l:AL aM b}{k:aM}{v:b}(h:aV l k=none):(eO l k v).length=l.length+1:=by
 unfold eO;rw [if_neg,i9]
 ·rfl
 ·intro z
  rw [U1] at z;obtain ⟨x,g,e⟩:=z;have f:x.1=k:=of_decide_eq_true e;exact jV h x.2 (by rw [← f]; exact g)
theorem BG{b:Type}{l:AL aM b}{k:aM}{v w:b}(h:aV l k=some w):(eO l k v).length=l.length:=by
 unfold eO;rw [if_pos,g7];rw [U1];exact ⟨_,bU h,decide_eq_true rfl⟩
theorem EK.go(q:U.Nodup)(P:0 < u)(h:EK U u rs qs tk D)(S:U.length<=200){k:Nat}(O:rs[k]?=some r)(ok:0<=r.1/\r.1 < U.length/\0<=r.2.1/\r.2.1 < U.length/\1<=r.2.2/\r.2.2<=10 ^ 31){a b v:Int}(A:(r.1=a/\r.2.1=b)∨(r.2.1=a/\r.1=b))(J:aV D (c7 a)=some v)(hn:cU tk k (ut u (v+r.2.2)))(s:∀ w,aV D (c7 b)=some w->v+r.2.2 < w):
  EK U u rs qs tk (eO D (c7 b) (v+r.2.2))/\mu U.length (eO D (c7 b) (v+r.2.2)) < mu U.length D:=by
 obtain ⟨X,v1,M,N⟩:=h.val J;have W:=h.len;have m:0<=b:=by rcases A with ⟨_,e⟩|⟨_,e⟩ <;> lia
 have o:b < U.length:=by rcases A with ⟨_,e⟩|⟨_,e⟩ <;> lia
 have R:D.length<=(eO D (c7 b) (v+r.2.2)).length/\v+r.2.2<=10 ^ 105 * (eO D (c7 b) (v+r.2.2)).length:=by
  cases e:aV D (c7 b) with
 |none =>
   rw [IH e];lia
 |some w =>
   rw [BG e];have:=s w e;obtain ⟨_,Z,_⟩:=h.val e;lia
 have I:aV D (c7 b)=none∨∃ w,aV D (c7 b)=some w/\v+r.2.2 < w:=by
  cases e:aV D (c7 b) with
 |none=>exact .inl rfl
 |some w=>exact .inr ⟨w,rfl,s w e⟩
 have G:mT U u D (a9 (jM U a))=some (ut u v):=by rw [sO q M N,J]; rfl
 have C:(kn (eG U u rs))[k]?=some (a9 (jM U r.1),a9 (jM U r.2.1),ut u r.2.2):=by
  unfold kn eG;rw [i7,i7,O];rfl
 have B:Jn ((a9 (jM U r.1),a9 (jM U r.2.1),ut u r.2.2):jT aM) (a9 (jM U a)) (a9 (jM U b)):=by
  rcases A with ⟨g,f⟩|⟨g,f⟩
  ·exact .inl ⟨by rw [g],by rw [f]⟩
  ·exact .inr ⟨by rw [g],by rw [f]⟩
 refine ⟨⟨sV h.nd,fun x H=>?_,fun x H=>?_,?_,?_⟩,?_⟩
 ·rcases fL (x:=x.1) (y:=x.2) H with ⟨e,_⟩|⟨_,E⟩
  ·exact ⟨b.toNat,by rw [e]; congr 1; lia,by lia⟩
  ·exact h.ky x E
 ·rcases fL (x:=x.1) (y:=x.2) H with ⟨_,e⟩|⟨_,E⟩
  ·rw [e]
   lia
  ·have:=h.bd x E
   lia
 ·intro p t e
  rw [JR q m o] at e;dsimp only at e;by_cases hp:p=a9 (jM U b)
  ·rw [if_pos hp] at e
   cases e;subst hp;have:=KM.run (h.sn _ _ G) C B (by rw [tE]; exact hn);rw [tE] at this;exact this
  ·rw [if_neg hp] at e
   exact h.sn _ _ e
 ·intro p t e
  obtain ⟨w,g,K⟩:=h.pu p t e;rw [JR q m o];show ∃ w,(if p=a9 (jM U b) then some (ut u (v+r.2.2)) else mT U u D p)=some w/\w<=t;by_cases hp:p=a9 (jM U b)
  ·refine ⟨_,if_pos hp,?_⟩
   rw [hp,sO q m o] at g;cases f:aV D (c7 b) with
  |none=>rw [f] at g; cases g
  |some z =>
    rw [f] at g;cases g;have:=s z f;exact E6 ((vX P).mpr (by lia)) K
  ·exact ⟨w,by rw [if_neg hp]; exact g,K⟩
 ·unfold mu
  refine SI (j:=b.toNat) _ (fun i T=>?_) (by lia) ?_
  ·unfold Qm
   rw [kC];by_cases e:(c7 (i:Int):aM)=c7 b
   ·rw [if_pos e,e]
    rcases I with f|⟨w,f,Q⟩
    ·rw [f]
     dsimp only;lia
    ·rw [f]
     dsimp only;lia
   ·rw [if_neg e]
    exact i5 _
  ·unfold Qm
   have e:(c7 ((b.toNat:Nat):Int):aM)=c7 b:=by congr 1; lia
   rw [e,kC,if_pos rfl];rcases I with f|⟨w,f,Q⟩
   ·rw [f]
    dsimp only;lia
   ·rw [f]
    obtain ⟨Y,_⟩:=h.val f;dsimp only;lia
noncomputable def Bu(tk:Nat->Option Rat)(u:Int)(k:Nat)(T a b:Int)(D:AL aM Int):Prop:=∀ v,aV D (c7 a)=some v->cU tk k (ut u (v+T))->∃ w,aV D (c7 b)=some w/\w<=v+T
noncomputable def Ki(tk:Nat->Option Rat)(u:Int)(rs:List (Int×Int×Int))(k:Nat)(D:AL aM Int):Prop:=∀ r,rs[k]?=some r->Bu tk u k r.2.2 r.1 r.2.1 D/\Bu tk u k r.2.2 r.2.1 r.1 D
theorem EK.falls(q:U.Nodup)(J:0 < u)(h:EK U u rs qs tk D)(ok:∀ r∈rs,0<=r.1/\r.1 < U.length/\0<=r.2.1/\r.2.1 < U.length/\1<=r.2.2/\r.2.2<=10 ^ 31)(cl:∀ k,Ki tk u rs k D):fJ (kn (eG U u rs)) (aV (lst qs)) tk (mT U u D):=by
 refine DH h.sn h.pu fun k r a b s i I hs hn=>?_;unfold kn eG at i;rw [i7,i7] at i;cases e:rs[k]? with
|none=>rw [e] at i; cases i
|some o =>
  rw [e] at i;cases i;obtain ⟨A,B,C,E,P,Q⟩:=ok o (i3 e);obtain ⟨G,H⟩:=cl k o e;have go:∀ x y:Int,0<=x->x < U.length->0<=y->y < U.length->Bu tk u k o.2.2 x y D->mT U u D (a9 (jM U x))=some s->cU tk k (s+ut u o.2.2)->Pm (mT U u D) (a9 (jM U y)) (s+ut u o.2.2):=by
   intro x y K M N O c m hn;rw [sO q K M] at m;cases f:aV D (c7 x) with
  |none=>rw [f] at m; cases m
  |some v =>
    rw [f] at m;cases m;rw [tE] at hn ⊢;obtain ⟨w,g,l⟩:=c v f hn;exact ⟨ut u w,by rw [sO q N O,g]; rfl,(vX J).mpr l⟩
  rcases I with ⟨f,g⟩|⟨f,g⟩
  ·dsimp only at f g
   subst f g;exact go _ _ A B C E G hs hn
  ·dsimp only at f g
   subst f g;exact go _ _ C E A B H hs hn
end
noncomputable abbrev cl(x:Str):List Nat:=x.cps.toList
theorem DS(a b:Str):cl (a++b)=cl a++cl b:=by
 show (a.cps++b.cps).toList=_;rw [V7]
theorem yJ(x:Str):(cl x).length=x.length:=by
 show x.cps.toList.length=x.cps.size;simp
theorem Lc(h0:0<=i)(b:i<=z.length):cl (W9 z none (some i))=(cl z).take i.toNat:=by
 have:=slice_to_min_closes (x:=z) (n:=i) h0 rfl;rw [beq_iff_eq.mp this,if_neg (by lia)];show ((cl z).drop 0).take (i - 0).toNat=_;rw [Int.sub_zero,List.drop_zero]
theorem YV(h0:0<=i)(b:i<=z.length):cl (W9 z (some i) none)=(cl z).drop i.toNat:=by
 rw [slice_from_eq h0 b rfl];show ((cl z).drop i.toNat).take ((z.length:Int) - i).toNat=_;refine ar ?_;rw [sx,yJ];lia
noncomputable def gnm(k:Nat):Str:=⟨#[113,46,113,46,97+k / 26,46,97+k % 26]⟩
noncomputable def Nq(x:Str):Prop:=(cl x).length≠7∨(cl x)[1]?≠some 46
noncomputable def Ox(l:List Nat):Prop:=∀ c∈l,97<=c/\c<=122
theorem Nm(e:cl x=y1++c::(y2++t))(f:Ox y1)(i:97<=c/\c<=122)(g:Ox y2)(m:t.length=0∨t.length=2∨t.length=5∨t.length=13):Nq x:=by
 unfold Nq;rw [e];cases y1 with
|nil =>
  cases y2 with
 |nil =>
   refine .inl ?_;simp only [J5,B7];lia
 |cons a r =>
   refine .inr ?_;have:=g a (E9 ..);simp only [J5,C2,Z9,Z8,ne_eq,V6];lia
|cons a r =>
  refine .inr ?_;cases r with
 |nil =>
   simp only [C2,J5,Z9,Z8,ne_eq,V6];lia
 |cons b r =>
   have:=f b (A7 _ (E9 ..));simp only [C2,Z9,Z8,ne_eq,V6];lia
noncomputable def Kg(Y:List Nat)(n:Int)(U:List Str):Prop:=∀(k:Nat)(x:Str),U[k]?=some x->∃ r,cl x=Y++(97+((n+3 * (k:Int)) % 26).toNat)::r
theorem Kg.nodup(h:Kg Y n U)(q:U.length<=8):U.Nodup:=by
 rw [List.nodup_iff_pairwise_ne,X7];intro i j g o m e;obtain ⟨s,b⟩:=h i _ (c8 g);obtain ⟨w,f⟩:=h j _ (c8 o);rw [e,f] at b;have:=(B5 (List.append_cancel_left b)).1;lia
theorem Kg.snoc(h:Kg Y n U)(e:cl x=Y++(97+((n+3 * (U.length:Int)) % 26).toNat)::r):Kg Y n (U++[x]):=by
 intro k y b;rcases bv k U.length with hk|hk
 ·rw [K8 hk] at b
  exact h k y b
 ·rw [E3 hk] at b
  have:k - U.length=0:=by
   have:=(b9.mp b).1;simp at this;lia
  rw [this] at b;cases b;have:k=U.length:=by lia
  subst this;exact ⟨r,e⟩
noncomputable def grown(U:List Str)(i:Nat):List Str:=U++(k9 i).map gnm
noncomputable def Pk(t:List Nat):Prop:=∀ c∈t,c=46∨97<=c/\c<=122
noncomputable def Eo(x:Str):Prop:=Pk (cl x)/\(cl x).length<=30
theorem Hu(e:cl x=y1++c::(y2++t))(f:Ox y1)(i:97<=c/\c<=122)(g:Ox y2)(q:y1.length+y2.length<=7)(o:Pk t)(m:t.length<=20):Eo x:=by
 refine ⟨fun d b=>?_,by rw [e]; simp only [i9,B7]; lia⟩;rw [e] at b;rcases m9.mp b with h|h
 ·exact .inr (f d h)
 rcases n6.mp h with rfl|h
 ·exact .inr i
 rcases m9.mp h with h|h
 ·exact .inr (g d h)
 ·exact o d h
noncomputable def EJ(z:Int):Int:=if z > 0 then z else 0
theorem Cv(b:0 < u)(g:0 < T)(o:Option Int)(m:Int):wQ (o.map (ut u)) (ut u T) (ut u m)=ut T (EJ (m - o.getD m)):=by
 cases o with
|none =>
  show (0:Rat)=ut T (EJ (m - m));rw [Int.sub_self];exact (BK T).symm
|some v =>
  show (if ut u m < ut u v then (0:Rat) else (ut u m - ut u v) / ut u T)=ut T (EJ (m - v));unfold EJ;by_cases h:m < v
  ·rw [if_pos ((kQ b).mpr h),if_neg (by lia),BK]
  ·rw [if_neg (by rw [kQ b]; exact h),RN,Et b g]
   by_cases f:m - v > 0
   ·rw [if_pos f]
   ·rw [if_neg f,show m - v=0 by lia]
theorem Ii(b:0 < u)(tk:Option Int)(m:Int):xW (tk.map (ut u)) (ut u m)=decide (tk.getD (m+1)<=m):=by
 cases tk with
|none =>
  show false=decide (m+1<=m);rw [decide_eq_false (by lia)]
|some w =>
  show (!decide (ut u m < ut u w))=decide (w<=m);by_cases h:m < w
  ·rw [decide_eq_true ((kQ b).mpr h),decide_eq_false (by lia)]
   rfl
  ·rw [decide_eq_false (by rw [kQ b]; exact h),decide_eq_true (by lia)]
   rfl
theorem Ky(i:0 < u)(b:0 < T)(f g tk:Option Int)(m:Int):BO (f.map (ut u)) (g.map (ut u)) (tk.map (ut u)) (ut u T) (ut u m)=if tk.getD (m+1)<=m then none else if T<=EJ (m - f.getD m)+EJ (m - g.getD m) then none else some (ut T (EJ (m - f.getD m)),ut T (T - EJ (m - g.getD m))):=by
 unfold BO;rw [Ii i,Cv i b,Cv i b];generalize EJ (m - f.getD m)=x;generalize EJ (m - g.getD m)=y;by_cases h:tk.getD (m+1)<=m
 ·rw [decide_eq_true h,if_pos rfl,if_pos h]
 ·rw [decide_eq_false h,if_neg (by decide),if_neg h]
  have e:(1:Rat) - ut T y=ut T (T - y):=by rw [← Es b,RN]
  rw [e];by_cases o:T<=x+y
  ·rw [if_pos o,if_neg (by rw [kQ b]; lia)]
  ·rw [if_neg o,if_pos (by rw [kQ b]; lia)]
theorem VE{U:List Str}{i:Int}(h0:0<=i)(b:i < U.length):yN (U.map V.str) i=some (.str (jM U i)):=by
 obtain ⟨h,e⟩:=xS h0 b;have f:(U.map V.str)[i.toNat]?=some (.str (jM U i)):=by
  rw [i7,c8 h,e];rfl
 have:=fX f;rwa [ei h0] at this
theorem kR{b:Type}{l:List b}{i:Nat}{x:b}(h:l[i]?=some x):l.take (i+1)=l.take i++[x]:=by
 have f:=(b9.mp h).1;rw [A5 f];have:=(b9.mp h).2;rw [this]
theorem Ap{U:List Str}{u:Int}{b:List (Int×Int×Int)}{i:Nat}{r:Int×Int×Int}(h:b[i]?=some r):kn (eG U u (b.take (i+1)))=kn (eG U u (b.take i))++[(a9 (jM U r.1),a9 (jM U r.2.1),ut u r.2.2)]:=by
 rw [kR h];simp [kn,eG]
theorem VB{U:List Str}{u:Int}{ps:List (Int×Int)}{i:Nat}{r:Int×Int}(h:ps[i]?=some r):nY U u (ps.take (i+1))=nY U u (ps.take i)++[(a9 (jM U r.1),ut u r.2)]:=by
 rw [kR h];simp [nY]
theorem RW{u:Int}{ps:List (Int×Int)}{i:Nat}{r:Int×Int}(h:ps[i]?=some r):jK u (ps.take (i+1))=jK u (ps.take i)++[(c7 r.1,ut u r.2)]:=by
 rw [kR h];simp [jK]
noncomputable def nG(rs:List (Int×Int×Int)):List Int:=rs.map (·.1)++rs.map (·.2.1)
noncomputable def iQ(rs:List (Int×Int×Int))(ps:List (Int×Int)):List (Int×Int):=ps.filter fun x=>decide (x.1∈nG rs)
theorem ZY{b:List (Int×Int×Int)}{ps:List (Int×Int)}{i:Nat}{r:Int×Int}(h:ps[i]?=some r)(c:r.1∈nG b):iQ b (ps.take (i+1))=iQ b (ps.take i)++[r]:=by
 rw [kR h];unfold iQ;rw [D7,List.filter_cons_of_pos (by simpa using c),List.filter_nil]
theorem Ha{b:List (Int×Int×Int)}{ps:List (Int×Int)}{i:Nat}{r:Int×Int}(h:ps[i]?=some r)(c:¬ r.1∈nG b):iQ b (ps.take (i+1))=iQ b (ps.take i):=by
 rw [kR h];unfold iQ;rw [D7,List.filter_cons_of_neg (by simpa using c),List.filter_nil,D6]
theorem MQ(h:x∈iQ rs ps):x∈ps:=(cz.mp h).1
theorem MR(b:List (Int×Int×Int))(ps:List (Int×Int)):(iQ b ps).length<=ps.length:=bx _ _
structure mF(U:List Str)(u:Int)(rs:List (Int×Int×Int))(ps ts:List (Int×Int)):Prop where
 u0:0 < u
 u1:u<=10 ^ 12
 nd:U.Nodup
 n2:2<=U.length
 n98:U.length<=98
 rok:∀ r∈rs,0<=r.1/\r.1 < U.length/\0<=r.2.1/\r.2.1 < U.length/\1<=r.2.2/\r.2.2<=10 ^ 31
 pok:∀ r∈ps,0<=r.1/\r.1 < U.length/\0<=r.2/\r.2<=10 ^ 105
 tok:∀ r∈ts,0<=r.1/\0<=r.2/\r.2<=10 ^ 105
 r1:1<=rs.length
 rl:rs.length<=110
 pl:ps.length<=20
 tl:ts.length<=20
 ns:∀ x∈U,Eo x
section
variable {G:Hp}{dd:b8}{U:List Str}{u:Int}{rs:List (Int×Int×Int)}{ps ts:List (Int×Int)}{ln lr lp lt:b8}
theorem JM(b:G p=some (.dK kv))(f:G q=some (.lst xs)):p≠q:=fun e=>by rw [e,f] at b; cases b
end
theorem oS(m:KQ IQ H kvs D)(k:aM)(z:Int):(bJ kvs k).getD (.int z)=.int ((aV D k).getD z):=by
 rcases m.val (k:=k) with ⟨f,g⟩|⟨v,b,f,g,i⟩
 ·rw [f,g]
  rfl
 ·rw [f,g]
  exact i
theorem Ea(D:AL aM Int)(x:Int×Int):(if (aV D (c7 x.1)).getD x.2 < x.2 then (aV D (c7 x.1)).getD x.2 else x.2)=(match aV D (c7 x.1) with|none=>x.2|some v=>if v < x.2 then v else x.2):=by
 cases aV D (c7 x.1) with
|none =>
  show (if x.2 < x.2 then x.2 else x.2)=x.2;split <;> rfl
|some v=>rfl
theorem yO{b:Type}(l:AL aM b)(k:aM)(v:b):(eO l k v).length<=l.length+1:=by
 cases e:aV l k with
|none=>rw [IH e]; exact i5 _
|some w=>rw [BG e]; exact M0 _
theorem NI{P:Int->Prop}(h:∀ y∈D,P y.2)(b:P x.2):∀ y∈WC D x,P y.2:=by
 intro y f;unfold WC at f;rcases fL (x:=y.1) (y:=y.2) f with ⟨_,e⟩|⟨_,g⟩
 ·rw [e]
  cases e2:aV D (c7 x.1) with
 |none=>exact b
 |some v =>
   dsimp only;split
   ·exact h _ (bU e2)
   ·exact b
 ·exact h y g
theorem Au{P:aM->Prop}(h:∀ y∈D,P y.1)(g:P (c7 x.1)):∀ y∈WC D x,P y.1:=by
 intro y b;unfold WC at b;rcases fL (x:=y.1) (y:=y.2) b with ⟨e,_⟩|⟨_,f⟩
 ·rw [e]
  exact g
 ·exact h y f
theorem EK.start(m:(D.map (·.1)).Nodup)(g:∀ x∈D,∃ i:Nat,x.1=c7 (i:Int)/\i < U.length)(f:∀ x∈D,0<=x.2/\x.2<=10 ^ 105)(h:mT U u D=aV (lst qs)):EK U u rs qs tk D:=by
 refine ⟨m,g,fun x b=>?_,fun p t e=>?_,fun p t e=>?_⟩
 ·have:=f x b
  have o:0 < D.length:=np b;lia
 ·rw [h] at e
  exact .push e
 ·rw [h]
  exact ⟨t,e,K0⟩
theorem Ib(b:(D.map (·.1)).Nodup):((WC D x).map (·.1)).Nodup:=sV b
theorem Jh(h:aV D (c7 a)=none):Bu tk u k T a b D:=fun v e=>by rw [h] at e; cases e
theorem Ji(h:aV D (c7 a)=some v)(hn:¬ cU tk k (ut u (v+T))):Bu tk u k T a b D:=fun f e n=>by
 rw [h] at e;cases e;exact absurd n hn
theorem Oj(h:aV D (c7 a)=some v)(hn:¬ v+T < (aV D (c7 b)).getD (v+T+1)):Bu tk u k T a b D:=fun f e n=>by
 rw [h] at e;cases e;cases e2:aV D (c7 b) with
|none =>
  rw [e2] at hn;exact absurd (show v+T < v+T+1 by lia) hn
|some w =>
  rw [e2] at hn;exact ⟨w,rfl,Int.not_lt.mp hn⟩
structure Jt(U:List Str)(u:Int)(rs:List (Int×Int×Int))(qs:List (aM×Rat))(tk:Nat->Option Rat)(D0 D:AL aM Int)(c:Bool)(Z:Prop):Prop where
 d:EK U u rs qs tk D
 le:mu U.length D<=mu U.length D0
 ch:c=true->mu U.length D < mu U.length D0
 st:c=false->D=D0/\Z
theorem Jt.imp(h:Jt U u rs qs tk D0 D c Z)(k:D=D0->Z->Z'):Jt U u rs qs tk D0 D c Z':=⟨h.d,h.le,h.ch,fun e=>⟨(h.st e).1,k (h.st e).1 (h.st e).2⟩⟩
theorem Lh(f:Nat->St->Hp->Prop)(h0:f m0 σ H)(hs:∀ m σ H,f m σ H->c σ H fun b H1=>if b=true then ∃ N:St->Hp->Prop,(∀ σ' H',N σ' H'->∃ m',m' < m/\f m' σ' H')/\tb { D with nx:=N,ct:=N,bk:=D.nx } σ H1 else D.nx σ H1):IT c tb D σ H:=⟨f,⟨_,h0⟩,hs⟩
theorem OV(h:z.natAbs<=10 ^ 115):Sm 8000 z:=B8 h (by decide)
theorem VY(z:Int):0<=EJ z:=by
 unfold EJ;split <;> lia
theorem VZ(h:z<=b)(h0:0<=b):EJ z<=b:=by
 unfold EJ;split <;> lia
theorem VC{S:List Int}{i:Int}(h0:0<=i)(f:i < S.length):∃ m∈S,yN (S.map V.int) i=some (.int m):=by
 have b:i.toNat < S.length:=by lia
 refine ⟨S[i.toNat],C5 b,?_⟩;have:(S.map V.int)[i.toNat]?=some (.int S[i.toNat]):=by
  rw [i7,c8 b];rfl
 have:=fX this;rwa [ei h0] at this
theorem Kx(g:0 < u)(i:u<=10 ^ 13)(h:z.natAbs<=10 ^ 115):Sz 400 (ut u z):=by
 have b:u≠0:=by lia
 have e:=pM (t:=z) b;have m:=CU (t:=z) b;have f:=oO (t:=z) b;have o:=sP (t:=z) b;refine ⟨?_,?_⟩
 ·show ((i0 z u).num).natAbs < 2 ^ 400
  rw [e.1];exact B8 (show (eM z u).natAbs<=10 ^ 115 by lia) (by decide)
 ·show (((i0 z u).den:Int)).natAbs < 2 ^ 400
  rw [e.2];have:eQ z u ∣ u:=⟨_,f.symm⟩
  have q:=fh g this;exact B8 (show (eQ z u).natAbs<=10 ^ 13 by lia) (by decide)
section
open Sem (wp)
variable {prog:j2}{w:k6}{A:q4}{E:a8 -> c5 -> Prop}{s:c5}
variable {z TI TO i1 i2 l1 l2:b8}{k:Nat}{xs ys:Array a8}
end
theorem bB.turnL(ch:List b8)(I:bB X ud σ H s)(g:∀ b∈ch,vF X ud H b)(k:∀ b o,b∉ch->s.heap.get? b=some o->h'.get? b=some o):bB X ud σ H { s with heap:=h',toks:=t' }:=by
 refine I.step (g':=s.gens) (d':=s.drawn) (ch:=ch) (fun b E=>?_) (fun b o _ _ f e _=>k b o f e) (fun b o _ _ f e _=>⟨o.slots,k b o f e⟩) (fun _ _ _ _ n=>n)
  (fun b o f e=>⟨o,k b o f e⟩) (fun _ _ e=>e) (fun _ _ _ e=>e) (fun b N e=>⟨#[],by rw [e]; simp⟩) (fun m G=>?_) (fun b u e=>?_) I.bare
 ·obtain ⟨K,A,M,B,C,D⟩:=g b E
  exact ⟨B,A,C,D⟩
 ·obtain ⟨o,w,i,J,r⟩:=G
  exact ⟨o,w,i,k _ o (fun z=>(g _ z).2.1 rfl) J,r⟩
 ·refine (I.hok b u e).stay (fun c v f q=>k c v ?_ q) (fun _ q=>q) fun _ _ q=>q
  intro z;have:=(g c z).1;rcases f with rfl|f
  ·rw [this] at e; cases e
  ·rw [this] at f; cases f
section
variable {X:Cx}{ud:List (b8×Obj)}{σ:St}{H:Hp}{s:c5}{tg:A6}{K:m7}{D:iI}
end
theorem WI{f:Type}:∀{kvs:List (f×V)}{vs:List (f×a8)}{i:Nat}{k:f}{v:V},KV kvs vs->kvs[i]?=some (k,v)->∃ u,vs[i]?=some (k,u)/\bG v u
|_,_,_,_,_,.nil,e=>by simp at e
|_,_,0,k,v,.cons (b:=q) r _,e=>by
  simp at e;subst e;exact ⟨q.2,by simp; exact qg r.1.symm rfl,r.2⟩
|_,_,i+1,k,v,.cons _ t,e=>by
  obtain ⟨u,h,r⟩:=WI (i:=i) (k:=k) (v:=v) t (by simpa using e);exact ⟨u,by simpa using h,r⟩
theorem bB.pairAt(I:bB X ud σ H s)(f:bB X ud σ H { s with heap:=h2,toks:=s.toks })(J:bG x u)(C:bG y u2)(i:h2.get? s.heap.objs.size=some { cls:=.type "tuple",data:=.seq #[u,u2] }):bB X ud σ (upd H s.heap.objs.size (.tup [x,y])) { s with heap:=h2,toks:=s.toks }:=by
 have B:H s.heap.objs.size=none:=I.hok.fresh (i5 _);have A:∀{b:b8},b < s.heap.objs.size->H b=none->upd H s.heap.objs.size (.tup [x,y]) b=none:=fun {b} w e=>by rw [aZ (j4 w)]; exact e
 have g:∀{b:b8}{o:HO},H b=some o->upd H s.heap.objs.size (.tup [x,y]) b=some o:=fun {b o} e=>by rw [aZ (aB e B)]; exact e
 refine ⟨f.ok,f.os,f.bare,⟨f.base.keep,f.base.slot,fun b o q n E=>A ?_ (f.base.free b o q n E),f.base.there,fun b D q=>g (f.base.tups b D q),fun b o v q=>g (f.base.frzs b o v q),fun b G q=>?_⟩,f.loc,f.cell,A I.lt f.free,fun y c q=>A ?_ (f.freeC y c q),fun p hp=>?_,fun b o q=>?_,f.len⟩
 ·exact c9 (j6 q) I.sz
 ·obtain ⟨m,z⟩:=f.base.tbls b G q
  exact ⟨m,g z⟩
 ·obtain ⟨v,z⟩:=I.cell y c q
  exact z.lt
 ·obtain ⟨K,M,N⟩:=f.pin p hp
  exact ⟨K,A (j6 (I.pin p hp).1) M,N⟩
 ·by_cases w:b=s.heap.objs.size
  ·subst w
   rw [aC] at q;cases q;exact ⟨⟨by rw [p7]; simp,_,i,rfl⟩,[u,u2],.cons J (.cons C .nil),_,i,rfl,_,rfl⟩
  ·rw [aZ w] at q
   exact (f.hok b o q).stay (fun _ _ _ z=>z) (fun c z=>g z) fun c D z=>g z
noncomputable def Kd(a:b8)(o:Obj)(kvs:List (aM×V)):It:=
 ⟨fun i H=>H a=some (.frz o (.dK kvs))/\i < kvs.length,fun i H x H'=>∃ T k v,x=.ref T/\H T=none/\H'=upd H T (.tup [kV k,v])/\kvs[i]?=some (k,v),fun i H=>H a=some (.frz o (.dK kvs))/\kvs.length<=i⟩
theorem IR{P:j2}{w:k6}{K:m7}{C:List A6}{k1:Nat}{Q:Pos}(a it:b8)(o:Obj)(kvs:List (aM×V)):
  RF P w K (.Tuple C k1 Q) (Kd a o kvs) [it] it (fun i h=>∃ es ep ok O,o.data=.dict es ep/\IsItemIter h it a i kvs.length ep ok O) where
 mem:=by simp
 obj:=fun i h st b hb=>by
  have e:b=it:=by simpa using hb
  subst e;obtain ⟨_,_,_,_,_,e⟩:=st;exact ⟨_,e,fun v z=>nomatch z⟩
 keep:=fun i h h' ⟨es,ep,ok,O,q,st⟩ k=>⟨es,ep,ok,O,q,k it (by simp) _ st⟩
 item:=by
  intro X hP hw hK G i B s σ H E I S st hg;subst hP hw hK;obtain ⟨ha,T⟩:=hg;obtain ⟨hd,vs,es,ep,m,R,U⟩:=vR I ha;obtain ⟨Z,Y,ok,O,g,st⟩:=st;rw [R] at g;cases g;obtain ⟨⟨k,v⟩,hx⟩:∃ p,kvs[i]?=some p:=⟨_,c8 T⟩
  obtain ⟨u,hu,ru⟩:=WI m hx;have f:=m.length;rw [f] at st;have lit:=j6 st;refine wpAny_pyNext_items_item st U hu fun N h' M J hT hsz kp=>?_;refine ⟨_,rfl,wpAny_letOwnedTupleGo_items (s:={ s with heap:=h' }) J fun h2 b1 sb=>?_⟩;have D:s.heap.objs.size≠it:=y6 lit;have k2:∀ c o,c∉[it]->s.heap.get? c=some o->h2.get? c=some o:=fun c o n q=>by
   have n':c≠it:=fun z=>n (by simp [z]);exact (sb.2 c n').trans (kp c o n' q)
  have I1:bB X B σ H { s with heap:=h2,toks:=s.toks }:=I.turnL [it] S k2;have hT2:h2.get? s.heap.objs.size=some { cls:=.type "tuple",data:=.seq #[N,u] }:=(sb.2 _ D).trans hT;have I2:=I.pairAt I1 (CZ M) ru hT2;refine ⟨.ref s.heap.objs.size,_,I2,rfl,⟨s.heap.objs.size,k,v,rfl,I.hok.fresh (i5 _),rfl,hx⟩,⟨es,ep,N,u,R,by rw [f]; exact b1⟩,fun c G=>?_⟩;have e:c=it:=by simpa using G
  subst e;rw [aZ (j3 D)];exact (S c G).1
 done:=by
  intro X hP hw hK G i B s σ H E I S st hg;subst hP hw hK;obtain ⟨ha,T⟩:=hg;obtain ⟨hd,vs,es,ep,m,R,U⟩:=vR I ha;obtain ⟨Z,Y,ok,O,g,st⟩:=st;rw [R] at g;cases g;have f:=m.length;rw [f] at st T;refine wpAny_pyNext_items_end (show X.A.in1.handled=none from I.ok.hd G) st U (by simpa using T) fun h' eb=>⟨rfl,?_⟩
  exact I.turnL (t':=s.toks) [it] S fun c o n q=>eb c o (fun z=>n (by simp [z])) q
 self:=fun _ _ _ _ _ ⟨_,_,_,_,_,st⟩ h=>PySem.W.kcp_self st h
section
variable {X:Cx}
noncomputable def JU(C:b8->Prop)(tl:TE):TI:=fun σ H R=>tl σ H fun x H1=>∃ a,C a/\x=.ref a/\∃ kvs,H1 a=some (.dK kvs)/\∀ o,R (Kd a o kvs) (upd H1 a (.frz o (.dK kvs)))
theorem GO(C:b8->Prop)(U:PE X l tl)(f:M6 l "items" X.env (C8 l X.env)=C8 l X.env:=by rfl)(i:(ug.endLine==pos.line)=true:=by rfl):PI X (.Tuple elts k1 tpos) (.Call (.Attribute l "items" ug) [] [] pos) (JU C tl):=by
 intro B s Z H R I h;refine aq (T:="dict") (id:="dict.items") f rfl i R9 ke PySem.F.type_dict_items (cY (U B s Z H _ I h) fun v m ⟨x,H1,N,Y,W⟩=>?_);obtain ⟨a,_,e,A,hk,q⟩:=W;subst e;cases Y;obtain ⟨_,S,M,K,o,P,D,g,r⟩:=N.hok a _ hk;have O:m.heap.DictAt (bR X.prog X.w) a M D:=⟨o,P,g,r⟩
 have E:=O.dictOf;have G:=N.freeze hk g;refine ⟨E.typeIs,E.mapOf.noDict,?_⟩;show e9 _ _ (oo pos (.builtin "dict.items") [.ref a] [] []) _ _ m;refine method_meetsIn ke PySem.F.entry_dict_items rfl (PySem.evalArgs_none ⟨rfl,E.typeIs,PySem.F.args_dict_items_1 _,_,meets_dict_items (bR X.prog X.w) a S,⟨M,E⟩,?_⟩);refine wpAny_pyIter_items (knd:=bR X.prog X.w) (d:=a) (kvs:=M) (ep:=D) ⟨_,j5 _ rfl,rfl,rfl⟩ (O.push _) ?_;have J:(m.heap.push { cls:=.type "dict_items",data:=.fields #[.ref a] }).objs.size=m.heap.objs.size+1:=J3 ..;refine ⟨_,[_],_,_,_,rfl,(G.kept (t':=m.toks) fun b o e=>c4 _ (c4 _ e)),IR a _ o A,⟨P,D,.none,.none,r.2.1,?_⟩,fun b Q=>?_,q o⟩
 ·rw [K.length]
  exact j5 _ rfl
 ·have e:b=(m.heap.push { cls:=.type "dict_items",data:=.fields #[.ref a] }).objs.size:=by simpa using Q
  rw [J] at e;subst e;exact G.fpOk (M0 _) (G.hok.fresh (M0 _))
variable {scope:V5}{tn names:List Str}{is:List Nat}{elt l:A6}{elts:List A6}{k1:Nat}{tpos ug uh:Pos}{ifs:List A6}{pos:Pos}{tl te:TE}{tc:Option TT}{g:TG}
noncomputable def SD(tl:TE)(te:TE)(tc:Option TT)(g:TG)(k:Nat)(is:List Nat):TE:=fun σ H Q=>∃ a,nU H a/\ER (JU (·=a) tl) te tc g k is σ H fun v H'=>Q v (melt a H')
theorem VH(w:rB X scope tn names is)(B:X.calm=true)(G:PE X l tl)(E:∀ C s0 H0 ex,PG (bX X scope (cE X.env names) (tn++names) C s0 H0 ex) (.Tuple elts k1 tpos) g)(D:∀ C s0 H0 ex,PE (bX X scope (cE X.env names) (tn++names) C s0 H0 ex) elt te)(J:∀ C s0 H0 ex,Bt (bX X scope (cE X.env names) (tn++names) C s0 H0 ex) ifs tc)(b:M6 l "items" X.env (C8 l X.env)=C8 l X.env:=by rfl)(f:(ug.endLine==uh.line)=true:=by rfl)(hs:∀ x,P4 (.Call (.Attribute l "items" ug) [] [] uh) X.env x=D8 x:=by intro _; rfl):
  PE X (.ListComp elt [⟨.Tuple elts k1 tpos,.Call (.Attribute l "items" ug) [] [] uh,ifs,0⟩] scope pos) (SD tl te tc g tn.length is):=by
 intro i s M H Q I h;obtain ⟨a,K,h⟩:=h;have A:∀ o u,X.H₀ a≠some (.frz o u):=fun o u e=>K _ _ (I.base.frzs a o u e);refine cY (eJ w B (GO (·=a) G b f) E D J hs i s M H _ I h) fun u O ⟨v,N,m,r,q⟩=>⟨v,_,m.melt A,r,q⟩
end
section
variable {σ:St}{H:Hp}{Q:VK}{te:TE}{uf:St}{K:m7}
theorem ZR(a:b8)(f:nU H a)(h:tl σ H fun x H1=>∃ b,b=a/\x=.ref b/\∃ kvs,H1 b=some (.dK kvs)/\∀ o',lD te o g (x8 k none) (pU σ is) (fun v H'=>Q v (melt a H')) (Kd b o' kvs) (upd H1 b (.frz o' (.dK kvs)))):SD tl te o g k is σ H Q:=⟨a,f,h⟩
theorem UP(hn:kvs.length<=1000)(w:b8->Nat->List V->Hp->Prop)(h0:∀ f,H f=none->w f 0 [] (upd H f (.lst [])))(D:∀ f i ys g,H f=none->i<=kvs.length->w f i ys g->g a=some (.frz o (.dK kvs)))(hs:∀ f i ys g T k v,H f=none->kvs[i]?=some (k,v)->ys.length<=i->g f=some (.lst ys)->g T=none->w f i ys g->c (some (kV k)::some v::uf) (upd g T (.tup [kV k,v])) fun b H3=>if b=true then te (some (kV k)::some v::uf) H3 (AX kvs.length f (w f) ys i) else yF kvs.length f (w f) ys i H3)(M:∀ f ys g,H f=none->g f=some (.lst ys)->ys.length<=kvs.length->w f kvs.length ys g->Q (.ref f) g):lD te (some c) (HU K 2 (oU (gM 0) (oU (gM 1) QN))) (x8 2 none) uf Q (Kd a o kvs) H:=by
 intro f s;refine ⟨fW kvs.length f (w f),⟨kvs.length,by simp,y8 _,i5 _,aC,h0 f s⟩,fun i m ys g J=>?_⟩;obtain ⟨rfl,G,C,A,p⟩:=J;have q:=D f i ys g s G p;refine ⟨A,?_⟩;rcases bv i kvs.length with E|B
 ·refine .inr ⟨eA (u8 C (by lia)),⟨q,E⟩,fun U x P N z=>?_⟩
  obtain ⟨T,k,v,rfl,I,rfl,O⟩:=z;obtain ⟨R,S,rfl⟩:=Ih N;exact vJ aC ⟨kV k,[v],rfl,v,[],rfl,rfl,⟨[some (kV k),some v],rfl,rfl⟩,hs f i ys g T k v s O C A I p⟩
 ·cases (fk G B:i=kvs.length)
  exact .inl ⟨⟨q,i5 _⟩,M f ys g s A C p⟩
end
section
variable {D:iI}{σ:St}{H:Hp}
theorem Me(k:tl σ H fun x H1=>∃ a,C a/\x=.ref a/\∃ kvs,H1 a=some (.dK kvs)/\∀ o,R (Kd a o kvs) (upd H1 a (.frz o (.dK kvs)))):JU C tl σ H R:=k
theorem ZM(b:Nat->St->Hp->Prop)(h0:b 0 σ H)(s:∀ i σ H,i<=kvs.length->b i σ H->H a=some (.frz o (.dK kvs)))(hs:∀ i k v T σ H,kvs[i]?=some (k,v)->H T=none->b i σ H->g (.ref T) σ (upd H T (.tup [kV k,v])) fun σ2 H2=>tb ⟨b (i+1),D.rt,D.nx,b (i+1)⟩ σ2 H2)(B:∀ σ H,b kvs.length σ H->D.nx σ H):DG g tb D σ (Kd a o kvs) H:=by
 refine ⟨fun i m σ H=>m=kvs.length - i/\i<=kvs.length/\b i σ H,⟨_,rfl,y8 _,h0⟩,?_⟩;rintro i m σ H ⟨rfl,C,p⟩;by_cases f:i < kvs.length
 ·refine .inr ⟨⟨s i σ H C p,f⟩,b (i+1),fun E w q=>⟨kvs.length - (i+1),by lia,rfl,f,q⟩,fun x w y=>?_⟩
  obtain ⟨T,k,v,rfl,A,rfl,e⟩:=y;exact hs i k v T σ H e A p
 ·have:i=kvs.length:=by lia
  subst this;exact .inl ⟨⟨s _ σ H (i5 _) p,i5 _⟩,B σ H p⟩
end
theorem CP(hk:H d=some (.dK kvs))(s:aJ (upd H d (.frz o (.dK kvs))) G):aJ H (melt d G):=fun b u f=>by
 by_cases z:b=d
 ·subst z
  rw [hk] at f;cases f;exact CQ (s _ _ aC)
 ·rw [sM z]
  exact s _ _ (aX z f)
noncomputable def Mx:R2:=fun x y H Q=>∃ p q kvs kws,x=.ref p/\y=.ref q/\H p=some (.dK kvs)/\H q=some (.dK kws)/\kvs.length=kws.length/\(∀ kv∈kvs,∃ d w,bJ kws kv.1=some w/\lP H d kv.2/\lP H d w/\uF d<=20)/\Q (.bl false) H
theorem HS(I:bB X ud σ H s)(B:A.units+20 < F6)(f:KV kws ws):∀{kvs:List (aM×V)}{vs:List (aM×a8)},KV kvs vs->(∀ kv∈kvs,∃ d w,bJ kws kv.1=some w/\lP H d kv.2/\lP H d w/\uF d<=20)->PySem.W.KeqHits A s ws vs true
|_,_,.nil,_=>.nil
|_,_,.cons (a:=p) (b:=q) r t,h=>by
  obtain ⟨d,w,e,g,o,C⟩:=h p E9;have rv:=f.val p.1;rw [e,r.1] at rv;cases ev:U7 ws q.1 with
 |none=>rw [ev] at rv; cases rv
 |some y =>
   rw [ev] at rv;have m:=JW I d d (A:=A) g o r.2 (show bG w y from rv) (by lia);rw [lP.same_eq d d g g] at m;exact PySem.W.KeqHits.hit (e:=true) (b:=true) ev m (HS I B f t fun kv i=>h kv (A7 _ i))
theorem Hh(N:X.A.units+64 < F6):kJ X (A0 .NotEq) Mx:=by
 intro f s R H x y v u Q I G J h;obtain ⟨p,q,C,D,rfl,rfl,hp,B,w,b,k⟩:=h;cases G;cases J;obtain ⟨O,E,K,g,m⟩:=yG I.hok hp;obtain ⟨P,n2,M,i,o⟩:=yG I.hok B;have e:K.length=M.length:=by rw [← g.length,← i.length,w]
 refine keq_ne E n2 m o (by lia) (fun _=>HS I (A:=X.A.in1) ?_ i g b) ?_
 ·show X.A.units+1+20 < F6
  lia
 ·rw [e]
  simp;exact ⟨.bl _,H,I,rfl,k⟩
section
open PySem.SeqAt PySem.MeetsSeq PySem.MeetsSeq2 PySem.MeetsSeq3
open PySem.AutoSeq1 (wpAny_loadPart')
variable {prog:j2}{w:k6}
end
section
variable {te:TE}{Q:VK}{H:Hp}{uf:St}
theorem UR(hn:kvs.length<=1000)(w:b8->Nat->List V->Hp->Prop)(h0:∀ f,H f=none->w f 0 [] (upd H f (.lst [])))(B:∀ f i ys s,H f=none->i<=kvs.length->w f i ys s->s a=some (.frz o (.dK kvs)))(hs:∀ f i ys s k v,H f=none->kvs[i]?=some (k,v)->ys.length<=i->s f=some (.lst ys)->w f i ys s->c (some (kV k)::uf) s fun b H3=>if b=true then te (some (kV k)::uf) H3 (AX kvs.length f (w f) ys i) else yF kvs.length f (w f) ys i H3)(E:∀ f ys s,H f=none->s f=some (.lst ys)->ys.length<=kvs.length->w f kvs.length ys s->Q (.ref f) s):lD te (some c) (gM 0) (x8 1 none) uf Q (Jv a o kvs) H:=by
 intro f g;refine ⟨fW kvs.length f (w f),⟨kvs.length,by simp,y8 _,i5 _,aC,h0 f g⟩,?_⟩;rintro i m ys s ⟨rfl,G,D,A,p⟩;have q:=B f i ys s g G p;refine ⟨A,?_⟩;by_cases C:i < kvs.length
 ·refine .inr ⟨eA (by lia),⟨q,C⟩,fun K x J I y=>?_⟩
  obtain ⟨rfl,k,v,e,rfl⟩:=y;obtain ⟨o,rfl⟩:=WE I;exact ⟨⟨[some (kV k)],rfl,rfl⟩,hs f i ys _ k v g e D A p⟩
 ·have e:i=kvs.length:=by lia
  subst e;exact .inl ⟨⟨q,i5 _⟩,E f ys s g A D p⟩
end
theorem WF{x b B:Int}(q:0 < x)(o:0 < b)(f:x ∣ B)(g:b ∣ B):0 < x.fdiv (i8 x b) * b/\x.fdiv (i8 x b) * b ∣ B/\x ∣ x.fdiv (i8 x b) * b/\b ∣ x.fdiv (i8 x b) * b:=by
 obtain ⟨n,rfl⟩:∃ n:Nat,x=n:=⟨x.toNat,by lia⟩
 obtain ⟨m,rfl⟩:∃ m:Nat,b=m:=⟨b.toNat,by lia⟩
 have hn:0 < n:=by lia
 have i:0 < m:=by lia
 have e:((n:Int).fdiv (i8 n m)) * (m:Int)=((n.lcm m:Nat):Int):=by
  rw [show i8 (n:Int) (m:Int)=Nat.gcd n m from rfl,show (n:Int).fdiv (Nat.gcd n m:Int)=((n / Nat.gcd n m:Nat):Int) by rw [Int.fdiv_eq_ediv_of_nonneg _ (Int.natCast_nonneg _)]; rfl,← Int.natCast_mul];congr 1;unfold Nat.lcm;exact Nat.div_mul_right_comm (Nat.gcd_dvd_left n m) m
 rw [e];refine ⟨by exact_mod_cast Nat.lcm_pos hn i,?_,by exact_mod_cast Nat.dvd_lcm_left n m,by exact_mod_cast Nat.dvd_lcm_right n m⟩;rw [← cg] at f g ⊢;rw [Int.natAbs_natCast] at f g ⊢;exact Nat.lcm_dvd f g
noncomputable abbrev Ig(q1 q2 q3:Pos):A6:=.Subscript (.Name "pair" q1) (.Constant (.int 0) 0 q2) q3
noncomputable abbrev Ie(q0:Pos):Arguments:={ posonlyargs:=[],args:=[{ arg:="pair",annotation:=none,pos:=q0 }],vararg:=none,kwonlyargs:=[],kw_defaults:=[],kwarg:=none,defaults:=[] }
noncomputable abbrev YI:V5:={ kind:=.function,names:=[("pair",.local)],isGenerator:=false,isCoroutine:=false,more:=[] }
section
variable {prog:j2}{w:k6}{A:q4}{s:c5}
theorem WH(i:A.depth < fj)(D:s.heap.NoLimit)(H:s.heap.get? f=some (kla_obj name qual (Ie q0) (Ig q1 q2 q3) YI [] pm c ct))(G:s.heap.CodeRec (.ref c) qual)(I:ph s.heap r #[x,y]):
  e9 (h9 prog w) A (ax (.ref f) [.ref r]) (fun v K=>v=x/\∃ h' tk,K={ s with heap:=h',toks:=tk }/\∀ b o,s.heap.get? b=some o->h'.get? b=some o) E s:=by
 refine ny (PySem.W.kla_callFunE i H rfl rfl rfl rfl G ?_);rw [show oq (kla_fn name qual (Ie q0) (Ig q1 q2 q3) YI [] pm (.ref c) ct) ⟨[.ref r],[]⟩=(D8 [("pair",i6 r)]:Sem (List (Str×a8))) from rfl];refine c6 (ss (show ∀ x∈YI.names,x.2≠W6.cell by decide) (fun x J=>by rw [f9.mp J]; rfl) (fun g B C=>?_) rfl);have hk:∀ b o,s.heap.get? b=some o->g.get? b=some o:=fun b o e=>C.extBut b o (j4 (j6 e)) (c4 _ e);refine ⟨D.keeps hk,PySem.W.kla_codeExpr ?_⟩;refine pb (nz (su rfl rfl B rfl ?_) (by decide));refine wpAny_Constant_int ?_;have m:ph g r #[x,y]:=let ⟨o,e,q⟩:=I; ⟨o,hk _ _ e,q⟩;refine cv (x:=x) m.typeIs slot_tuple_getitem.lookup (getItem_tuple (j:=0) m (by decide) (by decide) rfl rfl ⟨rfl,rfl,g,_,rfl,hk⟩) rfl
end
noncomputable abbrev Pi(h:u9)(z TI TO:b8)(f0:a8)(b:Bool):Prop:=h.get? z=some { cls:=.type "zip",dict:=none,data:=.fields #[f0,.bool b,.bool false,.ref TI,.ref TO],slots:=#[] }
structure KG(h:u9)(z TI TO i1 i2 l1 l2:b8)(k:Nat)(xs ys:Array a8):Prop where
 zp:∃ f0 b,Pi h z TI TO f0 b/\((k=0/\f0=.none/\b=false)∨(1<=k/\∃(T:b8)(o:Obj),f0=B3 T/\h.get? T=some o/\T≠z/\T≠TO/\T≠i1/\T≠i2))
 ti:pi h TI (.ref i1) (.ref i2)
 to:∃ a b,pi h TO a b
 p1:h.IsListIter i1 l1 k
 p2:h.IsListIter i2 l2 k
 q1:h.IsList l1 xs
 q2:h.IsList l2 ys
section
open Sem (wp)
variable {prog:j2}{w:k6}{A:q4}{E:a8 -> c5 -> Prop}{s:c5}{z TI TO i1 i2 l1 l2:b8}{k:Nat}{xs ys:Array a8}
theorem KG.keep(Z:KG h z TI TO i1 i2 l1 l2 k xs ys)(kp:∀ b o,h.get? b=some o->h'.get? b=some o):KG h' z TI TO i1 i2 l1 l2 k xs ys:=by
 obtain ⟨⟨B,m,H,i⟩,f,⟨a,b,g⟩,C,D,M,N⟩:=Z;refine ⟨⟨B,m,kp _ _ H,?_⟩,kp _ _ f,⟨a,b,kp _ _ g⟩,C.at fun o e=>kp _ o e,D.at fun o e=>kp _ o e,M.at fun o e=>kp _ o e,N.at fun o e=>kp _ o e⟩;rcases i with i|⟨I,T,K,q,G,J⟩
 ·exact .inl i
 ·exact .inr ⟨I,T,K,q,kp _ _ G,J⟩
theorem Er(b:s.heap.get? a=some o)(h:Q (some o) s):e9 (h9 prog w) A (loadIfAlive a) Q E s:=fun f p _=>by
 show wp _ _ (.loadIfAlive a .pure) _ _ _ _;rw [Sem.wp_loadIfAlive,b];exact h
theorem EM{T:b8}{o:Obj}{b:Bool}{Q:Bool->c5->Prop}(f:Pi s.heap z TI TO (B3 T) b)(m:s.heap.get? T=some o)(k:∀ h',h'.objs.size=s.heap.objs.size->(∀ c o,c≠z->s.heap.get? c=some o->h'.get? c=some o)->Pi h' z TI TO (B3 T) true->Q false { s with heap:=h' }):e9 (h9 prog w) A (F8 (.ref z)) Q E s:=by
 unfold F8;refine a7 (ao f rfl (x:=B3 T) rfl ?_);show e9 _ _ (loadIfAlive ((T:Int).toNat) >>= _) _ _ _;refine a7 (Er (o:=o) (by rw [Y8]; exact m) ?_);rw [if_neg (by simp)];refine a7 (ao f rfl (x:=.bool b) rfl ?_);cases b with
|true =>
  rw [if_neg (by decide)];exact c6 (k _ rfl (fun _ _ _ e=>e) f)
|false =>
  rw [if_pos (by decide)];exact a7 (wpAny_setField_rec f (by simp) fun q g i=>c6 (k q i.1 (fun c o n e=>i.extBut _ _ n e) g))
theorem RK{Q:a8->c5->Prop}(D:cf z TI TO i1 i2 l1 l2)(Z:KG s.heap z TI TO i1 i2 l1 l2 k xs ys)(hx:xs[k]?=some x)(hy:ys[k]?=some y)
  (hQ:∀ h',KG h' z TI TO i1 i2 l1 l2 (k+1) xs ys->pi h' s.heap.objs.size x y->h'.objs.size=s.heap.objs.size+1 ->
   (∀ c o,c≠z->c≠TO->c≠i1->c≠i2->s.heap.get? c=some o->h'.get? c=some o)->Q (.ref s.heap.objs.size) { s with heap:=h' }) :
  e9 (h9 prog w) A (C0.«zip.__next__» ⟨[.ref z],[]⟩) (fun O s'=>∃ v,O=.done (.ret v)/\Q v s') E s:=by
 obtain ⟨⟨f0,b0,B,hf⟩,i,⟨a,b,m⟩,P,S,K,M⟩:=Z;have lz:=j6 B;have Y:=j6 m;have ac:i1 < s.heap.objs.size:=by obtain ⟨_,e,_⟩:=P; exact j6 e
 have ad:i2 < s.heap.objs.size:=by obtain ⟨_,e,_⟩:=S; exact j6 e
 have J:∀{c:b8},c < s.heap.objs.size->s.heap.objs.size≠c:=fun h=>y6 h;rcases hf with ⟨rfl,rfl,rfl⟩|⟨k1,T,oT,rfl,gT,I⟩
 ·refine zip_next_item D B i m P S K M hx hy fun h' a1 a2 a3 a4 a5 a6 G=>?_
  exact hQ h' ⟨⟨_,_,a1,.inr ⟨i5 _,_,_,rfl,a5,J lz,J Y,J ac,J ad⟩⟩,G _ _ D.TIz D.TITO D.TIi1 D.TIi2 i,⟨_,_,a2⟩,a3,a4,K.at fun o e=>G _ o D.l1z D.l1TO D.l1i1 D.l1i2 e,M.at fun o e=>G _ o D.l2z D.l2TO D.l2i1 D.l2i2 e⟩ a5 a6 G
 ·show e9 _ _ (field (.ref z) 2 >>= _) _ _ _
  refine a7 (ao B rfl (x:=.bool false) rfl ?_);show e9 _ _ (field (.ref z) 3 >>= _) _ _ _;refine a7 (ao B rfl (x:=.ref TI) rfl ?_);refine a7 (wpAny_seqItems i rfl ?_);show e9 _ _ (F8 (.ref z) >>= _) _ _ _;refine a7 (EM B gT fun m0 e0 g X=>?_);rw [if_neg (by decide)];simp only [← W8,forIn_cons,List.forIn_nil];refine a7 (a7 (a7 (B2 ?_)));show e9 _ _ (S6 (.ref i1) >>= _) _ _ _;refine a7 (rj (P.at fun o e=>g _ o D.i1z e) (K.at fun o e=>g _ o D.l1z e) hx fun m1 R q=>c6 (c6 ?_));refine a7 (a7 (B2 ?_));show e9 _ _ (S6 (.ref i2) >>= _) _ _ _;refine a7 (rj (S.at fun o e=>q.extBut _ o D.i12.symm (g _ o D.i2z e)) (M.at fun o e=>q.extBut _ o D.l2i1 (g _ o D.l2z e)) hy fun f U H=>c6 (c6 (c6 ?_)));refine a7 (wpAny_newTuple (c6 ⟨_,rfl,?_⟩) (by show 2<=j0; decide));have e2:f.objs.size=s.heap.objs.size:=by rw [H.1,q.1,e0]
  have up:∀ c o,c≠z->c≠i1->c≠i2->s.heap.get? c=some o->(f.push { cls:=.type "tuple",data:=.seq #[x,y] }).get? c=some o:=fun c o n1 n2 n3 e=>c4 _ (H.extBut _ _ n3 (q.extBut _ _ n2 (g _ _ n1 e)));have W:pi (f.push { cls:=.type "tuple",data:=.seq #[x,y] }) f.objs.size x y:=j5 _ rfl;have C:Pi (f.push { cls:=.type "tuple",data:=.seq #[x,y] }) z TI TO (B3 T) true:=c4 _ (H.extBut _ _ D.i2z.symm (q.extBut _ _ D.i1z.symm X));have N:(f.push { cls:=.type "tuple",data:=.seq #[x,y] }).objs.size=f.objs.size+1:=J3 ..;show Q (.ref f.objs.size) { s with heap:=f.push { cls:=.type "tuple",data:=.seq #[x,y] } };have r1:(f.push { cls:=.type "tuple",data:=.seq #[x,y] }).IsListIter i1 l1 (k+1):=R.at fun o e=>c4 _ (H.extBut _ o D.i12 e);have r2:(f.push { cls:=.type "tuple",data:=.seq #[x,y] }).IsListIter i2 l2 (k+1):=U.at fun o e=>c4 _ e;generalize f.push { cls:=.type "tuple",data:=.seq #[x,y] }=m3 at up W C N r1 r2 ⊢;rw [e2] at W N ⊢;exact hQ m3 ⟨⟨_,_,C,.inr ⟨Nat.succ_pos _,T,oT,rfl,up _ _ I.1 I.2.2.1 I.2.2.2 gT,I⟩⟩,up _ _ D.TIz D.TIi1 D.TIi2 i,⟨_,_,up _ _ D.TOz D.TOi1 D.TOi2 m⟩,r1,r2,K.at fun o e=>up _ o D.l1z D.l1i1 D.l1i2 e,M.at fun o e=>up _ o D.l2z D.l2i1 D.l2i2 e⟩ W N fun c o n1 _ n3 n4 e=>up c o n1 n3 n4 e
theorem YL(C:A.handled=none)(D:cf z TI TO i1 i2 l1 l2)(Z:KG s.heap z TI TO i1 i2 l1 l2 k xs ys)(G:xs[k]?=none)(B:∀ h' e,(∀ c o,c≠z->c≠TO->c≠i1->c≠i2->s.heap.get? c=some o->h'.get? c=some o)->(∃ o,h'.get? e=some o/\o.cls=.type "StopIteration")->E (.ref e) { s with heap:=h' }):
  e9 (h9 prog w) A (C0.«zip.__next__» ⟨[.ref z],[]⟩) Q E s:=by
 obtain ⟨⟨X,U,i,O⟩,g,⟨a,b,m⟩,q,J,H,S⟩:=Z;rcases O with ⟨rfl,rfl,rfl⟩|⟨_,T,oT,rfl,K,nT⟩
 ·exact zip_next_end C D i g m q J H S (.inl G) B
 show e9 _ _ (field (.ref z) 2 >>= _) _ _ _;refine a7 (ao i rfl (x:=.bool false) rfl ?_);show e9 _ _ (field (.ref z) 3 >>= _) _ _ _;refine a7 (ao i rfl (x:=.ref TI) rfl (a7 (wpAny_seqItems g rfl ?_)));show e9 _ _ (F8 (.ref z) >>= _) _ _ _;refine a7 (EM i K fun Y W f M=>?_);rw [if_neg (by decide)];simp only [← W8,forIn_cons,List.forIn_nil];refine a7 (a7 (a7 (B2 ?_)));show e9 _ _ (S6 (.ref i1) >>= _) _ _ _;refine a7 (wpAny_nextOf_list_end C (q.at fun o e=>f _ o D.i1z e) (H.at fun o e=>f _ o D.l1z e) G fun P e I N=>?_);exact B P e (fun c o R _ n3 _ x=>I _ _ n3 (f _ _ R x)) N
theorem HI(D:cf z TI TO i1 i2 l1 l2)(Z:KG s.heap z TI TO i1 i2 l1 l2 k xs ys)(C:xs[k]?=some x)(G:ys[k]?=some y)
  (B:∀ h',KG h' z TI TO i1 i2 l1 l2 (k+1) xs ys->pi h' s.heap.objs.size x y->h'.objs.size=s.heap.objs.size+1 ->
   (∀ c o,c≠z->c≠TO->c≠i1->c≠i2->s.heap.get? c=some o->h'.get? c=some o)->Q (some (.ref s.heap.objs.size)) { s with heap:=h' }) :
  e9 (h9 prog w) A (O6 (.ref z)) Q E s:=by
 have b:s.TypeIs (.ref z) "zip":=by
  obtain ⟨⟨I,H,q,J⟩,_⟩:=Z;exact ⟨_,q,rfl⟩
 unfold O6;refine a7 (il (bp (name:=B4 "__next__") b W7 (K6 W7 b F.entry_zip_next ?_ (F.args_zip_next_1 _))));exact RK D Z C G fun h' f g i m=>c6 (B h' f g i m)
theorem JL(B:A.handled=none)(D:cf z TI TO i1 i2 l1 l2)(Z:KG s.heap z TI TO i1 i2 l1 l2 k xs ys)(G:xs[k]?=none)(i:∀ h',(∀ c o,c≠z->c≠TO->c≠i1->c≠i2->s.heap.get? c=some o->h'.get? c=some o)->Q none { s with heap:=h' }):e9 (h9 prog w) A (O6 (.ref z)) Q E s:=by
 have f:s.TypeIs (.ref z) "zip":=by
  obtain ⟨⟨I,H,g,J⟩,_⟩:=Z;exact ⟨_,g,rfl⟩
 unfold O6;refine a7 (il (bp (name:=B4 "__next__") f W7 (K6 W7 f F.entry_zip_next ?_ (F.args_zip_next_1 _))));refine YL B D Z G fun h' e kp q=>?_;obtain ⟨o,C,m⟩:=q;exact a7 (bo (T:="StopIteration") (b:=true) ⟨o,C,m⟩ isSubtype_stop (c6 (i _ kp)))
noncomputable def OH(xs ys:Array a8)(n0:Nat)(h:u9)(ts:List b8):Prop:=ts.Nodup/\∀(j:Nat)(t:b8),ts[j]?=some t->n0<=t/\∃ x y,xs[j]?=some x/\ys[j]?=some y/\pi h t x y
theorem YM{R:Result->c5->Prop}{n0:Nat}(hh:A.handled=none)(D:cf z TI TO i1 i2 l1 l2)(m:S≠z/\S≠TI/\S≠TO/\S≠i1/\S≠i2/\S≠l1/\S≠l2)(hl:xs.size=ys.size)(hz:xs.size<=1000)(f:z < n0/\TO < n0/\i1 < n0/\i2 < n0/\S < n0):
  ∀(n i:Nat)(h:u9)(tk:Nat)(g:Array a8)(c:Nat)(C:List b8),xs.size - i=n->i<=xs.size->n0<=h.objs.size->KG h z TI TO i1 i2 l1 l2 i xs ys->h.get? S=some { cls:=.type "list",dict:=none,data:=.seq g c,slots:=#[] }->g.toList=C.map i6->C.length=i->OH xs ys n0 h C ->
   (∀ b o,s.heap.get? b=some o->b≠z->b≠TO->b≠i1->b≠i2->b≠S->h.get? b=some o) ->
   (∀ h' tk' G c' K,h'.get? S=some { cls:=.type "list",dict:=none,data:=.seq G c',slots:=#[] }->G.toList=K.map i6->K.length=xs.size->OH xs ys n0 h' K ->
    (∀ b o,s.heap.get? b=some o->b≠z->b≠TO->b≠i1->b≠i2->b≠S->h'.get? b=some o)->R (.ok (.ret res)) { s with heap:=h',toks:=tk' }) ->
   S2 (h9 prog w) A (.builtin "list.extend.loop" ⟨[.ref S,.ref z,res],[]⟩) R { s with heap:=h,toks:=tk }:=by
 intro n
 induction n with
|zero =>
  intro i h tk g c C hn hi J Z hS N X hp kp hR;have:i=xs.size:=by lia
  subst this;refine A8 sq ?_;rw [w4 M9 _];show e9 _ A.in1 (O6 (.ref z) >>= _) _ _ _;refine a7 (JL (by simpa using hh) D Z (by simp) fun h' eb=>?_);have up:∀ t,n0<=t->t≠z/\t≠TO/\t≠i1/\t≠i2:=fun t q=>⟨y6 (c9 f.1 q),y6 (c9 f.2.1 q),y6 (c9 f.2.2.1 q),y6 (c9 f.2.2.2.1 q)⟩
  refine c6 (hR h' tk g c C (eb _ _ m.1 m.2.2.1 m.2.2.2.1 m.2.2.2.2.1 hS) N X ⟨hp.1,fun j t e=>?_⟩ fun b o e U n2 n3 n4 n5=>eb b o U n2 n3 n4 (kp b o e U n2 n3 n4 n5));obtain ⟨q,x,y,M,e2,O⟩:=hp.2 j t e;obtain ⟨u1,u2,u3,u4⟩:=up t q;exact ⟨q,x,y,M,e2,eb _ _ u1 u2 u3 u4 O⟩
|succ n ih =>
  intro i h tk g c C hn hi J Z hS N X hp kp hR;have Q:i < xs.size:=by lia
  refine A8 sq ?_;rw [w4 M9 _];show e9 _ A.in1 (O6 (.ref z) >>= _) _ _ _;obtain ⟨x,hx⟩:∃ v,xs[i]?=some v:=⟨_,C7 Q⟩
  obtain ⟨y,hy⟩:∃ v,ys[i]?=some v:=⟨_,C7 (show i < ys.size by lia)⟩
  refine a7 (HI D Z hx hy fun h' Z' gp W Y=>?_);dsimp only at Z' gp W Y;have I:h'.get? S=_:=Y _ _ m.1 m.2.2.1 m.2.2.2.1 m.2.2.2.2.1 hS;have H:g.size=i:=by rw [← C9,N,g7,X]
  show e9 _ A.in1 (bq S (·.push (.ref h.objs.size)) >>= _) _ _ _;refine a7 ?_;have up:∀ t,n0<=t->t≠z/\t≠TO/\t≠i1/\t≠i2/\S≠t:=fun t q=>⟨y6 (c9 f.1 q),y6 (c9 f.2.1 q),y6 (c9 f.2.2.1 q),y6 (c9 f.2.2.2.1 q),j4 (c9 f.2.2.2.2 q)⟩
  have ndp:(C++[h.objs.size]).Nodup:=U8.mpr ⟨hp.1,by simp,fun a N b hb e=>by
   rw [f9.mp hb] at e;obtain ⟨j,P⟩:=J1 N;obtain ⟨_,_,_,_,_,O⟩:=hp.2 j a P;exact j4 (j6 O) e⟩
  have B:∀ b o,b≠S->h'.get? b=some o->(h'.update S (l8 (·.push (.ref h.objs.size)))).get? b=some o:=fun b o n e=>(A4 _ _ (j3 n)).trans e;have Z2:KG (h'.update S (l8 (·.push (.ref h.objs.size)))) z TI TO i1 i2 l1 l2 (i+1) xs ys:=by
   obtain ⟨⟨f0,b0,gz,hf⟩,gTI,⟨a,b,gTO⟩,g1,g2,t1,t2⟩:=Z';refine ⟨⟨f0,b0,B _ _ m.1.symm gz,?_⟩,B _ _ m.2.1.symm gTI,⟨a,b,B _ _ m.2.2.1.symm gTO⟩,g1.at fun o e=>B _ o m.2.2.2.1.symm e,g2.at fun o e=>B _ o m.2.2.2.2.1.symm e,t1.at fun o e=>B _ o m.2.2.2.2.2.1.symm e,t2.at fun o e=>B _ o m.2.2.2.2.2.2.symm e⟩;rcases hf with ⟨h0,_⟩|⟨h1,T,oT,M,gT,nT⟩
   ·exact absurd h0 (Nat.succ_ne_zero _)
   ·by_cases eT:T=S
    ·subst eT
     exact .inr ⟨h1,T,_,M,C1 _ I rfl,nT⟩
    ·exact .inr ⟨h1,T,oT,M,B _ _ eT gT,nT⟩
  refine O8 I rfl (c6 ⟨E8 M9 _,ih (i+1) _ tk (g.push (.ref h.objs.size)) _ (C++[h.objs.size]) (by lia) Q (by rw [W5,W]; lia) Z2 (C1 _ I rfl) (by rw [R8,N,u7]; rfl) (by simp [X]) ⟨ndp,fun j t e=>?_⟩ (fun b o e U n2 n3 n4 n5=>B _ _ n5 (Y b o U n2 n3 n4 (kp b o e U n2 n3 n4 n5))) hR⟩)
   (by rw [H,p7]; lia) (by show (g.push (.ref h.objs.size)).size<=j0+1; rw [Array.size_push,H,p7]; lia)
  rcases bv j C.length with P|P
  ·rw [K8 P] at e
   obtain ⟨q,x',y',M,e2,O⟩:=hp.2 j t e;obtain ⟨u1,u2,u3,u4,u5⟩:=up t q;exact ⟨q,x',y',M,e2,B _ _ u5.symm (Y _ _ u1 u2 u3 u4 O)⟩
  ·rw [E3 P] at e
   have hj0:j - C.length=0:=by
    rcases Nat.eq_zero_or_pos (j - C.length) with z0|z0
    ·exact z0
    ·rw [bn (by simp only [bw]; exact z0)] at e; cases e
   rw [hj0] at e;cases e;have:j=i:=by lia
   subst this;exact ⟨J,x,y,hx,hy,B _ _ (up _ J).2.2.2.2.symm gp⟩
theorem IL:cu (.type "zip") "__len__"=D8 none:=by rw [X2,P1]; kernel_rfl
theorem EL:cu (.type "zip") "__length_hint__"=D8 none:=by rw [X2,P1]; kernel_rfl
theorem IC(hh:A.handled=none)(D:cf z TI TO i1 i2 l1 l2)(Z:KG s.heap z TI TO i1 i2 l1 l2 0 xs ys)(hl:xs.size=ys.size)(hz:xs.size<=1000)(h:∀ h' tk ts,s.heap.objs.size<=h'.objs.size->ts.length=xs.size->OH xs ys s.heap.objs.size h' ts->(∀ b o,s.heap.get? b=some o->b≠z->b≠TO->b≠i1->b≠i2->h'.get? b=some o)->Q (ts.map i6) { s with heap:=h',toks:=tk }):
  e9 (h9 prog w) A (jq (.ref z)) Q E s:=by
 unfold jq;refine a7 (fi (A8 dj ?_));rw [w4 di _];show e9 _ A.in1 (ro [] >>= fun l=>again (.builtin "list.__iadd__" ⟨[l,.ref z],[]⟩)) _ _ s;refine a7 (F5 ?_);refine c6 ⟨E8 P0 _,A8 iz ?_⟩;rw [w4 P0 _];have B:∀ b o,s.heap.get? b=some o->(s.heap.push { cls:=.type "list",data:=.seq ([]:List a8).toArray }).get? b=some o:=fun b o e=>c4 _ e;have f:(s.heap.push { cls:=.type "list",data:=.seq ([]:List a8).toArray }).get? s.heap.objs.size=some { cls:=.type "list",data:=.seq ([]:List a8).toArray }:=j5 _ rfl;have K:(s.heap.push { cls:=.type "list",data:=.seq ([]:List a8).toArray }).objs.size=s.heap.objs.size+1:=J3 ..;have Z1:=Z.keep B;have i:∀{c:b8}{o:Obj},s.heap.get? c=some o->s.heap.objs.size≠c:=fun e=>y6 (j6 e);obtain ⟨⟨f0,b0,I,hf⟩,J,⟨a,b,G⟩,⟨o1,R,r1⟩,⟨o2,T,r2⟩,⟨o3,X,r3⟩,⟨o4,Y,r4⟩⟩:=id Z;have h1:E7 (.ref s.heap.objs.size) (.ref z)=false:=by simp [E7,i I]
 have C:U3 { s with heap:=s.heap.push { cls:=.type "list",data:=.seq ([]:List a8).toArray } } (.ref z) "zip":=⟨_,B _ _ I,rfl⟩
 show e9 _ A.in1 (D5 (.ref s.heap.objs.size) (.ref z) (.ref s.heap.objs.size)) _ _ _;unfold D5;refine a7 (U5 C ?_);rw [if_neg (by rw [h1]; decide)];refine a7 (je C F.slot_zip_iter (K6 F.slot_zip_iter C F.entry_zip_iter (show e9 _ _ (ret (.ref z)) _ _ _ from c6 ⟨_,rfl,"zip",_,C,W7.lookup,?_⟩) (F.args_zip_iter_1 _)));refine a7 (B2 ?_);unfold J2;refine a7 (X1 C IL ?_);show e9 _ A.in1 (specialOf (i6 z) (B4 "__length_hint__") >>= _) _ _ _;refine a7 (X1 C EL ?_);refine c6 ?_;show e9 _ A.in1 (rule "list.extend.makes-room" >>= fun _=>C0.List.listTouch (.ref s.heap.objs.size) >>= fun _ =>
  again (.builtin "list.extend.loop" ⟨[.ref s.heap.objs.size,.ref z,.ref s.heap.objs.size],[]⟩)) _ _ _
 refine a7 (P9 (a7 ?_));show e9 _ A.in1 (bq s.heap.objs.size (·.push .none) >>= fun _=>bq s.heap.objs.size (·.pop)) _ _ _;refine a7 (O8 f rfl ?_);have g:=C1 (l8 (·.push F7)) f rfl;refine O8 g rfl ?_;have m:=C1 (l8 (·.pop)) g rfl;have H:∀ b o,s.heap.get? b=some o ->
   (((s.heap.push { cls:=.type "list",data:=.seq ([]:List a8).toArray }).update s.heap.objs.size (l8 (·.push F7))).update s.heap.objs.size (l8 (·.pop))).get? b=some o:=
  fun b o e=>(A4 _ _ (i e)).trans ((A4 _ _ (i e)).trans (B _ _ e))
 have M:(((s.heap.push { cls:=.type "list",data:=.seq ([]:List a8).toArray }).update s.heap.objs.size (l8 (·.push F7))).update s.heap.objs.size (l8 (·.pop))).objs.size=s.heap.objs.size+1:=by rw [W5,W5,K]
 refine c6 ⟨E8 M9 _,?_⟩;refine YM (A:=A) (s:=s) (S:=s.heap.objs.size) (n0:=s.heap.objs.size+1) (by simpa using hh) D ⟨i I,i J,i G,i R,i T,i X,i Y⟩ hl hz ⟨q7 (j6 I),q7 (j6 G),q7 (j6 R),q7 (j6 T),D2 _⟩ xs.size 0 _ s.toks #[] _ [] rfl (y8 _) (by rw [M]; exact i5 _) (Z.keep H) m rfl rfl ⟨nodup_nil,fun j t e=>by simp at e⟩ (fun b o e _ _ _ _ _=>H _ _ e) fun h' N P c' O U g2 g3 W g5=>?_;show e9 _ A (load s.heap.objs.size >>= _) _ _ _;refine a7 (Z4 U ?_);refine c6 ?_;rw [g2];exact h h' N O (Q2 (j6 U)) g3 ⟨W.1,fun j t e=>let ⟨q,r⟩:=W.2 j t e; ⟨Nat.le_of_succ_le q,r⟩⟩ fun b o e n1 n2 n3 n4=>g5 b o e n1 n2 n3 n4 (j4 (j6 e))
end
section
variable {prog:j2}{w:k6}{A:q4}{E:a8 -> c5 -> Prop}{s:c5}{z TI TO i1 i2 l1 l2:b8}{xs ys:Array a8}
theorem IV(hh:A.handled=none)(I:A.depth < fj)(lim:∀ h:u9,(∀ b o,s.heap.get? b=some o->b≠L->b≠z->b≠TO->b≠i1->b≠i2->h.get? b=some o)->h.NoLimit)(hL:s.heap.Ns L m)(nL:L≠z/\L≠TO/\L≠i1/\L≠i2)(ho:s.heap.get? f=some (kla_obj name qual (Ie q0) (Ig q1 q2 q3) YI [] pm c ct))(hc:s.heap.CodeRec (.ref c) qual)(nf:f≠L/\f≠z/\f≠TO/\f≠i1/\f≠i2)(nc:c≠L/\c≠z/\c≠TO/\c≠i1/\c≠i2)(D:cf z TI TO i1 i2 l1 l2)(Z:KG s.heap z TI TO i1 i2 l1 l2 0 xs ys)(hl:xs.size=ys.size)(h64:xs.size < 64)(hk:gt xs.toList kz)
  (h:∀ R h' tk out c' C ps,s.heap.objs.size<=R->h'.Ns L m->h'.get? R=some (A3 "list" out c')->C.length=xs.size->OH xs ys s.heap.objs.size h' C->(ps:List (Int×a8)).Perm (kz.zip (C.map i6))->out.toList=ps.map qe->ps.Pairwise (fun p q=>p.1<=q.1)->(∀ t∈C,t≠R) ->
   (∀ b o,s.heap.get? b=some o->b≠L->b≠z->b≠TO->b≠i1->b≠i2->h'.get? b=some o)->Q (.ref R) { s with heap:=h',toks:=tk }) :
  e9 (h9 prog w) A (ax (.builtin "sorted") [.ref z] [(B4 "key",.ref f)]) Q E s:=by
 refine sf sy rm rr (ksk_s1 _ _) ?_;unfold C0.«sorted»;refine a7 (m:=checkCount "sorted" 1 1 _) (c6 ?_);refine a7 (IC (by simpa using hh) D Z hl (by lia) fun B tk1 C ge1 W hp kp=>?_);have J:(C.map i6).length=xs.size:=by rw [g7,W]
 refine a7 (ik ?_ (by rw [J,p7]; lia));have U:(B.push (A3 "list" (C.map i6).toArray 0)).get? B.objs.size=some (A3 "list" (C.map i6).toArray 0):=j5 _ rfl;have Y:∀ b o,B.get? b=some o->(B.push (A3 "list" (C.map i6).toArray 0)).get? b=some o:=fun b o e=>c4 _ e;have S:B.Ns L m:=let ⟨o,es,G,e,r⟩:=hL; ⟨o,es,G,kp _ _ e nL.1 nL.2.1 nL.2.2.1 nL.2.2.2,r⟩;have M:∀{b:b8}{o:Obj},B.get? b=some o->b≠B.objs.size:=fun e=>j4 (j6 e);show e9 _ _ _ _ _ { s with heap:=B.push (A3 "list" (C.map i6).toArray 0),toks:=tk1 };refine a7 (B2 (ub oj ⟨_,U,rfl⟩ mw ?body (ksk_l1 _ _)))
 case body =>
  show e9 (h9 prog w) A.in1.in1 (C0.«list.sort» ⟨[.ref B.objs.size],[(B4 "key",.ref f)]⟩) _ _ _;rw [ksk_t1];have N1:News (Att.noObjs s.heap) L (B.push (A3 "list" (C.map i6).toArray 0)) (Att.ledger B L L):=fun ⟨b,o⟩ hb=>by
   obtain ⟨n1,_,e⟩:=Att.mem_ledger.mp hb;exact ⟨Y _ _ e,n1,Att.noObjs_get _ _⟩
  have F1:Fr (Att.noObjs s.heap) L (B.push (A3 "list" (C.map i6).toArray 0)) m:=⟨let ⟨o,es,G,e,r⟩:=S; ⟨o,es,G,Y _ _ e,r⟩,fun b o e=>(by rw [Att.noObjs_get] at e; cases e),y8 _⟩
  have ofN:∀{h:u9}{own:List (b8×Obj)},News (Att.noObjs s.heap) L h (Att.ledger B L L++own)->∀ b o,B.get? b=some o->b≠L->h.get? b=some o:=fun N b o e n=>(N (b,o) (z9 _ (Att.mem_ledger.mpr ⟨n,n,e⟩))).1;refine ksk_sort (s:={ s with heap:=B.push (A3 "list" (C.map i6).toArray 0),toks:=tk1 }) (h₀:=Att.noObjs s.heap) (L:=L) (m:=m) (news:=Att.ledger B L L) (kz:=kz) (b:=false) F1 N1 U (j3 (M S.choose_spec.choose_spec.choose_spec.1)) (Att.noObjs_get _ _) (fun ⟨b,o⟩ hb=>M (Att.mem_ledger.mp hb).2.2) (by rw [J,← hk.length,C9]) (by rw [J]; exact h64) ?turn fun h' tk out c' F' N' k'=>⟨_,rfl,?_⟩
  case turn =>
   intro i v kk hv hkk g tk own Fg Ng;have T:=ofN Ng;rw [i7] at hv;obtain ⟨t,ht,rfl⟩:=j7.mp hv;obtain ⟨P,x,y,O,ey,G⟩:=hp.2 i t ht;have tL:t≠L:=y6 (c9 hL.lt P);obtain ⟨H,rfl⟩:∃ H,x=.int kk H:=by
    have:=hk.get (i:=i) (n:=kk) hkk;obtain ⟨H,e⟩:=this;rw [← Array.getElem?_toList] at O;rw [O] at e;exact ⟨H,h8 e⟩
   have K:∀ b o,s.heap.get? b=some o->b≠L->b≠z->b≠TO->b≠i1->b≠i2->g.get? b=some o:=fun b o e n1 n2 n3 n4 n5=>T _ _ (kp _ _ e n2 n3 n4 n5) n1;have hc':g.CodeRec (.ref c) qual:=let ⟨c0,o,vs,H,e0,e1,e2⟩:=hc; ⟨c0,o,vs,H,e0,(by cases e0; exact K _ _ e1 nc.1 nc.2.1 nc.2.2.1 nc.2.2.2.1 nc.2.2.2.2),e2⟩;refine C6 (WH (A:=A.in1.in1) (s:={ s with heap:=g,toks:=tk }) (E:=fun _ _=>False) I (lim g K) (K _ _ ho nf.1 nf.2.1 nf.2.2.1 nf.2.2.2.1 nf.2.2.2.2) hc' (⟨_,T _ _ G tL,rfl,_,rfl⟩:ph g t #[.int kk H,y])) (fun v s' hq=>?_) fun _ _ q=>q;obtain ⟨rfl,h',tk',rfl,X⟩:=hq;exact ⟨h',tk',H,rfl,rfl,Fg.kept X,Ng.grown X⟩
  ·obtain ⟨ps,p1,p2,p3⟩:=k'
   have T:∀ b o,B.get? b=some o->b≠L->h'.get? b=some o:=fun b o e n=>(N' (b,o) (A7 _ (Att.mem_ledger.mpr ⟨n,n,e⟩))).1;refine c6 ⟨_,rfl,h _ h' tk out c' C ps ge1 F'.ns (N' _ E9).1 W ⟨hp.1,fun j t e=>?_⟩ p1 p2 (by simpa using p3) (fun t ht=>?_) fun b o e n1 n2 n3 n4 n5=>T _ _ (kp _ _ e n2 n3 n4 n5) n1⟩
   ·obtain ⟨P,x,y,O,ey,G⟩:=hp.2 j t e
    exact ⟨P,x,y,O,ey,T _ _ G (y6 (c9 hL.lt P))⟩
   ·obtain ⟨j,hj⟩:=J1 ht
    obtain ⟨P,x,y,O,ey,G⟩:=hp.2 j t hj;exact M G
end
noncomputable def KL(c:b8)(qual:Str):HO:=.ext fun h=>h.CodeRec (.ref c) qual
theorem Bk(k:h.CodeRec (.ref c) qual):dH P w H h c (KL c qual):=
 ⟨k,(let ⟨_,o,_,_,b,f,_⟩:=k; ⟨o,by cases b; exact f⟩),fun _ _ ⟨g,o,m,t,b,f,i⟩ kp=>⟨g,o,m,t,b,by cases b; exact kp _ f,i⟩⟩
noncomputable def YF(pos:Pos)(c:b8):Array a8:=#[B3 pos.line,B3 pos.col,.ref c]
noncomputable def sX(T:b8)(pos:Pos)(qual:Str)(H:Hp):Prop:=H T=some (.tbl #[])∨∃ c,H T=some (.tbl (YF pos c))/\H c=some (KL c qual)
theorem sX.same(t:sX T pos qual H)(s:aJ H H'):sX T pos qual H':=by
 rcases t with t|⟨c,t,u⟩
 ·exact .inl (s _ _ t)
 ·exact .inr ⟨c,s _ _ t,s _ _ u⟩
noncomputable def zD(mg:Str->Option a8)(h:u9):Prop:=∃ bm o,mg "__builtins__"=some (.ref bm)/\bm≠iw/\bm≠r9/\h.get? bm=some o/\o.cls=.type "module"/\o.dict=some iw/\o.data=.plain
structure Oz(T:b8)(lp q0 q1 q2 q3:Pos)(qual:Str)(H:Hp)(g h:u9)(f c:b8):Prop where
 kp:∀ b o,g.get? b=some o->b≠T->h.get? b=some o
 tb:h.get? T=some (oe (YF lp c))
 fn:∃ pm ct,h.get? f=some (kla_obj "<lambda>" qual (Ie q0) (Ig q1 q2 q3) YI [] pm c ct)
 cd:h.CodeRec (.ref c) qual
 fge:g.objs.size<=f
 cs:(H T=some (.tbl #[])/\g.objs.size<=c)∨(H T=some (.tbl (YF lp c))/\H c=some (KL c qual))
theorem RD(b:Pos)(c:b8):codeAmong b (YF b c).toList=some (.ref c):=by
 show (if ((b.line:Int)==b.line&&(b.col:Int)==b.col)=true then some (i6 c) else _)=_;rw [if_pos (by simp)]
theorem WG(I:bB X ud σ H s)(kp:∀ b o,s.heap.get? b=some o->s2.heap.get? b=some o)(m:X.env.code=.ref c0)(hK:cc X.K c0 T=true)(B:zD X.mg X.base)(D:iu YI X.env=D8 [])(hq:X.env.qual++"<lambda>"=qual)(hT:sX T lp qual H)(k:∀ f c h tk,Oz T lp q0 q1 q2 q3 qual H s2.heap h f c->Q (.ref f) { s2 with heap:=h,toks:=tk }):
  e9 (h9 X.prog X.w) X.A (C8 (.Lambda (Ie q0) (Ig q1 q2 q3) YI lp) X.env) Q E s2:=by
 subst hq;have P:∀ b o,X.base.get? b=some o->s2.heap.get? b=some o:=fun b o e=>kp _ _ (I.bk b o e);have Z:s2.heap.Ns r9 X.mg:=I.mod.glob.keeps P;have C:CodeHd s2.heap c0 T:=(codeHd_of_K I.mod.kin hK).keeps P;have i:∃ ps,H T=some (.tbl ps):=by
  rcases hT with t|⟨c,t,_⟩
  ·exact ⟨_,t⟩
  ·exact ⟨_,t⟩
 obtain ⟨Pe,i⟩:=i;have g:s2.heap.get? T=some (oe Pe):=kp _ _ (show s.heap.get? T=some _ from I.hok T _ i);have hb:s2.heap.BuiltinsAt X.mg T:=by
  obtain ⟨bm,o,b1,b2,b3,b4,b5⟩:=B;exact ⟨bm,o,b1,b2,b3,fun e=>(by have:=(I.bs _ _ b4).2; rw [e,i] at this; cases this),P _ _ b4,b5⟩
 have R:r9≠T:=fun q=>by
  obtain ⟨o,es,ep,e,hd,_⟩:=Z;rw [q,g] at e; cases e; cases hd
 refine PySem.W.kla_eval rfl ?_;rcases hT with t|⟨c,t,u⟩
 ·have O:Pe=#[]:=by rw [t] at i; cases i; rfl
  subst O;refine PySem.W.kla_makeFunction (ps:=#[]) D I.ok.glob Z m C g trivial rfl R hb fun c' N h' tk M G S J Y=>?_;refine k _ c' _ tk ⟨fun b o e n=>c4 _ (M b o n e),c4 _ Y,⟨_,N,j5 _ rfl⟩,J.push _,?_,.inl ⟨t,G⟩⟩;exact u8 G (Q2 S)
 ·have O:Pe=YF lp c:=by rw [t] at i; cases i; rfl
  subst O;have hc:s2.heap.CodeRec (.ref c) (X.env.qual++"<lambda>"):=(show s.heap.CodeRec (.ref c) _ from (I.hok c _ u).1).keeps kp;refine PySem.W.kla_makeFunctionHit D I.ok.glob Z m C g trivial (RD lp c) hb fun N h' tk M U=>?_;exact k _ c _ tk ⟨fun b o e n=>c4 _ (M b o e),c4 _ (M _ _ g),⟨_,N,j5 _ rfl⟩,(hc.keeps M).push _,U,.inr ⟨t,u⟩⟩
theorem rX{A B:Type}{g:A->B}:∀{l:List B}{m:List B},l.Perm m->∀{xs:List A},m=xs.map g->∃ ys:List A,ys.Perm xs/\l=ys.map g:=by
 intro l m p
 induction p with
|nil=>intro xs e; exact ⟨xs,.refl _,e⟩
|cons x p ih =>
  intro xs e;cases xs with
 |nil=>cases e
 |cons a xs =>
   obtain ⟨f,o⟩:=B5 e;obtain ⟨ys,q,i⟩:=ih o;exact ⟨a::ys,q.cons a,by rw [i,f]; rfl⟩
|swap x y l =>
  intro xs e;cases xs with
 |nil=>cases e
 |cons a xs =>
   cases xs with
  |nil=>cases e
  |cons b xs =>
    obtain ⟨f,i⟩:=B5 e;obtain ⟨o,C⟩:=B5 i;exact ⟨b::a::xs,df.swap _ _ _,by rw [f,o,C]; rfl⟩
|trans p q s w =>
  intro xs e;obtain ⟨ys,D,f⟩:=w e;obtain ⟨G,E,i⟩:=s f;exact ⟨G,E.trans D,i⟩
theorem AS{f g:Type}[BEq f][LawfulBEq f]:∀{l:List (f×g)}{a:f}{b:g},(l.map (·.1)).Nodup->(a,b)∈l->l.lookup a=some b
|[],_,_,_,h=>nomatch h
|(x,y)::l,a,b,m,h=>by
  obtain ⟨i,n2⟩:=Q1.mp m;rcases n6.mp h with e|h
  ·cases e; simp [L5]
  ·have:a≠x:=fun e=>i (e ▸ j1.mpr ⟨_,h,rfl⟩)
   rw [au,beq_eq_false_iff_ne.mpr this];exact AS n2 h
theorem kB{b f:Type}[BEq b][LawfulBEq b]:∀{l:List (b×f)}{a:b},a∉l.map (·.1)->l.lookup a=none
|[],_,_=>rfl
|(x,y)::l,a,h=>by
  have:a≠x:=fun e=>h (e ▸ E9);rw [au,beq_eq_false_iff_ne.mpr this];exact kB fun q=>h (A7 _ q)
noncomputable def ZT(K:m7)(T:b8)(lp:Pos)(qual:Str):List V->Hp->VK->Prop:=fun vs H Q=>∃(p q:b8)(ks:List Int)(xs:List V),vs=[.ref p,.ref q]/\cP K H p (ks.map V.int)/\cP K H q xs/\ks.length=xs.length/\ks.length < 64/\sX T lp qual H /\
 ∀(l:b8)(G:Hp)(tr:List (b8×(Int×V))),H l=none->Kp T H G->sX T lp qual G->G l=some (.lst (tr.map fun p=>V.ref p.1))->(∀ p∈tr,G p.1=some (.tup [.int p.2.1,p.2.2]))->(tr.map (·.2)).Perm (ks.zip xs)->tr.Pairwise (fun p q=>p.2.1<=q.2.1)->Q (.ref l) G
theorem PL(hr:eR kk X.A)(hc:X.calm=true)(hgs:Gl X "sorted")(hms:X.mg "sorted"=none)(hg:Gl X "zip")(hm:X.mg "zip"=none)(hcd:X.env.code=.ref c0)(hK:cc X.K c0 T=true)(B:zD X.mg X.base)(hcl:iu YI X.env=D8 [])(hq:X.env.qual++"<lambda>"=qual)(ha:PA X [a,b] t)(he:j8 [.Call (.Name "zip" p2) [a,b] [] pos2] X.env=[(false,C8 (.Call (.Name "zip" p2) [a,b] [] pos2) X.env)])(hs:j8 [a,b] X.env=(false,C8 a X.env)::j8 [b] X.env)(hpl:(K3 pos2 (j8 [b] X.env)).any (·.1)=false):
    PE X (.Call (.Name "sorted" p) [.Call (.Name "zip" p2) [a,b] [] pos2] [⟨some "key",.Lambda (Ie q0) (Ig q1 q2 q3) YI lp,kpos⟩] pos) (Kv (ZT X.K T lp qual) t):=by
  intro ud s σ H Q I h;refine O4 (lM I hgs hms mE ?_ (by decide) (by decide));refine callWith_kw ?_;show e9 _ _ (spliced (K3 pos (j8 [.Call (.Name "zip" p2) [a,b] [] pos2] X.env))) _ _ s;rw [he];show e9 _ _ (spliced ((false,C8 (.Call (.Name "zip" p2) [a,b] [] pos2) X.env)::K3 pos [])) _ _ s;refine N8 ?_;refine Call_ (lM I hg hm Jk (I0 (cY (ha pos2 ud s σ H _ I h) fun us M z=>?_) hs hpl));obtain ⟨vs,H1,J,r1,p1,p2',ks,xs,e,ga,gb,hl,hn,hT,q⟩:=z;subst e;obtain ⟨u1,u2,rfl,ra,rb⟩:=r1.two;cases ra;cases rb;obtain ⟨its,rv1,pl1,_⟩:=J.list ga;obtain ⟨jts,rv2,pl2,_⟩:=J.list gb;refine call_zip_2 pl1.isList pl2.isList fun m1 z1 z2 z3 z4 z5 e5 kp=>?_;refine R6 ?_;have la:p1 < M.heap.objs.size:=by obtain ⟨o,n,g,_⟩:=pl1; exact j6 g
  have lb:p2' < M.heap.objs.size:=by obtain ⟨o,n,g,_⟩:=pl2; exact j6 g
  have Z0:KG m1 (M.heap.objs.size+4) (M.heap.objs.size+2) (M.heap.objs.size+3) M.heap.objs.size (M.heap.objs.size+1) p1 p2' 0 its.toArray jts.toArray:=
    ⟨⟨_,_,z1,.inl ⟨rfl,rfl,rfl⟩⟩,z2,⟨_,_,z3⟩,z4,z5,pl1.isList.at fun o e=>kp _ o e,pl2.isList.at fun o e=>kp _ o e⟩
  have lL:=J.lt;have nT1:p1≠T/\p2'≠T:=by
    have tH:∃ ps,M.heap.get? T=some (oe ps):=by
      rcases hT with t|⟨c,t,_⟩
      . exact ⟨_,J.hok T _ t⟩
      . exact ⟨_,J.hok T _ t⟩
    obtain ⟨ps,tH⟩:=tH;constructor
    . rintro rfl
      obtain ⟨o,n,g,gc,_⟩:=pl1;rw [tH] at g; cases g; cases gc
    . rintro rfl
      obtain ⟨o,n,g,gc,_⟩:=pl2;rw [tH] at g; cases g; cases gc
  have S:T < M.heap.objs.size:=by
    rcases hT with t|⟨c,t,_⟩
    . exact J.hok.lt t
    . exact J.hok.lt t
  show e9 _ _ (evalAll ((do let v ← C8 (.Lambda (Ie q0) (Ig q1 q2 q3) YI lp) X.env; cw pos; D8 v)::[])) _ _ _;refine wpAny_evalAll_cons (a7 (WG (s2:={ M with heap:=m1 }) J kp hcd hK B hcl hq hT fun f c h3 tk Y=>a7 (aw (c6 ?_))));refine wpAny_evalAll_nil ?_;have hN:∃ N,M.heap.objs.size=N:=⟨_,rfl⟩
  obtain ⟨N,hN⟩:=hN;have kp0:∀ b o,M.heap.get? b=some o->b < N:=fun b o e=>hN ▸ j6 e;have ad:N+5<=f:=by have:=Y.fge; rw [e5,hN] at this; exact this
  have C:∀{c i:Nat},c < N->c≠N+i:=fun h=>j4 (c9 h (V0 _ _));have nf:∀{d i:Nat},N+5<=d->i < 5->d≠N+i:=fun h1 h2 e=>absurd h1 (by rw [e]; lia);have ne:∀{i j:Nat},i≠j->N+i≠N+j:=fun h z=>h (Nat.add_left_cancel z);have n0:∀{i:Nat},0 < i->N+i≠N:=fun h=>y6 (Nat.lt_add_of_pos_right h);rw [hN] at Z0 la lb lL S;have D:cf (N+4) (N+2) (N+3) N (N+1) p1 p2':=⟨ne (by decide),ne (by decide),(n0 (by decide)).symm,ne (by decide),ne (by decide),n0 (by decide),ne (by decide),n0 (by decide),ne (by decide),(n0 (by decide)).symm,C la,C la,j4 la,C la,C lb,C lb,j4 lb,C lb⟩
  have P:∀ b o,m1.get? b=some o->b≠T->h3.get? b=some o:=Y.kp;have Z:KG h3 (N+4) (N+2) (N+3) N (N+1) p1 p2' 0 its.toArray jts.toArray:=by
    obtain ⟨⟨f0,b0,gz,hf⟩,gTI,⟨a,b,gTO⟩,g1,g2,t1,t2⟩:=Z0;refine ⟨⟨f0,b0,P _ _ gz (j3 (C S)),?_⟩,P _ _ gTI (j3 (C S)),⟨a,b,P _ _ gTO (j3 (C S))⟩,g1.at fun o e=>P _ o e (y6 S),g2.at fun o e=>P _ o e (j3 (C S)),t1.at fun o e=>P _ o e nT1.1,t2.at fun o e=>P _ o e nT1.2⟩;rcases hf with hf|⟨hk,_⟩
    . exact .inl hf
    . exact absurd hk (by decide)
  have cN:(N+5<=c)∨(c < N/\c≠X.env.locals/\H1 c=some (KL c qual)):=by
    rcases Y.cs with ⟨_,g⟩|⟨_,g⟩
    . rw [e5,hN] at g; exact .inl g
    . exact .inr ⟨hN ▸ J.hok.lt g,aB g J.free,g⟩
  have ac:c≠X.env.locals/\c≠N+4/\c≠N+3/\c≠N/\c≠N+1:=by
    rcases cN with g|⟨g,g2,_⟩
    . exact ⟨y6 (c9 lL (u8 (V0 _ _) g)),nf g (by decide),nf g (by decide),nf (i:=0) g (by decide),nf g (by decide)⟩
    . exact ⟨g2,C g,C g,j4 g,C g⟩
  have fne:f≠X.env.locals/\f≠N+4/\f≠N+3/\f≠N/\f≠N+1:=
    ⟨y6 (c9 lL (u8 (V0 _ _) ad)),nf ad (by decide),nf ad (by decide),nf (i:=0) ad (by decide),nf ad (by decide)⟩
  obtain ⟨pm,ct,gf⟩:=Y.fn;obtain ⟨mL,hLn,hLl⟩:=id J.loc;have kp3:∀ b o,M.heap.get? b=some o->b≠T->h3.get? b=some o:=fun b o e n=>P _ _ (kp _ _ e) n;have LT:X.env.locals≠T:=by
    rcases hT with t|⟨c,t,_⟩
    . exact j3 (aB t J.free)
    . exact j3 (aB t J.free)
  have hL3:h3.Ns X.env.locals mL:=let ⟨o,es,ep,e,r⟩:=hLn; ⟨o,es,ep,kp3 _ _ e LT,r⟩;have bT:∀ b o,X.base.get? b=some o->b≠T/\b≠X.env.locals/\b < N/\M.heap.get? b=some o:=fun b o e=>by
    have U:=(J.bs b o e)
    refine ⟨?_,?_,kp0 _ _ U.1,U.1⟩
    . rintro rfl
      rcases hT with t|⟨c,t,_⟩
      . rw [t] at U; cases U.2
      . rw [t] at U; cases U.2
    . exact j4 (c9 (j6 e) (u8 J.ok.bsz J.ok.above))
  have le3:N+5<=h3.objs.size:=u8 ad (Q2 (j6 gf));have sz:∀(l:List a8),l.toArray.size=l.length:=fun _=>rfl;have lk:its.length=ks.length:=by rw [← rv1.length,g7]
  have lx:jts.length=xs.length:=rv2.length.symm;show e9 _ _ (ax (.builtin "sorted") [.ref (M.heap.objs.size+4)] [(B4 "key",.ref f)]) _ _ _;rw [hN];refine IV (s:={ M with heap:=h3,toks:=tk }) (L:=X.env.locals) (m:=mL) (kz:=ks) (I.ok.hd hc) (by have:=hr.dp; lia) (fun g kg=>J.mod.nolimit.keeps fun b o e=>?_) hL3 ⟨C lL,C lL,j4 lL,C lL⟩ gf Y.cd fne ac D Z (by rw [sz,sz,lk,lx,hl]) (by rw [sz,lk]; exact hn) (show gt its ks from uD rv1) fun R h4 tk4 out c' ts ps gR gL gRo lts Pf pp po psd tR kp4=>?_
  . obtain ⟨a1,a2,a3,a4⟩:=bT b o e
    exact kg b o (kp3 _ _ a4 a1) a2 (C a3) (C a3) (j4 a3) (C a3)
  dsimp only at gR gL gRo Pf kp4;have kpA:∀ b o,M.heap.get? b=some o->b≠T->b≠X.env.locals->h4.get? b=some o:=fun b o e n1 n2=>kp4 _ _ (kp3 _ _ e n1) n2 (C (kp0 _ _ e)) (C (kp0 _ _ e)) (j4 (kp0 _ _ e)) (C (kp0 _ _ e));have lt3:ts.length=ks.length:=by rw [lts,sz,lk]
  have ez:ks.zip (ts.map i6)=(ts.zip (ks.zip xs)).map fun p=>(p.2.1,i6 p.1):=by
    apply List.ext_getElem?;intro i;simp only [X9,i7,J0,List.getElem?_zipWith];rcases bv i ks.length with hi|hi
    . rw [c8 hi,c8 (show i < ts.length by lia),c8 (show i < xs.length by lia)]
      rfl
    . rw [bn hi,bn (show ts.length<=i by lia)]
      rfl
  obtain ⟨tr,ptr,etr⟩:=rX pp ez;have W:(tr.map (·.1)).Perm ts:=by
    have:=ptr.map (·.1);rwa [List.map_fst_zip (by rw [on,lt3,← hl]; exact jm (jl _).symm)] at this
  have ndt:(tr.map (·.1)).Nodup:=W.nodup_iff.mpr Pf.1;have E:∀ p∈tr,N+5<=p.1/\p.1≠R/\p.1≠c/\∃ x y,pi h4 p.1 x y/\bG (V.int p.2.1) x/\bG p.2.2 y:=fun p hp=>by
    have hp':=ptr.mem_iff.mp hp;obtain ⟨i,hi⟩:=J1 hp';rw [X9] at hi;obtain ⟨h1,h2⟩:=hi;rw [X9] at h2;obtain ⟨ge,x,y,ex,ey,ep⟩:=Pf.2 i p.1 h1;obtain ⟨x',ex',rx⟩:=rv1.get (i:=i) (by rw [i7,h2.1]; rfl);obtain ⟨y',ey',ry⟩:=rv2.get (i:=i) h2.2;have a1:its[i]?=some x:=by simpa using ex
    have a2:jts[i]?=some y:=by simpa using ey
    rw [a1] at ex'; cases ex';rw [a2] at ey'; cases ey';have cl:c < h3.objs.size:=by
      obtain ⟨_,o,_,_,e0,e1,_⟩:=Y.cd;cases e0;exact j6 e1
    exact ⟨u8 le3 ge,tR _ (i3 h1),y6 (c9 cl ge),x,y,ep,rx,ry⟩
  have cR:c≠R:=by
    obtain ⟨_,o,_,_,e0,e1,_⟩:=Y.cd;cases e0;exact j4 (c9 (j6 e1) gR)
  have NR:N<=R:=u8 (u8 (V0 _ _) le3) gR;let G:Hp:=fun b=>if b=R then some (.lst (tr.map fun p=>V.ref p.1)) else match tr.lookup b with
   |some p=>some (.tup [.int p.1,p.2])
   |none=>if b=T then some (.tbl (YF lp c)) else if b=c then some (KL c qual) else H1 b
  have GR:G R=some (.lst (tr.map fun p=>V.ref p.1)):=if_pos rfl;have Gt:∀ p∈tr,G p.1=some (.tup [.int p.2.1,p.2.2]):=fun p hp=>by
    show (if p.1=R then _ else _)=_;rw [if_neg (E p hp).2.1];simp only [AS ndt hp]
  have outT:∀ b,b < N->b∉tr.map (·.1):=fun b hb hm=>by
    obtain ⟨p,hp,e⟩:=j1.mp hm;have:=(E p hp).1;rw [e] at this;lia
  have GT:G T=some (.tbl (YF lp c)):=by
    show (if T=R then _ else _)=_;rw [if_neg (j4 (c9 S NR)),kB (outT T S)];exact if_pos rfl
  have cT:c≠T:=by
    rintro rfl;obtain ⟨_,o,vs,_,e0,e1,U,e3⟩:=Y.cd;cases e0;have e4:=Y.tb;rw [e1] at e4;cases e4;cases U;have:(#[B3 lp.line,B3 lp.col,i6 c]:Array a8)[1]?=some (B3 lp.col):=rfl;rw [show YF lp c=#[B3 lp.line,B3 lp.col,i6 c] from rfl,this] at e3;cases e3
  have Gc:G c=some (KL c qual):=by
    show (if c=R then _ else _)=_;rw [if_neg cR,kB (fun hm=>by obtain ⟨p,hp,e⟩:=j1.mp hm; exact (E p hp).2.2.1 e)];show (if c=T then _ else _)=_;rw [if_neg cT];exact if_pos rfl
  have Gb:∀ b,b < N->b≠T->b≠c->G b=H1 b:=fun b h1 h2 h3=>by
    show (if b=R then _ else _)=_;rw [if_neg (j4 (c9 h1 NR)),kB (outT b h1)];show (if b=T then _ else _)=_;rw [if_neg h2];exact if_neg h3
  have Gk:Kp T H1 G:=fun b o n e=>by
    have hb:b < N:=hN ▸ J.hok.lt e;by_cases hbc:b=c
    . subst hbc
      rcases cN with g|⟨_,_,g⟩
      . exact absurd (c9 hb (V0 _ 5)) (not_lt.mpr g)
      . rw [e] at g; cases g; exact Gc
    . rw [Gb b hb n hbc]; exact e
  have Gn:∀ b o,M.heap.get? b=some o->H1 b=none->G b=none:=fun b o e n=>by
    have hb:=kp0 _ _ e;have h2:b≠T:=by
      rintro rfl;rcases hT with t|⟨_,t,_⟩ <;> (rw [t] at n; cases n)
    have h3:b≠c:=by
      rintro rfl;rcases cN with g|⟨_,_,g⟩
      . exact absurd (c9 hb (V0 _ 5)) (not_lt.mpr g)
      . rw [n] at g; cases g
    rw [Gb b hb h2 h3]; exact n
  have rout:∀ l:List (b8×(Int×V)),bO (l.map fun p=>V.ref p.1) ((l.map fun p=>(p.2.1,i6 p.1)).map qe):=fun l=>by
    induction l with
   |nil=>exact .nil
   |cons p l ih=>exact .cons rfl ih
  have hok4:pQ X.prog X.w G h4:=fun b u e=>by
    by_cases hbR:b=R
    . subst hbR
      rw [GR] at e; cases e;refine ⟨?_,out.toList,c',?_,?_⟩
      . rw [g7]
        have:tr.length=ts.length:=by rw [← g7 (f:=(·.1)) (as:=tr)]; exact W.length_eq
        rw [this,lt3,p7]; lia
      . rw [po,etr]; exact rout tr
      . rw [gRo]
    . by_cases hbt:b∈tr.map (·.1)
      . obtain ⟨p,hp,rfl⟩:=j1.mp hbt
        rw [Gt p hp] at e; cases e;obtain ⟨_,_,_,x,y,ep,rx,ry⟩:=E p hp;exact ⟨⟨by show 2<=j0; decide,_,ep,rfl⟩,[x,y],.cons rx (.cons ry .nil),_,ep,rfl,_,rfl⟩
      . by_cases O:b=T
        . subst O
          rw [GT] at e; cases e;exact kp4 _ _ Y.tb (j3 LT) (C S) (C S) (j4 S) (C S)
        . by_cases hbc:b=c
          . subst hbc
            rw [Gc] at e; cases e;refine Bk ?_;obtain ⟨c1,o,vs,tt,e0,e1,U⟩:=Y.cd;cases e0;exact ⟨_,o,vs,tt,rfl,kp4 _ _ e1 ac.1 ac.2.1 ac.2.2.1 ac.2.2.2.1 ac.2.2.2.2,U⟩
          . have e1:H1 b=some u:=by
              have q:G b=if b=T then some (HO.tbl (YF lp c)) else if b=c then some (KL c qual) else H1 b:=by
                show (if b=R then _ else _)=_;rw [if_neg hbR,kB hbt]
              rw [q,if_neg O,if_neg hbc] at e;exact e
            refine (J.hok b u e1).stay (fun d v hd r=>?_) (fun d r=>Gk d _ ?_ r) fun d xs' r=>Gk d _ ?_ r
            . have h1:H1 d≠none/\d≠T:=by
                rcases hd with rfl|hd
                . exact ⟨by rw [e1]; simp,O⟩
                . refine ⟨by rw [hd]; simp,?_⟩
                  rintro rfl;rcases hT with t|⟨_,t,_⟩ <;> (rw [t] at hd; cases hd)
              exact kpA d v r h1.2 fun z=>h1.1 (z ▸ J.free)
            . rintro rfl
              rcases hT with t|⟨_,t,_⟩ <;> (rw [t] at r; cases r)
            . rintro rfl
              rcases hT with t|⟨_,t,_⟩ <;> (rw [t] at r; cases r)
  have nsu:∀ m,M.heap.Ns X.env.locals m->h4.Ns X.env.locals m:=fun m hm=>by
    have:m=mL:=by
      obtain ⟨o,es,ep,e,d,_,r⟩:=hm;obtain ⟨o2,es2,ep2,U,d2,_,r2⟩:=hLn;rw [e] at U; cases U;rw [d] at d2; cases d2;funext x;rw [← r x,r2 x]
    rw [this]; exact gL
  have I4 : bB X ud σ G { M with heap := h4, toks := tk4 } := J.step (g' := M.gens) (d' := M.drawn) (t' := tk4) (ch := []) (fun _ z => nomatch z) (fun b o n1 _ _ e n => kpA b o e (by
        rintro rfl;rcases hT with t|⟨_,t,_⟩ <;> (rw [t] at n; cases n)) n1) (fun b o n1 _ _ e n=>⟨o.slots,kpA b o e (by
        rintro rfl;rcases hT with t | ⟨_,t,_⟩ <;> (rw [t] at n; cases n)) n1⟩) (fun b o _ e n=>Gn b o e n) (fun b o _ e=>?_)
      (fun b xs' e=>Gk b _ (by
        rintro rfl;rcases hT with t|⟨_,t,_⟩ <;> (rw [t] at e; cases e)) e) (fun b o u e=>Gk b _ (by
        rintro rfl;rcases hT with t | ⟨_,t,_⟩ <;> (rw [t] at e; cases e)) e) (fun b ps' e=>?_) nsu hok4 J.bare
  . exact ⟨.ref R,G,I4,rfl,q R G tr (by
      cases e:H1 R with
     |none=>rfl
     |some u=>exact absurd (hN ▸ J.hok.lt e) (not_lt.mpr NR)) Gk (.inr ⟨c,GT,Gc⟩) GR Gt (by
        have:=ptr.map (·.2);rwa [List.map_snd_zip (by rw [on,lt3,← hl]; exact jm (jl _))] at this) (by
        rw [etr,L9] at psd;exact psd)⟩
  . by_cases hb:b=X.env.locals
    . subst hb
      obtain ⟨o2,_,_,U,_⟩:=gL;exact ⟨o2,U⟩
    . by_cases O:b=T
      . subst O
        exact ⟨_,kp4 _ _ Y.tb (j3 LT) (C S) (C S) (j4 S) (C S)⟩
      . exact ⟨o,kpA b o e O hb⟩
  . by_cases O:b=T
    . subst O
      rcases Y.cs with ⟨t,_⟩|⟨t,_⟩
      . rw [t] at e; cases e
        exact ⟨YF lp c,by rw [GT]; simp⟩
      . rw [t] at e; cases e
        exact ⟨#[],by rw [GT]; simp⟩
    . exact ⟨#[],by rw [Gk b _ O e]; simp⟩
theorem QD{P:j2}{w:k6}{K:m7}{I mb:Str->Option a8}{CX:EH}{k:Nat}{fa a T c0:b8}{fd:D4}{x:Str}{sp:Sp}{f:c5}{vs:List a8}{ns:List Int}(KX:K.In f.heap)(Y:f.heap.Ns r9 I)(g:f.heap.Ns iw mb)(hbb:∀ x:Str,x≠"__name__"->mb x=x9 x)(X:f.heap.NoLimit)(hg:f.gens=#[])(M:f.heap.get? T=some (oe #[]))(hC:cc K c0 T=true)(hKT:K.lookup T=none)(hB:zD I f.heap)(U:f.heap.get? a=some { cls:=.type "list",data:=.seq vs.toArray })(hi:gt vs ns)(hl:ns.length<=j0)(hr:eR k jr)(F:∀ base:u9,K.In base->base.Ns r9 I->zD I base->mG P w K I base CX k fa fd [x] sp)(N:∀(s:c5)(u:a8),E4 s fd ⟨[u],[]⟩ [(x,u)])(hsp:∀ H:Hp,H T=some (.tbl #[])->cP K H a (ns.map V.int)->sp [.ref a] H (fun v _=>v=.bl true) fun _ _ _=>False)(hCX:∀ H e A,CX [] H f (fun _ _ _=>False) e A->False):
  S2 (h9 P w) jr (.call (.ref fa) ⟨[.ref a],[]⟩) (fun r A=>r=.ok (.ret (.bool true))/\OldK f.heap A.heap/\A.os=f.os/\dk A.gens) f:=by
 have rv:=tD hi;have ac:=hi.length;have aT:a≠T:=by rintro rfl; rw [U] at M; cases M
 have E:∀ H:Hp,H T=some (.tbl #[])->cP K H a (ns.map V.int)->pQ P w H f.heap->(∀ b,H b≠none->b=a∨b=T)->(H a≠none->K.lookup a=none/\∃ o O,H a=some (.frz o (.lst O))) ->
   S2 (h9 P w) jr (.call (.ref fa) ⟨[.ref a],[]⟩) (fun r A=>r=.ok (.ret (.bool true))/\OldK f.heap A.heap/\A.os=f.os/\dk A.gens) f:=by
  intro H hO hS Z hA hK;have i:∀{b:b8}{o:Obj},f.heap.get? b=some o->H b=none->(yY f.heap H).get? b=some o:=fun e n=>WP e n;have ad:∀{b:b8}{o:Obj},f.heap.get? b=some o->(∀ O n,o.data≠.seq O n)->(∀ O,o.data≠.fields O)->H b=none:=fun {b o} e d1 d2=>by
   cases q:H b with
  |none=>rfl
  |some u =>
    rcases hA b (by rw [q]; simp) with B|B
    ·subst B; rw [U] at e; cases e; exact absurd rfl (d1 _ _)
    ·subst B; rw [M] at e; cases e; exact absurd rfl (d2 _)
  have C:∀{b:b8}{m:Str->Option a8},f.heap.Ns b m->(yY f.heap H).Ns b m:=fun {b m} ⟨o,es,ep,e,d,r⟩=>⟨o,es,ep,i e (ad e (fun _ _ z=>by rw [d] at z; cases z) fun _ z=>by rw [d] at z; cases z),d,r⟩
  have R:K.In (yY f.heap H):=fun b o e=>i (KX b o e) (by
   cases q:H b with
  |none=>rfl
  |some u =>
    rcases hA b (by rw [q]; simp) with B|B
    ·subst B; rw [(hK (by rw [q]; simp)).1] at e; cases e
    ·subst B; rw [hKT] at e; cases e)
  have hM:Mod K I (yY f.heap H):=⟨R,C Y,⟨mb,C g,hbb⟩,let ⟨mc,h1,h2⟩:=X; ⟨mc,C h1,h2⟩⟩
  have hBb:zD I (yY f.heap H):=let ⟨bm,o,b1,b2,b3,b4,b5,b6,b7⟩:=hB; ⟨bm,o,b1,b2,b3,i b4 (ad b4 (fun _ _ z=>by rw [b7] at z; cases z) fun _ z=>by rw [b7] at z; cases z),b5,b6,b7⟩;have e0:KK P w K I (yY f.heap H) jr [] f H:=⟨rfl,hM,fun b o e=>Ao e,jm (QK _ _),trivial,fun b g=>absurd (show b∈([]:List b8) from g) (by simp),Z,.of_eq hg⟩
  refine Y3 ((F _ R (C Y) hBb).run jr [] f H ⟨[.ref a],[]⟩ [.ref a] [.ref a] _ _ hr e0 (N f (.ref a)) (.cons rfl .nil) (hsp H hO hS)) fun r A h=>?_;cases r with
 |error e=>exact (hCX H e A h).elim
 |ok fl =>
   cases fl with
  |next=>exact K2 h
  |brk=>exact K2 h
  |cont=>exact K2 h
  |ret u =>
    obtain ⟨v,H',os,Q,un,G,r',q⟩:=h;have q':v=.bl true:=q;subst q';obtain rfl:u=jt true:=r';have kb:∀ b o,f.heap.get? b=some o->b≠T->A.heap.get? b=some o:=fun b o e n=>by
     cases q:H b with
    |none=>exact un.keep b o e q (by intro z; exact absurd (show b∈([]:List b8) from z) (by simp)) (by simp)
    |some u =>
      rcases hA b (by rw [q]; simp) with B|B
      ·subst B
       obtain ⟨ob,O,z⟩:=(hK (by rw [q]; simp)).2;have z2:=un.frzs b ob _ z;obtain ⟨e1,_⟩:=Z b _ z;obtain ⟨e2,_⟩:=G b _ z2;rw [e] at e1; cases e1;exact e2
      ·exact absurd B n
    obtain ⟨J,hT2⟩:=un.tbls T _ hO;have S:A.heap.get? T=some (oe (#[]++J)):=G T _ hT2;refine ⟨rfl,⟨fun b o e=>?_,fun b o e=>?_⟩,os,Q⟩
    ·by_cases g:b=T
     ·subst g
      rw [M] at e; cases e;exact .inr (.inl ⟨((codeHd_of_K KX hC).tab M).isCodeTable,rfl,#[],J,rfl,S⟩)
     ·exact .inl (kb b o e g)
    ·by_cases g:b=T
     ·subst g; exact ⟨_,S⟩
     ·exact ⟨o,kb b o e g⟩
 cases hk:K.lookup a with
|some o =>
  have e:=KX a o hk;rw [U] at e;cases e;refine E (fun b=>if b=T then some (.tbl #[]) else none) (if_pos rfl) (.inr ⟨_,vs.toArray,_,hk,rfl,rfl,rfl,by rw [i4,ac]; exact hl,by simpa using rv⟩) (fun b u z=>?_) (fun b z=>?_) fun z=>absurd (if_neg aT) z
  ·by_cases g:b=T
   ·have D:=(if_pos g).symm.trans z
    cases D;subst g;exact M
   ·have D:=(if_neg g).symm.trans z
    cases D
  ·by_cases g:b=T
   ·exact .inr g
   ·exact absurd (if_neg g) z
|none =>
  refine E (fun b=>if b=T then some (.tbl #[]) else if b=a then some (.frz { cls:=.type "list",data:=.seq vs.toArray } (.lst (ns.map V.int))) else none) (if_pos rfl) (.inl (.inr ⟨{ cls:=.type "list",data:=.seq vs.toArray },(if_neg aT).trans (if_pos rfl)⟩)) (fun b u z=>?_) (fun b z=>?_) fun _=>⟨hk,_,_,(if_neg aT).trans (if_pos rfl)⟩
  ·by_cases g:b=T
   ·have D:=(if_pos g).symm.trans z
    cases D;subst g;exact M
   ·have z1:=(if_neg g).symm.trans z
    by_cases g:b=a
    ·have D:=(if_pos g).symm.trans z1
     cases D;subst g;exact ⟨U,by rw [g7]; exact hl,vs,_,rv,U⟩
    ·have D:=(if_neg g).symm.trans z1
     cases D
  ·by_cases g:b=T
   ·exact .inr g
   ·by_cases W:b=a
    ·exact .inl W
    ·refine absurd ?_ z
     show (if b=T then _ else if b=a then _ else _)=_;rw [if_neg g,if_neg W]
theorem walk_ofT{l:gx}{n k:Nat}{q:j2}{loose:List Str}{XP:(Str->Option a8)->u9->Prop}{YP:k6->u9->Prop}{d:DefRec}{K:Params->m7}{CX:k6->EH}{sp:k6->Sp}{x:Str}{T c0:b8}(hn:l.most=some n)(hn2:n<=j0)(hdf:d.params.defaults=[])(hr:eR k jr)(hY:∀(w:k6)(h:u9),YP w h->(K w.params).In h/\h.get? T=some (oe #[]))(hC:∀ P,cc (K P) c0 T=true)(hKT:∀ P,(K P).lookup T=none)
  (F:∀(w:k6)(mg:Str->Option a8)(fa:b8)(h:u9),(K w.params).In h->h.Ns r9 mg->mg d.name=some (.ref fa) ->
   ∃ fd:D4,(∀(s:c5)(u:a8),E4 s fd ⟨[u],[]⟩ [(x,u)]) /\
    ∀ base:u9,(K w.params).In base->base.Ns r9 mg->zD mg base->mG l.prog w (K w.params) mg base (CX w) k fa fd [x] (sp w))
  (hsp:∀(w:k6)(H:Hp)(a:b8)(ns:List Int),ns.length<=n->H T=some (.tbl #[])->cP (K w.params) H a (ns.map V.int)->sp w [.ref a] H (fun v _=>v=.bl true) fun _ _ _=>False)
  (hCX:∀(w:k6)(H:Hp)(s:c5)(e:a8)(s':c5),CX w [] H s (fun _ _ _=>False) e s'->False) :
  PySem.W.WalkO q loose XP YP l.row.toRowW d [] (fun f vs=>PySem.call f vs):=by
 refine Att.attach_call hn hdf fun w s₀ s₁ mg mb fa o pm cd doc a vs ns G Y ho hd hcd hmg hobj hints hlen hg=>?_;obtain ⟨KX,hT⟩:=hY w _ Y;obtain ⟨fd,hb,hF⟩:=F w mg fa _ KX G.T.g hmg;have hB:zD mg s₁.heap:=by
  obtain ⟨bm,ob,b1,b2,b3,b4,b5,b6⟩:=G.T.bmain;refine ⟨bm,ob,b1,b2,fun q=>?_,b3,b4,b5,b6⟩;obtain ⟨o,es,ep,e,hd,_⟩:=G.T.g;rw [q,e] at b3; cases b3; rw [hd] at b6; cases b6
 exact QD KX G.T.g G.T.b G.T.builtins G.T.nolimit hg hT (hC _) (hKT _) hB hobj hints (u8 hlen hn2) hr hF hb (fun H hO hS=>hsp w H a ns hlen hO hS) fun H e s'=>hCX w H s₁ e s'
structure Pq(K:m7)(mg:Str->Option a8)(x:Str)(st:A1)(ps:List Str)(c T:b8):Prop where
 ex:∃(f:b8)(fd:D4),(∃(oc:a8)(od:Option b8)(dV kV doc pm:a8)(an:Option b8)(ct:a8)(osl:Array (Option a8)),
  fd=V1 x x (bQ st) (bL st) (aG st) dV kV doc pm an (.ref c) ct/\K.lookup f=some ⟨oc,od,.func fd,osl⟩/\w8 K (.ref c) x=true)/\n7 K (.ref f)=true/\mg x=some (.ref f)/\fR K fd ps []
 hd:cc K c T=true
theorem bZ.ofC{P:j2}{w:k6}{K:m7}{D:Str->Option a8}{i:u9}{k:Nat}{x:Str}{st:A1}{N ps:List Str}{sp:Sp}{c T:b8}(d:Pq K D x st ps c T)(S:aO N ps (aG st))(C:∀ vs H Q E,sp vs H Q E->vs.length=ps.length)
  (m:∀ (f:b8) (A:q4)(g:List Env)(s:c5)(H:Hp)(vs:List V)(Q:VK)(E:XK),eR k (A.deeper (X4 x (aG st) s.heap.objs.size f (.ref c)))->sp vs H Q E ->
   ∃ t,BH (vA mI P w K D i N x (aG st) f (.ref c) A g s H E).nox (bL st) t/\t { nx:=fun _ H'=>Q .non H',rt:=Q } (start N vs) H):bZ P w K D i (k+1) x ps sp:=by
 obtain ⟨f,W,⟨X,Y,U,kV,G,Z,O,R,M,rfl,J,o⟩,kp,a,b⟩:=d.ex;refine ⟨f,_,a,kp,b,AV J o S C fun A g s H vs Q E I B=>?_⟩;obtain ⟨t,h,q⟩:=m f A g s H vs Q E I B;exact ⟨t,h.nox,q⟩
theorem Jc{K:m7}{w:Str->Option a8}{h:u9}{x:Str}{st:A1}{ps:List Str}{f c T:b8}{A:a8}{B m:Option b8}{i:Array (Option a8)}{q kV g s o:a8}(X:K.In h)(G:h.Ns r9 w)(a:rn K r9 x=some (some (.ref f)))(l:K.lookup f=some ⟨A,B,.func (V1 x x (bQ st) (bL st) (aG st) q kV g s m (.ref c) o),i⟩)(C:w8 K (.ref c) x=true)(k:n7 K (.ref f)=true)(t:cc K c T=true)(b:∀ us:List a8,us.length=ps.length->oq (V1 x x (bQ st) (bL st) (aG st) q kV g s m (.ref c) o) ⟨us,[]⟩=D8 (ps.zip us)):Pq K w x st ps c T:=
 ⟨⟨f,_,⟨A,B,q,kV,g,s,m,o,i,rfl,l,C⟩,k,mg_of X G a,.all b⟩,t⟩
section
noncomputable abbrev OI(h h':u9):Prop:=∀ b o,h.get? b=some o->h'.get? b=some o
noncomputable def Po(ks:List Str)(vs out:List a8):Prop:=∃ ps:List (Str×a8),ps.Perm (ks.zip vs)/\out=ps.map qe/\ps.Pairwise (fun p q=>¬ q.1.cps.toList < p.1.cps.toList)
theorem Ij{b:Array a8}{vs:List a8}{ks:List Str}(hk:S5 b.toList ks){xs:Array Keyed}(hp:xs.Perm (b.zip vs.toArray))(hs:SortedToK strKind xs xs.size):Po ks vs (xs.map (·.2)).toList:=by
 have B:xs.toList.Perm (b.toList.zip vs):=by rw [← ksk_zip]; exact Array.perm_iff_toList_perm.mp hp
 refine ⟨xs.toList.map (fun p:Keyed=>(strOf p.1,p.2)),?_,by rw [Array.toList_map,L1]; rfl,?_⟩
 ·have e:(b.toList.zip vs).map (fun p:Keyed=>(strOf p.1,p.2))=ks.zip vs:=by
   rw [← hk.strs,List.zip_map_left];exact List.map_congr_left fun ⟨x,y⟩ _=>rfl
  rw [← e];exact B.map _
 ·rw [X7]
  intro i j C D s;have g:i < xs.size:=by simpa using C
  have f:j < xs.size:=by simpa using D
  have m:∀(i:Nat)(h:i < xs.size),∃ x t,xs[i].1=.str x t:=fun i h=>by
   have E:xs[i]∈xs.toList:=by simp
   exact hk.all _ (iq (show (xs[i].1,xs[i].2)∈_ from B.mem_iff.mp E)).1
  obtain ⟨x,t,w⟩:=m i g;obtain ⟨y,u,A⟩:=m j f;have o:=hs i j (Q2 s) f;rw [KK_str g (x:=x) (t:=t) (q:=xs[i].2) (qg w rfl),KK_str f (x:=y) (t:=u) (q:=xs[j].2) (qg A rfl)] at o;change decide (y.cps.toList < x.cps.toList)=false at o;simp only [ip,cj];rw [show strOf xs[i].1=x by rw [w]; rfl,show strOf xs[j].1=y by rw [A]; rfl];exact of_decide_eq_false o
theorem zI:∀{vs:List a8}{b:List Str},S5 vs b->S5 (vs++[.str y t]) (b++[y])
|_,_,.nil=>.cons y t .nil
|_,_,.cons z u h=>.cons z u (zI h)
section
variable {prog:j2}{w:k6}{A:q4}{E:a8 -> c5 -> Prop}{s:c5}{h0:u9}{a kS:b8}{vs:List a8}{ks:List Str}{keys:Array a8}{e e1:Nat}{P:PySem.Fin -> c5 -> Prop}
theorem RT{st:SortSt}(D:OI h0 s.heap)(fa:h0.get? a=none)(C:h0.get? kS=none)(H:s.heap.get? kS=some (A3 "list" keys e))(G:s.heap.get? a=some (A3 "list" #[] e1))(m:kS≠a)(hz:keys.size < 64)(hp:(mm st).size < 64)(i:failedOf st=none)(h:∀ h' tk c,OI h0 h'->h'.get? a=some (A3 "list" ((mm st).map (·.2)) c)->P (.done (.ret .none)) { s with heap:=h',toks:=tk }):e9 (h9 prog w) A (ksk_tail a false e1 (.ref kS) st) P E s:=by
 have g:((mm st).map (·.2)).size < 64:=by rw [Array.size_map]; exact hp
 unfold ksk_tail;simp only [O0,if_false];generalize (mm st).map (·.2)=o at g h ⊢;have B:=B0 s.heap kS (l8 fun _=>(#[]:Array a8));have f:=(B.2 a m.symm).trans G;have I:=B0 (s.heap.update kS (l8 fun _=>(#[]:Array a8))) a (l8 fun _=>o);refine a7 (im H rfl ?_ (by rw [p7]; lia) (y8 _));refine a7 (wpAny_letGo (a7 (seqEpoch_at f rfl ?_)));refine a7 (im f rfl ?_ (y8 _) (by rw [p7]; lia));rw [i];simp only [bne_self_eq_false,O0,if_false];refine c6 (h _ _ _ (fun b x q=>?_) (mr f fun _=>o));exact (I.2 b (fun z=>by rw [z,fa] at q; cases q)).trans ((B.2 b (fun z=>by rw [z,C] at q; cases q)).trans (D b x q))
theorem YQ(W:OI h0 s.heap)(fa:h0.get? a=none)(O:h0.get? kS=none)(Y:s.heap.get? kS=some (A3 "list" keys e))(X:s.heap.get? a=some (A3 "list" #[] e1))(G:kS≠a)(hk:S5 keys.toList ks)(I:ks.length=vs.length)(D:vs.length < 64)(h:∀ h' tk out c,OI h0 h'->h'.get? a=some (A3 "list" out c)->Po ks vs out.toList->P (.done (.ret .none)) { s with heap:=h',toks:=tk }):e9 (h9 prog w) A (ksk_end a false vs.toArray e1 (.ref kS) keys) P E s:=by
 have m:keys.size=vs.length:=by
  have:=hk.length;rw [C9] at this;lia
 have q:(keys.zip vs.toArray).size=vs.length:=by rw [Array.size_zip,m,i4,jl]
 have C:∀ st:SortSt,(mm st).Perm (keys.zip vs.toArray)->SortedToK strKind (mm st) (mm st).size->failedOf st=none->e9 (h9 prog w) A (ksk_tail a false e1 (.ref kS) st) P E s:=fun st p o f =>
  RT W fa O Y X G (by lia) (by rw [p.size_eq,q]; exact D) f fun h' tk c k g=>h h' tk _ c k g (Ij hk p o)
 unfold ksk_end;simp only [O0,if_false];by_cases B:vs.toArray.size < 2
 ·rw [if_pos B,if_pos B]
  refine a7 (c6 ?_);rw [StateT.run_pure];refine a7 (c6 (C (SortSt.mk' general' (keys.zip vs.toArray) #[] 7 none) (Array.Perm.refl _) (fun i j S T=>?_) rfl));have U:j < (keys.zip vs.toArray).size:=T;rw [i4] at B;have:i=j:=by lia
  subst this;exact KeyOrd.kle_refl _
 ·rw [if_neg B,if_neg B]
  rw [i4] at B;have H:keyKind' keys=D8 oneType':=by
   obtain ⟨l,rfl⟩:∃ l:List a8,keys=l.toArray:=⟨keys.toList,by simp⟩
   rw [i4] at m
   match l,m with
  |v1::v2::r,_=>exact keyKind_strs hk
  |[],z=>rw [Z6] at z; lia
  |[_],z=>rw [bw] at z; lia
  rw [H];refine a7 (c6 ?_);refine a7 (C6 (wpS_sortRunsK strKind_oneLt (a₀:=keys.zip vs.toArray) (st:=SortSt.mk' oneType' (keys.zip vs.toArray) #[] 7 none) (Q:=fun _ b=>(mm b).Perm (keys.zip vs.toArray)/\failedOf b=none/\SortedToK strKind (mm b) (keys.zip vs.toArray).size)
   (fun p hp=>?_) ⟨Array.Perm.refl _,rfl,rfl,rfl⟩ (by rw [q]; lia) (by rw [q]; exact D) fun b J K M=>⟨J,K,M⟩) ?_ fun _ _ e=>e)
  ·rw [ksk_zip] at hp
   obtain ⟨x,t,N⟩:=hk.all _ (iq (show (p.1,p.2)∈_ from hp)).1;exact ⟨x.cps.toList,by rw [N]⟩
  ·rintro ⟨⟨⟩,b⟩ Z ⟨rfl,hp,R,hs⟩
   exact C b hp (by rw [hp.size_eq]; exact hs) R
theorem RU(k0:OI h0 s.heap)(fa:h0.get? a=none)(R:h0.get? kS=none)(nk:s.heap.get? kS=some (A3 "list" #[] 0))(na:s.heap.get? a=some (A3 "list" #[] e1))(D:kS≠a)(H:ks.length=vs.length)(N:vs.length < 64)(K:∀(i:Nat)(v:a8)(k:Str),vs[i]?=some v->ks[i]?=some k->∀(h:u9)(tk:Nat),OI h0 h->e9 (h9 prog w) A (ax f [v]) (fun u J=>∃ t h' tk',u=.str k t/\J={ s with heap:=h',toks:=tk' }/\OI h h') (fun _ _=>False) { s with heap:=h,toks:=tk })(h:∀ h' tk out c,OI h0 h'->h'.get? a=some (A3 "list" out c)->Po ks vs out.toList->P (.done (.ret .none)) { s with heap:=h',toks:=tk }):e9 (h9 prog w) A (ksk_rest a f false vs.toArray e1 (.ref kS)) P E s:=by
 unfold ksk_rest;refine a7 (P9 ?_)
 first
 |rw [List.forIn_toArray]
 |(rw [← W8]; simp only [List.toList_toArray])
 |rw [← W8]
 refine a7 (ksk_fold (fun i J=>∃ h' tk C e,J={ s with heap:=h',toks:=tk }/\OI h0 h'/\h'.get? kS=some (A3 "list" C e)/\h'.get? a=some (A3 "list" #[] e1)/\S5 C.toList (ks.take i)) vs 0 s
  ⟨s.heap,s.toks,#[],0,rfl,k0,nk,na,by simpa using S5.nil⟩ ?step ?done)
 case step =>
  rintro j x J S ⟨h',tk,C,e,rfl,M,m,B,hk⟩;rw [Nat.zero_add] at hk;rw [Nat.zero_add];have hj:j < vs.length:=(b9.mp S).1;obtain ⟨k,G⟩:∃ k,ks[j]?=some k:=⟨_,c8 (by lia)⟩
  have hz:C.size<=vs.length:=by
   have W:=hk.length;rw [C9,av] at W;lia
  refine a7 (il (C6 (K j x k S G h' tk M) (fun v s'' Z=>?_) fun _ _ Y=>Y.elim));obtain ⟨Q,g,tk2,rfl,rfl,O⟩:=Z
  try dsimp only
  have I:=O _ _ m;have T:=B0 g kS (l8 (·.push (.str k Q)));refine a7 (im I rfl ?_ (by rw [p7]; lia) (u8 (jm (Array.size_push ..)) (by rw [p7]; lia)));refine c6 ⟨rfl,_,_,C.push (.str k Q),_,rfl,fun b o q=>?_,mr I (·.push (.str k Q)),(T.2 a D.symm).trans (O _ _ B),by rw [R8,Y0,G]; exact zI hk⟩;exact (T.2 b (fun z=>by rw [z,R] at q; cases q)).trans (O _ _ (M b o q))
 case done =>
  rintro J ⟨h',tk,C,e,rfl,M,m,B,hk⟩;rw [show ks.take (0+vs.length)=ks from ar (by lia)] at hk
  try dsimp only
  refine a7 (listItems_at m rfl ?_);exact YQ M fa R m B D hk H N fun X BM out c k3 U o3=>h X BM out c k3 U o3
theorem IS(T:s.heap.IsList l vs.toArray)(J:ks.length=vs.length)(R:vs.length < 64)(K:∀(i:Nat)(v:a8)(k:Str),vs[i]?=some v->ks[i]?=some k->∀(h:u9)(tk:Nat),OI s.heap h->e9 (h9 prog w) A.in1.in1 (ax (.type "str") [v]) (fun u s'=>∃ t h' tk',u=.str k t/\s'={ s with heap:=h',toks:=tk' }/\OI h h') (fun _ _=>False) { s with heap:=h,toks:=tk })(h:∀ D h' tk out c,s.heap.objs.size<=D->OI s.heap h'->h'.get? D=some (A3 "list" out c)->Po ks vs out.toList->Q (.ref D) { s with heap:=h',toks:=tk }):
  e9 (h9 prog w) A (ax (.builtin "sorted") [.ref l] [(B4 "key",.type "str")]) Q E s:=by
 refine sf sy rm rr (ksk_s1 _ _) ?_;unfold C0.«sorted»;refine a7 (m:=checkCount "sorted" 1 1 _) (c6 ?_);refine a7 (collect_list T ?_ (by rw [p7]; lia));refine a7 (ik ?_ (by rw [p7]; lia));have B:((s.heap.push (A3 "list" #[] 0)).update s.heap.objs.size (l8 (·++vs.toArray))).objs.size=s.heap.objs.size+1:=by
  rw [W5,Z5]
 have f:(((s.heap.push (A3 "list" #[] 0)).update s.heap.objs.size (l8 (·++vs.toArray))).push (A3 "list" vs.toArray 0)).get? (s.heap.objs.size+1)=some (A3 "list" vs.toArray 0):=by
  rw [← B]; exact j5 _ rfl
 have C:OI s.heap (((s.heap.push (A3 "list" #[] 0)).update s.heap.objs.size (l8 (·++vs.toArray))).push (A3 "list" vs.toArray 0)):=fun b o q=>by
  have H:b < s.heap.objs.size:=j6 q;rw [u9.get?_push_ne _ _ _ (by rw [B]; exact j4 (q7 H)),u9.get?_update_ne _ _ _ _ (j4 H),u9.get?_push_ne _ _ _ (j4 H)];exact q
 have M:∀{b:b8},s.heap.objs.size<=b->s.heap.get? b=none:=fun h=>qk h;show e9 _ _ _ _ _ { s with heap:=((s.heap.push (A3 "list" #[] 0)).update s.heap.objs.size (l8 (·++vs.toArray))).push (A3 "list" vs.toArray 0) };rw [B];have O:∃ N,s.heap.objs.size=N:=⟨_,rfl⟩
 obtain ⟨N,O⟩:=O;have G:(((s.heap.push (A3 "list" #[] 0)).update s.heap.objs.size (l8 (·++vs.toArray))).push (A3 "list" vs.toArray 0)).objs.size=N+2:=by rw [Z5,B,O]
 generalize ((s.heap.push (A3 "list" #[] 0)).update s.heap.objs.size (l8 (·++vs.toArray))).push (A3 "list" vs.toArray 0)=I at f C G ⊢;refine a7 (B2 (ub oj ⟨_,f,rfl⟩ mw ?body (ksk_l1 _ _)))
 case body =>
  show e9 (h9 prog w) A.in1.in1 (C0.«list.sort» ⟨[.ref (s.heap.objs.size+1)],[(B4 "key",.type "str")]⟩) _ _ _;rw [show C0.«list.sort» ⟨[.ref (s.heap.objs.size+1)],[(B4 "key",.type "str")]⟩=ksk_tree (s.heap.objs.size+1) (.type "str") false from rfl];rw [O] at f B h M ⊢;have W:=B0 I (N+1) (l8 fun _=>(#[]:Array a8));have e1:=mr f fun _=>(#[]:Array a8)
  have X:(I.update (N+1) (l8 fun _=>(#[]:Array a8))).objs.size=N+2:=by rw [W5,G]
  have U:OI s.heap (I.update (N+1) (l8 fun _=>(#[]:Array a8))):=fun b o q=>(W.2 b (fun z=>by rw [z,M (M0 N)] at q; cases q)).trans (C b o q);unfold ksk_tree;refine a7 (listItems_at f rfl ?_);refine a7 (im f rfl ?_ (by rw [i4,p7]; lia) (y8 _));refine a7 (seqEpoch_at e1 rfl ?_);refine a7 (wpAny_newTuple ?_ (by show vs.length<=_; rw [p7]; lia));refine a7 (ik (B2 ?_) (y8 _));have S:((I.update (N+1) (l8 fun _=>(#[]:Array a8))).push (A3 "tuple" vs.toArray 0)).objs.size=N+3:=by rw [Z5,X]
  refine RU (s:={ s with heap:=((I.update (N+1) (l8 fun _=>(#[]:Array a8))).push (A3 "tuple" vs.toArray 0)).push (A3 "list" #[] 0) }) (h0:=s.heap) (kS:=((I.update (N+1) (l8 fun _=>(#[]:Array a8))).push (A3 "tuple" vs.toArray 0)).objs.size)
   (fun b o q=>c4 _ (c4 _ (U b o q))) (M (M0 N)) (M (by rw [S]; exact V0 N 3)) (j5 _ rfl) (c4 _ (c4 _ e1)) (by rw [S]; exact y6 (q7 (D2 (N+1)))) J R K fun h' tk out c k g o=>⟨_,rfl,?_⟩
  exact c6 ⟨_,rfl,h _ h' tk out c (M0 N) k g o⟩
end
noncomputable def Re(v:V)(d:R3):Prop:=(∃ i:Int,v=.int i/\d=.int i)∨∃ x:Str,v=.str x/\d=.str x
noncomputable def Rx(H:Hp)(v:V)(d:R3):Prop:=Re v d∨∃ p xs ds,v=.ref p/\H p=some (.tup xs)/\Paired Re xs ds/\d=.tuple ds
noncomputable def Pn(H:Hp)(t:b8)(d:R3):Prop:=∃ xs ds,H t=some (.tup xs)/\Paired (Rx H) xs ds/\d=.tuple ds
theorem AG(f:∀ v u d,R v d->bG v u->∃ as,Reads h u d as):∀{xs:List V}{ds:List R3}{us:List a8},Paired R xs ds->bO xs us->∃ as,ReadsAll h us ds as
|_,_,_,.nil,.nil=>⟨_,.nil⟩
|_,_,_,.cons r p,.cons v q=>let ⟨_,a⟩:=f _ _ _ r v; let ⟨_,b⟩:=AG f p q; ⟨_,.cons a b⟩
theorem AH(v:V)(u:a8)(d:R3)(r:Re v d)(e:bG v u):∃ as,Reads h u d as:=by
 rcases r with ⟨i,rfl,rfl⟩|⟨x,rfl,rfl⟩
 ·obtain ⟨t,rfl⟩:=e
  exact ⟨_,.int i t⟩
 ·obtain ⟨t,rfl⟩:=e
  exact ⟨_,.str x t⟩
theorem UF(ok:pQ P w H h)(b:∀ v u d,R v d->bG v u->∃ as,Reads h u d as)(g:H p=some (.tup xs))(i:Paired R xs ds):∃ as,Reads h (.ref p) (.tuple ds) as:=by
 obtain ⟨_,f,rv,o,g,c,n,d⟩:=ok p _ g;obtain ⟨as,r⟩:=AG b i rv;exact ⟨_,.tuple g c d (by simpa using r)⟩
theorem PD(ok:pQ P w H h)(r:Pn H t d):∃ as,Reads h (.ref t) d as:=by
 obtain ⟨i,f,g,b,rfl⟩:=r;refine UF ok (fun v u d r e=>?_) g b;rcases r with r|⟨p,i,f,rfl,g,b,rfl⟩
 ·exact AH v u d r e
 ·cases e
  exact UF ok AH g b
structure Rc(d:R3):Prop where
 s:d.showable=true
 n:d.hasDict=false
 p:d.depth<=10
 z:d.shown.length<=j0
noncomputable def UU:List V->Hp->VK->Prop:=fun vs H Q=>∃(p:b8)(ts:List b8)(ds:List R3),vs=[.ref p]/\H p=some (.lst (ts.map V.ref))/\ts.length < 64/\Paired (fun t d=>Pn H t d/\Rc d) ts ds /\
 ∀ l qs,H l=none->(qs:List (R3×b8)).Perm (ds.zip ts)->qs.Pairwise (fun p q=>¬ q.1.shown.cps.toList < p.1.shown.cps.toList)->Q (.ref l) (upd H l (.lst (qs.map fun z=>V.ref z.2)))
theorem xA:∀(b:List b8),bO (b.map V.ref) (b.map i6)
|[]=>.nil
|t::b=>.cons rfl (xA b)
theorem zG:∀{b:List b8}{us:List a8},bO (b.map V.ref) us->us=b.map i6
|[],_,.nil=>rfl
|t::b,_,.cons e r=>by cases e; rw [zG r]; rfl
theorem GP(S:eR kk X.A)(J:Gl X "sorted")(K:X.mg "sorted"=none)(hg:Gl X "str")(hm:X.mg "str"=none)(ha:PA X [a] t)(P:j8 [a] X.env=(false,C8 a X.env)::j8 [] X.env:=by rfl):PE X (.Call (.Name "sorted" p) [a] [⟨some "key",.Name "str" q,kpos⟩] pos) (Kv UU t):=by
 intro m s σ H Q I h;refine O4 (lM I J K mE ?_ (by decide) (by decide));refine callWith_kw (cY (ha pos m s σ H _ I h) fun us s1 z=>?_) (by rw [P]; rfl) (by rw [P]; rfl);obtain ⟨vs,H1,b,r1,l,N,C,e,hl,hn,W,q⟩:=z;subst e;obtain ⟨u,rfl,ru⟩:=r1.one;cases ru;show e9 _ _ (evalAll ((do let v ← C8 (.Name "str" _) X.env; cw pos; D8 v)::[])) _ _ _;refine wpAny_evalAll_cons (a7 (lM b hg hm XQ (a7 (aw (c6 ?_))) (by decide) (by decide)));refine wpAny_evalAll_nil ?_;obtain ⟨z,its,n,rv,R,e⟩:=b.lstM hl;cases zG rv;have dl:=Paired.length W;refine IS (ks:=C.map (·.shown)) (vs:=N.map i6) (l:=l) ⟨_,e,rfl,n,rfl⟩ (by rw [g7,g7,dl]) (by rw [g7]; exact hn) (fun i v k T hk E tk kp=>?_) fun D E tk f c O kp g o=>?_
 ·rw [i7] at T hk
  obtain ⟨t,ht,rfl⟩:=j7.mp T;obtain ⟨d,hd,rfl⟩:=j7.mp hk;obtain ⟨d',G,rd,B⟩:=Paired.at W ht;cases hd.symm.trans G;obtain ⟨as,r⟩:=PD b.hok rd;refine str_of_reads r B.s (R3.noDict_hsm B.n) S.gd (by show X.A.units+1+1+_ < _; have:=S.un; have:=B.p; lia) kp (fun h2 u M k2=>⟨u,h2,M,rfl,rfl,k2⟩) B.z
 ·obtain ⟨ps,p1,U,p3⟩:=o
  have e1:(C.map (·.shown)).zip (N.map i6)=(C.zip N).map fun z=>(z.1.shown,i6 z.2):=by rw [List.zip_map]; rfl
  obtain ⟨w,Y,q2⟩:=rX p1 e1;subst q2;have q3:=Y.length_eq;rw [on] at q3;have Z:=b.laid (h':=E) (a:=D) (o:=.lst (w.map fun z=>V.ref z.2)) (t':=tk) kp O ⟨by rw [g7,p7]; lia,(w.map (·.2)).map i6,c,by
   have:=xA (w.map (·.2));rw [L1] at this;exact this,by
   rw [L1] at U;rw [L1];have:f=(w.map (i6 ∘ fun x=>x.2)).toArray:=by rw [← ci (xs:=f),U]; rfl
   rw [← this];exact g⟩
  exact ⟨.ref D,_,Z,rfl,q D w (b.hok.fresh O) Y (L9.mp p3)⟩
noncomputable abbrev YH(i:Int):List Nat:=(B4 (toString i)).cps.toList
theorem pL(m:Nat):YH (m:Int)=(L7 10 m).map X0:=PySem.W.KIN.signs_num m
theorem pK(m:Nat):YH (Int.negSucc m)=45::(L7 10 (m+1)).map X0:=by
 unfold YH;rw [PyProof.Rows.signs_ofString,show toString (Int.negSucc m)="-"++Nat.repr (m+1) from rfl,String.toList_append,u7,Nat.toList_repr];rfl
theorem XE(i:c∈(L7 10 m).map X0):48<=c/\c < 58:=by
 obtain ⟨g,f,rfl⟩:=j1.mp i;have r:=Nat.isDigit_of_mem_toDigits (b:=10) (by decide) (by decide) f;simp only [Char.isDigit,M5,decide_eq_true_eq] at r;have o:48<=g.toNat:=r.1;have q:g.toNat<=57:=r.2;exact ⟨o,by lia⟩
theorem xR(b:c∈YH i):c≠44/\c≠41:=by
 cases i with
|ofNat m=>have:=XE (show c∈_ from pL m ▸ b); lia
|negSucc m =>
  rw [pK] at b;rcases n6.mp b with e|h
  ·lia
  ·have:=XE h; lia
theorem XF(h:(L7 10 m).map X0=(L7 10 n).map X0):m=n:=by
 have e:L7 10 m=L7 10 n:=List.map_inj_right (fun a b h=>Char.toNat_inj.mp h) |>.mp h
 rw [← jc (n:=m),e,jc]
theorem CO(h:YH i=YH j):i=j:=by
 have b:∀{m n:Nat},(L7 10 m).map X0≠45::(L7 10 n).map X0:=fun {m n} z=>by
  have:=XE (m:=m) (c:=45) (by rw [z]; exact .head _);lia
 cases i with
|ofNat m =>
  cases j with
 |ofNat n=>rw [show iy m=(m:Int) from rfl,show iy n=(n:Int) from rfl,pL,pL] at h; rw [XF h]
 |negSucc n=>rw [show iy m=(m:Int) from rfl,pL,pK] at h; exact absurd h b
|negSucc m =>
  cases j with
 |ofNat n=>rw [show iy n=(n:Int) from rfl,pL,pK] at h; exact absurd h.symm b
 |negSucc n=>rw [pK,pK] at h; have:=XF (B5 h).2; rw [Nat.succ.inj this]
theorem CN(h:i.natAbs < 2 ^ 1900):(YH i).length<=700:=by
 have g:∀{m:Nat},m < 2 ^ 1900->(L7 10 m).length<=600:=fun {m} h=>(Nat.length_toDigits_le_iff (by decide) (by decide)).mpr (c9 h (by decide));cases i with
|ofNat m=>rw [show iy m=(m:Int) from rfl,pL,g7]; have:=g (m:=m) h; lia
|negSucc m=>rw [pK,B7,g7]; have:=g (m:=m+1) h; lia
theorem DO:∀{a b r s:List Nat},x∉a->x∉b->a++x::r=b++x::s->a=b/\r=s
|[],[],_,_,_,_,h=>⟨rfl,(B5 h).2⟩
|[],c::b,_,_,_,g,h=>absurd (B5 h).1 fun e=>g (e ▸ .head _)
|c::a,[],_,_,f,_,h=>absurd (B5 h).1 fun e=>f (e ▸ .head _)
|c::a,d::b,_,_,f,g,h=>by
  obtain ⟨i,m⟩:=B5 h;obtain ⟨o,q⟩:=DO (fun z=>f (.tail _ z)) (fun z=>g (.tail _ z)) m;exact ⟨by rw [i,o],q⟩
open Builtin.Str (reprChar)
noncomputable def LtD(l:List Nat):Prop:=∀ c∈l,c=46∨97<=c/\c<=122
theorem ZB:∀ c,c < 123->(c=46∨97<=c)->reprChar 39 c=[c]:=by k_is
theorem GI:∀(l:List Nat)(b:Array Nat),(∀ c∈l,reprChar 39 c=[c])->(l.foldl (fun out c=>out++(reprChar 39 c).toArray) b).toList=b.toList++l
|[],b,_=>by simp
|c::r,b,h=>by rw [ir,GI r _ fun d f=>h d (.tail _ f),h c (.head _)]; simp
theorem Fi(h:LtD x.cps.toList):(reprText x).cps.toList=39::(x.cps.toList++[39]):=by
 have g:x.cps.contains 39=false:=by
  rw [Bool.eq_false_iff];intro z;have:=h 39 (pk.mpr (Array.contains_iff_mem.mp z));lia
 unfold reprText;rw [show reprQuote x=39 by unfold reprQuote; rw [g]; rfl];show ((x.cps.foldl (fun b c=>b++(reprChar 39 c).toArray) #[39]).push 39).toList=_;rw [R8,← Array.foldl_toList,GI _ _ fun c f=>ZB c (by have:=h c f; lia) (by have:=h c f; lia)];rfl
theorem Ps(a b:R3):(mn [a,b]).shown.cps.toList=40::(a.shown.cps.toList++44::32::(b.shown.cps.toList++[41])):=by
 rw [dw];simp only [bj,cn];simp only [gy,ir,foldl_nil,al,V7,K4];rfl
theorem yT(a b c:R3):(mn [a,b,c]).shown.cps.toList=40::(a.shown.cps.toList++44::32::(b.shown.cps.toList++44::32::(c.shown.cps.toList++[41]))):=by
 rw [dw];simp only [bj,cn];simp only [gy,ir,foldl_nil,al,V7,K4];rfl
theorem ON(a b c d:R3):(mn [a,b,c,d]).shown.cps.toList=40::(a.shown.cps.toList++44::32::(b.shown.cps.toList++44::32::(c.shown.cps.toList++44::32::(d.shown.cps.toList++[41])))):=by
 rw [dw];simp only [bj,cn];simp only [gy,ir,foldl_nil,al,V7,K4];rfl
noncomputable def QO(q:Rat):R3:=.tuple [.int q.num,.int (q.den:Int)]
theorem RS(q:Rat):(QO q).shown.cps.toList=40::(YH q.num++44::32::(YH (q.den:Int)++[41])):=by
 unfold QO;rw [Ps,U2,U2]
theorem DF(h:(QO q).shown.cps.toList++x=(QO r).shown.cps.toList++y):q=r/\x=y:=by
 rw [RS,RS] at h;simp only [C2,K4,C3,true_and,J5] at h;obtain ⟨b,h⟩:=DO (fun z=>(xR z).1 rfl) (fun z=>(xR z).1 rfl) h;obtain ⟨f,h⟩:=DO (fun z=>(xR z).2 rfl) (fun z=>(xR z).2 rfl) (B5 h).2;exact ⟨Rat.ext (CO b) (by have:=CO f; lia),h⟩
theorem NE(f:c=44∨c=41)(h:(dy i).shown.cps.toList++c::x=(dy j).shown.cps.toList++c::y):i=j/\x=y:=by
 rw [U2,U2] at h;have b:∀ i:Int,c∉YH i:=fun i z=>by have:=xR z; lia
 obtain ⟨e,h⟩:=DO (b i) (b j) h;exact ⟨CO e,h⟩
theorem DE(h:Sz 1900 q):(QO q).shown.cps.toList.length<=2000:=by
 rw [RS];have b:=CN h.1;have f:=CN (i:=(q.den:Int)) h.2;simp only [B7,i9,Z6];lia
theorem yB(h:Sz 1900 q):(QO q).showable=true:=by
 have g:∀{i:Int},i.natAbs < 2 ^ 1900->(dy i).showable=true:=fun {i} h=>by
  rw [Q4];by_cases z:i.natAbs=0
  ·rw [z]; rfl
  ·exact decide_eq_true (c9 ((qz z).mpr h) (by decide))
 unfold QO;simp only [Q4,Q7,M5];exact ⟨g h.1,g (i:=(q.den:Int)) h.2,trivial⟩
end
noncomputable def Dw(o:Option Rat)(m:Rat):Rat:=match o with|none=>0|some f=>if m < f then 0 else m - f
theorem YW(o:Option Rat)(T m:Rat):wQ o T m=Dw o m / T:=by
 cases o with
|none=>show (0:Rat)=0 / T; rw [V4,Rat.zero_mul]
|some f =>
  show (if m < f then 0 else (m - f) / T)=(if m < f then 0 else m - f) / T;split
  ·rw [V4,Rat.zero_mul]
  ·rfl
theorem LW(b:0 < T):wQ o T m * T=Dw o m:=by
 rw [YW];exact Rat.div_mul_cancel (S8 b)
theorem As{x y T:Rat}(b:0 < T):x < y ↔ x * T < y * T:=by
 constructor
 ·intro h
  have:0 < (y - x) * T:=Rat.mul_pos (by grind) b;grind
 ·intro h
  refine Classical.byContradiction fun c=>?_;have:0<=(x - y) * T:=Rat.mul_nonneg (by grind) (P6 b);grind
theorem OS(b:0 < T):wQ oa T m < 1 - wQ ob T m ↔ Dw oa m+Dw ob m < T:=by
 rw [As b,show (1 - wQ ob T m) * T=T - wQ ob T m * T by grind,LW b,LW b];constructor <;> intro h <;> grind
theorem Qu(B:0 < T):(∃ t,fP (fF a b oa ob T)=some t/\t<=m) ↔ ¬ Dw oa m+Dw ob m < T:=by
 have i:∀{o:Option Rat}{t:Rat},o=some t->((∃ s,o=some s/\s<=m) ↔ t<=m):=fun {o t} e=>⟨fun ⟨s,w,h⟩=>by rw [e] at w; cases w; exact h,fun h=>⟨t,e,h⟩⟩
 cases oa with
|none =>
  cases ob with
 |none =>
   constructor
   ·rintro ⟨t,e,_⟩
    cases e
   ·intro h
    exact absurd (show (0:Rat)+0 < T by grind) h
 |some g =>
   rw [i (o:=fP (fF a b none (some g) T)) (t:=g+T) rfl];show g+T<=m ↔ ¬ (0+(if m < g then 0 else m - g) < T);split <;> constructor <;> intro h <;> grind
|some f =>
  cases ob with
 |none =>
   rw [i (o:=fP (fF a b (some f) none T)) (t:=f+T) rfl];show f+T<=m ↔ ¬ ((if m < f then 0 else m - f)+0 < T);split <;> constructor <;> intro h <;> grind
 |some g =>
   show _ ↔ ¬ ((if m < f then 0 else m - f)+(if m < g then 0 else m - g) < T);by_cases q:g < f+T
   ·by_cases A:f < g+T
    ·rw [i (t:=(f+g+T) * (1 / 2)) (by simp [fF,RJ,q,A,fP])]
     split <;> split <;> constructor <;> intro h <;> grind
    ·rw [i (t:=g+T) (by simp [fF,RJ,q,A,fP])]
     split <;> split <;> constructor <;> intro h <;> grind
   ·rw [i (t:=f+T) (by simp [fF,RJ,q,fP])]
    split <;> split <;> constructor <;> intro h <;> grind
theorem SK(b:0 < T):BO oa ob tk T m=none ↔ xW tk m=true∨¬ Dw oa m+Dw ob m < T:=by
 unfold BO;rw [← OS b];cases xW tk m with
|true=>exact ⟨fun _=>.inl rfl,fun _=>rfl⟩
|false =>
  rw [if_neg h7];split
  ·rename_i h
   exact ⟨fun z=>(by cases z),fun z=>z.elim (fun z=>(by cases z)) fun z=>absurd h z⟩
  ·rename_i h
   exact ⟨fun _=>.inr h,fun _=>rfl⟩
theorem VJ(g:0 < T):BO oa ob tk T m=none ↔ ∃ t,fP (mD (fF a b oa ob T) tk)=some t/\t<=m:=by
 rw [SK g,← Qu (a:=a) (b:=b) g];generalize fF a b oa ob T=e;cases tk with
|none =>
  exact ⟨fun z=>z.elim (fun z=>by cases z) id,.inr⟩
|some u =>
  have o:xW (some u) m=true ↔ u<=m:=by
   show (!decide (m < u))=true ↔ u<=m;rw [Bool.not_eq_true',decide_eq_false_iff_not,X5]
  rw [o];have i:mD e (some u)=if qE u (fP e)=true then .taken u else e:=rfl
  rw [i];cases ea:fP e with
 |none =>
   rw [show qE u none=true from rfl,if_pos rfl];exact ⟨fun z=>z.elim (fun h=>⟨u,rfl,h⟩) fun ⟨t,e,_⟩=>by (cases e),fun ⟨t,e,h⟩=>.inl (by cases e; exact h)⟩
 |some f =>
   by_cases c:u < f
   ·rw [show qE u (some f)=true from decide_eq_true c,if_pos rfl]
    refine ⟨fun z=>⟨u,rfl,z.elim id fun ⟨t,e,h⟩=>by cases e; grind⟩,fun ⟨t,e,h⟩=>.inl (by cases e; exact h)⟩
   ·rw [show qE u (some f)=false from decide_eq_false c,if_neg h7,ea]
    refine ⟨fun z=>z.elim (fun h=>⟨f,rfl,by grind⟩) id,.inr⟩
theorem nwO{H:Hp}{a:b8}(h:H a=none)(o:HO):∃ G,upd H a o=G/\aJ H G/\G a=some o:=⟨_,rfl,aJ.new h,aC⟩
theorem xD{H:Hp}{Q:VK}{xs:List V}(k:∀ p G,H p=none->aJ H G->G p=some (.lst xs)->Q (.ref p) G)(h:xs.length<=1000 := by exact v9 rfl):Ia Q xs H:=dA (fun p e=>k p _ e (aJ.new e) aC) h
theorem JB{H:Hp}{Q:VK}{xs:List V}(k:∀ p G,H p=none->aJ H G->G p=some (.tup xs)->Q (.ref p) G)(h:xs.length<=1000 := by exact v9 rfl):Ex Q xs H:=bC (fun p e=>k p _ e (aJ.new e) aC) h
end L2
namespace Lw
open PySem L2
set_option maxHeartbeats 0
set_option compiler.extract_closed false
set_option hygiene false
local macro_rules | `(tactic| walk_at "st") => `(tactic| first
 |with_reducible assumption
  | ((with_reducible refine Ru.new ?_ ?hn); (case hn => with_reducible assumption); walk_at "st"))
local macro_rules | `(tactic| walk_at "kp") => `(tactic| first
 |with_reducible assumption
 |with_reducible exact Kp.refl _ _
  | ((with_reducible refine Kp.trans ?_ (Kp.new ?hn)); (case hn => with_reducible assumption); walk_at "kp"))
local macro_rules | `(tactic| walk_at "sm") => `(tactic| first
 |with_reducible assumption
 |with_reducible exact aJ.refl _
  | ((with_reducible refine aJ.trans ?_ (aJ.new ?hn)); (case hn => with_reducible assumption); walk_at "sm"))
local macro_rules | `(tactic| walk_at "hp") => `(tactic| first
 |with_reducible assumption
 |with_reducible exact aC
 |((with_reducible refine aL ?hn ?_); (case hn => with_reducible assumption); walk_at "hp")
 |((with_reducible refine aX ?hn ?_); (case hn => first|with_reducible assumption|(refine j3 ?_; with_reducible assumption)); walk_at "hp")
 |((with_reducible refine aJ.app ?hn ?_); (case hn => with_reducible assumption); walk_at "hp")
  | ((with_reducible refine Kp.app ?hk ?hn ?_); (case hk => with_reducible assumption); (case hn => first | with_reducible assumption | (refine j3 ?_; with_reducible assumption)); walk_at "hp"))
local macro_rules | `(tactic| walk_at "tk") => `(tactic| first
 |with_reducible exact TK.refl _
 |with_reducible assumption
 |((with_reducible refine TK.trans ?_ (TK.new ?hn)); (case hn => with_reducible assumption); walk_at "tk")
 |((with_reducible refine TK.trans ?_ (TK.lst ?hn)); (case hn => walk_at "hp"); walk_at "tk")
 |((with_reducible refine TK.trans ?_ (TK.dic ?hn)); (case hn => walk_at "hp"); walk_at "tk")
 |((with_reducible refine TK.trans ?_ (TK.frz ?hn)); (case hn => walk_at "hp"); walk_at "tk")
 |((with_reducible refine TK.trans ?_ TK.melt); walk_at "tk")
 |((with_reducible refine TK.trans ?_ (aJ.tk ?hn)); (case hn => with_reducible assumption); walk_at "tk")
  | ((with_reducible refine TK.trans ?_ (Ru.tk ?hs ?hn)); (case hn => with_reducible assumption); (case hs => with_reducible assumption); walk_at "tk"))
local macro_rules | `(tactic| walk_at "fq") => `(tactic| first
 |with_reducible assumption
  | ((with_reducible refine cA.tk ?fa ?ft); (case fa => with_reducible assumption); (case ft => walk_at "tk")))
local macro_rules | `(tactic| walk_at "go1") => `(tactic| first
 |with_reducible refine kY ?_
 |((with_reducible refine Lv ?_); (with_reducible refine xC ?_))
 |((with_reducible refine Lo ?_); (with_reducible refine Pz ?_))
 |((with_reducible refine Mn ?_); (with_reducible refine Qe ?_))
 |with_reducible (first|refine Mq ?_|refine ZK ?_)
 |((with_reducible refine' Lj ?rv ?_); case rv => exact rfl)
 |with_reducible (first|refine r_c ?_|refine Qb ?_|refine Pw ?_|refine Mt ?_|refine r_U ?_|refine Oo ?_|refine Py ?_|refine Fo ?_|refine ZH ?_|refine UJ ?_)
 |((with_reducible refine oK ?mc ?_); case mc => first|decide|lia)
 |((with_reducible refine Fw ?mc ?_); case mc => first|decide|lia)
 |((with_reducible refine kZ ?mc ?_); case mc => first|exact eU.r (by decide) (by decide)|exact eU.l (by decide) (by decide)|exact eU.l (by lia) (by lia)|exact eU.r (by lia) (by lia))
 |((with_reducible refine iP ?mc ?_); case mc => first|exact pC.of (by decide) (by decide)|exact pC.of (by lia) (by lia))
 |with_reducible (first|refine Fn ?_|refine Fj ?_|refine Px ?_|refine Qg ?_|refine Mf ?_|refine Qd ?_|refine Mr ?_|refine Qa ?_|refine Lx ?_|refine Gr ?_|refine Lr ?_|refine Fq ?_|refine Gs ?_|refine Lu ?_|refine Fs ?_|refine Lp ?_|refine Fv ?_|refine Gf ?_|refine De ?_|refine Gm ?_|refine Lm ?_|refine Dg ?_|refine Gp ?_|refine ZS ?_|refine Qh ?_|refine Gi ?_|refine Mj ?_|refine Gh ?_|refine Gg ?_|refine ZQ ?_|refine ZP ?_|refine ZN ?_|refine Qf ?_|refine ZL ?_|refine Gd ?_|refine ZJ ?_|refine Ln ?_|refine Ls ?_|refine Gj ?_|refine Fy ?_|refine Fz ?_|refine Ga ?_|refine Ft ?_|refine Fu ?_)
 |((with_reducible refine' UT ?ih ?_); (case ih => walk_at "hp"))
 |((with_reducible refine' Mp ?ih ?_); (case ih => walk_at "hp"))
 |((with_reducible refine' vJ ?ih ?_); (case ih => walk_at "hp"))
 |((with_reducible refine' MH ?ih ?_); (case ih => walk_at "hp"))
 |with_reducible (first|refine Lq ?_|refine Fp ?_|refine Oe ?_|refine Nt ?_|refine Od ?_|refine Ms ?_|refine Mb ?_|refine Ma ?_|refine Mg ?_|refine Go ?_|refine Fm ?_|refine Fl ?_|refine ZI ?_)
 |((with_reducible refine' Fx ?ih ?_); (case ih => walk_at "hp"))
 |((with_reducible refine' BZ ?ih ?_); (case ih => walk_at "hp"))
 |((with_reducible refine' MG ?ih ?ie ?_); (case ih => walk_at "hp"); (case ie => exact rfl))
 |((with_reducible refine' gI ?ih ?ie ?_); (case ih => walk_at "hp"); (case ie => exact rfl))
 |with_reducible (first|refine UM ?_|refine Qs ?_|refine Qr ?_|refine Rr ?_|refine Rs ?_|refine Iv ?_)
 |((with_reducible refine Iw ?dc ?_); case dc => lia)
  | ((with_reducible refine Ny ?dc ?_); case dc => lia))
local macro_rules | `(tactic| walk_at "go") => `(tactic| repeat (walk_at "go1"))
local macro_rules | `(tactic| walk_at "gos") => `(tactic| repeat ((fail_if_success (with_reducible refine kY ?_)); walk_at "go1"))
set_option hygiene true
theorem bA{CX:EH}{P:j2}{w:k6}{K:m7}{q:Str->Option a8}{i:u9}{N:List Str}{m:Str}{g:V5}{f:b8}{o:a8}{A:q4}{b:List Env}{s:c5}{H:Hp}{E:XK}:(vA CX P w K q i N m g f o A b s H E).K=K:=rfl
theorem aR{X:Cx}:X.nox.K=X.K:=rfl
theorem XA{P:List a8->Prop}(h:P []):∀ us:List a8,us.length=0->P us:=fun us e=>(K9.mp e).symm ▸ h
theorem qX{n:Nat}{P:List a8->Prop}(h:∀ a us,us.length=n->P (a::us)):∀ us:List a8,us.length=n+1->P us:=fun us=>List.casesOn (motive:=fun us=>us.length=n+1->P us) us (fun e=>absurd e (Nat.succ_ne_zero n).symm) fun a us e=>h a us (Nat.succ.inj e)
theorem el_1{P:List a8->Prop}(h:∀ b,P [b]):∀ us:List a8,us.length=1->P us:=qX fun b=>XA (h b)
theorem el_2{P:List a8->Prop}(h:∀ b f,P [b,f]):∀ us:List a8,us.length=2->P us:=qX fun b=>qX fun f=>XA (h b f)
theorem el_3{P:List a8->Prop}(h:∀ b f g,P [b,f,g]):∀ us:List a8,us.length=3->P us:=qX fun b=>qX fun f=>qX fun g=>XA (h b f g)
theorem el_4{P:List a8->Prop}(h:∀ b f g i,P [b,f,g,i]):∀ us:List a8,us.length=4->P us:=qX fun b=>qX fun f=>qX fun g=>qX fun i=>XA (h b f g i)
theorem el_5{P:List a8->Prop}(h:∀ b f g i m,P [b,f,g,i,m]):∀ us:List a8,us.length=5->P us:=qX fun b=>qX fun f=>qX fun g=>qX fun i=>qX fun m=>XA (h b f g i m)
local macro_rules | `(tactic| w_left) => `(tactic| first | exact B6 rfl | exact A9 rfl | exact fun _ _ _ _ _ _ => el_1 fun _ => rfl | exact fun _ _ _ _ _ _ => el_2 fun _ _ => rfl | exact fun _ _ _ _ _ _ => el_3 fun _ _ _ => rfl | exact ⟨rfl,rfl,rfl,by k_is,rfl,by k_is,by k_is⟩)
local macro_rules | `(tactic| w_means) => `(tactic| first | exact .inl rfl | exact .inr rfl | assumption)
local macro_rules | `(tactic| w_on) => `(tactic| walk_at "go")
local macro_rules | `(tactic| apply $e) => `(tactic| (refine $e; w_on))
noncomputable def gU(i:Nat):A1:=PySem.Challenge.pw_tilefall_k83_whole_told_ahead.main.body.getD i (.Pass ⟨0,0,0,0⟩)
set_option hygiene false
local macro_rules | `(tactic| walk_at "go1") => `(tactic| first
 |with_reducible (first|refine Qc ?_|refine Mh ?_|refine Fk ?_|refine Lz ?_)
 |((with_reducible refine' Qo ?ia1 ?ia4 ?_); (case ia1 => walk_at "hp"); (case ia4 => exact rfl))
 |((with_reducible refine' Qt ?ia1 ?ia2 ?ia3 ?ia4 ?_); (case ia1 => walk_at "hp"); (case ia2 => exact HC.cl); (case ia3 => first|exact HC.n_net|exact HC.n_pushes|exact HC.n_takings|exact HC.n_moment|exact HC.n_moments); (case ia4 => exact rfl))
  | ((with_reducible refine' Pu ?ia1 ?ia2 ?ia3 ?ia4 ?_); (case ia1 => walk_at "hp"); (case ia2 => exact HC.cl); (case ia3 => first | exact HC.n_net | exact HC.n_pushes | exact HC.n_takings | exact HC.n_moment | exact HC.n_moments); (case ia4 => exact v9 rfl)))
noncomputable abbrev tT:b8:=165
noncomputable abbrev LT(H:Hp):Prop:=sX 165 ⟨60,59,60,79⟩ (("sorted_by"++".<locals>.":Str)++"<lambda>") H
theorem LT.ex{H:Hp}(h:LT H):∃ ps,H tT=some (.tbl ps):=by
 rcases h with h|⟨_,h,_⟩
 ·exact ⟨_,h⟩
 ·exact ⟨_,h⟩
theorem kT{H H':Hp}{a:b8}{o:HO}(k:Kp tT H H')(t:LT H)(h:H a=some o)(b:∀ ps,o≠.tbl ps):H' a=some o:=
 let ⟨ps,e⟩:=t.ex; k _ _ (iE h e (b ps)) h
theorem kTf{H H':Hp}{a:b8}(k:Kp tT H H')(t':LT H')(h:H' a=none):H a=none:=by
 cases e:H a with
|none=>rfl
|some o =>
  obtain ⟨f,b⟩:=t'.ex;rw [k _ _ (j3 (aB b h)) e] at h; cases h
theorem LT.ins{H:Hp}{p C b:b8}{f:List (Str×V)}{o:HO}(t:LT H)(h:H p=some (.ins C b f)):LT (L2.upd H p o):=by
 rcases t with t|⟨c,t,u⟩
 ·exact .inl (by rw [aZ (iE t h (by intro z; cases z))]; exact t)
 ·exact .inr ⟨c,by rw [aZ (iE t h (by intro z; cases z))]; exact t,by rw [aZ (iE u h (by intro z; cases z))]; exact u⟩
theorem Pt{H H':Hp}(k:Kp tT H H')(t:LT H):TK H H':=fun p b e=>kT k t e (fun _ z=>nomatch z)
noncomputable def Jx(B:Nat)(H:Hp)(v:V):Prop:=∃ q:Rat,cA H v q/\q.den ∣ B/\Sz 2000 q
theorem Jx.tk{B:Nat}{H H':Hp}{v:V}(h:Jx B H v)(t:TK H H'):Jx B H' v:=let ⟨q,a,b⟩:=h; ⟨q,a.tk t,b⟩
structure Pb(K:m7)(mg:Str->Option a8)(C:b8):Prop where
 m:mg "Hall"=some (.ref C)
 cl:EG K C
 mks:gu K C=true
 kp:n7 K (.ref C)=true
 n_net:fG K C "net"
 n_pushes:fG K C "pushes"
 n_takings:fG K C "takings"
 n_moment:fG K C "moment"
 n_moments:fG K C "moments"
noncomputable def fV(s:A1):List A1:=match s with|.ClassDef _ _ _ b _ _ _ _ _ _ _=>b|_=>[]
noncomputable abbrev wW:A1:=gU 8
theorem GC:aO ["thing"] ["thing"] (aG wW):=by w_left
noncomputable abbrev lU:A1:=gU 9
theorem eZ:aO ["one","other","rest"] ["one","other"] (aG lU):=by w_left
noncomputable abbrev qB:A1:=gU 10
theorem wS:aO ["thing"] ["thing"] (aG qB):=by w_left
noncomputable abbrev iO:A1:=gU 11
theorem oE:aO ["top","bottom","divisor"] ["top","bottom"] (aG iO):=by w_left
noncomputable abbrev MC:A1:=gU 12
theorem oF:aO ["one","other","shared","part","top","divisor"] ["one","other"] (aG MC):=by w_left
noncomputable abbrev wV:A1:=gU 13
theorem GB:aO ["one","other"] ["one","other"] (aG wV):=by w_left
noncomputable abbrev LY:A1:=gU 14
theorem TU:aO ["one","other"] ["one","other"] (aG LY):=by w_left
noncomputable abbrev AE:A1:=gU 15
theorem IY:aO ["one","other"] ["one","other"] (aG AE):=by w_left
noncomputable abbrev AD:A1:=gU 16
theorem IX:aO ["one","other"] ["one","other"] (aG AD):=by w_left
noncomputable abbrev uM:A1:=gU 17
theorem BW:aO ["thing"] ["thing"] (aG uM):=by w_left
noncomputable abbrev mQ:A1:=gU 18
theorem iX:aO ["fractions","bottom","each"] ["fractions"] (aG mQ):=by w_left
noncomputable abbrev fB:A1:=gU 19
theorem rM:aO ["fractions","things","pairs"] ["fractions","things"] (aG fB):=by w_left
noncomputable abbrev mR:A1:=gU 21
theorem GA:aO ["net"] ["net"] (aG mR):=by w_left
noncomputable abbrev qA:A1:=gU 22
theorem gY:aO ["net","beside","number","run"] ["net"] (aG qA):=by w_left
noncomputable abbrev nI:A1:=gU 24
theorem fH:aO ["deeds","least","thing","moment"] ["deeds"] (aG nI):=by w_left
noncomputable abbrev GG:A1:=gU 25
theorem PB:aO ["taken","number","moment"] ["taken","number","moment"] (aG GG):=by w_left
noncomputable abbrev qC:A1:=gU 26
theorem hV:aO ["waiting","earliest","post"] ["waiting"] (aG qC):=by w_left
noncomputable abbrev fZ:A1:=gU 27
theorem dM:aO ["net","pushes","takings","beside","taken","pushed","waiting","fallen","post","number","other","moment"] ["net","pushes","takings"] (aG fZ):=by w_left
noncomputable abbrev dY:A1:=gU 28
theorem nH:aO ["net","pushes","takings","fallen"] ["net","pushes","takings"] (aG dY):=by w_left
noncomputable abbrev oH:A1:=gU 30
theorem uW:aO ["fell","time","moment"] ["fell","time","moment"] (aG oH):=by w_left
noncomputable abbrev pZ:A1:=gU 31
theorem jX:aO ["run","moments","taken","moment","first","last"] ["run","moments","taken","moment"] (aG pZ):=by w_left
noncomputable abbrev eV:A1:=gU 32
theorem oC:aO ["net","pushes","number","moment","takings","moments"] ["net","pushes","number","moment","takings"] (aG eV):=by w_left
noncomputable abbrev wX:A1:=gU 33
theorem GD:aO ["fell","time","beyond"] ["fell","time","beyond"] (aG wX):=by w_left
noncomputable abbrev kX:A1:=gU 34
theorem eP:aO ["run","moments","one","other","met"] ["run","moments"] (aG kX):=by w_left
noncomputable abbrev uL:A1:=gU 35
theorem BU:aO ["ending"] ["ending"] (aG uL):=by w_left
noncomputable abbrev uN:A1:=gU 36
theorem mN:aO ["run","moments","taken","ending","ended"] ["run","moments","taken"] (aG uN):=by w_left
noncomputable abbrev gH:A1:=gU 37
theorem rN:aO ["net","pushes","number","takings","moments"] ["net","pushes","number","takings"] (aG gH):=by w_left
noncomputable abbrev AF:A1:=gU 41
theorem IZ:aO ["_law_script","_law_k"] ["_law_script","_law_k"] (aG AF):=by w_left
noncomputable abbrev MB:A1:=gU 42
theorem wR:aO ["_law_cell","_law_k","_law_number_here"] ["_law_cell","_law_k"] (aG MB):=by w_left
noncomputable abbrev GF:A1:=gU 43
theorem AC:aO ["_law_script","_law_k","_law_cell"] ["_law_script","_law_k"] (aG GF):=by w_left
noncomputable abbrev Cw:A1:=gU 44
theorem BV:aO ["_law_top","_law_bottom","_law_one","_law_other"] ["_law_top","_law_bottom"] (aG Cw):=by w_left
noncomputable abbrev MA:A1:=gU 45
theorem dX:aO ["_law_number_here","_law_letters","_law_count","_law_size","_law_word","_law_k","_law_at","_law_names","_law_tail","_law_sign"] ["_law_number_here"] (aG MA):=by w_left
noncomputable abbrev TW:A1:=gU 46
theorem YY:aO ["_law_number_here"] ["_law_number_here"] (aG TW):=by w_left
noncomputable abbrev UA:A1:=gU 47
theorem fS:aO ["_law_script","_law_most","_law_names","_law_unit","_law_here_here","_law_k","_law_number_here","_law_kind","_law_a","_law_b","_law_moment"] ["_law_script","_law_most"] (aG UA):=by w_left
noncomputable abbrev TX:A1:=gU 48
theorem TV:aO ["_law_here_here","_law_names"] ["_law_here_here"] (aG TX):=by w_left
noncomputable abbrev oI:A1:=gU 49
theorem AB:aO ["_law_here_here","_law_used"] ["_law_here_here"] (aG oI):=by w_left
noncomputable abbrev LZ:A1:=gU 50
theorem rL:aO ["_law_here_here","_law_found","_law_number_here","_law_moment"] ["_law_here_here"] (aG LZ):=by w_left
noncomputable abbrev Cy:A1:=gU 51
theorem fY:aO ["_law_here_here","_law_taken_here","_law_due_here","_law_post","_law_moment","_law_changed","_law_k","_law_a","_law_b","_law_time_here","_law_one","_law_other","_law_comes"] ["_law_here_here"] (aG Cy):=by w_left
noncomputable abbrev rP:A1:=gU 52
theorem pD:aO ["_law_here_here","_law_names","_law_unit","_law_pushes_here"] ["_law_here_here"] (aG rP):=by w_left
noncomputable abbrev TZ:A1:=gU 53
theorem mM:aO ["_law_here_here","_law_due_here","_law_k","_law_moment","_law_a","_law_b","_law_time_here","_law_taken_here","_law_first","_law_last"] ["_law_here_here","_law_due_here","_law_k","_law_moment"] (aG TZ):=by w_left
noncomputable abbrev UB:A1:=gU 54
theorem LX:aO ["_law_script","_law_here_here"] ["_law_script"] (aG UB):=by w_left
noncomputable abbrev oJ:A1:=gU 55
theorem kU:aO ["_law_here_here","_law_due_here","_law_number_here","_law_standing_posts","_law_used","_law_whole_runs","_law_kind","_law_later"] ["_law_here_here","_law_due_here","_law_number_here"] (aG oJ):=by w_left
noncomputable abbrev Cz:A1:=gU 56
theorem Fh:aO ["_law_here_here","_law_deed_here"] ["_law_here_here","_law_deed_here"] (aG Cz):=by w_left
noncomputable abbrev nJ:A1:=(fV (gU 39)).getD 2 (.Pass ⟨0,0,0,0⟩)
theorem tJ:aO ["self","moment"] ["self","moment"] (aG nJ):=by w_left
noncomputable abbrev hZ:A1:=(fV (gU 39)).getD 7 (.Pass ⟨0,0,0,0⟩)
theorem qJ:aO ["self"] ["self"] (aG hZ):=by w_left
noncomputable abbrev jL:A1:=(fV (gU 39)).getD 8 (.Pass ⟨0,0,0,0⟩)
theorem cF:aO ["self","taken","told","number","run","ending"] ["self"] (aG jL):=by w_left
noncomputable abbrev pE:A1:=(fV (gU 39)).getD 6 (.Pass ⟨0,0,0,0⟩)
theorem mP:aO ["self","time","before","told","fresh"] ["self","time"] (aG pE):=by w_left
noncomputable abbrev qD:A1:=(fV (gU 39)).getD 1 (.Pass ⟨0,0,0,0⟩)
theorem wT:aO ["self"] ["self"] (aG qD):=by w_left
noncomputable abbrev rQ:A1:=(fV (gU 39)).getD 11 (.Pass ⟨0,0,0,0⟩)
theorem pY:aO ["self","number","taken"] ["self","number"] (aG rQ):=by w_left
noncomputable abbrev uO:A1:=(fV (gU 39)).getD 5 (.Pass ⟨0,0,0,0⟩)
theorem BX:aO ["self","number"] ["self","number"] (aG uO):=by w_left
noncomputable abbrev iK:A1:=(fV (gU 39)).getD 3 (.Pass ⟨0,0,0,0⟩)
theorem mO:aO ["self","post"] ["self","post"] (aG iK):=by w_left
noncomputable abbrev uP:A1:=(fV (gU 39)).getD 4 (.Pass ⟨0,0,0,0⟩)
theorem BY:aO ["self","post"] ["self","post"] (aG uP):=by w_left
noncomputable abbrev Lf:A1:=gU 57
theorem Le:aO ["_law_hall_here","_law_here_here","_law_deed_here"] ["_law_hall_here","_law_here_here","_law_deed_here"] (aG Lf):=by w_left
noncomputable abbrev TY:A1:=gU 58
theorem YZ:aO ["_law_one","_law_other"] ["_law_one","_law_other"] (aG TY):=by w_left
noncomputable abbrev wZ:A1:=(fV (gU 39)).getD 9 (.Pass ⟨0,0,0,0⟩)
theorem GE:aO ["self"] ["self"] (aG wZ):=by w_left
noncomputable abbrev lH:A1:=(fV (gU 39)).getD 10 (.Pass ⟨0,0,0,0⟩)
theorem wU:aO ["self"] ["self"] (aG lH):=by w_left
noncomputable abbrev GH:A1:=gU 59
theorem lS:aO ["_law_hall_here","_law_net_here","_law_pushes_here","_law_takings","_law_number_here","_law_due_here","_law_fallen","_law_post","_law_k"] ["_law_hall_here","_law_net_here","_law_pushes_here","_law_takings","_law_number_here"] (aG GH):=by w_left
noncomputable abbrev wY:A1:=gU 60
theorem gG:aO ["_law_hall_here","_law_net_here","_law_pushes_here","_law_takings","_law_told","_law_due_here","_law_k","_law_end","_law_post","_law_moment"] ["_law_hall_here","_law_net_here","_law_pushes_here","_law_takings","_law_told"] (aG wY):=by w_left
noncomputable abbrev nK:A1:=(fV (gU 39)).getD 0 (.Pass ⟨0,0,0,0⟩)
theorem tK:aO ["self","net"] ["self","net"] (aG nK):=by w_left
noncomputable abbrev rO:A1:=gU 61
theorem gZ:aO ["_law_script","_law_here_here","_law_net_here","_law_hall_here","_law_told","_law_k","_law_number_here","_law_deed_here","_law_found","_law_pushes_here","_law_takings"] ["_law_script"] (aG rO):=by w_left
inductive zL (K:m7) (vs:List V) (H:Hp) (Q:VK) (EE:XK):Prop
|mk (x:V) (t:a8) (b c:Bool) (h0':vs=[x]) (h1':oZ K H x t) (h2':R0 K t (.type "int")=some b) (h3':R0 K t (.type "bool")=some c) (h4':Q (.bl (b&&!c)) H):zL K vs H Q EE
noncomputable def KS(K:m7):Sp:=fun vs H Q EE=>zL K vs H Q EE
inductive LL (vs:List V) (H:Hp) (Q:VK) (EE:XK):Prop
|mk (a b:Int) (h0':vs=[.int a,.int b]) (h1':Q (.int (i8 a b:Int)) H):LL vs H Q EE
noncomputable def Co:Sp:=fun vs H Q EE=>LL vs H Q EE
inductive wI (K:m7) (vs:List V) (H:Hp) (Q:VK) (EE:XK):Prop
|mk (x:V) (r:Bool) (h0':vs=[x]) (h1':Frq K H x r) (h2':Q (.bl r) H):wI K vs H Q EE
noncomputable def FM(K:m7):Sp:=fun vs H Q EE=>wI K vs H Q EE
inductive rJ (K:m7) (vs:List V) (H:Hp) (Q:VK) (EE:XK):Prop
|mk (t b:Int) (h0':vs=[.int t,.int b]) (h1':b≠0) (h2':Sm 8000 b) (h3':∀ p,H p=none->Q (.ref p) (upd H p (.tup [.int (eM t b),.int (eQ t b)]))):rJ K vs H Q EE
noncomputable def wN(K:m7):Sp:=fun vs H Q EE=>rJ K vs H Q EE
inductive FW (vs:List V) (H:Hp) (Q:VK) (EE:XK):Prop
|mk (x y:V) (q r:Rat) (h0':vs=[x,y]) (h1':cA H x q) (h2':cA H y r) (h3':Sz 8000 q) (h4':Sz 8000 r) (h5':∀ v H',cA H' v (q+r)->aJ H H'->Q v H'):FW vs H Q EE
noncomputable def TF:Sp:=fun vs H Q EE=>FW vs H Q EE
inductive FJ (vs:List V) (H:Hp) (Q:VK) (EE:XK):Prop
|mk (x y:V) (q r:Rat) (h0':vs=[x,y]) (h1':cA H x q) (h2':cA H y r) (h3':Sz 8000 q) (h4':Sz 8000 r) (h5':∀ v H',cA H' v (q - r)->aJ H H'->Q v H'):FJ vs H Q EE
noncomputable def SS:Sp:=fun vs H Q EE=>FJ vs H Q EE
inductive EZ (vs:List V) (H:Hp) (Q:VK) (EE:XK):Prop
|mk (x y:V) (q r:Rat) (h0':vs=[x,y]) (h1':cA H x q) (h2':cA H y r) (h3':Sz 3000 q) (h4':Sz 3000 r) (h5':∀ v H',cA H' v (q * r)->aJ H H'->Q v H'):EZ vs H Q EE
noncomputable def SL:Sp:=fun vs H Q EE=>EZ vs H Q EE
inductive FS (vs:List V) (H:Hp) (Q:VK) (EE:XK):Prop
|mk (x y:V) (q r:Rat) (h0':vs=[x,y]) (h1':cA H x q) (h2':cA H y r) (h3':Sz 3000 q) (h4':Sz 3000 r) (h5':r≠0) (h6':∀ v H',cA H' v (q / r)->aJ H H'->Q v H'):FS vs H Q EE
noncomputable def SY:Sp:=fun vs H Q EE=>FS vs H Q EE
inductive zV (vs:List V) (H:Hp) (Q:VK) (EE:XK):Prop
|mk (x y:V) (q r:Rat) (h0':vs=[x,y]) (h1':cA H x q) (h2':cA H y r) (h3':Sz 8000 q) (h4':Sz 8000 r) (h5':Q (.bl (decide (q < r))) H):zV vs H Q EE
noncomputable def LI:Sp:=fun vs H Q EE=>zV vs H Q EE
theorem Nz(q:Rat):Oa (.int q.num) (.int (q.den:Int))=true:=by
 have b:=q.den_pos;have f:i8 q.num q.den=1:=q.reduced;unfold Oa;simp only [decide_eq_true_eq,M5];lia
inductive FG (K:m7) (vs:List V) (H:Hp) (Q:VK) (EE:XK):Prop
|mk (x:V) (t:Rat) (h0':vs=[x]) (h1':cA H x t) (h2':0<=t.num) (h3':Sz 8000 t) (h4':Q (.bl true) H):FG K vs H Q EE
noncomputable def SR(K:m7):Sp:=fun vs H Q EE=>FG K vs H Q EE
inductive wA (vs:List V) (H:Hp) (Q:VK) (EE:XK):Prop
|mk (l:b8) (xs:List V) (B:Nat) (h0':vs=[.ref l]) (h1':H l=some (.lst xs)) (h2':xs.length<=500) (h3':0 < B) (h4':B < 2 ^ 400) (h5':(∀ x∈xs,Jx B H x)) (h6':∀(p:b8)(H':Hp)(ts:List Int),H p=none->aJ H H'->ts.length=xs.length->H' p=some (.lst (ts.map V.int))->Q (.ref p) H'):wA vs H Q EE
noncomputable def EX:Sp:=fun vs H Q EE=>wA vs H Q EE
inductive oB (K:m7) (vs:List V) (H:Hp) (Q:VK) (EE:XK):Prop
|mk (l l2:b8) (xs ys:List V) (B:Nat) (h0':vs=[.ref l,.ref l2]) (h1':H l=some (.lst xs)) (h2':H l2=some (.lst ys)) (h3':xs.length=ys.length) (h4':xs.length < 64) (h5':0 < B) (h6':B < 2 ^ 400) (h7':(∀ x∈xs,Jx B H x)) (h8':LT H) (h9':∀(p:b8)(H':Hp)(zs:List V),H p=none->Kp tT H H'->LT H'->zs.Perm ys->H' p=some (.lst zs)->Q (.ref p) H'):oB K vs H Q EE
noncomputable def rE(K:m7):Sp:=fun vs H Q EE=>oB K vs H Q EE
inductive zO (w:k6) (vs:List V) (H:Hp) (Q:VK) (EE:XK):Prop
|mk (l:b8) (n:List dE) (U:List Str) (h0':vs=[.ref l]) (h1':LQ fA H l (kn n)) (h2':n.length<=120) (h3':U.length<=63) (h4':(∀ x∈names n,x∈U)) (h5':∀ p H' (ys:List Str),H p=none->aJ H H'->H' p=some (.lst (ys.map V.str))->ys.Nodup->(∀ x,x∈ys ↔ x∈names n)->Q (.ref p) H'):zO w vs H Q EE
noncomputable def LB(w:k6):Sp:=fun vs H Q EE=>zO w vs H Q EE
inductive LU (vs:List V) (H:Hp) (Q:VK) (EE:XK):Prop
|mk (l:b8) (net:List (jT aM)) (h0':vs=[.ref l]) (h1':LQ fA H l net) (h2':net.length<=120) (h3':∀ d H',H d=none->aJ H H'->Bv H' d net->Q (.ref d) H'):LU vs H Q EE
noncomputable def Cu:Sp:=fun vs H Q EE=>LU vs H Q EE
inductive LH (vs:List V) (H:Hp) (Q:VK) (EE:XK):Prop
|mk (l:b8) (ds:List (aM×Rat)) (h0':vs=[.ref l]) (h1':LQ nX H l ds) (h2':ds.length<=500) (h3':(∀ x∈ds,Sz 8000 x.2)) (h4':∀ d H',H d=none->aJ H H'->DQ cA H' d (lst ds)->Q (.ref d) H'):LH vs H Q EE
noncomputable def Cn:Sp:=fun vs H Q EE=>LH vs H Q EE
noncomputable def VL(tm:AL aM Rat)(k:Int)(t:Rat):Bool:=match aV tm (c7 k) with|none=>false|some u=>decide (u < t)
inductive LC (vs:List V) (H:Hp) (Q:VK) (EE:XK):Prop
|mk (d:b8) (tm:AL aM Rat) (k:Int) (v:V) (t:Rat) (h0':vs=[.ref d,.int k,v]) (h1':DQ cA H d tm) (h2':cA H v t) (h3':(∀ x∈tm,Sz 8000 x.2)) (h4':Sz 8000 t) (h5':Q (.bl (VL tm k t)) H):LC vs H Q EE
noncomputable def Ck:Sp:=fun vs H Q EE=>LC vs H Q EE
inductive LO (vs:List V) (H:Hp) (Q:VK) (EE:XK):Prop
|mk (a:b8) (W:AL aM (nE aM)) (h0':vs=[.ref a]) (h1':DQ kO H a W) (h2':(W.map (·.1)).Nodup) (h3':(∀ x∈W,Sz 8000 x.2.1)) (h4':W≠[]) (h5':∀ p e,(p,e)∈W->(∀ w∈W,e.1<=w.2.1)->Q (kV p) H):LO vs H Q EE
noncomputable def Cr:Sp:=fun vs H Q EE=>LO vs H Q EE
noncomputable def bM(ts:List (aM×Rat)):Nat->Option Rat:=fun k=>aV (lst ts) (c7 (k:Int))
inductive LM (vs:List V) (H:Hp) (Q:VK) (EE:XK):Prop
|mk (l:b8) (net:List (jT aM)) (lp:b8) (ps:List (aM×Rat)) (vt:V) (ts:List (aM×Rat)) (D M:Nat) (h0':vs=[.ref l,.ref lp,vt]) (h1':pA H l net D M) (h2':IJ H lp ps D M) (h3':zA H vt ts) (h4':yR D M) (h5':∀ d H' F,H d=none->aJ H H'->DQ kO H' d F->zC net (aV (lst ps)) (bM ts) F->F.length<=ps.length+2 * net.length->(∀ x∈F,Bd D (M * 1000) x.2.1)->Q (.ref d) H'):LM vs H Q EE
noncomputable def Cp:Sp:=fun vs H Q EE=>LM vs H Q EE
inductive SU (w:k6) (vs:List V) (H:Hp) (Q:VK) (EE:XK):Prop
|mk (l:b8) (n:List dE) (lp:b8) (ps:List (aM×Rat)) (vt:V) (ts:List (aM×Rat)) (D M:Nat) (U:List Str) (h0':vs=[.ref l,.ref lp,vt]) (h1':pA H l (kn n) D M) (h2':IJ H lp ps D M) (h3':zA H vt ts) (h4':yR D M) (h5':U.length<=63) (h6':(∀ x∈names n,x∈U)) (h7':∀ d H' F (ys:List Str),H d=none->aJ H H'->DQ eI H' d (ys.map fun y=>(a9 y,bS F (a9 y)))->zC (kn n) (aV (lst ps)) (bM ts) F->(∀ x∈F,Bd D (M * 1000) x.2.1)->ys.Nodup->(∀ x,x∈ys ↔ x∈names n)->Q (.ref d) H'):SU w vs H Q EE
noncomputable def La(w:k6):Sp:=fun vs H Q EE=>SU w vs H Q EE
structure nR(D M:Nat):Prop where
 ne:D≠0
 d3:D < 2 ^ 300
 m:M * 1000 * D < 2 ^ 400
theorem Rp:2 ^ 400<=2 ^ 8000:=Q8 (by decide) (by decide)
theorem nR.d{D M:Nat}(R:nR D M):D < 2 ^ 400:=c9 R.d3 (Q8 (by decide) (by decide))
theorem nR.r8{D M:Nat}(R:nR D M):yR D M:=⟨R.ne,c9 R.d Rp,c9 R.m Rp⟩
theorem nR.sz{D M:Nat}{q:Rat}(R:nR D M)(h:Bd D (M * 1000) q):Sz 400 q:=h.sz R.ne R.d R.m
structure cM(H:Hp)(ln lp lt:b8)(n:List dE)(ps ts:List (aM×Rat))(D M:Nat)(U:List Str):Prop where
 nq:pA H ln (kn n) D M
 pq:IJ H lp ps D M
 tq:LQ nX H lt ts
 tl:ts.length<=100
 tz:∀ r∈ts,Sz 400 r.2
 R:nR D M
 u2:U.length<=63
 nm:∀ x∈names n,x∈U
 n1:ln≠lp
 n2:ln≠lt
 n3:lp≠lt
theorem cM.mv{H H':Hp}{ln i m:b8}{n:List dE}{ps o:List (aM×Rat)}{D M:Nat}{U:List Str}(h:cM H ln i m n ps o D M U)(e:∀ l xs,H l=some (.lst xs)->H' l=some (.lst xs))(t:TK H H'):cM H' ln i m n ps o D M U:=
 have g:∀{s:Type}{R:Hp->V->s->Prop}{l:b8}{f:List s},LQ R H l f->(∀ {H H' v b},R H v b->TK H H'->R H' v b)->LQ R H' l f:=fun ⟨k,a,b⟩ w=>⟨k,e _ _ a,Pd.imp b fun v b q=>w q t⟩
 ⟨⟨g h.nq.lq fA.tk,h.nq.len,h.nq.bd,h.nq.pos⟩,⟨g h.pq.lq nX.tk,h.pq.len,h.pq.bd⟩,g h.tq nX.tk,h.tl,h.tz,h.R,h.u2,h.nm,h.n1,h.n2,h.n3⟩
theorem cM.sm{H H':Hp}{ln b f:b8}{n:List dE}{ps g:List (aM×Rat)}{D M:Nat}{U:List Str}(h:cM H ln b f n ps g D M U)(s:aJ H H'):cM H' ln b f n ps g D M U:=h.mv (fun _ _ z=>s _ _ z) s.tk
structure cQ(H:Hp)(dm:b8)(n:List dE)(ps ts:List (aM×Rat))(D M:Nat)(mo:aM->Option Rat)(ys:List Str):Prop where
 dq:DQ eI H dm (ys.map fun y=>(a9 y,mo (a9 y)))
 fal:fJ (kn n) (aV (lst ps)) (bM ts) mo
 bd:∀ k q,mo k=some q->Bd D (M * 1000) q
 nd:ys.Nodup
 mem:∀ x,x∈ys ↔ x∈names n
theorem cQ.mv{H H':Hp}{b:b8}{n:List dE}{ps f:List (aM×Rat)}{D M:Nat}{mo:aM->Option Rat}{ys:List Str}(h:cQ H b n ps f D M mo ys)(e:∀ o,H b=some o->H' b=some o)(t:TK H H'):cQ H' b n ps f D M mo ys:=⟨DQ.mv h.dq eI.tk e t,h.fal,h.bd,h.nd,h.mem⟩
theorem cQ.of{H:Hp}{f:b8}{n:List dE}{ps g:List (aM×Rat)}{D M:Nat}{F:AL aM (nE aM)}{ys:List Str}(m:DQ eI H f (ys.map fun y=>(a9 y,bS F (a9 y))))(s:zC (kn n) (aV (lst ps)) (bM g) F)(i:∀ x∈F,Bd D (M * 1000) x.2.1)(w:ys.Nodup)(b:∀ x,x∈ys ↔ x∈names n):cQ H f n ps g D M (bS F) ys:=
 ⟨m,s.falls,fun k q e=>by
  unfold bS at e;rw [j7] at e;obtain ⟨x,o,rfl⟩:=e;exact i _ (bU o),w,b⟩
theorem cQ.get{H:Hp}{m:b8}{n:List dE}{ps E:List (aM×Rat)}{D M:Nat}{mo:aM->Option Rat}{ys:List Str}{i:List (aM×V)}(h:cQ H m n ps E D M mo ys)(e:H m=some (.dK i)):∀ y,(y∈names n/\∃ v,bJ i (a9 y)=some v/\eI H v (mo (a9 y)))∨(y∉names n/\bJ i (a9 y)=none):=fun y=>by
 obtain ⟨A,g,C⟩:=h.dq;cases g.symm.trans e;have B:((ys.map fun y=>((a9 y:aM),mo (a9 y))).map (·.1)).Nodup:=by
  rw [L1];exact L9.mpr (h.nd.imp fun h e=>h (Q6 e))
 rcases C.val (k:=a9 y) with ⟨b,f⟩|⟨v1,G,b,f,q⟩
 ·refine .inr ⟨fun s=>?_,b⟩
  exact jV f _ (j1.mpr ⟨y,(h.mem y).mpr s,rfl⟩)
 ·obtain ⟨z,w,o⟩:=j1.mp (bU f)
  cases o;exact .inl ⟨(h.mem y).mp w,v1,b,q⟩
theorem WQ{ln b f d:b8}{g:V}{i:b8}:iA "moments" (.ref d) (cB ln b f g i)=cB ln b f g d:=rfl
theorem WR{ln f g:b8}{i v:V}{b:b8}:iA "moment" v (cB ln f g i b)=cB ln f g v b:=rfl
theorem tQ{b:Type}{R:V->b->Prop}:∀{xs:List V}{ds:List b},Paired R xs ds->∀{i:Nat}{d:b},ds[i]?=some d->∃ x,xs[i]?=some x/\R x d
|_,_,.nil,i,d,h=>by cases h
|_,_,.cons r t,0,d,h=>by cases h; exact ⟨_,rfl,r⟩
|_,_,.cons r t,i+1,d,h=>tQ t h
inductive KZ (vs:List V) (H:Hp) (Q:VK) (EE:XK):Prop
|mk (vf vT vm:V) (o:Option Rat) (T m:Rat) (h0':vs=[vf,vT,vm]) (h1':eI H vf o) (h2':cA H vT T) (h3':cA H vm m) (h4':T≠0) (h5':Sz 400 T) (h6':Sz 400 m) (h7':(∀ f,o=some f->Sz 400 f)) (h8':∀ v H',cA H' v (wQ o T m)->aJ H H'->Q v H'):KZ vs H Q EE
noncomputable def Cj:Sp:=fun vs H Q EE=>KZ vs H Q EE
inductive FC (vs:List V) (H:Hp) (Q:VK) (EE:XK):Prop
|mk (pr d:b8) (vt vm:V) (a b:Str) (u:V) (T m:Rat) (kd:List (aM×V)) (oa ob tk:Option Rat) (va vb:V) (h0':vs=[.ref pr,.ref d,vt,vm]) (h1':H pr=some (.tup [.str a,.str b,u])) (h2':cA H u T) (h3':H d=some (.dK kd)) (h4':bJ kd (a9 a)=some va) (h5':eI H va oa) (h6':bJ kd (a9 b)=some vb) (h7':eI H vb ob) (h8':eI H vt tk) (h9':cA H vm m) (h10':T≠0) (h11':Sz 400 T) (h12':Sz 400 m) (h13':(∀ f,oa=some f->Sz 400 f)) (h14':(∀ f,ob=some f->Sz 400 f)) (h15':(∀ f,tk=some f->Sz 400 f)) (h16':∀ v H',sW H' v (BO oa ob tk T m)->aJ H H'->Q v H'):FC vs H Q EE
noncomputable def SO:Sp:=fun vs H Q EE=>FC vs H Q EE
theorem TM{o:Option Rat}{T m:Rat}(g:T≠0)(i:Sz 400 T)(q:Sz 400 m)(s:∀ f,o=some f->Sz 400 f):Sz 1300 (wQ o T m):=by
 have b:Sz 1300 0:=⟨pow_pos (by decide),Nat.one_lt_two_pow (by decide)⟩
 cases o with
|none=>exact b
|some f =>
  show Sz 1300 (if m < f then 0 else (m - f) / T);split
  ·exact b
  ·exact (Sz.div (Sz.sub q (s f rfl)) i g).mono (by decide)
inductive FB (w:k6) (vs:List V) (H:Hp) (Q:VK) (EE:XK):Prop
|mk (l:b8) (n:List dE) (lp:b8) (ps:List (aM×Rat)) (vt:V) (ts:List (aM×Rat)) (D M:Nat) (U:List Str) (k:Nat) (r:dE) (vm:V) (m:Rat) (h0':vs=[.ref l,.ref lp,.int (k:Int),vm,vt]) (h1':pA H l (kn n) D M) (h2':IJ H lp ps D M) (h3':zA H vt ts) (h4':yR D M) (h5':U.length<=63) (h6':(∀ x∈names n,x∈U)) (h7':n[k]?=some r) (h8':cA H vm m) (h9':Sz 400 m) (h10':(∀ t,Bd D (M * 1000) t->Sz 400 t)) (h11':(∀ x∈ts,Sz 400 x.2)) (h12':∀ v H' F,aJ H H'->zC (kn n) (aV (lst ps)) (bM ts) F->(∀ p f,bS F p=some f->Sz 400 f)->sW H' v (BO (bS F (a9 r.1)) (bS F (a9 r.2.1)) (bM ts k) r.2.2 m)->Q v H'):FB w vs H Q EE
noncomputable def SN(w:k6):Sp:=fun vs H Q EE=>FB w vs H Q EE
inductive KY (vs:List V) (H:Hp) (Q:VK) (EE:XK):Prop
|mk (vf vT vb:V) (o:Option Rat) (T:Rat) (p:Option Rat) (h0':vs=[vf,vT,vb]) (h1':eI H vf o) (h2':cA H vT T) (h3':eI H vb p) (h4':Sz 400 T) (h5':(∀ f,o=some f->Sz 400 f)) (h6':(∀ f,p=some f->Sz 400 f)) (h7':∀ H',aJ H H'->Q (.bl (RJ o T p)) H'):KY vs H Q EE
noncomputable def Ci:Sp:=fun vs H Q EE=>KY vs H Q EE
inductive LN (vs:List V) (H:Hp) (Q:VK) (EE:XK):Prop
|mk (pr d:b8) (a b:Str) (u:V) (T:Rat) (kd:List (aM×V)) (oa ob:Option Rat) (va vb:V) (h0':vs=[.ref pr,.ref d]) (h1':H pr=some (.tup [.str a,.str b,u])) (h2':cA H u T) (h3':H d=some (.dK kd)) (h4':bJ kd (a9 a)=some va) (h5':eI H va oa) (h6':bJ kd (a9 b)=some vb) (h7':eI H vb ob) (h8':0 < T) (h9':Sz 400 T) (h10':(∀ f,oa=some f->Sz 400 f)) (h11':(∀ f,ob=some f->Sz 400 f)) (h12':∀ v H',RH H' v (fF a b oa ob T)->aJ H H'->Q v H'):LN vs H Q EE
noncomputable def Cq:Sp:=fun vs H Q EE=>LN vs H Q EE
inductive LG (vs:List V) (H:Hp) (Q:VK) (EE:XK):Prop
|mk (v:V) (e:iW) (h0':vs=[v]) (h1':RH H v e) (h2':∀ u,eI H u (fP e)->Q u H):LG vs H Q EE
noncomputable def Cm:Sp:=fun vs H Q EE=>LG vs H Q EE
theorem WZ{a b:Str}{m q:Option Rat}{T:Rat}(i:Sz 400 T)(s:∀ f,m=some f->Sz 400 f)(w:∀ f,q=some f->Sz 400 f):∀ t,fP (fF a b m q T)=some t->Sz 2000 t:=by
 have g:∀{o:Option Rat},(∀ f,o=some f->Sz 400 f)->Sz 400 (o.getD 0):=fun {o} h=>by
  cases o with
 |none=>exact ⟨pow_pos (by decide),Nat.one_lt_two_pow (by decide)⟩
 |some f=>exact h f rfl
 have A:Sz 10 (1 / 2:Rat):=⟨by k_is,by k_is⟩
 intro t;unfold fF;split
 ·intro z; cases z
 ·split
  ·intro z; cases z; exact (Sz.add (g s) i).mono (by decide)
  ·split
   ·intro z; cases z; exact (Sz.add (g w) i).mono (by decide)
   ·intro z; cases z; exact (Sz.mul (Sz.add (Sz.add (g s) (g w)) i) A).mono (by decide)
inductive FR (vs:List V) (H:Hp) (Q:VK) (EE:XK):Prop
|mk (pr d:b8) (vt:V) (a b:Str) (u:V) (T:Rat) (kd:List (aM×V)) (oa ob tk:Option Rat) (va vb:V) (h0':vs=[.ref pr,.ref d,vt]) (h1':H pr=some (.tup [.str a,.str b,u])) (h2':cA H u T) (h3':H d=some (.dK kd)) (h4':bJ kd (a9 a)=some va) (h5':eI H va oa) (h6':bJ kd (a9 b)=some vb) (h7':eI H vb ob) (h8':eI H vt tk) (h9':0 < T) (h10':Sz 400 T) (h11':(∀ f,oa=some f->Sz 400 f)) (h12':(∀ f,ob=some f->Sz 400 f)) (h13':(∀ f,tk=some f->Sz 400 f)) (h14':∀ v H',RH H' v (mD (fF a b oa ob T) tk)->aJ H H'->Q v H'):FR vs H Q EE
noncomputable def SW:Sp:=fun vs H Q EE=>FR vs H Q EE
inductive FQ (w:k6) (vs:List V) (H:Hp) (Q:VK) (EE:XK):Prop
|mk (l:b8) (n:List dE) (lp:b8) (ps:List (aM×Rat)) (vt:V) (ts:List (aM×Rat)) (D M:Nat) (U:List Str) (k:Nat) (r:dE) (h0':vs=[.ref l,.ref lp,.int (k:Int),vt]) (h1':pA H l (kn n) D M) (h2':IJ H lp ps D M) (h3':zA H vt ts) (h4':yR D M) (h5':U.length<=63) (h6':(∀ x∈names n,x∈U)) (h7':n[k]?=some r) (h8':(∀ t,Bd D (M * 1000) t->Sz 400 t)) (h9':(∀ x∈ts,Sz 400 x.2)) (h10':∀ v H' F,aJ H H'->zC (kn n) (aV (lst ps)) (bM ts) F->(∀ p f,bS F p=some f->Sz 400 f)->RH H' v (mD (fF r.1 r.2.1 (bS F (a9 r.1)) (bS F (a9 r.2.1)) r.2.2) (bM ts k))->Q v H'):FQ w vs H Q EE
noncomputable def SV(w:k6):Sp:=fun vs H Q EE=>FQ w vs H Q EE
inductive FV (K:m7) (vs:List V) (H:Hp) (Q:VK) (EE:XK):Prop
|mk (a:b8) (ns:List Int) (k:Int) (h0':vs=[.ref a,.int k]) (h1':cP K H a (ns.map V.int)) (h2':0<=k) (h3':∀ r,Q (.int r) H):FV K vs H Q EE
noncomputable def TD(K:m7):Sp:=fun vs H Q EE=>FV K vs H Q EE
inductive uI (vs:List V) (H:Hp) (Q:VK) (EE:XK):Prop
|mk (c k:Int) (h0':vs=[.int c,.int k]) (h1':0<=k) (h2':k<=1000) (h3':∀ r,Q (.int r) H):uI vs H Q EE
noncomputable def zU:Sp:=fun vs H Q EE=>uI vs H Q EE
inductive zR (K:m7) (vs:List V) (H:Hp) (Q:VK) (EE:XK):Prop
|mk (a:b8) (ns:List Int) (k:Int) (h0':vs=[.ref a,.int k]) (h1':cP K H a (ns.map V.int)) (h2':0<=k) (h3':k<=1000) (h4':∀ r,Q (.int r) H):zR K vs H Q EE
noncomputable def LD(K:m7):Sp:=fun vs H Q EE=>zR K vs H Q EE
inductive wF (vs:List V) (H:Hp) (Q:VK) (EE:XK):Prop
|mk (t b:Int) (h0':vs=[.int t,.int b]) (h1':0 < b) (h2':Sm 8000 t) (h3':Sm 8000 b) (h4':∀ p,H p=none->Q (.ref p) (upd H p (.tup [.int (eM t b),.int (eQ t b)]))):wF vs H Q EE
noncomputable def FH:Sp:=fun vs H Q EE=>wF vs H Q EE
theorem at6:∀ i:Int,0<=i->i < 6->∃ t:Str,yN [V.str "",V.str ".x",V.str ".ab.c",V.str ".zzzzzzzz.y.a",V.str "",V.str ""] i=some (.str t)/\t.length<=20/\((cl t).length=0∨(cl t).length=2∨(cl t).length=5∨(cl t).length=13)/\Pk (cl t):=by
 intro i b f;have:i=0∨i=1∨i=2∨i=3∨i=4∨i=5:=by lia
 rcases this with rfl|rfl|rfl|rfl|rfl|rfl <;> exact ⟨_,rfl,by k_is,by k_is,by unfold Pk; decide +kernel⟩
inductive uH (vs:List V) (H:Hp) (Q:VK) (EE:XK):Prop
|mk (c:Int) (h0':vs=[.int c]) (h1':∀ l H' (U:List Str),H l=none->aJ H H'->H' l=some (.lst (U.map V.str))->2<=U.length->U.length<=8->U.Nodup->(∀ x∈U,Nq x)->(∀ x∈U,Eo x)->Q (.ref l) H'):uH vs H Q EE
noncomputable def zQ:Sp:=fun vs H Q EE=>uH vs H Q EE
theorem Ph{x0 x1 x2 x3:Int}(P:Int->Prop)(h0:P x0)(b:P x1)(f:P x2)(g:P x3)(i:Int)(l:0<=i)(u:i < 4):∃ t:Int,yN [V.int x0,V.int x1,V.int x2,V.int x3] i=some (.int t)/\P t:=by
 have:i=0∨i=1∨i=2∨i=3:=by lia
 rcases this with rfl|rfl|rfl|rfl
 ·exact ⟨_,rfl,h0⟩
 ·exact ⟨_,rfl,b⟩
 ·exact ⟨_,rfl,f⟩
 ·exact ⟨_,rfl,g⟩
inductive wB (vs:List V) (H:Hp) (Q:VK) (EE:XK):Prop
|mk (c:Int) (h0':vs=[.int c]) (h1':∀ r H',aJ H H'->1<=r->r<=10 ^ 31->Q (.int r) H'):wB vs H Q EE
noncomputable def EY:Sp:=fun vs H Q EE=>wB vs H Q EE
inductive wJ (K:m7) (vs:List V) (H:Hp) (Q:VK) (EE:XK):Prop
|mk (a:b8) (ns:List Int) (h0':vs=[.ref a,.int 23]) (h1':cP K H a (ns.map V.int)) (h2':ns.length<=63) (h3':∀ dd H' U u rs ps ts ln lr lp lt,H dd=none->aJ H H'->U.length+rs.length<=30->mF U u rs ps ts->lE H' dd U u rs ps ts ln lr lp lt->H' dd=some (.dK (cK ln u lr lp lt))->Q (.ref dd) H'):wJ K vs H Q EE
noncomputable def FN(K:m7):Sp:=fun vs H Q EE=>wJ K vs H Q EE
structure lG(H H':Hp)(dd:b8)(U:List Str)(u:Int)(rs:List (Int×Int×Int))(ps ts:List (Int×Int))(ln lr lp lt:b8)(m:Nat):Prop where
 i:Pa U u rs ps ts m
 q:lE H' dd U u rs ps ts ln lr lp lt
 s:aJ H H'
 f1:H lr=none
 f2:H lp=none
 f3:H lt=none
 n1:lr≠lp
 n2:lr≠lt
 n3:lp≠lt
 m:1<=m->rs≠[]
 d0:H' dd=some (.dK (cK ln u lr lp lt))
theorem BQ{b:Type}{P:b->Prop}{l:List b}{x:b}(h:∀ r∈l,P r)(g:P x):∀ r∈l++[x],P r:=fun r f=>(m9.mp f).elim (h r) fun z=>by rw [f9.mp z]; exact g
theorem CT{g:Type}{R:Hp->V->g->Prop}{G:Hp}{l:b8}{vs:List V}{ds:List g}{v:V}{b:g}(i:∀ {H H' v b},R H v b->TK H H'->R H' v b)(h:G l=some (.lst vs))(p:Paired (R G) vs ds)(r:R G v b):LQ R (upd G l (.lst (vs++[v]))) l (ds++[b]):=
 ⟨_,aC,Pd.snoc (Pd.imp p fun v b f=>i f (TK.lst h)) (i r (TK.lst h))⟩
theorem tZ{i:Type}{R:Hp->V->i->Prop}{G:Hp}{l k:b8}{vs xs:List V}{ds:List i}(m:∀ {H H' v b},R H v b->TK H H'->R H' v b)(h:G k=some (.lst vs))(g:l≠k)(q:LQ R G l ds):LQ R (upd G k (.lst xs)) l ds:=
 let ⟨o,e,p⟩:=q; ⟨o,aX g e,Pd.imp p fun v b f=>m f (TK.lst h)⟩
section
variable {H G:Hp}{dd:b8}{U:List Str}{u:Int}{rs:List (Int×Int×Int)}{ps ts:List (Int×Int)}{ln lr lp lt:b8}{m:Nat}
theorem lG.sm{b:Hp}(h:lG H G dd U u rs ps ts ln lr lp lt m)(s:aJ G b):lG H b dd U u rs ps ts ln lr lp lt m:=⟨h.i,h.q.sm s,h.s.trans s,h.f1,h.f2,h.f3,h.n1,h.n2,h.n3,h.m,s _ _ h.d0⟩
theorem AN{p q:b8}{kv:List (aM×V)}{xs:List V}(b:G p=some (.dK kv))(f:G q=some (.lst xs)):p≠q:=fun e=>by rw [e,f] at b; cases b
theorem lG.run{vs:List V}{p:b8}{x:Int×Int×Int}(h:lG H G dd U u rs ps ts ln lr lp lt m)(b:G lr=some (.lst vs))(pv:Paired (nV G) vs rs)(g:nV G (.ref p) x)(ok:0<=x.1/\x.1 < U.length/\0<=x.2.1/\x.2.1 < U.length/\1<=x.2.2/\x.2.2<=10 ^ 31)(f:ln≠lr):lG H (upd G lr (.lst (vs++[.ref p]))) dd U u (rs++[x]) ps ts ln lr lp lt (m+1):=
  ⟨⟨h.i.u0,h.i.u1,h.i.n2,h.i.n8,BQ h.i.rok ok,h.i.pok,h.i.tok,by have:=h.i.len; rw [i9]; show _+1+_+_<=_; lia⟩,
   ⟨⟨_,aX (AN h.q.d b) h.q.d⟩,aX f h.q.nm,CT nV.tk b pv g,tZ iH.tk b (j3 h.n1) h.q.pq,tZ iH.tk b (j3 h.n2) h.q.tq⟩,
   Kp.upd.sm h.s h.f1,h.f1,h.f2,h.f3,h.n1,h.n2,h.n3,(fun _ z=>by simp at z),aX (AN h.q.d b) h.d0⟩
theorem lG.pus{vs:List V}{p:b8}{x:Int×Int}(h:lG H G dd U u rs ps ts ln lr lp lt m)(b:G lp=some (.lst vs))(pv:Paired (iH G) vs ps)(o:iH G (.ref p) x)(ok:0<=x.1/\x.1 < U.length/\0<=x.2/\x.2<=10 ^ 105)(f:ln≠lp)(g:rs≠[]):lG H (upd G lp (.lst (vs++[.ref p]))) dd U u rs (ps++[x]) ts ln lr lp lt (m+1):=
  ⟨⟨h.i.u0,h.i.u1,h.i.n2,h.i.n8,h.i.rok,BQ h.i.pok ok,h.i.tok,by have:=h.i.len; rw [i9]; show _+(_+1)+_<=_; lia⟩,
   ⟨⟨_,aX (AN h.q.d b) h.q.d⟩,aX f h.q.nm,tZ nV.tk b h.n1 h.q.rq,CT iH.tk b pv o,tZ iH.tk b (j3 h.n3) h.q.tq⟩,
   Kp.upd.sm h.s h.f2,h.f1,h.f2,h.f3,h.n1,h.n2,h.n3,(fun _=>g),aX (AN h.q.d b) h.d0⟩
theorem lG.tak{vs:List V}{p:b8}{x:Int×Int}(h:lG H G dd U u rs ps ts ln lr lp lt m)(b:G lt=some (.lst vs))(pv:Paired (iH G) vs ts)(o:iH G (.ref p) x)(ok:0<=x.1/\0<=x.2/\x.2<=10 ^ 105)(f:ln≠lt)(g:rs≠[]):lG H (upd G lt (.lst (vs++[.ref p]))) dd U u rs ps (ts++[x]) ln lr lp lt (m+1):=
  ⟨⟨h.i.u0,h.i.u1,h.i.n2,h.i.n8,h.i.rok,h.i.pok,BQ h.i.tok ok,by have:=h.i.len; rw [i9]; show _+_+(_+1)<=_; lia⟩,
   ⟨⟨_,aX (AN h.q.d b) h.q.d⟩,aX f h.q.nm,tZ nV.tk b h.n2 h.q.rq,tZ iH.tk b h.n3 h.q.pq,CT iH.tk b pv o⟩,
   Kp.upd.sm h.s h.f3,h.f1,h.f2,h.f3,h.n1,h.n2,h.n3,(fun _=>g),aX (AN h.q.d b) h.d0⟩
end
inductive zS (vs:List V) (H:Hp) (Q:VK) (EE:XK):Prop
|mk (dd:b8) (U:List Str) (u:Int) (rs:List (Int×Int×Int)) (ps ts:List (Int×Int)) (ln lr lp lt:b8) (h0':vs=[.ref dd]) (h1':mF U u rs ps ts) (h2':lE H dd U u rs ps ts ln lr lp lt) (h3':∀ p H',H p=none->aJ H H'->LQ fA H' p (kn (eG U u rs))->Q (.ref p) H'):zS vs H Q EE
noncomputable def LF:Sp:=fun vs H Q EE=>zS vs H Q EE
theorem OU{z:Int}(h0:0<=z)(b:z<=10 ^ 106):Sm 8000 z:=B8 (show z.natAbs<=10 ^ 106 by lia) (by decide)
inductive rF (vs:List V) (H:Hp) (Q:VK) (EE:XK):Prop
|mk (dd:b8) (U:List Str) (u:Int) (rs:List (Int×Int×Int)) (ps ts:List (Int×Int)) (ln lr lp lt:b8) (h0':vs=[.ref dd]) (h1':mF U u rs ps ts) (h2':lE H dd U u rs ps ts ln lr lp lt) (h3':∀ p H',H p=none->aJ H H'->LQ iH H' p (iQ rs ps)->Q (.ref p) H'):rF vs H Q EE
noncomputable def wD:Sp:=fun vs H Q EE=>rF vs H Q EE
inductive zN (vs:List V) (H:Hp) (Q:VK) (EE:XK):Prop
|mk (dd:b8) (U:List Str) (u:Int) (rs:List (Int×Int×Int)) (ps ts:List (Int×Int)) (ln lr lp lt:b8) (h0':vs=[.ref dd]) (h1':mF U u rs ps ts) (h2':lE H dd U u rs ps ts ln lr lp lt) (h3':∀ d H' (D:AL aM Int),H d=none->aJ H H'->DQ IQ H' d D->Jr u D (jK u ts)->(∀ x∈D,0<=x.2/\x.2<=10 ^ 105)->Q (.ref d) H'):zN vs H Q EE
noncomputable def KW:Sp:=fun vs H Q EE=>zN vs H Q EE
inductive LP (vs:List V) (H:Hp) (Q:VK) (EE:XK):Prop
|mk (dd:b8) (U:List Str) (u:Int) (rs:List (Int×Int×Int)) (ps ts:List (Int×Int)) (ln lr lp lt:b8) (h0':vs=[.ref dd]) (h1':mF U u rs ps ts) (h2':lE H dd U u rs ps ts ln lr lp lt) (h3':∀ d H' (D:AL aM Int),H d=none->aJ H H'->DQ IQ H' d D->EK U u rs (nY U u (iQ rs ps)) (bM (jK u ts)) D->fJ (kn (eG U u rs)) (aV (lst (nY U u (iQ rs ps)))) (bM (jK u ts)) (mT U u D)->Q (.ref d) H'):LP vs H Q EE
noncomputable def Cs:Sp:=fun vs H Q EE=>LP vs H Q EE
theorem Ey{u:Int}{T:AL aM Int}{b:List (aM×Rat)}(h:Jr u T b)(k:Nat):bM b k=(aV T (c7 (k:Int))).map (ut u):=(h k).symm
theorem ND{u:Int}(b:0 < u){T:AL aM Int}{f:List (aM×Rat)}(h:Jr u T f)(k:Nat)(c:Int):cU (bM f) k (ut u c) ↔ c<=(aV T (c7 (k:Int))).getD c:=by
 unfold cU bM;rw [← h];cases aV T (c7 (k:Int)) with
|none=>exact ⟨fun _=>dh _,fun _ w e=>nomatch e⟩
|some w=>exact ⟨fun z=>(vX b).mp (z _ rfl),fun z v e=>by cases e; exact (vX b).mpr z⟩
inductive rG (vs:List V) (H:Hp) (Q:VK) (EE:XK):Prop
|mk (dd:b8) (U:List Str) (u:Int) (rs:List (Int×Int×Int)) (ps ts:List (Int×Int)) (ln lr lp lt:b8) (h0':vs=[.ref dd]) (h1':mF U u rs ps ts) (h2':lE H dd U u rs ps ts ln lr lp lt) (h3':∀ p H' l1 l2,H p=none->H l1=none->H l2=none->aJ H H'->H' p=some (.tup [.ref l1,.ref l2])->LQ nX H' l1 (nY U u (iQ rs ps))->LQ nX H' l2 (jK u ts)->Q (.ref p) H'):rG vs H Q EE
noncomputable def wK:Sp:=fun vs H Q EE=>rG vs H Q EE
inductive wH (vs:List V) (H:Hp) (Q:VK) (EE:XK):Prop
|mk (dd:b8) (U:List Str) (u:Int) (rs:List (Int×Int×Int)) (ps ts:List (Int×Int)) (ln lr lp lt:b8) (d:b8) (D:AL aM Int) (k:Nat) (r:Int×Int×Int) (m:Int) (h0':vs=[.ref dd,.ref d,.int (k:Int),.int m]) (h1':mF U u rs ps ts) (h2':lE H dd U u rs ps ts ln lr lp lt) (h3':DQ IQ H d D) (h4':EK U u rs (nY U u (iQ rs ps)) (bM (jK u ts)) D) (h5':rs[k]?=some r) (h6':0<=m) (h7':m<=10 ^ 109) (h8':∀ v H',aJ H H'->sW H' v (BO (mT U u D (a9 (jM U r.1))) (mT U u D (a9 (jM U r.2.1))) (bM (jK u ts) k) (ut u r.2.2) (ut u m))->Q v H'):wH vs H Q EE
noncomputable def FK:Sp:=fun vs H Q EE=>wH vs H Q EE
structure kI(H:Hp)(dd:b8)(U:List Str)(u:Int)(rs:List (Int×Int×Int))(ps ts:List (Int×Int))(ln lr lp lt:b8)(now:Int):Prop where
 d:H dd=some (.dK (cK ln u lr lp lt [(a9 "now",.int now)]))
 q:lE H dd U u rs ps ts ln lr lp lt
theorem kI.sm{H H':Hp}{f:b8}{U:List Str}{u:Int}{o:List (Int×Int×Int)}{ps w:List (Int×Int)}{ln i g m:b8}{b:Int}(h:kI H f U u o ps w ln i g m b)(s:aJ H H'):kI H' f U u o ps w ln i g m b:=⟨s _ _ h.d,h.q.sm s⟩
theorem jE{ln g f i:b8}{u b:Int}:bJ (cK ln u g f i [(a9 "now",.int b)]) (a9 "now")=some (.int b):=by with_unfolding_all rfl
inductive wM (K:m7) (vs:List V) (H:Hp) (Q:VK) (EE:XK):Prop
|mk (a:b8) (ns:List Int) (h0':vs=[.ref a]) (h1':cP K H a (ns.map V.int)) (h2':ns.length<=63) (h3':∀ dd H' U u rs ln lr lp lt,H dd=none->H lp=none->H lt=none->lp≠lt->ln≠lp->ln≠lt->lr≠lp->lr≠lt->aJ H H'->U.length+rs.length<=30->mF U u rs [] []->kI H' dd U u rs [] [] ln lr lp lt 0->Q (.ref dd) H'):wM K vs H Q EE
noncomputable def FO(K:m7):Sp:=fun vs H Q EE=>wM K vs H Q EE
theorem VX{H:Hp}{Q:VK}{l p:b8}{b:List Int}(f:H l=some (.lst (b.map V.int)))(g:H p=some (.lst []))(k:Q (.bl (!b.isEmpty)) H):GL (.ref l) (.ref p) H Q:=by
 refine Nr (es:=[]) ⟨l,_,rfl,f,AZ _⟩ ⟨p,_,rfl,g,rfl⟩ (u8 (AY _) (by decide)) ?_;cases b <;> exact k
theorem NF(is:List Nat):is.map (fun j:Nat=>V.int (j:Int))=(is.map (fun j:Nat=>(j:Int))).map V.int:=by
 rw [L1];rfl
theorem VW{H:Hp}{Q:VK}{l p:b8}{is:List Nat}(b:H l=some (.lst (is.map (fun j:Nat=>V.int (j:Int)))))(f:H p=some (.lst []))(k:Q (.bl (!is.isEmpty)) H):GL (.ref l) (.ref p) H Q:=by
 rw [NF] at b;refine VX b f ?_;cases is <;> exact k
theorem VD{is:List Nat}{z:Int}(h:is≠[]):∃ j∈is,yN (is.map (fun j:Nat=>V.int (j:Int))) (z % (is.length:Int))=some (.int (j:Int)):=by
 have g:0 < is.length:=U9.mpr h;obtain ⟨m,f,e⟩:=VC (S:=is.map (fun j:Nat=>(j:Int))) (i:=z % (is.length:Int)) (m8 _ (by lia)) (by rw [g7]; exact j9 _ (by lia));obtain ⟨j,b,rfl⟩:=j1.mp f;exact ⟨j,b,by rw [NF]; exact e⟩
inductive FT (vs:List V) (H:Hp) (Q:VK) (EE:XK):Prop
|mk (dd d:b8) (num:Int) (U:List Str) (u:Int) (rs:List (Int×Int×Int)) (ps ts:List (Int×Int)) (ln lr lp lt:b8) (now:Int) (D:AL aM Int) (h0':vs=[.ref dd,.ref d,.int num]) (h1':kI H dd U u rs ps ts ln lr lp lt now) (h2':mF U u rs ps ts) (h3':DQ IQ H d D) (h4':dd≠d) (h5':EK U u rs (nY U u (iQ rs ps)) (bM (jK u ts)) D) (h6':0<=now) (h7':now<=10 ^ 108) (h8':U.length < 64) (h9':∀ p w x H',H p=none->aJ H H'->H' p=some (.tup [.str w,.int x])->((w="push"/\∃ i:Nat,x=(i:Int)/\i < U.length/\(∃ r∈rs,r.1=(i:Int)∨r.2.1=(i:Int))/\∀ z,aV D (c7 (i:Int))=some z->now < z)∨(w="take"/\∃(k:Nat)(r:Int×Int×Int),x=(k:Int)/\rs[k]?=some r/\BO (mT U u D (a9 (jM U r.1))) (mT U u D (a9 (jM U r.2.1))) (bM (jK u ts) k) (ut u r.2.2) (ut u now)≠none)∨(w="go"/\0<=x/\((∃ y∈D,now+x=y.2)∨x<=10 ^ 30)))->Q (.ref p) H'):FT vs H Q EE
noncomputable def SZ:Sp:=fun vs H Q EE=>FT vs H Q EE
inductive LR (vs:List V) (H:Hp) (Q:VK) (EE:XK):Prop
|mk (dd:b8) (U:List Str) (u:Int) (rs:List (Int×Int×Int)) (ps ts:List (Int×Int)) (ln lr lp lt:b8) (now:Int) (pd:b8) (w:Str) (x:Int) (h0':vs=[.ref dd,.ref pd]) (h1':kI H dd U u rs ps ts ln lr lp lt now) (h2':H pd=some (.tup [.str w,.int x])) (h3':ln≠lp) (h4':ln≠lt) (h5':lr≠lp) (h6':lr≠lt) (h7':lp≠lt) (h8':((w="push"/\ps.length<=100/\∀ H',jW [dd,lp,lt] H H'->kI H' dd U u rs (ps++[(x,now)]) ts ln lr lp lt now->Q .non H')∨(w="take"/\ts.length<=100/\∀ H',jW [dd,lp,lt] H H'->kI H' dd U u rs ps (ts++[(x,now)]) ln lr lp lt now->Q .non H')∨(w="go"/\∀ H',jW [dd,lp,lt] H H'->kI H' dd U u rs ps ts ln lr lp lt (now+x)->Q .non H'))):LR vs H Q EE
noncomputable def Ct:Sp:=fun vs H Q EE=>LR vs H Q EE
inductive FU (cC:b8) (vs:List V) (H:Hp) (Q:VK) (EE:XK):Prop
|mk (h dx ln lp lt:b8) (vm:V) (dm:b8) (v:V) (m:Rat) (o:Option Rat) (h0':vs=[.ref h,v]) (h1':H h=some (.ins cC dx (cB ln lp lt vm dm))) (h2':cA H vm m) (h3':eI H v o) (h4':Sz 8000 m) (h5':(∀ q,o=some q->Sz 8000 q)) (h6':Q (.bl (vB m o)) H):FU cC vs H Q EE
noncomputable def TC(cC:b8):Sp:=fun vs H Q EE=>FU cC vs H Q EE
noncomputable def Rz(B:Nat)(H:Hp)(v:V):Prop:=∃ p s u jC,v=.ref p/\H p=some (.tup (.str s::u::jC))/\Jx B H u
theorem Oh{D M:Nat}{q:Rat}(h:Bd D M q):q.den ∣ 2 * D:=dvd_trans h.1 ⟨2,Nat.mul_comm ..⟩
inductive Ev
|falls (t:Rat) (y:Str)
|met (t:Rat) (k:Nat) (s:Rat)
|swept (t:Rat) (k:Nat)
noncomputable def Ev.t:Ev->Rat
|.falls t _=>t
|.met t _ _=>t
|.swept t _=>t
noncomputable def gC(H:Hp)(v:V):Ev->Prop
|.falls t y=>∃ p u,v=.ref p/\H p=some (.tup [.str "falls",u,.str y])/\cA H u t
|.met t k s=>∃ p u w,v=.ref p/\H p=some (.tup [.str "met",u,.int (k:Int),w])/\cA H u t/\cA H w s
|.swept t k=>∃ p u,v=.ref p/\H p=some (.tup [.str "swept",u,.int (k:Int)])/\cA H u t
theorem gC.tk{H H':Hp}{v:V}{e:Ev}(h:gC H v e)(t:TK H H'):gC H' v e:=by
 cases e with
|falls q y=>obtain ⟨p,u,e,h,f⟩:=h; exact ⟨p,u,e,t _ _ h,f.tk t⟩
|met q k s=>obtain ⟨p,u,w,e,h,f,g⟩:=h; exact ⟨p,u,w,e,t _ _ h,f.tk t,g.tk t⟩
|swept q k=>obtain ⟨p,u,e,h,f⟩:=h; exact ⟨p,u,e,t _ _ h,f.tk t⟩
noncomputable def YD(B:Nat)(e:Ev):Prop:=e.t.den ∣ B/\Sz 2000 e.t
theorem gC.d{B:Nat}{H:Hp}{v:V}{e:Ev}(h:gC H v e)(b:YD B e):Rz B H v:=by
 cases e with
|falls q y=>obtain ⟨p,u,e,h,f⟩:=h; exact ⟨p,_,u,_,e,h,q,f,b.1,b.2⟩
|met q k s=>obtain ⟨p,u,w,e,h,f,g⟩:=h; exact ⟨p,_,u,_,e,h,q,f,b.1,b.2⟩
|swept q k=>obtain ⟨p,u,e,h,f⟩:=h; exact ⟨p,_,u,_,e,h,q,f,b.1,b.2⟩
noncomputable def gP(mo:aM->Option Rat)(y:Str):Option Ev:=(mo (a9 y)).map fun t=>.falls t y
theorem sR{b g:Type}{f:b->Option g}{l:List b}{i:Nat}{x:b}(h:l[i]?=some x):(l.take (i+1)).filterMap f=(l.take i).filterMap f++(f x).toList:=by
 rw [Y0,h,bz];congr 1
inductive pX (cC:b8) (vs:List V) (H:Hp) (Q:VK) (EE:XK):Prop
|mk (h dx ln lp lt:b8) (vm:V) (dm:b8) (n:List dE) (ps ts:List (aM×Rat)) (D M:Nat) (U:List Str) (mo:aM->Option Rat) (ys:List Str) (h0':vs=[.ref h]) (h1':H h=some (.ins cC dx (cB ln lp lt vm dm))) (h2':cM H ln lp lt n ps ts D M U) (h3':cQ H dm n ps ts D M mo ys) (h4':ys.length < 64) (h5':∀ p H' zs es,H p=none->aJ H H'->H' p=some (.lst zs)->zs.length<=200->es.Perm (ys.filterMap (gP mo))->Paired (gC H') zs es->(∀ e∈es,YD (2 * D) e)->Q (.ref p) H'):pX cC vs H Q EE
noncomputable def uJ(cC:b8):Sp:=fun vs H Q EE=>pX cC vs H Q EE
theorem XI{D:Nat}{q:Rat}(b:D≠0)(h:q.den ∣ D):(q * (1 / 2)).den ∣ 2 * D:=by
 obtain ⟨a,rfl⟩:=Hf h b;rw [show (1 / 2:Rat)=i0 1 2 by k_is,O7,re];have e:((D:Int) * 2)=((2 * D:Nat):Int):=by push_cast; lia
 rw [e];exact M8.mp (OA (by lia))
theorem Bg{D:Nat}{a b:Str}{B C:Option Rat}{T:Rat}(g:D≠0)(s:T.den ∣ D)(w:∀ f,B=some f->f.den ∣ D)(A:∀ f,C=some f->f.den ∣ D):∀ t,fP (fF a b B C T)=some t->t.den ∣ 2 * D:=by
 have m:∀{o:Option Rat},(∀ f,o=some f->f.den ∣ D)->(o.getD 0).den ∣ D:=fun {o} h=>by
  cases o with
 |none=>exact Nat.one_dvd _
 |some f=>exact h f rfl
 have i:∀{q:Rat},q.den ∣ D->q.den ∣ 2 * D:=fun h=>dvd_trans h ⟨2,Nat.mul_comm ..⟩;intro t;unfold fF;split
 ·intro z; cases z
 ·split
  ·intro z; cases z; exact i (sT g (m w) s)
  ·split
   ·intro z; cases z; exact i (sT g (m A) s)
   ·intro z; cases z; exact XI g (sT g (sT g (m w) (m A)) s)
theorem DM{e:iW}{tk:Option Rat}:(∃ t,mD e tk=.taken t)∨mD e tk=e:=by
 unfold mD;cases tk with
|none=>exact .inr rfl
|some u =>
  dsimp only;split
  ·exact .inl ⟨_,rfl⟩
  ·exact .inr rfl
noncomputable def pR(k:Nat):iW->Option Ev
|.met t s=>some (.met t k s)
|.swept _ t=>some (.swept t k)
|_=>none
noncomputable def eN(n:List dE)(mo:aM->Option Rat)(ts:List (aM×Rat))(i:Nat):Option Ev:=n[i]?.bind fun r=>pR i (mD (fF r.1 r.2.1 (mo (a9 r.1)) (mo (a9 r.2.1)) r.2.2) (bM ts i))
theorem UD{n i:Nat}(h:i < n):(k9 n)[i]?=some i:=rc h
inductive rK (cC:b8) (vs:List V) (H:Hp) (Q:VK) (EE:XK):Prop
|mk (h dx ln lp lt:b8) (vm:V) (dm:b8) (n:List dE) (ps ts:List (aM×Rat)) (D M:Nat) (U:List Str) (mo:aM->Option Rat) (ys:List Str) (h0':vs=[.ref h]) (h1':H h=some (.ins cC dx (cB ln lp lt vm dm))) (h2':cM H ln lp lt n ps ts D M U) (h3':cQ H dm n ps ts D M mo ys) (h4':∀ p H' zs,H p=none->aJ H H'->H' p=some (.lst zs)->zs.length<=200->Paired (gC H') zs ((k9 n.length).filterMap (eN n mo ts))->(∀ e∈(k9 n.length).filterMap (eN n mo ts),YD (2 * D) e)->Q (.ref p) H'):rK cC vs H Q EE
noncomputable def wP(cC:b8):Sp:=fun vs H Q EE=>rK cC vs H Q EE
theorem NB{s w:Type}{R:s->w->Prop}{q o:List s}(h:q.Perm o):∀{es:List w},Paired R o es->∃ f,f.Perm es/\Paired R q f:=by
 induction h with
|nil=>intro es p; exact ⟨es,.refl _,p⟩
|cons x _ ih =>
  intro es p;cases p with
 |cons g p =>
   obtain ⟨E,a,b⟩:=ih p;exact ⟨_::E,a.cons _,.cons g b⟩
|swap x y l =>
  intro es p;cases p with
 |cons g p =>
   cases p with
  |cons H p=>exact ⟨_,.swap _ _ _,.cons H (.cons g p)⟩
|trans _ _ i m =>
  intro es p;obtain ⟨I,A,C⟩:=m p;obtain ⟨G,B,D⟩:=i C;exact ⟨G,B.trans A,D⟩
noncomputable def fresh(m w:Rat)(e:Ev):Bool:=decide (m < e.t)&&vB w (some e.t)
theorem gC.two{H:Hp}{v:V}{e:Ev}(h:gC H v e):∃ p sg u jC,v=.ref p/\H p=some (.tup (.str sg::u::jC))/\cA H u e.t:=by
 cases e with
|falls q y=>obtain ⟨p,u,e,h,f⟩:=h; exact ⟨p,_,u,_,e,h,f⟩
|met q k s=>obtain ⟨p,u,w,e,h,f,g⟩:=h; exact ⟨p,_,u,_,e,h,f⟩
|swept q k=>obtain ⟨p,u,e,h,f⟩:=h; exact ⟨p,_,u,_,e,h,f⟩
theorem Ba{b:Type}{f:b->Bool}{l:List b}{i:Nat}{x:b}(h:l[i]?=some x):(l.take (i+1)).filter f=(l.take i).filter f++(if f x=true then [x] else []):=by
 rw [Y0,h,D7];congr 1;show List.filter f [x]=_;cases e:f x <;> simp [e]
noncomputable def jF(n:List dE)(mo:aM->Option Rat)(ts:List (aM×Rat))(ys:List Str):List Ev:=ys.filterMap (gP mo)++(k9 n.length).filterMap (eN n mo ts)
inductive ST (K:m7) (cC:b8) (vs:List V) (H:Hp) (Q:VK) (EE:XK):Prop
|mk (h dx ln lp lt:b8) (vm:V) (dm:b8) (v:V) (m:Rat) (n:List dE) (ps ts:List (aM×Rat)) (D M:Nat) (U:List Str) (mo:aM->Option Rat) (ys:List Str) (h0':vs=[.ref h,v]) (h1':H h=some (.ins cC dx (cB ln lp lt vm dm))) (h2':cM H ln lp lt n ps ts D M U) (h3':cQ H dm n ps ts D M mo ys) (h4':cA H vm m) (h5':Bd D M m) (h6':LT H) (h7':ys.length+n.length < 64) (h8':∃ t:Rat,cA H v t/\0<=t.num/\Sz 2000 t/\Bd D M (m+t)/\∀ w vm' H' zs es,H w=none->H' w=some (.lst zs)->zs.length<=400->Paired (gC H') zs es->es.Perm ((jF n mo ts ys).filter (fresh m (m+t)))->(∀ e∈es,YD (2 * D) e)->jW [h,tT] H H'->LT H'->H' h=some (.ins cC dx (cB ln lp lt vm' dm))->cA H' vm' (m+t)->cM H' ln lp lt n ps ts D M U->cQ H' dm n ps ts D M mo ys->Q (.ref w) H'):ST K cC vs H Q EE
noncomputable def Kz(K:m7)(cC:b8):Sp:=fun vs H Q EE=>ST K cC vs H Q EE
inductive wC (cC:b8) (vs:List V) (H:Hp) (Q:VK) (EE:XK):Prop
|mk (h dx ln lp lt:b8) (vm:V) (dm:b8) (n:List dE) (ps ts:List (aM×Rat)) (D M:Nat) (U:List Str) (h0':vs=[.ref h]) (h1':H h=some (.ins cC dx (cB ln lp lt vm dm))) (h2':cM H ln lp lt n ps ts D M U) (h3':∀ d H' mo ys,H d=none->jW [h] H H'->H' h=some (.ins cC dx (cB ln lp lt vm d))->cQ H' d n ps ts D M mo ys->Q .non H'):wC cC vs H Q EE
noncomputable def FD(cC:b8):Sp:=fun vs H Q EE=>wC cC vs H Q EE
inductive zM (K:m7) (cC:b8) (vs:List V) (H:Hp) (Q:VK) (EE:XK):Prop
|mk (h dx ln lp lt:b8) (vm:V) (dm:b8) (kk:Nat) (r:dE) (m:Rat) (n:List dE) (ps ts:List (aM×Rat)) (D M:Nat) (U:List Str) (mo:aM->Option Rat) (ys:List Str) (h0':vs=[.ref h,.int (kk:Int)]) (h1':H h=some (.ins cC dx (cB ln lp lt vm dm))) (h2':cM H ln lp lt n ps ts D M U) (h3':cQ H dm n ps ts D M mo ys) (h4':cA H vm m) (h5':Bd D M m) (h6':n[kk]?=some r) (h7':∀ w H',aJ H H'->sW H' w (BO (mo (a9 r.1)) (mo (a9 r.2.1)) (bM ts kk) r.2.2 m)->Q w H'):zM K cC vs H Q EE
noncomputable def KU(K:m7)(cC:b8):Sp:=fun vs H Q EE=>zM K cC vs H Q EE
inductive FA (K:m7) (cC:b8) (vs:List V) (H:Hp) (Q:VK) (EE:XK):Prop
|mk (h dx ln lp lt:b8) (vm:V) (dm:b8) (kk:Nat) (r:dE) (m:Rat) (n:List dE) (ps ts:List (aM×Rat)) (D M:Nat) (U:List Str) (mo:aM->Option Rat) (ys:List Str) (h0':vs=[.ref h,.int (kk:Int)]) (h1':H h=some (.ins cC dx (cB ln lp lt vm dm))) (h2':cM H ln lp lt n ps ts D M U) (h3':cQ H dm n ps ts D M mo ys) (h4':cA H vm m) (h5':Bd D M m) (h6':ts.length < 100) (h7':n[kk]?=some r) (h8':BO (mo (a9 r.1)) (mo (a9 r.2.1)) (bM ts kk) r.2.2 m≠none) (h9':∀ d H' mo' ys',H d=none->jW [h,lt] H H'->H' h=some (.ins cC dx (cB ln lp lt vm d))->cM H' ln lp lt n ps (ts++[(c7 (kk:Int),m)]) D M U->cQ H' d n ps (ts++[(c7 (kk:Int),m)]) D M mo' ys'->Q .non H'):FA K cC vs H Q EE
noncomputable def SM(K:m7)(cC:b8):Sp:=fun vs H Q EE=>FA K cC vs H Q EE
inductive wE (cC:b8) (vs:List V) (H:Hp) (Q:VK) (EE:XK):Prop
|mk (h dx ln lp lt:b8) (vm:V) (dm:b8) (y:Str) (u:V) (kd:List (aM×V)) (h0':vs=[.ref h,.str y]) (h1':H h=some (.ins cC dx (cB ln lp lt vm dm))) (h2':H dm=some (.dK kd)) (h3':bJ kd (a9 y)=some u) (h4':Q .non H):wE cC vs H Q EE
noncomputable def FF(cC:b8):Sp:=fun vs H Q EE=>wE cC vs H Q EE
inductive FE (cC:b8) (vs:List V) (H:Hp) (Q:VK) (EE:XK):Prop
|mk (h dx ln lp lt:b8) (vm:V) (dm:b8) (y:Str) (m:Rat) (n:List dE) (ps ts:List (aM×Rat)) (D M:Nat) (U:List Str) (mo:aM->Option Rat) (ys:List Str) (h0':vs=[.ref h,.str y]) (h1':H h=some (.ins cC dx (cB ln lp lt vm dm))) (h2':cM H ln lp lt n ps ts D M U) (h3':cQ H dm n ps ts D M mo ys) (h4':cA H vm m) (h5':Bd D M m) (h6':ps.length < 100) (h7':y∈names n) (h8':vB m (mo (a9 y))=false) (h9':∀ d H' mo' ys',H d=none->jW [h,lp] H H'->H' h=some (.ins cC dx (cB ln lp lt vm d))->cM H' ln lp lt n (ps++[(a9 y,m)]) ts D M U->cQ H' d n (ps++[(a9 y,m)]) ts D M mo' ys'->Q .non H'):FE cC vs H Q EE
noncomputable def SQ(cC:b8):Sp:=fun vs H Q EE=>FE cC vs H Q EE
theorem Ic{t b:Int}(g:0<=t)(f:0 < b):0<=(i0 t b).num:=by
 rw [(pM (t:=t) (show b≠0 by lia)).1];rcases Int.lt_or_eq_of_le g with h|h
 ·exact pj (WD h f)
 ·have:=CU (t:=t) (show b≠0 by lia)
  lia
inductive SX (K:m7) (cC:b8) (vs:List V) (H:Hp) (Q:VK) (EE:XK):Prop
|mk (h dd pd:b8) (w:Str) (xx:Int) (dx um ul uk:b8) (vm:V) (dm:b8) (m:Rat) (n:List dE) (ps ts:List (aM×Rat)) (D M:Nat) (U:List Str) (mo:aM->Option Rat) (ys:List Str) (u:Int) (rs:List (Int×Int×Int)) (ps' ts':List (Int×Int)) (ln lr lp lt:b8) (now:Int) (h0':vs=[.ref h,.ref dd,.ref pd]) (h1':H pd=some (.tup [.str w,.int xx])) (h2':H h=some (.ins cC dx (cB um ul uk vm dm))) (h3':cM H um ul uk n ps ts D M U) (h4':cQ H dm n ps ts D M mo ys) (h5':cA H vm m) (h6':Bd D M m) (h7':LT H) (h8':kI H dd U u rs ps' ts' ln lr lp lt now) (h9':0 < u) (h10':u<=10 ^ 12) (h11':((w="push"/\ps.length < 100/\∃(i:Nat)(y:Str),xx=(i:Int)/\U[i]?=some y/\y∈names n/\vB m (mo (a9 y))=false/\∀ d H' mo' ys',H d=none->jW [h,ul] H H'->H' h=some (.ins cC dx (cB um ul uk vm d))->cM H' um ul uk n (ps++[(a9 y,m)]) ts D M U->cQ H' d n (ps++[(a9 y,m)]) ts D M mo' ys'->Q .non H')∨(w="take"/\ts.length < 100/\∃(kk:Nat)(r:dE),xx=(kk:Int)/\n[kk]?=some r/\BO (mo (a9 r.1)) (mo (a9 r.2.1)) (bM ts kk) r.2.2 m≠none/\∀ d H' mo' ys',H d=none->jW [h,uk] H H'->H' h=some (.ins cC dx (cB um ul uk vm d))->cM H' um ul uk n ps (ts++[(c7 (kk:Int),m)]) D M U->cQ H' d n ps (ts++[(c7 (kk:Int),m)]) D M mo' ys'->Q .non H')∨(w="go"/\ys.length+n.length < 64/\0<=xx/\xx<=10 ^ 109/\Bd D M (m+ut u xx)/\∀ v vm' H' zs es,H v=none->H' v=some (.lst zs)->zs.length<=400->Paired (gC H') zs es->es.Perm ((jF n mo ts ys).filter (fresh m (m+ut u xx)))->(∀ e∈es,YD (2 * D) e)->jW [h,tT] H H'->LT H'->H' h=some (.ins cC dx (cB um ul uk vm' dm))->cA H' vm' (m+ut u xx)->cM H' um ul uk n ps ts D M U->cQ H' dm n ps ts D M mo ys->Q (.ref v) H'))):SX K cC vs H Q EE
noncomputable def Lb(K:m7)(cC:b8):Sp:=fun vs H Q EE=>SX K cC vs H Q EE
inductive wG (vs:List V) (H:Hp) (Q:VK) (EE:XK):Prop
|mk (x y:V) (q r:Rat) (h0':vs=[x,y]) (h1':cA H x q) (h2':cA H y r) (h3':Sz 8000 q) (h4':Sz 8000 r) (h5':Q (.bl (decide (q < r))) H):wG vs H Q EE
noncomputable def FI:Sp:=fun vs H Q EE=>wG vs H Q EE
inductive LE (cC:b8) (vs:List V) (H:Hp) (Q:VK) (EE:XK):Prop
|mk (h dx ln lp lt:b8) (vm:V) (dm:b8) (h0':vs=[.ref h]) (h1':H h=some (.ins cC dx (cB ln lp lt vm dm))) (h2':Q vm H):LE cC vs H Q EE
noncomputable def Cl(cC:b8):Sp:=fun vs H Q EE=>LE cC vs H Q EE
noncomputable def fallen(m:Rat)(mo:aM->Option Rat):List Str->List (aM×Rat)
|[]=>[]
|y::r=>(match mo (a9 y) with|none=>[]|some q=>if m < q then [] else [((a9 y:aM),q)])++fallen m mo r
theorem dQ(m:Rat)(mo:aM->Option Rat):∀ a b:List Str,fallen m mo (a++b)=fallen m mo a++fallen m mo b
|[],b=>rfl
|y::r,b=>by
  show _++fallen m mo (r++b)=_;rw [dQ m mo r b,← K4];rfl
theorem gB{m:Rat}{mo:aM->Option Rat}{y:Str}:fallen m mo [y]=match mo (a9 y) with|none=>[]|some q=>if m < q then [] else [((a9 y:aM),q)]:=D6 _
theorem iV{m:Rat}{mo:aM->Option Rat}{x:aM×Rat}:∀{ys:List Str},x∈fallen m mo ys ↔ ∃ y∈ys,x=(a9 y,x.2)/\mo (a9 y)=some x.2/\¬ m < x.2
|[]=>by simp [fallen]
|y::r=>by
  show x∈_++fallen m mo r ↔ _;rw [m9,iV (ys:=r)];constructor
  ·rintro (h|⟨z,b,h⟩)
   ·refine ⟨y,.head _,?_⟩
    cases e:mo (a9 y) with
   |none=>rw [e] at h; cases h
   |some q =>
     rw [e] at h;dsimp only at h;split at h
     ·cases h
     ·rw [f9.mp h]
      exact ⟨rfl,rfl,by assumption⟩
   ·exact ⟨z,.tail _ b,h⟩
  ·rintro ⟨z,b,f,g,i⟩
   cases b with
  |head =>
    refine .inl ?_;rw [g];dsimp only;rw [if_neg i];exact f9.mpr f
  |tail _ b=>exact .inr ⟨z,b,f,g,i⟩
theorem gO{m:Rat}{mo:aM->Option Rat}:∀{ys:List Str},ys.Nodup->((fallen m mo ys).map (·.1)).Nodup
|[],_=>.nil
|y::r,b=>by
  show ((_++fallen m mo r).map _).Nodup;rw [Q1] at b;have ih:=gO (m:=m) (mo:=mo) b.2;cases e:mo (a9 y) with
 |none=>exact ih
 |some q =>
   dsimp only;split
   ·exact ih
   ·show (a9 y::(fallen m mo r).map (·.1)).Nodup
    refine Q1.mpr ⟨fun h=>?_,ih⟩;obtain ⟨x,i,f⟩:=j1.mp h;obtain ⟨z,o,g,_⟩:=iV.mp i;rw [g] at f;cases f;exact b.1 o
inductive wO (cC:b8) (vs:List V) (H:Hp) (Q:VK) (EE:XK):Prop
|mk (h dx ln lp lt:b8) (vm:V) (dm:b8) (m:Rat) (n:List dE) (ps ts:List (aM×Rat)) (D M:Nat) (U:List Str) (mo:aM->Option Rat) (ys:List Str) (h0':vs=[.ref h]) (h1':H h=some (.ins cC dx (cB ln lp lt vm dm))) (h2':cM H ln lp lt n ps ts D M U) (h3':cQ H dm n ps ts D M mo ys) (h4':cA H vm m) (h5':Bd D M m) (h6':∀ d H',H d=none->aJ H H'->DQ cA H' d (fallen m mo ys)->Q (.ref d) H'):wO cC vs H Q EE
noncomputable def FP(cC:b8):Sp:=fun vs H Q EE=>wO cC vs H Q EE
theorem Nu{H:Hp}{Q:VK}{q s:b8}{E G:List (aM×Rat)}(T:DQ cA H q E)(U:DQ cA H s G)(I:(E.map (·.1)).Nodup)(g:(G.map (·.1)).Nodup)(C:∀ x,x∈E ↔ x∈G)(k:Q (.bl false) H):Mx (.ref q) (.ref s) H Q:=by
 obtain ⟨Z,P,M⟩:=T;obtain ⟨k2,R,N⟩:=U;have m:∀{l K:List (aM×Rat)},(∀ x,x∈l->x∈K)->∀ c∈l.map (·.1),c∈K.map (·.1):=fun h c W=>by
  obtain ⟨x,Y,rfl⟩:=j1.mp W;exact j1.mpr ⟨x,h x Y,rfl⟩
 have f:=iS I (m fun x=>(C x).mp);have o:=iS g (m fun x=>(C x).mpr);rw [g7,g7] at f o;refine ⟨q,s,Z,k2,rfl,rfl,P,R,by rw [M.len,N.len]; exact fk f o,fun kv B=>?_,k⟩;obtain ⟨i,X⟩:=J1 B;obtain ⟨S,A,f,o⟩:=Paired.at M X;have D:=(C _).mp (i3 A);have J:=cZ g D;rcases N.val (k:=kv.1) with ⟨_,z⟩|⟨w,b,z1,O,z3⟩
 ·rw [f,J] at z
  cases z
 ·rw [f,J] at O
  cases O;exact ⟨yS S.2,w,z1,lO o,lO z3,by simp [yS,uF,gQ]⟩
theorem XU{b:Type}{l:AL aM b}{k:aM}{v:b}(h:aV l k=none):eO l k v=l++[(k,v)]:=by
 unfold eO;rw [if_neg];intro z;rw [U1] at z;obtain ⟨x,g,e⟩:=z;have f:x.1=k:=of_decide_eq_true e;exact jV h x.2 (by rw [← f]; exact g)
theorem yD{m:Rat}{mo:aM->Option Rat}{ys:List Str}(i:ys.Nodup):(fallen m mo ys).length<=ys.length:=by
 have:=iS (gO (m:=m) (mo:=mo) i) (m:=ys.map (a9:Str->aM)) fun c b=>by
  obtain ⟨x,f,rfl⟩:=j1.mp b;obtain ⟨y,g,e,_⟩:=iV.mp f;rw [e];exact j1.mpr ⟨y,g,rfl⟩
 rw [g7,g7] at this;exact this
inductive zX (cC:b8) (vs:List V) (H:Hp) (Q:VK) (EE:XK):Prop
|mk (h dx um ul uk:b8) (vm:V) (dm:b8) (m:Rat) (n:List dE) (ps ts:List (aM×Rat)) (D M:Nat) (U:List Str) (mo:aM->Option Rat) (ys:List Str) (l lp lt:b8) (num:Int) (h0':vs=[.ref h,.ref l,.ref lp,.ref lt,.int num]) (h1':H h=some (.ins cC dx (cB um ul uk vm dm))) (h2':cM H um ul uk n ps ts D M U) (h3':cQ H dm n ps ts D M mo ys) (h4':cA H vm m) (h5':Bd D M m) (h6':LQ fA H l (kn n)) (h7':LQ nX H lp ps) (h8':LQ nX H lt ts) (h9':1<=n.length) (h10':∀ H',aJ H H'->Q (.bl true) H'):zX cC vs H Q EE
noncomputable def LS(cC:b8):Sp:=fun vs H Q EE=>zX cC vs H Q EE
noncomputable def uT:Ev->R3
|.falls t y=>.tuple [.str "falls",QO t,.str y]
|.met t k s=>.tuple [.str "met",QO t,.int (k:Int),QO s]
|.swept t k=>.tuple [.str "swept",QO t,.int (k:Int)]
noncomputable def YK:Ev->Prop
|.falls t y=>Sz 1900 t/\Eo y
|.met t k s=>Sz 1900 t/\k < 200/\Sz 1900 s
|.swept t k=>Sz 1900 t/\k < 200
noncomputable abbrev tx(e:Ev):List Nat:=(uT e).shown.cps.toList
theorem lR:(jb "falls").shown.cps.toList=[39,102,97,108,108,115,39]:=by rw [Y5]; decide +kernel
theorem tG:(jb "met").shown.cps.toList=[39,109,101,116,39]:=by rw [Y5]; decide +kernel
theorem lQ:(jb "swept").shown.cps.toList=[39,115,119,101,112,116,39]:=by rw [Y5]; decide +kernel
theorem BL{y:Str}(h:Eo y):(jb y).shown.cps.toList=39::(y.cps.toList++[39]):=by rw [Y5]; exact Fi h.1
theorem Ew{e f:Ev}(q:YK e)(w:YK f)(h:tx e=tx f):e=f:=by
 cases e with
|falls t y =>
  cases f with
 |falls u z =>
   simp only [tx,uT,yT,lR,C2,J5,C3,true_and] at h;obtain ⟨g,b⟩:=DF h;simp only [BL q.2,BL w.2,C2,C3,true_and,K4] at b;have:=List.append_cancel_right b;rw [g,show y=z from congrArg Str.mk (Array.toList_inj.mp this)]
 |met u k s=>simp only [tx,uT,yT,ON,lR,tG,C2,C3] at h; lia
 |swept u k=>simp only [tx,uT,yT,lR,lQ,C2,C3] at h; lia
|met t k s =>
  cases f with
 |falls u z=>simp only [tx,uT,yT,ON,lR,tG,C2,C3] at h; lia
 |met u j r =>
   simp only [tx,uT,ON,tG,C2,J5,C3,true_and] at h;obtain ⟨g,b⟩:=DF h;obtain ⟨m,i⟩:=NE (.inl rfl) (B5 (B5 b).2).2;obtain ⟨o,_⟩:=DF (B5 i).2;rw [g,o,show k=j by lia]
 |swept u j=>simp only [tx,uT,yT,ON,tG,lQ,C2,C3] at h; lia
|swept t k =>
  cases f with
 |falls u z=>simp only [tx,uT,yT,lR,lQ,C2,C3] at h; lia
 |met u j r=>simp only [tx,uT,yT,ON,tG,lQ,C2,C3] at h; lia
 |swept u j =>
   simp only [tx,uT,yT,lQ,C2,J5,C3,true_and] at h;obtain ⟨g,b⟩:=DF h;obtain ⟨m,i⟩:=NE (.inr rfl) (B5 (B5 b).2).2;rw [g,show k=j by lia]
theorem Ee{k:Nat}(h:k < 200):(dy (k:Int)).showable=true/\(dy (k:Int)).shown.cps.toList.length<=700:=by
 have b:(k:Int).natAbs < 2 ^ 1900:=c9 (show (k:Int).natAbs < 200 by lia) (by decide);refine ⟨?_,by rw [U2]; exact CN b⟩;have:=yB (q:=(k:Rat)) ⟨b,c9 (show (k:Rat).den < 2 from D2 1) (by decide)⟩;simp only [QO,Q4,Q7,M5] at this ⊢;exact this.1
theorem YK.shw{e:Ev}(g:YK e):Rc (uT e):=by
 cases e with
|falls t y =>
  refine ⟨?_,rfl,v9 rfl,?_⟩
  ·simp only [uT,Q4,Q7,yB g.1,Bool.and_self]
  ·have:=DE g.1
   have i:y.cps.toList.length<=30:=g.2.2;have e:(uT (.falls t y)).shown.length=(tx (.falls t y)).length:=(yJ _).symm;rw [e,p7];simp only [tx,uT,yT,lR,BL g.2,B7,i9,Z6];lia
|met t k s =>
  obtain ⟨b,f⟩:=Ee g.2.1;refine ⟨?_,rfl,v9 rfl,?_⟩
  ·rw [uT,Q4]
   simp only [Q7,yB g.1,yB g.2.2,b,O2];rfl
  ·have:=DE g.1
   have:=DE g.2.2;have e:(uT (.met t k s)).shown.length=(tx (.met t k s)).length:=(yJ _).symm;rw [e,p7];simp only [tx,uT,ON,tG,B7,i9,Z6];lia
|swept t k =>
  obtain ⟨b,f⟩:=Ee g.2;refine ⟨?_,rfl,v9 rfl,?_⟩
  ·rw [uT,Q4]
   simp only [Q7,yB g.1,b,O2];rfl
  ·have:=DE g.1
   have e:(uT (.swept t k)).shown.length=(tx (.swept t k)).length:=(yJ _).symm;rw [e,p7];simp only [tx,uT,yT,lQ,B7,i9,Z6];lia
theorem gC.rd{H:Hp}{v:V}{e:Ev}(h:gC H v e):∃ p,v=.ref p/\Pn H p (uT e):=by
 have b:∀{u:V}{t:Rat},cA H u t->Rx H u (QO t):=fun {u t} ⟨p,e,h⟩=>.inr ⟨p,_,_,e,h,.cons (.inl ⟨_,rfl,rfl⟩) (.cons (.inl ⟨_,rfl,rfl⟩) .nil),rfl⟩;cases e with
|falls q y=>obtain ⟨p,u,e,h,f⟩:=h; exact ⟨p,e,_,_,h,.cons (.inl (.inr ⟨_,rfl,rfl⟩)) (.cons (b f) (.cons (.inl (.inr ⟨_,rfl,rfl⟩)) .nil)),rfl⟩
|met q k s=>obtain ⟨p,u,w,e,h,f,g⟩:=h; exact ⟨p,e,_,_,h,.cons (.inl (.inr ⟨_,rfl,rfl⟩)) (.cons (b f) (.cons (.inl (.inl ⟨_,rfl,rfl⟩)) (.cons (b g) .nil))),rfl⟩
|swept q k=>obtain ⟨p,u,e,h,f⟩:=h; exact ⟨p,e,_,_,h,.cons (.inl (.inr ⟨_,rfl,rfl⟩)) (.cons (b f) (.cons (.inl (.inl ⟨_,rfl,rfl⟩)) .nil)),rfl⟩
noncomputable def Kb:Ev->Dt
|.falls t y=>.tup [.str "falls",yS t,.str y]
|.met t k s=>.tup [.str "met",yS t,.int (k:Int),yS s]
|.swept t k=>.tup [.str "swept",yS t,.int (k:Int)]
theorem gC.den{H:Hp}{v:V}{e:Ev}(h:gC H v e):lP H (Kb e) v:=by
 cases e with
|falls q y=>obtain ⟨p,u,e,h,f⟩:=h; exact ⟨p,_,e,h,_,_,rfl,rfl,_,_,rfl,lO f,_,_,rfl,rfl,rfl⟩
|met q k s=>obtain ⟨p,u,w,e,h,f,g⟩:=h; exact ⟨p,_,e,h,_,_,rfl,rfl,_,_,rfl,lO f,_,_,rfl,rfl,_,_,rfl,lO g,rfl⟩
|swept q k=>obtain ⟨p,u,e,h,f⟩:=h; exact ⟨p,_,e,h,_,_,rfl,rfl,_,_,rfl,lO f,_,_,rfl,rfl,rfl⟩
theorem DI{H:Hp}:∀{b:List V}{es:List Ev},Paired (gC H) b es->iJ H (es.map Kb) b
|_,_,.nil=>rfl
|_,_,.cons h t=>⟨_,_,rfl,h.den,DI t⟩
theorem WX:∀ es:List Ev,gQ (es.map Kb)<=10
|[]=>by decide
|e::r=>by
  have:=WX r;show max (uF (Kb e)) (gQ (r.map Kb))<=10;have:uF (Kb e)<=10:=by cases e <;> exact v9 rfl
  lia
theorem NU{H:Hp}:∀{f:List V}{es:List Ev},Paired (gC H) f es->(∀ e∈es,YK e)->∃ b:List b8,f=b.map V.ref/\Paired (fun t d=>Pn H t d/\Rc d) b (es.map uT)/\Paired (fun(z:R3×b8) e=>z.1=uT e/\gC H (.ref z.2) e) ((es.map uT).zip b) es
|_,_,.nil,_=>⟨[],rfl,.nil,.nil⟩
|_,_,.cons h t,g=>by
  obtain ⟨b,e,m,o⟩:=NU t fun e i=>g e (.tail _ i);obtain ⟨p,rfl,r⟩:=h.rd;exact ⟨p::b,by rw [e]; rfl,.cons ⟨r,(g _ (.head _)).shw⟩ m,.cons ⟨rfl,h⟩ o⟩
theorem DJ{H G:Hp}(t:TK H G):∀{b:List (R3×b8)}{es:List Ev},Paired (fun(z:R3×b8) e=>z.1=uT e/\gC H (.ref z.2) e) b es->Paired (gC G) (b.map fun z=>V.ref z.2) es/\b.map (·.1)=es.map uT
|_,_,.nil=>⟨.nil,rfl⟩
|_,_,.cons h p=>⟨.cons (h.2.tk t) (DJ t p).1,by rw [D3,D3,h.1,(DJ t p).2]⟩
theorem WW{H:Hp}{Q:VK}{lo:b8}{w:List V}{es:List Ev}(D:H lo=some (.lst w))(p:Paired (gC H) w es)(g:∀ e∈es,YK e)(i:w.length < 64)(k:∀ l G zs' b,H l=none->aJ H G->G l=some (.lst zs')->Paired (gC G) zs' b->b.Perm es->b.Pairwise (fun e f=>¬ tx f < tx e)->Q (.ref l) G):UU [.ref lo] H Q:=by
 obtain ⟨O,rfl,E,I⟩:=NU p g;rw [g7] at i;refine ⟨lo,O,_,rfl,D,i,E,fun l A s K N=>?_⟩;obtain ⟨b,J,M⟩:=NB K I;obtain ⟨B,C⟩:=DJ (aJ.new (o:=.lst (A.map fun z=>V.ref z.2)) s).tk M;refine k l _ _ b s (aJ.new s) aC B J ?_;have m:(A.map (·.1)).Pairwise (fun p q:R3=>¬ q.shown.cps.toList < p.shown.cps.toList):=L9.mpr N;rw [C] at m;exact L9.mp m
theorem Be{a b c:List Ev}(i:a.Perm c)(m:b.Perm c)(g:∀ e∈c,YK e)(A:a.Pairwise (fun e f=>¬ tx f < tx e))(B:b.Pairwise (fun e f=>¬ tx f < tx e)):a=b:=
 df.eq_of_pairwise (fun e f s w o q=>Ew (g e (i.mem_iff.mp s)) (g f (m.mem_iff.mp w)) (List.le_antisymm (not_lt.mp o) (not_lt.mp q))) A B (i.trans m.symm)
noncomputable def kL(ps:List (aM×Rat)):Ev->Bool
|.falls t y=>!ps.any fun x=>decide (x.1=a9 y)&&decide (x.2=t)
|_=>true
noncomputable def dD(ps:List (aM×Rat))(m:Rat)(e:Ev):Bool:=vB m (some e.t)&&kL ps e
theorem Oc{k:Nat}{a b:Str}{s w tk:Option Rat}{T:Rat}{e:Ev}(hk:k < 200)(B:0 < T)(i:Sz 400 T)(m:∀ f,s=some f->Sz 400 f)(q:∀ f,w=some f->Sz 400 f)(h:pR k (mD (fF a b s w T) tk)=some e):YK e:=by
 have A:∀{o:Option Rat},(∀ f,o=some f->Sz 400 f)->Sz 400 (o.getD 0):=fun {o} h=>by
  cases o with
 |none=>exact ⟨c9 (show (0:Nat) < 1 by decide) (by decide),c9 (show (1:Nat) < 2 by decide) (by decide)⟩
 |some f=>exact h f rfl
 have m:=A m;have q:=A q;rcases DM (e:=fF a b s w T) (tk:=tk) with ⟨t,z⟩|z
 ·rw [z] at h
  cases h
 rw [z] at h;clear z;unfold fF at h;generalize s.getD 0=x at *;generalize w.getD 0=y at *;have g:Sz 2 (1 / 2:Rat):=by constructor <;> decide +kernel
 split at h
 ·cases h
 ·split at h
  ·cases h
   exact ⟨(m.add i).mono (by decide),hk⟩
  ·split at h
   ·cases h
    exact ⟨(q.add i).mono (by decide),hk⟩
   ·cases h
    refine ⟨(((m.add q).add i).mul g).mono (by decide),hk,?_⟩;rw [show (x+y+T) * (1 / 2) - x=(y - x+T) * (1 / 2) by grind];exact ((((q.sub m).add i).mul g).div i (S8 B)).mono (by decide)
theorem Om{H:Hp}{ln I J B:b8}{n:List dE}{ps w:List (aM×Rat)}{D M:Nat}{U:List Str}{mo:aM->Option Rat}{ys:List Str}(m:cM H ln I J n ps w D M U)(C:cQ H B n ps w D M mo ys)(hn:n.length < 200)(G:∀ y∈ys,Eo y):∀ e∈jF n mo w ys,YK e:=fun e g=>by
 have A:∀ p f,mo p=some f->Sz 400 f:=fun p f e=>m.R.sz (C.bd p f e);rcases m9.mp g with g|g
 ·obtain ⟨y,q,s⟩:=R5.mp g
  obtain ⟨t,E,rfl⟩:=j7.mp s;exact ⟨(A _ t E).mono (by decide),G y q⟩
 ·obtain ⟨k,o,b⟩:=R5.mp g
  have hk:=T6.mp o;unfold eN at b;rw [c8 hk] at b;have i:=C5 hk;exact Oc (by lia) (m.nq.pos _ (j1.mpr ⟨_,i,rfl⟩)) (m.R.sz ((m.nq.bd _ (j1.mpr ⟨_,i,rfl⟩)).mono (by lia))) (A _) (A _) b
theorem ZE{H:Hp}{Q:VK}{p b:b8}{u:V}{y:Str}{t:Rat}{ps:List (aM×Rat)}(h:H p=some (.tup [.str y,u]))(f:cA H u t)(m:LQ nX H b ps)(k:Q (.bl (kL ps (.falls t y))) H):Mz true (.ref p) (.ref b) H Q:=by
 obtain ⟨s,a,o⟩:=m;have g:lP H (Em (a9 y,t)) (.ref p):=⟨p,_,rfl,h,_,_,rfl,NZ (a9 y),_,_,rfl,lO f,rfl⟩
 refine ⟨b,s,_,ps.map Em,rfl,a,g,NY o,u8 (NV ps) (by decide),?_⟩;have e:((ps.map Em).any fun e=>yI e (Em (a9 y,t)))=ps.any fun x=>decide (x.1=a9 y)&&decide (x.2=t):=by
  rw [List.any_map];congr 1;funext x;obtain ⟨k,q⟩:=x;cases k with
 |inl i=>rfl
 |inr z =>
   rw [Q9];simp [Em,Jg,yS,yI,pS];exact fun _=>⟨fun h=>Rat.ext h.1 (by lia),fun h=>by rw [h]; exact ⟨rfl,rfl⟩⟩
 rw [e];exact k
theorem HV{f:Ev->Bool}{e:Ev}:[e].filter f=if f e=true then [e] else []:=by cases z:f e <;> simp [z]
noncomputable def fE(ps:List (aM×Rat))(x:aM×Rat):Option Ev:=match x.1 with|.inl _=>none|.inr y=>if kL ps (.falls x.2 y)=true then some (.falls x.2 y) else none
theorem yE{m:Rat}{mo:aM->Option Rat}{ps:List (aM×Rat)}:∀ ys:List Str,(fallen m mo ys).filterMap (fE ps)=(ys.filterMap (gP mo)).filter (dD ps m)
|[]=>rfl
|y::ys=>by
  have ih:=yE (m:=m) (mo:=mo) (ps:=ps) ys;rw [show y::ys=[y]++ys from rfl,dQ,bz,bz,D7,ih];congr 1;rw [gB];cases e:mo (a9 y) with
 |none=>rw [Y7 (show gP mo y=none by rw [gP,e]; rfl)]; rfl
 |some q =>
   rw [Y6 (show gP mo y=some (.falls q y) by rw [gP,e]; rfl)];show _=[_].filter _;rw [HV,show dD ps m (.falls q y)=(!decide (m < q)&&kL ps (.falls q y)) from rfl];dsimp only;by_cases c:m < q
   ·rw [if_pos c,decide_eq_true c]
    rfl
   ·rw [if_neg c,decide_eq_false c]
    have b:fE ps (a9 y,q)=if kL ps (.falls q y)=true then some (.falls q y) else none:=rfl
    cases z:kL ps (.falls q y) with
   |true=>rw [z] at b; rw [Y6 b]; rfl
   |false=>rw [z] at b; rw [Y7 b]; rfl
inductive uK (cC:b8) (vs:List V) (H:Hp) (Q:VK) (EE:XK):Prop
|mk (h dx um ul uk:b8) (vm:V) (dm:b8) (m:Rat) (n:List dE) (ps ts:List (aM×Rat)) (D M:Nat) (U:List Str) (mo:aM->Option Rat) (ys:List Str) (l lp lt:b8) (lo:b8) (zs:List V) (es:List Ev) (h0':vs=[.ref h,.ref l,.ref lp,.ref lt,.ref lo]) (h1':H h=some (.ins cC dx (cB um ul uk vm dm))) (h2':cM H um ul uk n ps ts D M U) (h3':cQ H dm n ps ts D M mo ys) (h4':cA H vm m) (h5':Bd D M m) (h6':LQ fA H l (kn n)) (h7':LQ nX H lp ps) (h8':LQ nX H lt ts) (h9':H lo=some (.lst zs)) (h10':Paired (gC H) zs es) (h11':es.Perm ((jF n mo ts ys).filter (dD ps m))) (h12':ys.length+n.length < 64) (h13':(∀ y∈ys,Eo y)) (h14':∀ H',Q (.bl true) H'):uK cC vs H Q EE
noncomputable def zY(cC:b8):Sp:=fun vs H Q EE=>uK cC vs H Q EE
inductive rH (cC:b8) (vs:List V) (H:Hp) (Q:VK) (EE:XK):Prop
|mk (h dx l:b8) (n:List dE) (D M:Nat) (U:List Str) (h0':vs=[.ref h,.ref l]) (h1':H h=some (.ins cC dx [])) (h2':pA H l (kn n) D M) (h3':nR D M) (h4':U.length<=63) (h5':(∀ x∈names n,x∈U)) (h6':∀ H' ln lp lt vm dm mo ys,jW [h] H H'->H ln=none->H lp=none->H lt=none->H dm=none->H' h=some (.ins cC dx (cB ln lp lt vm dm))->cA H' vm 0->cM H' ln lp lt n [] [] D M U->cQ H' dm n [] [] D M mo ys->Q .non H'):rH cC vs H Q EE
noncomputable def wL(cC:b8):Sp:=fun vs H Q EE=>rH cC vs H Q EE
theorem vG{ps:List (aM×Rat)}{k p:aM}{q t:Rat}(h:aV (lst (ps++[(k,q)])) p=some t):aV (lst ps) p=some t∨(p=k/\t=q):=by
 rw [mC] at h;rcases AQ (bU h) with z|z
 ·exact .inl (cZ (CS ps) z)
 ·exact .inr ⟨congrArg qf z,congrArg qe z⟩
theorem DY{ps:List (aM×Rat)}{x:aM×Rat}{p:aM}{t:Rat}(h:aV (lst ps) p=some t):∃ u,aV (lst (ps++[x])) p=some u/\u<=t:=Hz (z9 _ (jQ (bU h)))
theorem QR{b:List (jT aM)}{tk:Nat->Option Rat}{ps:List (aM×Rat)}{k:aM}{m:Rat}{f g:aM->Option Rat}(C:∀ r∈b,0 < r.2.2)(s:fJ b (aV (lst ps)) tk f)(A:fJ b (aV (lst (ps++[(k,m)]))) tk g){p:aM}{t:Rat}(l:t<=m):(f p=some t->g p=some t)/\(g p=some t->f p=some t∨(p=k/\t=m)):=by
 have o:∀ {p t},KM b (aV (lst (ps++[(k,m)]))) tk p t->t<=m->KM b (aV (lst ps)) tk p t∨(p=k/\t=m):=fun {p t} h=>by
  induction h with
 |push e =>
   intro _;rcases vG e with z|z
   ·exact .inl (.push z)
   ·exact .inr z
 |run a D j G ih =>
   intro l;have:=C _ (i3 D);rcases ih (by grind) with z|⟨_,z⟩
   ·exact .inl (.run z D j G)
   ·exfalso
    grind
 have up:∀ {p t},f p=some t->t<=m->g p=some t:=fun {p t} e l=>by
  obtain ⟨u,q,E⟩:=qU (fun _ _=>DY) (fun _ _ h=>h) s A e;rcases o (A.arr _ _ q) (E6 E l) with z|⟨_,z⟩
  ·obtain ⟨w,i,B⟩:=s.le _ _ z
   rw [e] at i;cases i;rw [q,jv E B]
  ·rw [q]
   congr 1;grind
 refine ⟨fun e=>up e l,fun e=>?_⟩;rcases o (A.arr _ _ e) l with z|z
 ·obtain ⟨w,i,B⟩:=s.le _ _ z
  have:=up i (E6 B l);rw [e] at this;cases this;exact .inl i
 ·exact .inr z
theorem QQ{b:List (jT aM)}{push:aM->Option Rat}{q:List (aM×Rat)}{i:Nat}{m:Rat}{f g:aM->Option Rat}(B:fJ b push (bM q) f)(C:fJ b push (bM (q++[(c7 (i:Int),m)])) g)(G:∀ r∈b,0 < r.2.2){p:aM}{t:Rat}(l:t<=m):f p=some t ↔ g p=some t:=by
 have o:∀ k t,cU (bM (q++[(c7 (i:Int),m)])) k t->cU (bM q) k t:=fun k t h u e=>by
  obtain ⟨w,A,D⟩:=DY (x:=(c7 (i:Int),m)) e;exact E6 (h w A) D
 have new:∀ {p t},KM b push (bM q) p t->t<=m->KM b push (bM (q++[(c7 (i:Int),m)])) p t:=fun {p t} h=>by
  induction h with
 |push e=>exact fun _=>.push e
 |run a H j I ih =>
   intro l;have:=G _ (i3 H);refine .run (ih (by grind)) H j fun u e=>?_;rcases vG e with z|⟨_,z⟩
   ·exact I u z
   ·rw [z]
    exact l
 have up:∀ {p t},f p=some t->t<=m->g p=some t:=fun {p t} e l=>by
  obtain ⟨u,A,D⟩:=C.le _ _ (new (B.arr _ _ e) l);obtain ⟨w,s,E⟩:=qU (fun p t h=>⟨t,h,K0⟩) o C B A;rw [e] at s;cases s;rw [A,jv D E]
 refine ⟨fun e=>up e l,fun e=>?_⟩;obtain ⟨w,s,E⟩:=qU (fun p t h=>⟨t,h,K0⟩) o C B e;have:=up s (E6 E l);rw [e] at this;cases this;exact s
theorem oW{a b:Str}{A w C D:Option Rat}{T m t:Rat}(P:0 < T)(H:∀ t,t < m->(A=some t ↔ C=some t))(I:∀ t,t < m->(w=some t ↔ D=some t))(i:fP (fF a b A w T)=some t)(l:t<=m):fF a b C D T=fF a b A w T:=by
 have J:∀{f:Rat}{o G:Option Rat},(∀ t,t < m->(o=some t ↔ G=some t))->RJ (some f) T o=true->f+T<=m->RJ (some f) T G=true:=fun {f o G} s h l=>by
  cases G with
 |none=>rfl
 |some g =>
   show (!decide (g < f+T))=true;by_cases c:g < f+T
   ·rw [(s g (by grind)).mpr rfl] at h
    have h:(!decide (g < f+T))=true:=h;rw [decide_eq_true c] at h;cases h
   ·rw [decide_eq_false c]
    rfl
 unfold fF at i ⊢;by_cases E:A=none/\w=none
 ·rw [if_pos E] at i
  cases i
 rw [if_neg E] at i ⊢;by_cases q:RJ A T w=true
 ·rw [if_pos q] at i ⊢
  cases A with
 |none=>cases q
 |some f =>
   cases i;have l:f+T<=m:=l;cases (H f (by grind)).mp rfl;rw [if_neg (fun z=>nomatch z.1),if_pos (J I q l)]
 rw [if_neg q] at i ⊢;by_cases B:RJ w T A=true
 ·rw [if_pos B] at i ⊢
  cases w with
 |none=>cases B
 |some f =>
   cases i;have l:f+T<=m:=l;cases (I f (by grind)).mp rfl;rw [if_neg (fun z=>nomatch z.2),if_neg,if_pos (J H B l)];cases C with
  |none=>exact h7
  |some g =>
    intro z;have z:(!decide (f < g+T))=true:=z;by_cases c:g < m
    ·rw [(H g c).mpr rfl] at q
     exact q z
    ·rw [decide_eq_true (show f < g+T by grind)] at z
     cases z
 rw [if_neg B] at i ⊢;cases A with
|none =>
  cases w with
 |none=>exact absurd ⟨rfl,rfl⟩ E
 |some g=>exact absurd rfl B
|some f =>
  cases w with
 |none=>exact absurd rfl q
 |some g =>
   cases i;have l:(f+g+T) * (1 / 2)<=m:=l;have K:¬ (!decide (g < f+T))=true:=q;have M:¬ (!decide (f < g+T))=true:=B;have N:g < f+T:=by
    by_cases c:g < f+T
    ·exact c
    ·exact absurd (by rw [decide_eq_false c]; rfl) K
   have O:f < g+T:=by
    by_cases c:f < g+T
    ·exact c
    ·exact absurd (by rw [decide_eq_false c]; rfl) M
   cases (H f (by grind)).mp rfl;cases (I g (by grind)).mp rfl;rw [if_neg E,if_neg q,if_neg B]
theorem Ob{b:Type}{f g:b->Option Ev}{p q:Ev->Bool}:∀{l:List b},(∀ x∈l,(f x).toList.filter p=(g x).toList.filter q)->(l.filterMap f).filter p=(l.filterMap g).filter q
|[],_=>rfl
|x::l,h=>by
  have ih:=Ob (l:=l) fun y i=>h y (.tail _ i);have e:∀ f:b->Option Ev,(x::l).filterMap f=(f x).toList++l.filterMap f:=fun f=>by
   cases z:f x with
  |none=>rw [Y7 z]; rfl
  |some y=>rw [Y6 z]; rfl
  rw [e,e,D7,D7,ih,h x (.head _)]
theorem HW{i:Nat}{X:iW}{e:Ev}(h:pR i X=some e):fP X=some e.t/\∀ ps,kL ps e=true:=by
 cases X <;> cases h <;> exact ⟨rfl,fun _=>rfl⟩
theorem DL{i:Nat}{X Y:iW}{ps o:List (aM×Rat)}{m:Rat}(s:∀ t,fP X=some t->t<=m->(∀ t,X≠.taken t)->Y=X)(q:∀ t,fP Y=some t->t<=m->(∀ t,Y≠.taken t)->X=Y):(pR i X).toList.filter (dD ps m)=(pR i Y).toList.filter (dD o m):=by
 have g:∀{X:iW}{e:Ev},pR i X=some e->∀ t,X≠.taken t:=fun {X e} h t z=>by rw [z] at h; cases h
 have b:∀{X:iW}{e:Ev} {ps},pR i X=some e->¬ e.t<=m->(pR i X).toList.filter (dD ps m)=[]:=fun {X e ps} h c=>by
  rw [h];show [e].filter _=_;rw [HV,show dD ps m e=(!decide (m < e.t)&&kL ps e) from rfl,decide_eq_true (az.mp c)];rfl
 cases hX:pR i X with
|some e =>
  by_cases c:e.t<=m
  ·rw [s _ (HW hX).1 c (g hX),hX]
   show [e].filter _=[e].filter _;rw [HV,HV,show dD ps m e=(vB m (some e.t)&&kL ps e) from rfl,show dD o m e=(vB m (some e.t)&&kL o e) from rfl,(HW hX).2,(HW hX).2]
  ·rw [← hX,b hX c]
   cases hY:pR i Y with
  |none=>rfl
  |some f =>
    by_cases d:f.t<=m
    ·rw [q _ (HW hY).1 d (g hY),hY] at hX
     cases hX;exact absurd d c
    ·rw [← hY,b hY d]
|none =>
  cases hY:pR i Y with
 |none=>rfl
 |some f =>
   by_cases d:f.t<=m
   ·rw [q _ (HW hY).1 d (g hY),hY] at hX
    cases hX
   ·rw [← hY,b hY d]
    rfl
theorem oX{e:iW}{tk:Option Rat}(h:∀ t,mD e tk≠.taken t):mD e tk=e:=by
 rcases DM (e:=e) (tk:=tk) with ⟨t,z⟩|z
 ·exact absurd z (h t)
 ·exact z
theorem KN{n:List dE}{ys f:List Str}(a:ys.Nodup)(b:f.Nodup)(g:∀ x,x∈ys ↔ x∈names n)(i:∀ x,x∈f ↔ x∈names n):ys.Perm f:=(List.perm_ext_iff_of_nodup a b).mpr fun x=>(g x).trans (i x).symm
theorem XC{n:List dE}{ps A:List (aM×Rat)}{mo f:aM->Option Rat}{ys g:List Str}{y:Str}{m:Rat}(G:∀ r∈kn n,0 < r.2.2)(R:fJ (kn n) (aV (lst ps)) (bM A) mo)(T:fJ (kn n) (aV (lst (ps++[(a9 y,m)]))) (bM A) f)(C:vB m (mo (a9 y))=false)(W:g.Perm ys):((jF n f A g).filter (dD (ps++[(a9 y,m)]) m)).Perm ((jF n mo A ys).filter (dD ps m)):=by
 have F:=fun p t l=>QR G R T (p:=p) (t:=t) l;have O:mo (a9 y)≠some m:=fun z=>by
  rw [z] at C;have C:(!decide (m < m))=false:=C;rw [decide_eq_false Rat.lt_irrefl] at C;cases C
 have S:∀ p t,t < m->(mo p=some t ↔ f p=some t):=fun p t l=>⟨(F p t (P6 l)).1,fun h=>by
  rcases (F p t (P6 l)).2 h with z|⟨_,z⟩
  ·exact z
  ·grind⟩
 unfold jF;rw [D7,D7];have P:(g.filterMap (gP f)).filter (dD (ps++[(a9 y,m)]) m)=(g.filterMap (gP mo)).filter (dD ps m):=Ob fun z _=>by
  have U:∀ t,¬ (z=y/\t=m)->kL (ps++[(a9 y,m)]) (.falls t z)=kL ps (.falls t z):=fun t h=>by
   show (!(ps++[(a9 y,m)]).any _)=!(ps.any _);rw [any_append];have:([((a9 y:aM),m)].any fun x=>decide (x.1=a9 z)&&decide (x.2=t))=false:=by
    simp only [Q3,List.any_nil,Z3,Bool.and_eq_false_imp,decide_eq_true_eq,decide_eq_false_iff_not];intro q B;exact h ⟨(Q6 q).symm,B.symm⟩
   rw [this,Z3]
  have E:∀(o:Option Rat)(J:List (aM×Rat)),((o.map fun t=>Ev.falls t z).toList.filter (dD J m))=match o with|none=>[]|some t=>if (!decide (m < t)&&kL J (.falls t z))=true then [.falls t z] else []:=fun o J=>by
   cases o with
  |none=>rfl
  |some t=>exact HV
  show ((f (a9 z)).map _).toList.filter _=((mo (a9 z)).map _).toList.filter _;rw [E,E];cases q:mo (a9 z) with
 |some t =>
   by_cases l:t<=m
   ·rw [(F _ t l).1 q]
    dsimp only;rw [U t fun ⟨a,b⟩=>by rw [a,b] at q; exact O q]
   ·dsimp only
    rw [decide_eq_true (az.mp l)];cases B:f (a9 z) with
   |none=>rfl
   |some u =>
     dsimp only;by_cases s:u<=m
     ·rcases (F _ u s).2 B with w|⟨K,M⟩
      ·rw [q] at w
       cases w;exact absurd s l
      ·cases K
       cases M;rw [show kL (ps++[(a9 y,m)]) (.falls m y)=false by show (!(ps++[(a9 y,m)]).any _)=false; rw [any_append]; simp];simp
     ·rw [decide_eq_true (az.mp s)]
      rfl
 |none =>
   cases B:f (a9 z) with
  |none=>rfl
  |some u =>
    dsimp only;by_cases s:u<=m
    ·rcases (F _ u s).2 B with w|⟨K,M⟩
     ·rw [q] at w
      cases w
     ·cases K
      cases M;rw [show kL (ps++[(a9 y,m)]) (.falls m y)=false by show (!(ps++[(a9 y,m)]).any _)=false; rw [any_append]; simp];simp
    ·rw [decide_eq_true (az.mp s)]
     rfl
 have Q:((k9 n.length).filterMap (eN n f A)).filter (dD (ps++[(a9 y,m)]) m)=((k9 n.length).filterMap (eN n mo A)).filter (dD ps m):=Ob fun i H=>by
  have H:=T6.mp H;unfold eN;rw [c8 H];have N:0 < n[i].2.2:=G _ (j1.mpr ⟨_,C5 H,rfl⟩);refine DL (fun t D l I=>?_) fun t D l I=>?_
  ·rw [oX I] at D
   rw [oW N (fun t l=>(S _ t l).symm) (fun t l=>(S _ t l).symm) D l]
  ·rw [oX I] at D
   rw [oW N (S _) (S _) D l]
 rw [P,Q];exact ((W.filterMap _).filter _).append_right _
theorem XB{n:List dE}{ps q:List (aM×Rat)}{mo f:aM->Option Rat}{ys A:List Str}{k:Nat}{r:dE}{m:Rat}(D:∀ r∈kn n,0 < r.2.2)(O:fJ (kn n) (aV (lst ps)) (bM q) mo)(P:fJ (kn n) (aV (lst ps)) (bM (q++[(c7 (k:Int),m)])) f)(Q:n[k]?=some r)(hs:BO (mo (a9 r.1)) (mo (a9 r.2.1)) (bM q k) r.2.2 m≠none)(R:A.Perm ys):((jF n f (q++[(c7 (k:Int),m)]) A).filter (dD ps m)).Perm ((jF n mo q ys).filter (dD ps m)):=by
 have F:=fun p t l=>QQ O P D (p:=p) (t:=t) l;have S:∀ p t,t < m->(mo p=some t ↔ f p=some t):=fun p t l=>F p t (P6 l);unfold jF;rw [D7,D7];have K:(A.filterMap (gP f)).filter (dD ps m)=(A.filterMap (gP mo)).filter (dD ps m):=Ob fun z _=>by
  have H:∀ o:Option Rat,((o.map fun t=>Ev.falls t z).toList.filter (dD ps m))=match o with|none=>[]|some t=>if (!decide (m < t)&&kL ps (.falls t z))=true then [.falls t z] else []:=fun o=>by
   cases o with
  |none=>rfl
  |some t=>exact HV
  have J:∀{o:Option Rat},(∀ t,o=some t->¬ t<=m)->((o.map fun t=>Ev.falls t z).toList.filter (dD ps m))=[]:=fun {o} h=>by
   rw [H];cases o with
  |none=>rfl
  |some t =>
    dsimp only;rw [decide_eq_true (az.mp (h t rfl))];rfl
  show ((f (a9 z)).map _).toList.filter _=((mo (a9 z)).map _).toList.filter _;by_cases c:∃ t,mo (a9 z)=some t/\t<=m
  ·obtain ⟨t,h,l⟩:=c
   rw [h,(F _ t l).mp h]
  ·rw [J fun t h l=>c ⟨t,h,l⟩,J fun t h l=>c ⟨t,(F _ t l).mpr h,l⟩]
 have M:((k9 n.length).filterMap (eN n f (q++[(c7 (k:Int),m)]))).filter (dD ps m)=((k9 n.length).filterMap (eN n mo q)).filter (dD ps m):=Ob fun i G=>by
  have G:=T6.mp G;unfold eN;have s:=c8 G;rw [s];have C:0 < n[i].2.2:=D _ (j1.mpr ⟨_,C5 G,rfl⟩);by_cases c:i=k
  ·subst c
   rw [Q] at s;rw [← h8 s] at C;show (pR i (mD (fF n[i].1 n[i].2.1 (f (a9 n[i].1)) (f (a9 n[i].2.1)) n[i].2.2) (bM (q++[(c7 (i:Int),m)]) i))).toList.filter _=(pR i (mD (fF n[i].1 n[i].2.1 (mo (a9 n[i].1)) (mo (a9 n[i].2.1)) n[i].2.2) (bM q i))).toList.filter _;rw [← h8 s];have b:∀ t,fP (mD (fF r.1 r.2.1 (mo (a9 r.1)) (mo (a9 r.2.1)) r.2.2) (bM q i))=some t->¬ t<=m:=fun t h l=>hs ((VJ C).mpr ⟨t,h,l⟩);refine DL (fun t g l B=>?_) fun t g l B=>absurd l (b t g);rw [oX B] at g;rw [← oW C (fun t l=>(S _ t l).symm) (fun t l=>(S _ t l).symm) g l] at g;exfalso;generalize fF r.1 r.2.1 (mo (a9 r.1)) (mo (a9 r.2.1)) r.2.2=E at g b;cases hk:bM q i with
  |none=>rw [hk] at b; exact b t g l
  |some u =>
    rw [hk] at b;have I:mD E (some u)=if decide (u < t)=true then .taken u else E:=by unfold mD; rw [g]; rfl
    by_cases c:u < t
    ·rw [I,decide_eq_true c] at b
     exact b u rfl (E6 (P6 c) l)
    ·rw [I,decide_eq_false c] at b
     exact b t g l
  ·have N:bM (q++[(c7 (k:Int),m)]) i=bM q i:=by
    unfold bM;cases z:aV (lst q) (c7 (i:Int)) with
   |some t =>
     obtain ⟨u,e,_⟩:=DY (x:=(c7 (k:Int),m)) z;rcases vG e with w|⟨w,_⟩
     ·rw [e,← w,z]
     ·exact absurd (Int.ofNat_inj.mp (ay w)) c
   |none =>
     cases w:aV (lst (q++[(c7 (k:Int),m)])) (c7 (i:Int)) with
    |none=>rfl
    |some t =>
      rcases vG w with w|⟨w,_⟩
      ·rw [z] at w; cases w
      ·exact absurd (Int.ofNat_inj.mp (ay w)) c
   rw [N];refine DL (fun t g l B=>?_) fun t g l B=>?_
   ·rw [oX B] at g
    rw [oW C (fun t l=>(S _ t l).symm) (fun t l=>(S _ t l).symm) g l]
   ·rw [oX B] at g
    rw [oW C (S _) (S _) g l]
 rw [K,M];exact ((R.filterMap _).filter _).append_right _
theorem XV{n:List dE}{mo:aM->Option Rat}{ys:List Str}(h:fJ (kn n) (aV (lst [])) (bM []) mo):jF n mo [] ys=[]:=by
 have g:∀ {p t},¬ KM (kn n) (aV (lst [])) (bM []) p t:=fun {p t} a=>by
  induction a with
 |push e=>cases e
 |run _ _ _ _ ih=>exact ih
 have b:∀ p,mo p=none:=fun p=>by
  cases e:mo p with
 |none=>rfl
 |some t=>exact absurd (h.arr _ _ e) g
 unfold jF;rw [mh.mpr fun y _=>by rw [gP,b]; rfl,mh.mpr fun i f=>?_]
 ·rfl
 ·unfold eN
  rw [c8 (T6.mp f)];show pR i (mD (fF _ _ (mo _) (mo _) _) _)=none;rw [b,b];rfl
theorem Jb{l es f:List Ev}{ps:List (aM×Rat)}{m w:Rat}(D:m<=w)(hp:∀ x∈ps,x.2<=m)(q:es.Perm (l.filter (dD ps m)))(A:f.Perm (l.filter (fresh m w))):(es++f).Perm (l.filter (dD ps w)):=by
 refine (q.append A).trans ?_;have h:=List.filter_append_perm (dD ps m) (l.filter (dD ps w));rw [List.filter_filter,List.filter_filter] at h;have b:∀(m:Rat)(e:Ev),dD ps m e=(!decide (m < e.t)&&kL ps e):=fun _ _=>rfl;have o:∀ e:Ev,fresh m w e=(decide (m < e.t)&&!decide (w < e.t)):=fun _=>rfl;have C:∀ e:Ev,m < e.t->kL ps e=true:=fun e l=>by
  cases e with
 |falls t y =>
   show (!ps.any _)=true;rw [Bool.not_eq_true',List.any_eq_false];intro x B z;rw [M5,decide_eq_true_eq,decide_eq_true_eq] at z;have:=hp x B;rw [z.2] at this;exact absurd l (X5.mpr this)
 |met t k s=>rfl
 |swept t k=>rfl
 have g:(l.filter fun a=>dD ps m a&&dD ps w a)=l.filter (dD ps m):=List.filter_congr fun e _=>by
  rw [b,b];by_cases c:m < e.t
  ·rw [decide_eq_true c]
   rfl
  ·rw [decide_eq_false c,decide_eq_false (show ¬ w < e.t by grind)]
   cases kL ps e <;> rfl
 have i:(l.filter fun a=>!dD ps m a&&dD ps w a)=l.filter (fresh m w):=List.filter_congr fun e _=>by
  rw [b,b,o];by_cases c:m < e.t
  ·rw [decide_eq_true c,C e c]
   cases decide (w < e.t) <;> rfl
  ·rw [decide_eq_false c,decide_eq_false (show ¬ w < e.t by grind)]
   cases kL ps e <;> rfl
 rw [g,i] at h;exact h
theorem JN(U:List Str)(u:Int)(b:List (Int×Int×Int)):(eG U u b).length=b.length:=g7 ..
theorem Hx{U:List Str}{u:Int}{f:List (Int×Int×Int)}{ps m:List (Int×Int)}(b:mF U u f ps m):∀ r∈eG U u f,0 < r.2.2:=fun r g=>by
 obtain ⟨x,i,rfl⟩:=j1.mp g;have:=b.rok x i;exact Av (by lia) b.u0
theorem HJ{U:List Str}{u:Int}{f:List (Int×Int×Int)}{ps D:List (Int×Int)}(A:mF U u f ps D):∀ x∈names (eG U u f),x∈U:=fun x b=>by
 have go:∀ i:Int,0<=i->i < U.length->jM U i∈U:=fun i s w=>by
  obtain ⟨h,e⟩:=xS s w;rw [e];exact C5 h
 unfold names eG at b;rcases m9.mp b with h|h
 all_goals
  obtain ⟨r,B,rfl⟩:=j1.mp h;obtain ⟨y,C,rfl⟩:=j1.mp B;obtain ⟨g,m,o,q,_⟩:=A.rok y C
  first|exact go _ g m|exact go _ o q
theorem YN{U:List Str}{u z:Int}{f:List (Int×Int×Int)}(h:z∈nG f):jM U z∈names (eG U u f):=by
 unfold names eG;rw [L1,L1];rcases m9.mp h with h|h
 ·obtain ⟨r,b,rfl⟩:=j1.mp h
  exact z9 _ (j1.mpr ⟨r,b,rfl⟩)
 ·obtain ⟨r,b,rfl⟩:=j1.mp h
  exact o0 _ (j1.mpr ⟨r,b,rfl⟩)
theorem cP.kt{K:m7}{H G:Hp}{a:b8}{xs:List V}(h:cP K H a xs)(t:LT H)(k:Kp tT H G):cP K G a xs:=by
 rcases h with (h|⟨o,h⟩)|h
 ·exact .inl (.inl (kT k t h (fun _ z=>nomatch z)))
 ·exact .inl (.inr ⟨o,kT k t h (fun _ z=>nomatch z)⟩)
 ·exact .inr h
theorem kI.kl{L:List b8}{H H':Hp}{f:b8}{U:List Str}{u:Int}{s:List (Int×Int×Int)}{ps w:List (Int×Int)}{ln i g m:b8}{b:Int}(h:kI H f U u s ps w ln i g m b)(k:jW L H H')(t:TK H H')(x0:f∉L)(x1:ln∉L)(x2:i∉L)(x3:g∉L)(A:m∉L):kI H' f U u s ps w ln i g m b:=
 ⟨k _ _ x0 h.d,⟨⟨_,k _ _ x0 h.d⟩,k _ _ x1 h.q.nm,LQ.mv h.q.rq nV.tk (fun o e=>k _ _ x2 e) t,LQ.mv h.q.pq iH.tk (fun o e=>k _ _ x3 e) t,LQ.mv h.q.tq iH.tk (fun o e=>k _ _ A e) t⟩⟩
theorem cM.kl{L:List b8}{H H':Hp}{ln b f:b8}{n:List dE}{ps g:List (aM×Rat)}{D M:Nat}{U:List Str}(h:cM H ln b f n ps g D M U)(k:jW L H H')(t:TK H H')(x1:ln∉L)(x2:b∉L)(x3:f∉L):cM H' ln b f n ps g D M U:=
 ⟨⟨LQ.mv h.nq.lq fA.tk (fun o e=>k _ _ x1 e) t,h.nq.len,h.nq.bd,h.nq.pos⟩,⟨LQ.mv h.pq.lq nX.tk (fun o e=>k _ _ x2 e) t,h.pq.len,h.pq.bd⟩,LQ.mv h.tq nX.tk (fun o e=>k _ _ x3 e) t,h.tl,h.tz,h.R,h.u2,h.nm,h.n1,h.n2,h.n3⟩
theorem cM.up{H:Hp}{ln g i:b8}{n:List dE}{ps m:List (aM×Rat)}{D M b:Nat}{U:List Str}(h:cM H ln g i n ps m D M U)(l:M<=b)(R:nR D b):cM H ln g i n ps m D b U:=
 ⟨⟨h.nq.lq,h.nq.len,fun r f=>(h.nq.bd r f).mono l,h.nq.pos⟩,⟨h.pq.lq,h.pq.len,fun r f=>(h.pq.bd r f).mono l⟩,h.tq,h.tl,h.tz,R,h.u2,h.nm,h.n1,h.n2,h.n3⟩
theorem cQ.up{H:Hp}{f:b8}{n:List dE}{ps g:List (aM×Rat)}{D M b:Nat}{mo:aM->Option Rat}{ys:List Str}(h:cQ H f n ps g D M mo ys)(l:M<=b):cQ H f n ps g D b mo ys:=⟨h.dq,h.fal,fun k q e=>(h.bd k q e).mono (de _ l),h.nd,h.mem⟩
noncomputable def Mk(i:Nat):Nat:=10 ^ 31 * 1001 ^ i
theorem EF(i:Nat):Mk (i+1)=Mk i * 1001:=by
 unfold Mk;rw [show 1001 ^ (i+1)=1001 ^ i * 1001 from rfl,← Nat.mul_assoc]
theorem Ow(i:Nat):10 ^ 31<=Mk i:=M7 _ (pow_pos (by decide))
theorem XZ{i:Nat}(h:i<=20):Mk i<=10 ^ 92:=u8 (S0 _ (Q8 (by decide) h)) (by decide)
theorem MD{u:Int}{i:Nat}(h0:0 < u)(b:u<=10 ^ 12)(h:i<=20):nR u.toNat (Mk i):=
 ⟨by lia,B8 (show u.toNat<=10 ^ 12 by lia) (by decide),B8 (Nat.mul_le_mul (de 1000 (XZ h)) (show u.toNat<=10 ^ 12 by lia)) (by decide)⟩
theorem XR{u z:Int}{B:Nat}(q:0 < u)(h0:0<=z)(o:z<=B):Bd u.toNat B (ut u z):=by
 have b:u≠0:=by lia
 have e:=pM (t:=z) b;have m:=oO (t:=z) b;have i:(i0 z u).num.natAbs<=B:=by
  rw [e.1];have:=CU (t:=z) b;lia
 refine (Bd.of i).dvd ?_;have f:((i0 z u).den:Int) ∣ u:=by rw [e.2]; exact ⟨_,m.symm⟩
 have g:(u.toNat:Int)=u:=ei (by lia);exact M8.mp (g.symm ▸ f:((i0 z u).den:Int) ∣ (u.toNat:Int))
theorem RO{u z:Int}{D M:Nat}(b:0 < u)(h:Bd D M (ut u z)):z<=(M:Int) * u:=by
 have e:((M:Nat):Rat)=ut u ((M:Int) * u):=by
  rw [nF,Rat.intCast_mul];have:=up b;have f:((u:Int):Rat)≠0:=S8 this;rw [Rat.mul_div_cancel f];rfl
 have:=h.2.2;rw [e] at this;exact (vX b).mp this
theorem CC{b:List (Int×Int×Int)}{ps:List (Int×Int)}(h:∀ x∈ps,x.1∈nG b):iQ b ps=ps:=by
 unfold iQ;exact List.filter_eq_self.mpr fun x f=>decide_eq_true (h x f)
theorem VA(U:List Str)(u:Int)(ps:List (Int×Int))(x:Int×Int):nY U u (ps++[x])=nY U u ps++[(a9 (jM U x.1),ut u x.2)]:=by
 unfold nY;rw [u7];rfl
theorem RV(u:Int)(b:List (Int×Int))(x:Int×Int):jK u (b++[x])=jK u b++[(c7 x.1,ut u x.2)]:=by
 unfold jK;rw [u7];rfl
structure Pl(ln lr lp lt um ul uk:b8):Prop where
 n1:ln≠lp
 n2:ln≠lt
 n3:lr≠lp
 n4:lr≠lt
 n5:lp≠lt
 a1:ln≠ul
 a2:lr≠ul
 a3:lp≠ul
 a4:lt≠ul
 b1:ln≠uk
 b2:lr≠uk
 b3:lp≠uk
 b4:lt≠uk
 c1:um≠lp
 c2:um≠lt
structure vD(cC:b8)(G:Hp)(dd h dx ln lr lp lt um ul uk:b8)(U:List Str)(u:Int)(rs:List (Int×Int×Int))(ps ts:List (Int×Int))(now:Int)(ps' ts':List (Int×Int))(uo:Int)(vm:V)(dm:b8)(mo:aM->Option Rat)(ys:List Str)(M:Nat):Prop where
 N:kI G dd U u rs ps ts ln lr lp lt now
 o:G h=some (.ins cC dx (cB um ul uk vm dm))
 I:cM G um ul uk (eG U u rs) (nY U u ps') (jK u ts') u.toNat M U
 Mo:cQ G dm (eG U u rs) (nY U u ps') (jK u ts') u.toNat M mo ys
 m:cA G vm (ut u uo)
 z:Bd u.toNat M (ut u uo)
 T:LT G
 xd:dm≠dd
section
variable {cC:b8}{G G':Hp}{dd h dx ln lr lp lt um ul uk:b8}{U:List Str}{u:Int}{rs:List (Int×Int×Int)}{ps ts:List (Int×Int)}{now:Int}{ps' ts':List (Int×Int)}{uo:Int}{vm:V}{dm:b8}{mo:aM -> Option Rat}{ys:List Str}{M M':Nat}
theorem vD.sm(a:vD cC G dd h dx ln lr lp lt um ul uk U u rs ps ts now ps' ts' uo vm dm mo ys M)(s:aJ G G'):vD cC G' dd h dx ln lr lp lt um ul uk U u rs ps ts now ps' ts' uo vm dm mo ys M:=
 ⟨a.N.sm s,s _ _ a.o,a.I.sm s,a.Mo.mv (fun o e=>s _ _ e) s.tk,a.m.tk s.tk,a.z,sX.same a.T s,a.xd⟩
theorem vD.up(a:vD cC G dd h dx ln lr lp lt um ul uk U u rs ps ts now ps' ts' uo vm dm mo ys M)(l:M<=M')(R:nR u.toNat M'):vD cC G dd h dx ln lr lp lt um ul uk U u rs ps ts now ps' ts' uo vm dm mo ys M':=
 ⟨a.N,a.o,a.I.up l R,a.Mo.up l,a.m,a.z.mono l,a.T,a.xd⟩
theorem vD.nh(a:vD cC G dd h dx ln lr lp lt um ul uk U u rs ps ts now ps' ts' uo vm dm mo ys M):(dd≠h/\ln≠h/\lr≠h/\lp≠h/\lt≠h)/\(dd≠ul/\dd≠uk/\dd≠tT/\ln≠tT/\lr≠tT/\lp≠tT/\lt≠tT)/\(h≠ul/\h≠uk/\h≠tT)/\(dm≠h/\dm≠lp/\dm≠lt)/\(um≠dd/\ul≠dd/\uk≠dd)/\ul≠tT/\uk≠tT:=by
 obtain ⟨_,i⟩:=a.T.ex;have m:=a.N.d;have C:=a.N.q.nm;obtain ⟨_,D,_⟩:=a.N.q.rq;obtain ⟨_,w,_⟩:=a.N.q.pq;obtain ⟨_,A,_⟩:=a.N.q.tq;obtain ⟨_,hn,_⟩:=a.I.nq.lq;obtain ⟨_,hp,_⟩:=a.I.pq.lq;obtain ⟨_,s,_⟩:=a.I.tq;obtain ⟨_,B,_⟩:=a.Mo.dq;have g:=a.o;have f:∀{x y:b8}{E H:HO},G x=some E->G y=some H->E≠H->x≠y:=fun a b c z=>by rw [z,b] at a; exact c (h8 a).symm
 exact ⟨⟨f m g (by intro z; cases z),f C g (by intro z; cases z),f D g (by intro z; cases z),f w g (by intro z; cases z),f A g (by intro z; cases z)⟩,⟨f m hp (by intro z; cases z),f m s (by intro z; cases z),f m i (by intro z; cases z),f C i (by intro z; cases z),f D i (by intro z; cases z),f w i (by intro z; cases z),f A i (by intro z; cases z)⟩,⟨f g hp (by intro z; cases z),f g s (by intro z; cases z),f g i (by intro z; cases z)⟩,⟨f B g (by intro z; cases z),f B w (by intro z; cases z),f B A (by intro z; cases z)⟩,⟨f hn m (by intro z; cases z),f hp m (by intro z; cases z),f s m (by intro z; cases z)⟩,f hp i (by intro z; cases z),f s i (by intro z; cases z)⟩
theorem kM{a b x:b8}(f:x≠a)(g:x≠b):x∉[a,b]:=fun z=>by
 rcases n6.mp z with e|z
 ·exact f e
 ·exact g (f9.mp z)
theorem JK{a b c x:b8}(f:x≠a)(g:x≠b)(i:x≠c):x∉[a,b,c]:=fun z=>by
 rcases n6.mp z with e|z
 ·exact f e
 ·exact kM g i z
theorem LT.kl{L:List b8}{H H':Hp}(t:LT H)(k:jW L H H')(h:∀ p∈L,(∃ xs,H p=some (.lst xs))∨(∃ C dx f,H p=some (.ins C dx f))∨∃ kv,H p=some (.dK kv)):LT H':=by
 have g:∀{b:b8}{o:HO},H b=some o->(∀ xs,o≠.lst xs)->(∀ C dx f,o≠.ins C dx f)->(∀ kv,o≠.dK kv)->b∉L:=fun e i n2 n3 m=>by
  rcases h _ m with ⟨_,z⟩|⟨_,_,_,z⟩|⟨_,z⟩
  ·exact i _ (h8 (e.symm.trans z))
  ·exact n2 _ _ _ (h8 (e.symm.trans z))
  ·exact n3 _ (h8 (e.symm.trans z))
 rcases t with t|⟨c,t,u⟩
 ·exact .inl (k _ _ (g t (fun _ z=>nomatch z) (fun _ _ _ z=>nomatch z) (fun _ z=>nomatch z)) t)
 ·exact .inr ⟨c,k _ _ (g t (fun _ z=>nomatch z) (fun _ _ _ z=>nomatch z) (fun _ z=>nomatch z)) t,k _ _ (g u (fun _ z=>by cases z) (fun _ _ _ z=>by cases z) (fun _ z=>by cases z)) u⟩
theorem Jz{L:List b8}{H H':Hp}(k:jW L H H')(h:∀ p∈L,∃ o,H p=some o/\∀ xs,o≠.tup xs):TK H H':=k.tk fun p hp xs e=>by
 obtain ⟨o,b,n⟩:=h p hp;rw [b] at e;exact n xs (h8 e)
theorem NM{L:List b8}{H G F:Hp}(k:Kp tT H G)(i:jW L G F)(f:∀ x∈L,x=tT∨H x=none):Kp tT H F:=fun b o g e=>i _ _ (fun z=>by
 rcases f b z with r|r
 ·exact g r
 ·rw [r] at e; cases e) (k _ _ g e)
theorem vD.pushed(E:Pl ln lr lp lt um ul uk)(a:vD cC G dd h dx ln lr lp lt um ul uk U u rs ps ts now ps' ts' uo vm dm mo ys M){d:b8}{g:List (Int×Int)}{b:aM->Option Rat}{f:List Str}(i:G d=none)(k:jW [h,ul] G G')(o:G' h=some (.ins cC dx (cB um ul uk vm d)))(I:cM G' um ul uk (eG U u rs) (nY U u g) (jK u ts') u.toNat M U)(q:cQ G' d (eG U u rs) (nY U u g) (jK u ts') u.toNat M b f):vD cC G' dd h dx ln lr lp lt um ul uk U u rs ps ts now g ts' uo vm d b f M:=by
 obtain ⟨⟨s,w,A,B,C⟩,⟨D,H,J,K,O,P,Q⟩,_⟩:=a.nh;obtain ⟨_,hp,_⟩:=a.I.pq.lq;have t:TK G G':=Jz k fun p z=>by
  rcases n6.mp z with e|z
  ·rw [e]; exact ⟨_,a.o,fun _ z=>nomatch z⟩
  ·rw [f9.mp z]; exact ⟨_,hp,fun _ z=>nomatch z⟩
 exact ⟨a.N.kl k t (kM s D) (kM w E.a1) (kM A E.a2) (kM B E.a3) (kM C E.a4),o,I,q,a.m.tk t,a.z,a.T.kl k (fun p z=>by
  rcases n6.mp z with e|z
  ·rw [e]; exact .inr (.inl ⟨_,_,_,a.o⟩)
  ·rw [f9.mp z]; exact .inl ⟨_,hp⟩),j3 (aB a.N.d i)⟩
theorem vD.took(E:Pl ln lr lp lt um ul uk)(a:vD cC G dd h dx ln lr lp lt um ul uk U u rs ps ts now ps' ts' uo vm dm mo ys M){d:b8}{g:List (Int×Int)}{b:aM->Option Rat}{f:List Str}(i:G d=none)(k:jW [h,uk] G G')(o:G' h=some (.ins cC dx (cB um ul uk vm d)))(I:cM G' um ul uk (eG U u rs) (nY U u ps') (jK u g) u.toNat M U)(q:cQ G' d (eG U u rs) (nY U u ps') (jK u g) u.toNat M b f):vD cC G' dd h dx ln lr lp lt um ul uk U u rs ps ts now ps' g uo vm d b f M:=by
 obtain ⟨⟨s,w,A,B,C⟩,⟨H,D,J,K,O,P,Q⟩,_⟩:=a.nh;obtain ⟨_,hp,_⟩:=a.I.tq;have t:TK G G':=Jz k fun p z=>by
  rcases n6.mp z with e|z
  ·rw [e]; exact ⟨_,a.o,fun _ z=>nomatch z⟩
  ·rw [f9.mp z]; exact ⟨_,hp,fun _ z=>nomatch z⟩
 exact ⟨a.N.kl k t (kM s D) (kM w E.b1) (kM A E.b2) (kM B E.b3) (kM C E.b4),o,I,q,a.m.tk t,a.z,a.T.kl k (fun p z=>by
  rcases n6.mp z with e|z
  ·rw [e]; exact .inr (.inl ⟨_,_,_,a.o⟩)
  ·rw [f9.mp z]; exact .inl ⟨_,hp⟩),j3 (aB a.N.d i)⟩
theorem vD.went(a:vD cC G dd h dx ln lr lp lt um ul uk U u rs ps ts now ps' ts' uo vm dm mo ys M){b:V}{t':Int}(k:jW [h,tT] G G')(T:LT G')(o:G' h=some (.ins cC dx (cB um ul uk b dm)))(f:cA G' b (ut u t'))(z:Bd u.toNat M (ut u t'))(I:cM G' um ul uk (eG U u rs) (nY U u ps') (jK u ts') u.toNat M U)(g:cQ G' dm (eG U u rs) (nY U u ps') (jK u ts') u.toNat M mo ys):vD cC G' dd h dx ln lr lp lt um ul uk U u rs ps ts now ps' ts' t' b dm mo ys M:=by
 obtain ⟨⟨i,m,q,s,w⟩,⟨H,J,A,B,C,D,E⟩,_⟩:=a.nh;obtain ⟨_,hp⟩:=a.T.ex;have t:TK G G':=Jz k fun p z=>by
  rcases n6.mp z with e|z
  ·rw [e]; exact ⟨_,a.o,fun _ z=>nomatch z⟩
  ·rw [f9.mp z]; exact ⟨_,hp,fun _ z=>nomatch z⟩
 exact ⟨a.N.kl k t (kM i A) (kM m B) (kM q C) (kM s D) (kM w E),o,I,g,f,z,T,a.xd⟩
theorem vD.did(E:Pl ln lr lp lt um ul uk)(a:vD cC G dd h dx ln lr lp lt um ul uk U u rs ps ts now ps' ts' uo vm dm mo ys M){g i:List (Int×Int)}{n2:Int}(k:jW [dd,lp,lt] G G')(N:kI G' dd U u rs g i ln lr lp lt n2):vD cC G' dd h dx ln lr lp lt um ul uk U u rs g i n2 ps' ts' uo vm dm mo ys M:=by
 obtain ⟨⟨C,K,O,D,H⟩,⟨P,Q,R,S,W,X,Y⟩,_,⟨J,A,B⟩,⟨v1,s,w⟩,_⟩:=a.nh;obtain ⟨_,b,_⟩:=a.N.q.pq;obtain ⟨_,f,_⟩:=a.N.q.tq;have t:TK G G':=Jz k fun p z=>by
  rcases n6.mp z with e|z
  ·rw [e]; exact ⟨_,a.N.d,fun _ z=>nomatch z⟩
  ·rcases n6.mp z with e|z
   ·rw [e]; exact ⟨_,b,fun _ z=>nomatch z⟩
   ·rw [f9.mp z]; exact ⟨_,f,fun _ z=>nomatch z⟩
 exact ⟨N,k _ _ (JK (j3 C) (j3 D) (j3 H)) a.o,a.I.kl k t (JK v1 E.c1 E.c2) (JK s (j3 E.a3) (j3 E.a4)) (JK w (j3 E.b3) (j3 E.b4)),a.Mo.mv (fun o e=>k _ _ (JK a.xd A B) e) t,a.m.tk t,a.z,a.T.kl k (fun p z=>by
  rcases n6.mp z with e|z
  ·rw [e]; exact .inr (.inr ⟨_,a.N.d⟩)
  ·rcases n6.mp z with e|z
   ·rw [e]; exact .inl ⟨_,b⟩
   ·rw [f9.mp z]; exact .inl ⟨_,f⟩),a.xd⟩
end
noncomputable def Stp(w:Str)(x:Int)(ps ts:List (Int×Int))(now:Int)(ps' ts':List (Int×Int))(uo:Int):Prop:=(w="push"/\ps'=ps++[(x,now)]/\ts'=ts/\uo=now)∨(w="take"/\ps'=ps/\ts'=ts++[(x,now)]/\uo=now)∨(w="go"/\ps'=ps/\ts'=ts/\uo=now+x)
structure Ri(l lp lt ul uk:b8):Prop where
 a:l≠lp
 b:l≠lt
 c:l≠ul
 d:l≠uk
structure Jq(G:Hp)(l lo lp lt ul uk:b8)(U:List Str)(u:Int)(rs:List (Int×Int×Int))(ps ts:List (Int×Int))(now:Int)(mo:aM->Option Rat)(ys:List Str):Prop where
 l:LQ fA G l (kn (eG U u rs))
 o:Ri lo lp lt ul uk
 e:∃ zs es,G lo=some (.lst zs)/\Paired (gC G) zs es/\es.Perm ((jF (eG U u rs) mo (jK u ts) ys).filter (dD (nY U u ps) (ut u now)))
 p:∀ x∈ps,x.2<=now
theorem Jq.sm{G m:Hp}{l lo w A f g:b8}{U:List Str}{u:Int}{B:List (Int×Int×Int)}{ps C:List (Int×Int)}{i:Int}{mo:aM->Option Rat}{ys:List Str}(h:Jq G l lo w A f g U u B ps C i mo ys)(s:aJ G m):Jq m l lo w A f g U u B ps C i mo ys:=
 let ⟨E,D,a,b,c⟩:=h.e; ⟨h.l.sm fA.tk s,h.o,⟨E,D,s _ _ a,Pd.imp b fun z e q=>gC.tk q s.tk,c⟩,h.p⟩
theorem tY{G:Hp}{a b:b8}{xs:List V}{o:HO}(f:G a=some (.lst xs))(g:G b=some o)(h:∀ xs,o≠.lst xs):a≠b:=fun z=>by rw [z,g] at f; exact h _ (h8 f)
theorem Ej{G f:Hp}{L:List b8}{lo:b8}{g:List V}{es:List Ev}(k:jW L G f)(t:TK G f)(y:lo∉L)(a:G lo=some (.lst g))(b:Paired (gC G) g es):f lo=some (.lst g)/\Paired (gC f) g es:=⟨k _ _ y a,Pd.imp b fun z e q=>gC.tk q t⟩
inductive LwI (cC a dd l h dx ln lr lp lt um ul uk:b8) (U:List Str) (u:Int) (rs:List (Int×Int×Int)) (H:Hp) (i:Nat) (σ:St) (G:Hp):Prop
|mk (o5 o6 o7 o8 o9 o10:Option V) (lo:b8) (ps ts:List (Int×Int)) (now:Int) (vm:V) (dm:b8) (mo:aM->Option Rat) (ys:List Str) (e:σ=[some (.ref a),some (.ref dd),some (.ref l),some (.ref h),some (.ref lo),o5,o6,o7,o8,o9,o10]) (S:vD cC G dd h dx ln lr lp lt um ul uk U u rs ps ts now ps ts now vm dm mo ys (Mk i)) (k:Kp tT H G) (J:mF U u rs ps ts) (us:∀ x∈ps,x.1∈nG rs) (pl:ps.length<=i) (tl:ts.length<=i) (n0:0<=now) (TL:Jq G l lo lp lt ul uk U u rs ps ts now mo ys)
inductive LwD (cC a dd l h dx ln lr lp lt um ul uk:b8) (U:List Str) (u:Int) (rs:List (Int×Int×Int)) (H:Hp) (i:Nat) (lo p2:b8) (k num x2:Int) (wd:Str) (o9 o10:Option V) (ps ts:List (Int×Int)) (now:Int) (zs:List V) (es:List Ev) (σ:St) (F:Hp):Prop
|mk (fv:V) (vm':V) (dm':b8) (mo':aM->Option Rat) (ys':List Str) (ps' ts':List (Int×Int)) (uo:Int) (e:σ=[some (.ref a),some (.ref dd),some (.ref l),some (.ref h),some (.ref lo),some (.int k),some (.int num),some (.ref p2),some fv,o9,o10]) (g:F p2=some (.tup [.str wd,.int x2])) (S:vD cC F dd h dx ln lr lp lt um ul uk U u rs ps ts now ps' ts' uo vm' dm' mo' ys' (Mk (i+1))) (kp:Kp tT H F) (st:Stp wd x2 ps ts now ps' ts' uo) (J:mF U u rs ps' ts') (us:∀ x∈ps',x.1∈nG rs) (n0:0<=uo) (lq:LQ fA F l (kn (eG U u rs))) (pn:∀ x∈ps',x.2<=uo) (gz:F lo=some (.lst zs)) (pz:Paired (gC F) zs es) (tw:((((wd=="go")=false)/\es.Perm ((jF (eG U u rs) mo' (jK u ts') ys').filter (dD (nY U u ps') (ut u uo))))∨(wd="go"/\∃ v zs' fs,fv=.ref v/\F v=some (.lst zs')/\zs'.length<=400/\Paired (gC F) zs' fs/\(es++fs).Perm ((jF (eG U u rs) mo' (jK u ts') ys').filter (dD (nY U u ps') (ut u uo))))))
inductive LJ (K:m7) (vs:List V) (H:Hp) (Q:VK) (EE:XK):Prop
|mk (a:b8) (ns:List Int) (h0':vs=[.ref a]) (h1':cP K H a (ns.map V.int)) (h2':ns.length<=63) (h3':LT H) (h4':∀ H',Q (.bl true) H'):LJ K vs H Q EE
noncomputable def LK(K:m7):Sp:=fun vs H Q EE=>LJ K vs H Q EE
set_option hygiene false in
local macro_rules | `(tactic| walk_at "ln") => `(tactic| (intros; rename_i h; walk_at "lo"))
set_option hygiene false in
local macro_rules | `(tactic| walk_at "lo") => `(tactic| first | (obtain ⟨rfl,_⟩:=h; rfl) | (cases h; subst_vars; rfl) | (obtain ⟨_,h⟩:=h; walk_at "lo"))
theorem dU{X:Cx}{x:Str}{e:A6}{g:TE}{b f:Pos}(i:Nat)(m:X.N.Nodup)(o:PE X e g)(s:X.N[i]?=some x:=by rfl)(w:Ju X.env.scope x:=by first|exact B6 rfl|exact A9 rfl)(hs:gh e (some (.Name x b)) f.line X.env=D8 false:=by rfl)(q:X.fn x=true∨X.env.scope.names.lookup x=some .local:=by first|exact .inl rfl|exact .inr rfl|assumption):PS X (.Assign [.Name x b] e f) (SH g (gM i)):=UZ m s w o hs q
theorem nZ{X:Cx}{x:Str}{b:Pos}(i:Nat)(f:X.N.Nodup)(m:X.N[i]?=some x:=by rfl)(o:Ju X.env.scope x:=by first|exact B6 rfl|exact A9 rfl)(g:X.fn x=true∨X.env.scope.names.lookup x=some .local:=by first|exact .inl rfl|exact .inr rfl|assumption):PG X (.Name x b) (gM i):=bI f m o g
structure EV(K:m7)(mg:Str->Option a8)(cC:b8):Prop where
 d0:Df K mg "is_whole" wW ["thing"]
 d1:Df K mg "common_divisor" lU ["one","other"]
 d2:Df K mg "is_fraction" qB ["thing"]
 d4:Df K mg "added" MC ["one","other"]
 d5:Df K mg "lessened" wV ["one","other"]
 d6:Df K mg "timed" LY ["one","other"]
 d7:Df K mg "divided" AE ["one","other"]
 d8:Df K mg "is_less" AD ["one","other"]
 d9:Df K mg "is_moment" uM ["thing"]
 d10:Df K mg "whole_tops" mQ ["fractions"]
 d12:Df K mg "posts_of" mR ["net"]
 d13:Df K mg "runs_beside" qA ["net"]
 d14:Df K mg "least_moments" nI ["deeds"]
 d15:Df K mg "is_out" GG ["taken","number","moment"]
 d16:Df K mg "earliest_of" qC ["waiting"]
 d19:Df K mg "share_passed" oH ["fell","time","moment"]
 d20:Df K mg "standing_by" pZ ["run","moments","taken","moment"]
 d22:Df K mg "is_swept" wX ["fell","time","beyond"]
 d23:Df K mg "ending_by_falls" kX ["run","moments"]
 d24:Df K mg "moment_of" uL ["ending"]
 d25:Df K mg "ending_by" uN ["run","moments","taken"]
 d27:Df K mg "_law_cell_at" AF ["_law_script","_law_k"]
 d28:Df K mg "_law_mixed" MB ["_law_cell","_law_k"]
 d29:Df K mg "_law_number" GF ["_law_script","_law_k"]
 d30:Df K mg "_law_low" Cw ["_law_top","_law_bottom"]
 d31:Df K mg "_law_posts" MA ["_law_number_here"]
 d32:Df K mg "_law_time" TW ["_law_number_here"]
 d33:Df K mg "_law_here" UA ["_law_script","_law_most"]
 d34:Df K mg "_law_net" TX ["_law_here_here"]
 d35:Df K mg "_law_pushes" oI ["_law_here_here"]
 d36:Df K mg "_law_taken" LZ ["_law_here_here"]
 d37:Df K mg "_law_due" Cy ["_law_here_here"]
 d38:Df K mg "_law_handed" rP ["_law_here_here"]
 d39:Df K mg "_law_left" TZ ["_law_here_here","_law_due_here","_law_k","_law_moment"]
 d40:Df K mg "_law_hall" UB ["_law_script"]
 d41:Df K mg "_law_deed" oJ ["_law_here_here","_law_due_here","_law_number_here"]
 d42:Df K mg "_law_did" Cz ["_law_here_here","_law_deed_here"]
 d43:sY K cC nJ "has_come" "Hall.has_come" ["self","moment"]
 d44:sY K cC hZ "falls_told" "Hall.falls_told" ["self"]
 d45:sY K cC jL "endings_told" "Hall.endings_told" ["self"]
 d46:sY K cC pE "go" "Hall.go" ["self","time"]
 d47:sY K cC qD "reckon" "Hall.reckon" ["self"]
 d48:sY K cC rQ "tiles" "Hall.tiles" ["self","number"]
 d49:sY K cC uO "take" "Hall.take" ["self","number"]
 d50:sY K cC iK "refuse_no_post" "Hall.refuse_no_post" ["self","post"]
 d51:sY K cC uP "push" "Hall.push" ["self","post"]
 d52:Df K mg "_law_do" Lf ["_law_hall_here","_law_here_here","_law_deed_here"]
 d53:Df K mg "_law_less" TY ["_law_one","_law_other"]
 d54:sY K cC wZ "now" "Hall.now" ["self"]
 d55:sY K cC lH "fallen" "Hall.fallen" ["self"]
 d56:Df K mg "_law_by_now" GH ["_law_hall_here","_law_net_here","_law_pushes_here","_law_takings","_law_number_here"]
 d57:Df K mg "_law_all_told" wY ["_law_hall_here","_law_net_here","_law_pushes_here","_law_takings","_law_told"]
 d58:sY K cC nK "__init__" "Hall.__init__" ["self","net"]
section
variable (P:j2)(w:k6){K:m7}{mg:Str -> Option a8}(base:u9)(k:Nat){cC:b8}(T:Bl mg)(HC:Pb K mg cC)(vE:EV K mg cC)(d_fraction:Ep K mg "fraction" iO ["top","bottom"] [.int 1])(d_sorted_by:Pq K mg "sorted_by" fB ["fractions","things"] 167 165)(d_falls_of:Ep K mg "falls_of" fZ ["net","pushes","takings"] [.non])(d_fall_moments:Ep K mg "fall_moments" dY ["net","pushes","takings"] [.non])(d_standing_in:Kh K mg "standing_in" eV ["net","pushes","number","moment","takings"] [.non] 4 ["takings"])(d_ending_of:Kh K mg "ending_of" gH ["net","pushes","number","takings"] [.non] 3 ["takings"])(o1b:bZ P w K mg base k "is_whole" ["thing"] (KS K))(o0e:bZ P w K mg base k "common_divisor" ["one","other"] Co)(o0n:bZ P w K mg base k "is_fraction" ["thing"] (FM K))(o1g:nW P w K mg base k "fraction" ["top","bottom"] [.int 1] (wN K))(o1t:bZ P w K mg base k "added" ["one","other"] TF)(o1h:bZ P w K mg base k "lessened" ["one","other"] SS)(o1u:bZ P w K mg base k "timed" ["one","other"] SL)(o1i:bZ P w K mg base k "divided" ["one","other"] SY)(o1k:bZ P w K mg base k "is_less" ["one","other"] LI)(o0z:bZ P w K mg base k "is_moment" ["thing"] (SR K))(o0s:bZ P w K mg base k "whole_tops" ["fractions"] EX)(o0u:bZ P w K mg base k "sorted_by" ["fractions","things"] (rE K))(o1c:bZ P w K mg base k "posts_of" ["net"] (LB w))(o0o:bZ P w K mg base k "runs_beside" ["net"] Cu)(o0f:bZ P w K mg base k "least_moments" ["deeds"] Cn)(o1n:bZ P w K mg base k "is_out" ["taken","number","moment"] Ck)(o0l:bZ P w K mg base k "earliest_of" ["waiting"] Cr)(o1f:nW P w K mg base k "falls_of" ["net","pushes","takings"] [.non] Cp)(o0i:nW P w K mg base k "fall_moments" ["net","pushes","takings"] [.non] (La w))(o0j:bZ P w K mg base k "share_passed" ["fell","time","moment"] Cj)(o0k:bZ P w K mg base k "standing_by" ["run","moments","taken","moment"] SO)(o0q:uG P w K mg base k "standing_in" ["net","pushes","number","moment","takings"] [.non] 4 ["takings"] (SN w))(o1d:bZ P w K mg base k "is_swept" ["fell","time","beyond"] Ci)(o0d:bZ P w K mg base k "ending_by_falls" ["run","moments"] Cq)(o0w:bZ P w K mg base k "moment_of" ["ending"] Cm)(o0v:bZ P w K mg base k "ending_by" ["run","moments","taken"] SW)(o0t:uG P w K mg base k "ending_of" ["net","pushes","number","takings"] [.non] 3 ["takings"] (SV w))(o1j:bZ P w K mg base k "_law_cell_at" ["_law_script","_law_k"] (TD K))(o1r:bZ P w K mg base k "_law_mixed" ["_law_cell","_law_k"] zU)(o1p:bZ P w K mg base k "_law_number" ["_law_script","_law_k"] (LD K))(o2c:bZ P w K mg base k "_law_low" ["_law_top","_law_bottom"] FH)(o1s:bZ P w K mg base k "_law_posts" ["_law_number_here"] zQ)(o2b:bZ P w K mg base k "_law_time" ["_law_number_here"] EY)(o1w:bZ P w K mg base k "_law_here" ["_law_script","_law_most"] (FN K))(o2d:bZ P w K mg base k "_law_net" ["_law_here_here"] LF)(o1q:bZ P w K mg base k "_law_pushes" ["_law_here_here"] wD)(o1v:bZ P w K mg base k "_law_taken" ["_law_here_here"] KW)(o2f:bZ P w K mg base k "_law_due" ["_law_here_here"] Cs)(o1m:bZ P w K mg base k "_law_handed" ["_law_here_here"] wK)(o1y:bZ P w K mg base k "_law_left" ["_law_here_here","_law_due_here","_law_k","_law_moment"] FK)(o1x:bZ P w K mg base k "_law_hall" ["_law_script"] (FO K))(o2a:bZ P w K mg base k "_law_deed" ["_law_here_here","_law_due_here","_law_number_here"] SZ)(o2e:bZ P w K mg base k "_law_did" ["_law_here_here","_law_deed_here"] Ct)(o0g:kK mI P w K mg base k cC "has_come" ["self","moment"] (TC cC))(o0c:kK mI P w K mg base k cC "falls_told" ["self"] (uJ cC))(o0b:kK mI P w K mg base k cC "endings_told" ["self"] (wP cC))(o1l:kK mI P w K mg base k cC "go" ["self","time"] (Kz K cC))(o0p:kK mI P w K mg base k cC "reckon" ["self"] (FD cC))(o0r:kK mI P w K mg base k cC "tiles" ["self","number"] (KU K cC))(o0x:kK mI P w K mg base k cC "take" ["self","number"] (SM K cC))(o0a:kK mI P w K mg base k cC "refuse_no_post" ["self","post"] (FF cC))(o0y:kK mI P w K mg base k cC "push" ["self","post"] (SQ cC))(o2g:bZ P w K mg base k "_law_do" ["_law_hall_here","_law_here_here","_law_deed_here"] (Lb K cC))(o1z:bZ P w K mg base k "_law_less" ["_law_one","_law_other"] FI)(o1e:kK mI P w K mg base k cC "now" ["self"] (Cl cC))(o0m:kK mI P w K mg base k cC "fallen" ["self"] (FP cC))(o1o:bZ P w K mg base k "_law_by_now" ["_law_hall_here","_law_net_here","_law_pushes_here","_law_takings","_law_number_here"] (LS cC))(o1a:bZ P w K mg base k "_law_all_told" ["_law_hall_here","_law_net_here","_law_pushes_here","_law_takings","_law_told"] (zY cC))(o0h:RG mI P w K mg base k cC ["self","net"] (wL cC))
include T HC vE
theorem GX:bZ P w K mg base (k+1) "is_whole" ["thing"] (KS K):=by
 refine bZ.of vE.d0 GC (by walk_at "ln") fun f i A g s H C Q E B h=>?_;obtain ⟨x,t,b,c,rfl,ty,m,o,q⟩:=h;refine ⟨_,(aH (aS (tP (bD (pO (T:="int")) rfl T.z_isinstance jA (aA (pv 0) (aA (vK (v:=.ty "int") rfl T.z_int Jm rfl) aD))) (lI (JE (bD (pO (T:="bool")) rfl T.z_isinstance jA (aA (pv 0) (aA (vK (v:=.ty "bool") rfl T.z_bool Bn rfl) aD)))))))),?_⟩
 try dsimp only [aR,bA]
 w_on;refine tM ty m ?_;cases b
 ·w_on
  exact q
 ·w_on
  apply tM ty o ?_;exact q
theorem sL:bZ P w K mg base (k+1) "common_divisor" ["one","other"] Co:=by
 refine bZ.of vE.d1 eZ (by walk_at "ln") fun f R A I s H Z Q E X h=>?_;obtain ⟨a,b,rfl,q⟩:=h;refine ⟨_,(aE (rV n9 (aY (tU X.units) (pv 1) aF) (aE (dU 2 eZ.nd (aK Ae (pv 0) (pv 1)))
   (aE (dU 0 eZ.nd (pv 1))
   (aH (dU 1 eZ.nd (pv 2))))))
   (aH (aS (bD XN rfl T.z_abs KB (aA (pv 0) aD))))),?_⟩
 try dsimp only [aR,bA]
 w_on;refine vW (fun m M=>∃(i g:Int)(o:Option V),m=[some (.int i),some (.int g),o]/\M=H/\i8 i g=i8 a b)
  (fun m _=>match m with|[_,some (.int z),_]=>z.natAbs|_=>0) ⟨_,_,_,rfl,rfl,rfl⟩ ?_ ?_
 ·rintro m M ⟨i,g,o,rfl,rfl,G⟩
  w_on;refine rC (fun c=>?_) (fun c=>?_)
  ·subst c
   w_on;rw [Int.gcd_zero_right] at G;have e:(if i < 0 then -i else i)=(i8 a b:Int):=by rw [← G]; split <;> lia
   rw [e];exact q
  ·w_on
   refine ⟨⟨_,_,_,rfl,rfl,by rw [QM c]; exact G⟩,?_⟩;show (i.fmod g).natAbs < g.natAbs;exact Bb c
 ·intro m H Q Y O h
  obtain ⟨v,N,h⟩:=h;rcases h with ⟨C,B,D,J⟩|⟨d,e,C,D,S,U,B,W,J⟩
  ·exact ⟨v,N,.inl ⟨C,B,D,O _ _ J⟩⟩
  ·exact ⟨v,N,.inr ⟨d,e,C,D,S,U,B,W,O _ _ J⟩⟩
include o1b o0e in
theorem xN:bZ P w K mg base (k+1) "is_fraction" ["thing"] (FM K):=by
 refine bZ.of vE.d2 wS (by walk_at "ln") fun f S A o s H vs Q E g h=>?_;obtain ⟨x,r,rfl,h,q⟩:=h;refine ⟨_,(aE (bV (PW.pt (nN (iB (cS (bD (pO (T:="tuple")) rfl T.z_isinstance jA (aA (pv 0) (aA (vK (v:=.ty "tuple") rfl T.z_tuple XO rfl) aD))))) (jG (aY (tU g.units) (bD iL rfl T.z_len eY (aA (pv 0) aD)) aF)))) (aH (aS sI)) bE)
   (aE (bV (PW.pt (nN (iB (cS (aI o1b g rfl (aA (aN aQ (pv 0) aF) aD)))) (jG (iB (cS (aI o1b g rfl (aA (aN aQ (pv 0) aF) aD))))))) (aH (aS sI)) bE)
   (aH (aS (tP (jP GU (aN aQ (pv 0) aF) aF) (lI (jP (eX g.units) (aI o0e g rfl (aA (aN aQ (pv 0) aF) (aA (aN aQ (pv 0) aF) aD))) aF))))))),?_⟩
 try dsimp only [aR,bA]
 rcases h with ⟨⟨t,ty,i⟩,rfl⟩|⟨p,xs,rfl,m,h2,rfl⟩|⟨p,v,J,rfl,m,D,G,W,rfl⟩
 ·w_on
  apply tM ty i ?_;exact q
 ·w_on
  apply tM (.tup m) nO ?_;exact q
 ·w_on
  apply tM (.tup m) nO ?_;apply rC (fun _=>?_) (fun c=>absurd rfl c);obtain ⟨t1,M,O,B,X,Y,i⟩:=NS (K:=K) (H:=H) D;refine ⟨v,t1,M,O,rfl,B,X,Y,?_⟩;rw [i];w_on;cases v with
 |int a =>
   apply qS rfl ?_;obtain ⟨t2,N,R,C,Z,k4,U⟩:=NS (K:=K) (H:=H) G;refine ⟨J,t2,N,R,rfl,C,Z,k4,?_⟩;rw [U];w_on;cases J with
  |int b =>
    apply qS rfl ?_;refine rC (fun c=>?_) (fun c=>?_)
    ·w_on
     apply ⟨a,b,rfl,?_⟩;have e:decide ((i8 a b:Int)=1)=Oa (.int a) (.int b):=by
      show _=(decide (1<=b)&&decide (i8 a b=1))
      rw [decide_eq_true c,Bool.true_and];by_cases I:i8 a b=1
      ·rw [decide_eq_true I,decide_eq_true (by lia)]
      ·rw [decide_eq_false I,decide_eq_false (by lia)]
     rw [e];exact q
    ·w_on
     have e:Oa (.int a) (.int b)=false:=by
      show (decide (1<=b)&&decide (i8 a b=1))=false;rw [decide_eq_false c,ko]
     rw [e] at q;exact q
  |non=>refine fO rfl ?_; walk_at "go"; exact q
  |bl _=>refine fO rfl ?_; walk_at "go"; exact q
  |str _=>refine fO rfl ?_; walk_at "go"; exact q
  |_=>exact absurd (show false=true from G) h7
 |non=>refine fO rfl ?_; walk_at "go"; exact q
 |bl _=>refine fO rfl ?_; walk_at "go"; exact q
 |str _=>refine fO rfl ?_; walk_at "go"; exact q
 |_=>exact absurd (show false=true from D) h7
include d_fraction o1b o0e in
theorem GZ:nW P w K mg base (k+1) "fraction" ["top","bottom"] [.int 1] (wN K):=by
 refine nW.of d_fraction oE (by walk_at "ln") fun f D A C s H I Q E i h=>?_;obtain ⟨t,b,rfl,G,B,q⟩:=h;refine ⟨_,(aE (bV (PW.pt (nN (iB (cS (aI o1b i rfl (aA (pv 0) aD)))) (jG (iB (cS (aI o1b i rfl (aA (pv 1) aD))))))) (aH jY) bE)
   (aE (bV (aY (eX i.units) (pv 1) aF) (aH jY) bE)
   (aE (dU 2 oE.nd (aI o0e i rfl (aA (pv 0) (aA (pv 1) aD))))
   (aE (bV (aY sK (pv 1) aF) (aH (dU 2 oE.nd (Dv RQ (pv 2)))) bE)
   (aH (aS (bH (aA (aK bN (pv 0) (pv 2)) (aA (aK bN (pv 1) (pv 2)) aD))))))))),?_⟩
 try dsimp only [aR,bA]
 w_on;apply ⟨_,_,_,_,rfl,.int t,lC,jR,?_⟩;apply qS rfl ?_;apply ⟨_,_,_,_,rfl,.int b,lC,jR,?_⟩;apply qS rfl ?_;apply ⟨t,b,rfl,?_⟩;have o:(sg t b).natAbs<=b.natAbs:=by
  rw [tI];exact ld (by lia) (mz t b)
 have g:∀ z,pC z (sg t b):=fun _=>⟨FZ G,Sm.le o B⟩
 refine rC (fun c=>?_) (fun c=>?_)
 ·w_on
  have m:-(i8 t b:Int)=sg t b:=by unfold sg; rw [if_pos c]; lia
  rw [m];apply iP (g _) ?_;apply iP (g _) ?_;apply bC fun p hp=>?_;exact q p hp
 ·w_on
  have m:(i8 t b:Int)=sg t b:=by unfold sg; rw [if_neg c]
  rw [m];apply iP (g _) ?_;apply iP (g _) ?_;apply bC fun p hp=>?_;exact q p hp
include o0e in
theorem VS:bZ P w K mg base (k+1) "added" ["one","other"] TF:=by
 refine bZ.of vE.d4 oF (by walk_at "ln") fun f ui A Y s H vs Q E hr h=>?_;obtain ⟨x,y,g,B,rfl,⟨p1,rfl,h1⟩,⟨p2,rfl,h2⟩,z1,z2,q⟩:=h;refine ⟨_,(aE (dU 2 oF.nd (aI o0e hr rfl (aA (aN aQ (pv 0) aF) (aA (aN aQ (pv 1) aF) aD))))
   (aE (dU 3 oF.nd (aK bN (aN aQ (pv 1) aF) (pv 2)))
   (aE (dU 4 oF.nd (aK bP (aK cX (aN aQ (pv 0) aF) (pv 3)) (aK cX (aN aQ (pv 1) aF) (aK bN (aN aQ (pv 0) aF) (pv 2)))))
   (aE (dU 5 oF.nd (aI o0e hr rfl (aA (pv 4) (aA (pv 2) aD))))
   (aH (aS (bH (aA (aK bN (pv 4) (pv 5)) (aA (aK cX (aK bN (aN aQ (pv 0) aF) (pv 5)) (pv 3)) aD))))))))),?_⟩
 try dsimp only [aR,bA]
 have hq1:=g.den_pos;have hq2:=B.den_pos;obtain ⟨s0,O,sb,R,⟨D,o,J⟩,zu,U,S,N⟩:=RE (a:=g.num) (b:=g.den) (c:=B.num) (d:=B.den) (by lia) (by lia) g.reduced B.reduced rfl rfl rfl rfl rfl;have M:∀{m n:Nat}{i j:Int},Sm m i->Sm n j->m<=60000000->n<=60000000->eU i j:=fun h1 h2 h3 h4=>eU.s h1 h2 h3 h4;have C:Sm 8000 (g.den:Int):=z1.2;have Z:Sm 8000 (B.den:Int):=z2.2;w_on;refine ⟨_,_,rfl,?_⟩;generalize (i8 (g.den:Int) (B.den:Int):Int)=s at s0 O sb R D o J zu U S N ⊢;have hs:Sm 8000 s:=Sm.le (by lia) C;have I:∀ z,pC z s:=fun _=>⟨by lia,hs⟩
 w_on;refine iP (I _) ?_;generalize (B.den:Int).fdiv s=u at O R D o J zu U S N ⊢;have hu:Sm 8000 u:=Sm.le zu Z;w_on;apply kZ (M (m:=8000) z1.1 hu (by decide) (by decide)) ?_;refine iP (I _) ?_;generalize (g.den:Int).fdiv s=v at O R D o J U S N ⊢;have hv:Sm 8000 v:=Sm.le U C;w_on;apply kZ (M (m:=8000) z2.1 hv (by decide) (by decide)) ?_;refine ⟨_,s,rfl,?_⟩;generalize (i8 (g.num * u+B.num * v) s:Int)=X at O R D o J S N ⊢;have hk:Sm 8000 X:=Sm.le (by lia) hs;have G:∀ z,pC z X:=fun _=>⟨by lia,hk⟩
 w_on;apply iP (G _) ?_;apply iP (G _) ?_;have W:Sm 8000 ((g.den:Int).fdiv X):=Sm.le N C;apply kZ (M W hu (by decide) (by decide)) ?_;apply bC fun p hp=>?_;have e:=UG (t:=g.num * B.den+B.num * g.den) (b:=g.den * B.den) (W0 (by lia) (by lia)) D o J;rw [← yP] at e;refine q _ _ ⟨p,rfl,?_⟩ (aJ.new hp);rw [e.1,e.2];exact aC
include o1t in
theorem GW:bZ P w K mg base (k+1) "lessened" ["one","other"] SS:=by
 refine bZ.of vE.d5 GB (by walk_at "ln") fun f i A b s H O Q E B h=>?_;obtain ⟨x,y,C,D,rfl,o,⟨N,rfl,M⟩,I,J,q⟩:=h;refine ⟨_,(aH (aS (aI o1t B rfl (aA (pv 0) (aA (bH (aA (Dv RQ (aN aQ (pv 1) aF)) (aA (aN aQ (pv 1) aF) aD))) aD))))),?_⟩
 try dsimp only [aR,bA]
 w_on;apply bC fun p hp=>?_;refine ⟨x,.ref p,C,-D,rfl,o.tk (TK.new hp),⟨p,rfl,by rw [ja,qw]; exact aC⟩,I,J.neg,fun v g m G=>?_⟩;w_on;exact q v g (by rw [Rat.sub_eq_add_neg]; exact m) ((aJ.new hp).trans G)
include o1g in
theorem VO:bZ P w K mg base (k+1) "timed" ["one","other"] SL:=by
 refine bZ.of vE.d6 TU (by walk_at "ln") fun f J A g s H W Q E N h=>?_;obtain ⟨x,y,o,B,rfl,⟨S,rfl,G⟩,⟨U,rfl,I⟩,C,D,q⟩:=h;refine ⟨_,(aH (aS (aI o1g.f N rfl (aA (aK cX (aN aQ (pv 0) aF) (aN aQ (pv 1) aF)) (aA (aK cX (aN aQ (pv 0) aF) (aN aQ (pv 1) aF)) aD))))),?_⟩
 try dsimp only [aR,bA]
 have M:∀{i j:Int},i.natAbs < 2 ^ 3000->j.natAbs < 2 ^ 3000->eU i j:=fun G I=>eU.s (m:=3000) (n:=3000) G I (by decide) (by decide);have O:=o.den_pos;have R:=B.den_pos;have b:(o.den:Int) * B.den≠0:=W0 (by lia) (by lia);w_on;apply kZ (M C.1 D.1) ?_;apply kZ (M C.2 D.2) ?_;apply ⟨_,_,rfl,b,(Sm.mul (show Sm 3000 (o.den:Int) from C.2) (show Sm 3000 (B.den:Int) from D.2)).mono (by decide),fun p hp=>?_⟩;exact q _ _ (by rw [← Aq]; exact cA.low b aC) (aJ.new hp)
include o1g in
theorem JH:bZ P w K mg base (k+1) "divided" ["one","other"] SY:=by
 refine bZ.of vE.d7 IY (by walk_at "ln") fun f J A g s H X Q E O h=>?_;obtain ⟨x,y,o,B,rfl,⟨U,rfl,G⟩,⟨W,rfl,I⟩,C,D,N,q⟩:=h;refine ⟨_,(aH (aS (aI o1g.f O rfl (aA (aK cX (aN aQ (pv 0) aF) (aN aQ (pv 1) aF)) (aA (aK cX (aN aQ (pv 0) aF) (aN aQ (pv 1) aF)) aD))))),?_⟩
 try dsimp only [aR,bA]
 have M:∀{i j:Int},i.natAbs < 2 ^ 3000->j.natAbs < 2 ^ 3000->eU i j:=fun G I=>eU.s (m:=3000) (n:=3000) G I (by decide) (by decide);have R:=o.den_pos;have S:=B.den_pos;have b:(o.den:Int) * B.num≠0:=W0 (by lia) (fun z=>N (Rat.num_eq_zero.mp z));w_on;apply kZ (M C.1 D.2) ?_;apply kZ (M C.2 D.1) ?_;apply ⟨_,_,rfl,b,(Sm.mul (show Sm 3000 (o.den:Int) from C.2) (show Sm 3000 B.num from D.1)).mono (by decide),fun p hp=>?_⟩;exact q _ _ (by rw [← Bh]; exact cA.low b aC) (aJ.new hp)
theorem JG:bZ P w K mg base (k+1) "is_less" ["one","other"] LI:=by
 refine bZ.of vE.d8 IX (by walk_at "ln") fun f D A b s H R Q E G h=>?_;obtain ⟨x,y,N,O,rfl,⟨I,rfl,g⟩,⟨J,rfl,o⟩,B,C,q⟩:=h;refine ⟨_,(aH (aS (jP sK (aK cX (aN aQ (pv 0) aF) (aN aQ (pv 1) aF)) (aK cX (aN aQ (pv 1) aF) (aN aQ (pv 0) aF))))),?_⟩
 try dsimp only [aR,bA]
 have M:∀{i j:Int},i.natAbs < 2 ^ 8000->j.natAbs < 2 ^ 8000->eU i j:=fun g o=>eU.s (m:=8000) (n:=8000) g o (by decide) (by decide);w_on;apply kZ (M B.1 C.2) ?_;apply kZ (M C.1 B.2) ?_;rw [HN];exact q
include o0n in
theorem CI:bZ P w K mg base (k+1) "is_moment" ["thing"] (SR K):=by
 refine bZ.of vE.d9 BW (by walk_at "ln") fun f g A b s H G Q E o h=>?_;obtain ⟨x,t,rfl,f,B,z,q⟩:=h;refine ⟨_,(aH (aS (tP (aI o0n o rfl (aA (pv 0) aD)) (lI (jP GU (aN aQ (pv 0) aF) aF))))),?_⟩
 try dsimp only [aR,bA]
 obtain ⟨p,rfl,h⟩:=f;w_on;refine ⟨_,true,rfl,.inr (.inr ⟨p,_,_,rfl,h,rfl,rfl,?_,(Nz t).symm⟩),?_⟩
 ·intro C D i m
  cases i;cases m;exact ⟨z.1,show ((t.den:Int)).natAbs < 2 ^ 8000 by have:=z.2; lia⟩
 w_on;rw [decide_eq_true B];exact q
include o0e in
theorem yU:bZ P w K mg base (k+1) "whole_tops" ["fractions"] EX:=by
 refine bZ.of vE.d10 iX (by walk_at "ln") fun f ui A outer s H vs Q E hr h=>?_;obtain ⟨l,xs,B,rfl,hv,hn,hB,hB2,hf,q⟩:=h;refine ⟨_,(aE (dU 1 iX.nd aF)
   (aE (fD n9 rfl (cH (pv 0)) (nZ 2 iX.nd) (aH (dU 1 iX.nd (aK cX (aK bN (pv 1) (aI o0e hr rfl (aA (pv 1) (aA (aN aQ (pv 2) aF) aD)))) (aN aQ (pv 2) aF)))))
   (aH (aS (eJ (cO (sc:=aG mQ) (N:=["fractions","bottom","each"]) (tn:=["each"]) (names:=["bottom"]) (is:=[1]) rfl rfl (by k_is) (by k_is) rfl (by k_is) rfl (by k_is) (by k_is) (by k_is)) rfl (cH (pv 0)) (fun _ _ _ _=>(bI (i:=0) (show (["each","bottom"]:List Str).Nodup by k_is) rfl (B6 rfl) (A9 rfl))) (fun _ _ _ _=>(aK cX (aN jJ (pv 0) aF) (aK bN (pv 1) (aN jJ (pv 0) aF)))) (fun _ _ _ _=>eC)))))),?_⟩
 try dsimp only [aR,bA]
 have I:∀ D:Int,0 < D->D ∣ (B:Int)->Sm 400 D:=fun D h1 h2=>Sm.le (b:=(B:Int)) (ld (by lia) (cg.mpr h2)) (show (B:Int).natAbs < 2 ^ 400 by lia);w_on;refine cG (cP.of hv) ?_;refine JC (xs:=xs) (fun i σ G=>∃(D:Int)(o:Option V),σ=[some (.ref l),some (.int D),o]/\G=H/\0 < D/\D ∣ (B:Int)/\∀ x∈xs.take i,∀ r:Rat,cA H x r->(r.den:Int) ∣ D) ⟨1,_,rfl,rfl,by decide,⟨B,by simp⟩,fun f hf=>by simp at hf⟩ ?_ ?_ ?_
 ·rintro i σ G hi ⟨D,o,rfl,rfl,_⟩
  exact cP.of hv
 ·rintro i x σ G hx ⟨D,o,rfl,rfl,Z,C,M⟩
  obtain ⟨r,⟨tq,rfl,ht⟩,f2,z⟩:=hf x (i3 hx);have f1:(0:Int) < r.den:=by have:=r.den_pos; lia
  have J:(r.den:Int) ∣ (B:Int):=M8.mpr f2;obtain ⟨s1,s2,s3,s4⟩:=WF Z f1 C J;have gp:0 < (i8 D r.den:Int):=by
   have:=vP (t:=D) (b:=r.den) (by lia);lia
  have sg':Sm 8000 (i8 D r.den:Int):=Sm.mono (Sm.le (b:=D) (by have:=ld (by lia) (Int.gcd_dvd_natAbs_left D r.den); lia) (I D Z C)) (by decide);have U:Sm 60000000 (D.fdiv (i8 D r.den:Int)):=Sm.mono (Sm.le (b:=D) (iT (by lia) (vQ (by lia) (P8 ..))) (I D Z C)) (by decide);have W:Sm 60000000 (r.den:Int):=Sm.mono (I r.den f1 J) (by decide);w_on;apply ⟨D,r.den,rfl,?_⟩;apply iP ⟨by lia,sg'⟩ ?_;apply kZ (.inr ⟨U,W⟩) ?_;refine ⟨_,_,rfl,rfl,s1,s2,fun g hg r' R=>?_⟩;rw [Y0,hx] at hg;rcases m9.mp hg with h|h
  ·exact ng (M g h r' R) s3
  ·rw [f9.mp h] at R
   obtain ⟨p',e',h'⟩:=R;cases e';rw [ht] at h';simp only [V6,HO.tup.injEq,C3,V.int.injEq,and_true] at h';rw [← h'.2];exact s4
 ·rintro σ G ⟨D,o,rfl,rfl,Z,C,M⟩
  rw [A2] at M;have sD:=I D Z C;w_on;refine cG (cP.of hv) ?_;refine pJ (xs:=xs) (by lia) (fun m i ys X=>Kp m G X/\∃ Y:List Int,Y.length=i/\ys=Y.map V.int) (fun m O=>⟨Kp.new O,[],rfl,rfl⟩) ?_ ?_ ?_
  ·rintro m i ys X O _ ⟨kp,_⟩
   exact cP.of (kp _ _ (aB hv O) hv)
  ·rintro m i ys X x O hx ac ha ⟨kp,Y,S,rfl⟩
   have hxm:=i3 hx;obtain ⟨r,⟨tq,rfl,ht⟩,f2,z⟩:=hf x hxm;have f1:(0:Int) < r.den:=by have:=r.den_pos; lia
   have J:(r.den:Int) ∣ (B:Int):=M8.mpr f2;have htG:X tq=some (.tup [.int r.num,.int r.den]):=kp _ _ (aB ht O) ht;have W:Sm 8000 (r.den:Int):=Sm.mono (I r.den f1 J) (by decide);have U:Sm 60000000 (D.fdiv r.den):=Sm.mono (Sm.le (b:=D) (iT (by lia) (vQ (by lia) (M _ hxm r ⟨tq,rfl,ht⟩))) sD) (by decide);have sm3:Sm 60000000 r.num:=Sm.mono (show Sm 2000 r.num from z.1) (by decide);w_on;apply iP ⟨by lia,W⟩ ?_;apply kZ (.inr ⟨sm3,U⟩) ?_;refine iG (b9.mp hx).1 ac ha ⟨kp.trans Kp.upd,Y++[r.num * D.fdiv r.den],by rw [i9,S]; rfl,?_⟩;rw [u7];rfl
  ·rintro m ys X O ha ac ⟨kp,Y,S,rfl⟩
   w_on;exact q m X Y O (fun b o e=>kp _ _ (aB e O) e) S ha
include d_sorted_by o0s in
theorem CG(BB:zD mg base):bZ P w K mg base (k+1) "sorted_by" ["fractions","things"] (rE K):=by
 refine bZ.ofC d_sorted_by rM (by walk_at "ln") fun f A ae s H vs Q E hr h=>?_;obtain ⟨l,l2,xs,ys,B,rfl,hv,ac,hl,hn,hB,X,hf,hT,q⟩:=h;refine ⟨_,(@aE _ _ _ _ _ (@UZ _ _ (i:=2) _ _ _ _ rM.nd rfl (by w_left) (@PL _ _ _ _ _ _ _ _ _ _ _ _ _ _ _ _ _ _ hr rfl rfl T.z_sorted rfl T.z_zip rfl d_sorted_by.hd BB rfl rfl (aA (aI o0s hr rfl (aA (pv 0) aD)) (aA (pv 1) aD)) (by rfl) (by rfl) (by rfl)) (by rfl) (by w_means)) (aH (aS (eJ (cO (sc:=aG fB) (N:=["fractions","things","pairs"]) (tn:=["pair"]) (names:=[]) (is:=[]) rfl rfl (by k_is) (by k_is) rfl (by k_is) rfl (by k_is) (by k_is) (by k_is)) rfl (cH (pv 2)) (fun _ _ _ _=>(bI (i:=0) (show (["pair"]:List Str).Nodup by k_is) rfl (B6 rfl) (A9 rfl))) (fun _ _ _ _=>(aN jJ (pv 0) aF (fun _ _=>rfl))) (fun _ _ _ _=>eC))))),?_⟩
 try dsimp only [aR,bA]
 w_on;apply ⟨l,xs,B,rfl,hv,by lia,hB,X,hf,fun p1 H1 ts hp1 s1 hts h1=>?_⟩;refine ⟨p1,l2,ts,ys,rfl,cP.of h1,cP.of (s1 _ _ ac),by lia,by lia,sX.same hT s1,fun pl G tr hpl kp M Y Z C _=>?_⟩;have S:Kp tT H G:=s1.kp.trans kp;have htl:tr.length<=500:=by
  have:=C.length_eq;rw [g7,on] at this;lia
 w_on;refine cG (cP.of Y) ?_;refine pJ (xs:=tr.map fun p=>V.ref p.1) (by rw [g7]; lia) (fun g i W D=>Kp g G D/\W=(tr.take i).map fun p=>p.2.2) (fun g I=>⟨Kp.new I,rfl⟩) ?_ ?_ ?_
 ·rintro g i W D I _ ⟨m,_⟩
  exact cP.of (m _ _ (aB Y I) Y)
 ·rintro g i W D x I hx O U ⟨m,rfl⟩
  rw [i7] at hx;obtain ⟨tp,J,rfl⟩:=j7.mp hx;have R:=Z tp (i3 J);have htG':D tp.1=_:=m _ _ (aB R I) R;w_on;refine iG (by rw [g7]; exact (b9.mp J).1) O U ⟨m.trans Kp.upd,?_⟩;rw [Y0,J];simp
 ·rintro g W D I U O ⟨m,rfl⟩
  rw [g7,A2] at U;have sG:aJ G D:=fun b o e=>m _ _ (aB e I) e;have ad:Kp tT H D:=S.trans sG.kp;w_on;refine q g D _ (kTf S M I) ad (sX.same M sG) ?_ U;have:=C.map (·.2);rw [List.map_snd_zip (by lia),L1] at this;exact this
theorem GV:bZ P w K mg base (k+1) "posts_of" ["net"] (LB w):=by
 refine bZ.of vE.d12 GA (by walk_at "ln") fun f ui A outer s H vs Q E hr h=>?_;obtain ⟨l,n,U,rfl,⟨W,hl,S⟩,hlen,hU,hUn,q⟩:=h;refine ⟨_,(aH (aS (bD (yL rfl) rfl T.z_sorted mE (aA (lX (QY rfl) rfl T.z_set Jl (aA (aK bP (eJ (cO (sc:=aG mR) (N:=["net"]) (tn:=["run"]) (names:=[]) (is:=[]) rfl rfl (by k_is) (by k_is) rfl (by k_is) rfl (by k_is) (by k_is) (by k_is)) rfl (cH (pv 0)) (fun _ _ _ _=>(bI (i:=0) (show (["run"]:List Str).Nodup by k_is) rfl (B6 rfl) (A9 rfl))) (fun _ _ _ _=>(aN jJ (pv 0) aF)) (fun _ _ _ _=>eC)) (eJ (cO (sc:=aG mR) (N:=["net"]) (tn:=["run"]) (names:=[]) (is:=[]) rfl rfl (by k_is) (by k_is) rfl (by k_is) rfl (by k_is) (by k_is) (by k_is)) rfl (cH (pv 0)) (fun _ _ _ _=>(bI (i:=0) (show (["run"]:List Str).Nodup by k_is) rfl (B6 rfl) (A9 rfl))) (fun _ _ _ _=>(aN jJ (pv 0) aF)) (fun _ _ _ _=>eC))) aD)) aD)))),?_⟩
 try dsimp only [aR,bA]
 have hvl:W.length=n.length:=(Paired.length S).trans (by simp [kn]);w_on;refine cG (cP.of hl) ?_;refine pJ (xs:=W) (by lia) (fun g i D G=>Kp g H G/\D=(n.take i).map fun r=>V.str r.1) (fun g m=>⟨Kp.new m,rfl⟩) ?_ ?_ ?_
 ·intro g i D G m _ ⟨kp,_⟩
  exact cP.of (kp _ _ (aB hl m) hl)
 ·intro g i D G x m M O hG ⟨kp,e⟩
  obtain ⟨r,hr,p,u,rfl,hp,fu⟩:=Paired.at S M;obtain ⟨sr,hs,rfl⟩:=Ed hr;have C:=hp;have hpG:=kp _ _ (aB C m) C;w_on;refine iG (b9.mp M).1 O hG ⟨Kp.trans kp Kp.upd,?_⟩;have Z:i < n.length:=(b9.mp hs).1;rw [A5 Z,u7,← e];have:n[i]=sr:=by
   rw [c8 Z] at hs;exact h8 hs
  rw [this];rfl
 ·intro a1 ys1 G1 h1 X hy1 ⟨I,e1⟩
  have J:=I _ _ (aB hl h1) hl;rw [hvl,A2] at e1;subst e1;w_on;refine cG (cP.of J) ?_;refine pJ (xs:=W) (by lia) (fun g i D G=>Kp g G1 G/\D=(n.take i).map fun r=>V.str r.2.1) (fun g m=>⟨Kp.new m,rfl⟩) ?_ ?_ ?_
  ·intro g i D G m _ ⟨kp,_⟩
   exact cP.of (kp _ _ (aB J m) J)
  ·intro g i D G x m M O hG ⟨kp,e⟩
   obtain ⟨r,hr,p,u,rfl,hp,fu⟩:=Paired.at S M;obtain ⟨sr,hs,rfl⟩:=Ed hr;have C:=I _ _ (aB hp h1) hp;have hpG:=kp _ _ (aB C m) C;w_on;refine iG (b9.mp M).1 O hG ⟨Kp.trans kp Kp.upd,?_⟩;have Z:i < n.length:=(b9.mp hs).1;rw [A5 Z,u7,← e];have:n[i]=sr:=by
    rw [c8 Z] at hs;exact h8 hs
   rw [this];rfl
  ·intro a2 ys2 G2 h2 hG2 hy2 ⟨R,e2⟩
   rw [hvl,A2] at e2;subst e2;have h1G:=R _ _ (aB X h2) X;w_on;refine .inr (.inl ⟨a1,a2,_,_,rfl,rfl,h1G,hG2,vM (by simp; lia),fun a3 h3=>?_⟩);w_on;have Y:((n.map fun r=>V.str r.1)++n.map fun r=>V.str r.2.1)=(names n).map V.str:=by
    rw [names,u7,L1,L1];rfl
   rw [Y];refine ⟨a3,names n,rfl,aC,by simp [names]; lia,fun a4 zs h4 nd hz=>?_⟩;w_on;apply ⟨a4,zs,rfl,.inl aC,B8 (iS nd fun x M=>hUn x ((hz x).mp M)) (by lia),fun a5 D h5 hpm _=>?_⟩;have sH:aJ H (upd (upd (upd G2 a3 (.lst ((names n).map V.str))) a4 (Br w a4 zs)) a5 (.lst (D.map V.str))):=fun b o hb=>by
    have B:=I _ _ (aB hb h1) hb;exact aL h5 (aL h4 (aL h3 (R _ _ (aB B h2) B)))
   refine q a5 _ D ?_ sH aC (hpm.nodup_iff.mpr nd) fun x=>(hpm.mem_iff).trans (hz x);cases z:H a5 with
  |none=>rfl
  |some o =>
    have B:=I _ _ (aB z h1) z;rw [aL h4 (aL h3 (R _ _ (aB B h2) B))] at h5;cases h5
theorem xM:bZ P w K mg base (k+1) "runs_beside" ["net"] Cu:=by
 refine bZ.of vE.d13 gY (by walk_at "ln") fun f ui A outer s H vs Q E hr h=>?_;obtain ⟨l,ad,rfl,⟨vs',hl,pvs⟩,hlen,q⟩:=h;refine ⟨_,(aE (dU 1 gY.nd lW)
   (aE (fD n9 rfl (MW rfl T.z_enumerate (aA (pv 0) aD)) (iR (n:=2) rfl (aU (nZ 2 gY.nd) (aU (nZ 3 gY.nd) cV))) (aE (dJ (jD y9 l7 l0 cL (jD R9 ib ia AO (pv 1) (aA (aN aQ (pv 3) aF) (aA (cI aD) aD))) (aA (bH (aA (pv 2) (aA (aN aQ (pv 3) aF) aD))) aD)))
   (aH (dJ (jD y9 l7 l0 cL (jD R9 ib ia AO (pv 1) (aA (aN aQ (pv 3) aF) (aA (cI aD) aD))) (aA (bH (aA (pv 2) (aA (aN aQ (pv 3) aF) aD))) aD))))))
   (aH (aS (pv 1))))),?_⟩
 try dsimp only [aR,bA]
 w_on;apply tN fun Z hd=>?_;refine e_K (aL hd hl) ?_;have hvl:vs'.length=ad.length:=Paired.length pvs;refine UK (xs:=vs') (fun i σ X=>∃ o1 o2 f,σ=[some (.ref l),some (.ref Z),o1,o2]/\BI H X Z f (2 * i)/\EI ad i f/\∀ q,(f q).length<=2 * i) ⟨_,_,_,rfl,BI.start hd,EI.zero,fun _=>i5 _⟩ ?_ ?_ ?_
 ·rintro i σ X _ ⟨o1,o2,f,rfl,B,_⟩
  exact cP.of (B.same _ _ hl)
 ·rintro i x T0 σ X hx hT ⟨o1,o2,f,rfl,B,Y,m⟩
  have hi:i < ad.length:=by
   have:=(b9.mp hx).1;lia
  obtain ⟨r,hr,p,u,rfl,hp,fu⟩:=Paired.at pvs hx;have hpd:p≠Z:=aB hp hd;have B1:=B.alloc (o:=.tup [.int i,.ref p]) hT;have hp1:=B1.same _ _ hp;have hT2:upd X T0 (.tup [.int i,.ref p]) T0=some (.tup [.int i,.ref p]):=aC;generalize upd X T0 (.tup [.int i,.ref p])=H2 at B1 hp1 hT2 ⊢;obtain ⟨kvs1,a1,b1,c1,e1,g1⟩:=B1.ex;w_on;apply dA fun l1 O=>?_;refine xB (aL O a1) (by lia) (fun u1 U=>?_) (fun U=>?_)
  ·obtain ⟨m1,rfl,hm1,xs1,hx1,px1⟩:=e1 _ _ U
   w_on;apply bC fun t1 R=>?_;have hxl1:=Paired.length px1;have hfl1:=m r.1;refine gJ (aL R (aL O hx1)) (by lia) ?_;have G:=B1.more (p:=r.1) (x:=(i,r.2.1)) a1 U hx1 O R;generalize upd (upd (upd H2 l1 _) t1 _) m1 _=I at G ⊢;have hq1:=G.same _ _ hp;obtain ⟨kvs2,M,b2,c2,e2,g2⟩:=G.ex;w_on;apply dA fun W b=>?_;refine xB (aL b M) (by lia) (fun u2 C=>?_) (fun C=>?_)
   ·obtain ⟨m2,rfl,hm2,xs2,S,ae⟩:=e2 _ _ C
    w_on;apply bC fun t2 g=>?_;have hxl2:=Paired.length ae;have hfl2:=(jB (p:=r.1) (x:=(i,r.2.1)) m) r.2.1;refine gJ (aL g (aL b S)) (by lia) ?_;have D:=G.more (p:=r.2.1) (x:=(i,r.1)) M C S b g;generalize upd (upd (upd I W _) t2 _) m2 _=J at D ⊢;have ac:=D.same _ _ hp;w_on;exact ⟨_,_,_,rfl,D,Y.next hr,fun q=>jB (jB m) q⟩
   ·have N:W≠Z:=fun z=>by subst z; rw [b] at M; cases M
    w_on;apply bC fun t2 g=>?_;refine gJ (aL g (aX N aC)) (by decide) ?_;have D:=G.new (p:=r.2.1) (x:=(i,r.1)) M C b g;generalize upd (upd (upd (upd I W _) _ _) t2 _) W _=J at D ⊢;have ac:=D.same _ _ hp;w_on;exact ⟨_,_,_,rfl,D,Y.next hr,fun q=>jB (jB m) q⟩
  ·have hdl1:l1≠Z:=fun z=>by subst z; rw [O] at a1; cases a1
   w_on;apply bC fun t1 R=>?_;refine gJ (aL R (aX hdl1 aC)) (by decide) ?_;have G:=B1.new (p:=r.1) (x:=(i,r.2.1)) a1 U O R;generalize upd (upd (upd (upd H2 l1 _) _ _) t1 _) l1 _=I at G ⊢;have hq1:=G.same _ _ hp;obtain ⟨kvs2,M,b2,c2,e2,g2⟩:=G.ex;w_on;apply dA fun W b=>?_;refine xB (aL b M) (by lia) (fun u2 C=>?_) (fun C=>?_)
   ·obtain ⟨m2,rfl,hm2,xs2,S,ae⟩:=e2 _ _ C
    w_on;apply bC fun t2 g=>?_;have hxl2:=Paired.length ae;have hfl2:=(jB (p:=r.1) (x:=(i,r.2.1)) m) r.2.1;refine gJ (aL g (aL b S)) (by lia) ?_;have D:=G.more (p:=r.2.1) (x:=(i,r.1)) M C S b g;generalize upd (upd (upd I W _) t2 _) m2 _=J at D ⊢;have ac:=D.same _ _ hp;w_on;exact ⟨_,_,_,rfl,D,Y.next hr,fun q=>jB (jB m) q⟩
   ·have N:W≠Z:=fun z=>by subst z; rw [b] at M; cases M
    w_on;apply bC fun t2 g=>?_;refine gJ (aL g (aX N aC)) (by decide) ?_;have D:=G.new (p:=r.2.1) (x:=(i,r.1)) M C b g;generalize upd (upd (upd (upd I W _) _ _) t2 _) W _=J at D ⊢;have ac:=D.same _ _ hp;w_on;exact ⟨_,_,_,rfl,D,Y.next hr,fun q=>jB (jB m) q⟩
 ·rintro σ X ⟨o1,o2,f,rfl,B,Y,m⟩
  rw [hvl] at Y m;w_on;exact q Z X hd B.same (B.bes Y m)
include o1k in
theorem tV:bZ P w K mg base (k+1) "least_moments" ["deeds"] Cn:=by
 refine bZ.of vE.d14 fH (by walk_at "ln") fun f ui A outer s H vs Q E hr h=>?_;obtain ⟨l,g,rfl,⟨X,hl,W⟩,hlen,S,q⟩:=h;refine ⟨_,(aE (dU 1 fH.nd lW)
   (aE (fD n9 rfl (cH (pv 0)) (iR (n:=2) rfl (aU (nZ 2 fH.nd) (aU (nZ 3 fH.nd) cV))) (aH (bV (PW.pt (nN (tO (tS hr.u1 (pv 2) (pv 1))) (jG (cS (aI o1k hr rfl (aA (pv 3) (aA (aW hr.u1 (pv 1) (pv 2)) aD))))))) (aH (iC hr.u1 (pv 1) (pv 2) (pv 3) rfl)) bE)))
   (aH (aS (pv 1))))),?_⟩
 try dsimp only [aR,bA]
 w_on;apply tN fun d Z=>?_;refine cG (cP.of (aL Z hl)) ?_;have hvl:X.length=g.length:=Paired.length W;refine JC (xs:=X) (fun i σ C=>∃ I J,σ=[some (.ref l),some (.ref d),I,J]/\aJ H C/\DQ cA C d (lst (g.take i))) ⟨_,_,rfl,aJ.new Z,[],aC,.nil⟩ ?_ ?_ ?_
 ·rintro i σ C _ ⟨I,J,rfl,G,_⟩
  exact cP.of (G _ _ hl)
 ·rintro i x σ C hx ⟨I,J,rfl,G,B,hk,kq⟩
  have hi:i < g.length:=by
   have:=(b9.mp hx).1;lia
  obtain ⟨y,hy,p,u,rfl,hp,fu⟩:=Paired.at W hx;obtain ⟨m,D⟩:=y;have U:g[i]=(m,D):=by
   rw [c8 hi] at hy;exact h8 hy
  have hp1:=G _ _ hp;have O:cA C u D:=fu.tk G.tk;have zq:Sz 8000 D:=S (m,D) (U ▸ C5 hi);have R:B.length<=1000:=by
   have h1:=kq.len;have h2:(lst (g.take i)).length<=g.length:=by
    have:=NH (g.take i);rw [av] at this;lia
   lia
  have et:g.take (i+1)=g.take i++[(m,D)]:=by rw [A5 hi,U]
  have N:fM (lst (g.take i)) (m,D)=eO (lst (g.take i)) m D->∃ I J,[some (V.ref l),some (V.ref d),some (kV m),some u]=[some (V.ref l),some (V.ref d),I,J]/\aJ H (upd C d (.dK (eK B m u)))/\DQ cA (upd C d (.dK (eK B m u))) d (lst (g.take (i+1))):=fun e=>by
   refine ⟨_,_,rfl,fun c o hc=>?_,_,aC,?_⟩
   ·rw [aZ (aB hc Z)]
    exact G _ _ hc
   ·rw [et,mC,e]
    exact ((kq.put (k:=m) O).imp fun v b f=>f.tk (TK.dic hk))
  w_on;refine UN (.inl hk) ?_;rcases kq.val (k:=m) with ⟨Y,M⟩|⟨v1,r1,Y,M,f1⟩
  ·rw [Y]
   w_on;apply lV hk R ?_;refine N ?_;unfold fM;rw [M]
  ·rw [Y]
   w_on;apply nM (.inl hk) Y ?_;have zr:Sz 8000 r1:=S (m,r1) (cq (jQ (bU M)));apply ⟨u,v1,D,r1,rfl,O,f1,zq,zr,?_⟩;refine rC (fun c=>?_) (fun c=>?_)
   ·w_on
    apply lV hk R ?_;refine N ?_;unfold fM;rw [M];exact if_pos c
   ·w_on
    refine ⟨_,_,rfl,G,B,hk,?_⟩;rw [et,mC];unfold fM;rw [M];show KQ cA C B (if D < r1 then _ else _);rw [if_neg c];exact kq
 ·rintro σ C ⟨I,J,rfl,G,dq⟩
  w_on;rw [hvl,A2] at dq;exact q d C Z G dq
include o1k in
theorem PU:bZ P w K mg base (k+1) "is_out" ["taken","number","moment"] Ck:=by
 refine bZ.of vE.d15 PB (by walk_at "ln") fun f C A m s H R Q E i h=>?_;obtain ⟨N,O,o,v,t,rfl,⟨I,hk,G⟩,ft,J,M,q⟩:=h;refine ⟨_,(aH (aS (tP (He (CF i.u1 (pv 1) (pv 0))) (lI (aI o1k i rfl (aA (aW i.u1 (pv 0) (pv 1)) (aA (pv 2) aD))))))),?_⟩
 try dsimp only [aR,bA]
 w_on;refine Dk (.inl hk) ?_;unfold VL at q;rcases G.val (k:=c7 o) with ⟨b,g⟩|⟨v1,B,b,g,D⟩
 ·rw [g] at q
  rw [b];w_on;exact q
 ·rw [g] at q
  rw [b];w_on;apply MJ (.inl hk) b ?_;apply ⟨v1,v,B,t,rfl,D,ft,J (c7 o,B) (bU g),M,?_⟩;exact q
include o1k in
theorem xO:bZ P w K mg base (k+1) "earliest_of" ["waiting"] Cr:=by
 refine bZ.of vE.d16 hV (by walk_at "ln") fun f ui A outer s H vs Q E Z h=>?_;obtain ⟨a,W,rfl,⟨g,hk,M⟩,nd,zW,Y,q⟩:=h;refine ⟨_,(aE (dU 1 hV.nd dZ)
   (aE (MS n9 rfl (pv 0) (nZ 2 hV.nd) (aH (bV (PW.pt (nN (aY mU (pv 1) dZ) (jG (cS (aI o1k Z rfl (aA (aN aQ (aW Z.u1 (pv 0) (pv 2)) aF) (aA (aN aQ (aW Z.u1 (pv 0) (pv 1)) aF) aD))))))) (aH (dU 1 hV.nd (pv 2))) bE)))
   (aH (aS (pv 1))))),?_⟩
 try dsimp only [aR,bA]
 w_on;apply UL a (nU.dK hk) ?_;refine ⟨rfl,g,hk,fun o=>?_⟩;have ek:∀{p:aM}{e:nE aM},(p,e)∈W->∃ v,bJ g p=some v/\kO (upd H a (.frz o (.dK g))) v e:=fun {p e} hp=>by
  rcases M.val (k:=p) with ⟨_,m⟩|⟨v1,r1,S,m,U⟩
  ·rw [cZ nd hp] at m
   cases m
  ·rw [cZ nd hp] at m
   cases m;exact ⟨v1,S,U.tk (TK.dic hk)⟩
 refine MI (fun i O G=>G=upd H a (.frz o (.dK g))/\∃ e o2,O=[some (.ref a),some e,o2]/\((i=0/\e=.non)∨∃ p B,(p,B)∈W/\e=kV p/\∀ j w,j < i->W[j]?=some w->B.1<=w.2.1)) ⟨rfl,_,_,rfl,.inl ⟨rfl,rfl⟩⟩ ?_ ?_ ?_
 ·rintro i O G _ ⟨rfl,_⟩
  exact aC
 ·rintro i c v O G hx ⟨rfl,e,o2,rfl,X⟩
  have hi:i < W.length:=by
   have h1:=(b9.mp hx).1;have h2:=M.len;lia
  obtain ⟨y,C,e0,_⟩:=Paired.at M hx;obtain ⟨c',B⟩:=y;cases (show c=c' from e0);have J:(c,B)∈W:=i3 C;obtain ⟨v1,S,p1,u1,rfl,h1,U⟩:=ek J;rcases X with ⟨rfl,rfl⟩|⟨p,I,hp,rfl,N⟩
  ·w_on
   refine ⟨rfl,_,_,rfl,.inr ⟨c,B,J,rfl,fun j w D b=>?_⟩⟩;have:j=0:=by lia
   subst this;rw [b] at C;cases C;exact K0
  ·obtain ⟨v2,m,p2,u2,rfl,h2,f2⟩:=ek hp
   w_on;apply nM (.inr ⟨_,aC⟩) S ?_;apply nM (.inr ⟨_,aC⟩) m ?_;apply ⟨u1,u2,B.1,I.1,rfl,U,f2,zW _ J,zW _ hp,?_⟩;refine rC (fun R=>?_) (fun R=>?_)
   ·w_on
    refine ⟨rfl,_,_,rfl,.inr ⟨c,B,J,rfl,fun j w D b=>?_⟩⟩;by_cases z:j=i
    ·subst z
     rw [b] at C;cases C;exact K0
    ·exact E6 (P6 R) (N j w (by lia) b)
   ·w_on
    refine ⟨rfl,_,_,rfl,.inr ⟨p,I,hp,rfl,fun j w D b=>?_⟩⟩;by_cases z:j=i
    ·subst z
     rw [b] at C;cases C;exact X5.mp R
    ·exact N j w (by lia) b
 ·rintro O G ⟨rfl,e,o2,rfl,X⟩
  have hl:=M.len;have hW:W.length≠0:=fun z=>Y (K9.mp z);rcases X with ⟨z,_⟩|⟨p,I,hp,rfl,N⟩
  ·lia
  ·refine UM ?_
   rw [HM aC,YO,RP hk];w_on;refine q p I hp fun w b=>?_;obtain ⟨j,D⟩:=J1 b;exact N j w (by have:=(b9.mp D).1; lia) D
include d_falls_of o1t o1k o0o o0f o1n o0l in
theorem HB:nW P w K mg base (k+1) "falls_of" ["net","pushes","takings"] [.non] Cp:=by
 refine nW.of d_falls_of dM (by walk_at "ln") fun f ui A outer s H vs Q E Y h=>?_;obtain ⟨l,net,lp,ps,vt,ts,DD,MM,rfl,O,hps,hts,hR,q⟩:=h;refine ⟨_,(aE (dU 3 dM.nd (aI o0o Y rfl (aA (pv 0) aD)))
   (aE (dU 4 dM.nd (aI o0f Y rfl (aA (JD (pv 2) (lI (cI aD))) aD)))
   (aE (dU 5 dM.nd (aI o0f Y rfl (aA (pv 1) aD)))
   (aE (dU 6 dM.nd (lX (rA rfl) rfl T.z_dict DX (aA (GS (cO (sc:=aG fZ) (N:=["net","pushes","takings","beside","taken","pushed","waiting","fallen","post","number","other","moment"]) (tn:=["post"]) (names:=["pushed"]) (is:=[5]) rfl rfl (by k_is) (by k_is) rfl (by k_is) rfl (by k_is) (by k_is) (by k_is)) rfl (pv 5) (fun _ _ _ _=>(bI (i:=0) (show (["post","pushed"]:List Str).Nodup by k_is) rfl (B6 rfl) (A9 rfl))) (fun _ _ _ _=>(bH (aA (pv 0) (aA (bH (aA (aW Y.u1 (pv 1) (pv 0)) (aA dZ (aA dZ aD)))) aD)))) (fun _ _ _ _=>eC)) aD)))
   (aE (dU 7 dM.nd lW)
   (aE (rV n9 (Gz (pv 6)) (aE (dU 8 dM.nd (aI o0l Y rfl (aA (pv 6) aD)))
   (aE (iC Y.u1 (pv 7) (pv 8) (VG (pv 6) (pv 8) ⟨rfl,rfl,rfl,rfl⟩) rfl)
   (aH (fD n9 rfl (cH (iD Y.u1 (pv 3) (pv 8) (cI aD) ⟨rfl,rfl,rfl,rfl⟩)) (iR (n:=2) rfl (aU (nZ 9 dM.nd) (aU (nZ 10 dM.nd) cV))) (aE (dU 11 dM.nd (aI o1t Y rfl (aA (aN aQ (aW Y.u1 (pv 7) (pv 8)) aF) (aA (aN aQ (aN aQ (pv 0) (pv 9)) aF) aD))))
   (aE (bV (PW.pt (nN (tO (CF Y.u1 (pv 10) (pv 7))) (jG (cS (aI o1n Y rfl (aA (pv 4) (aA (pv 9) (aA (pv 11) aD)))))))) (aH GN) bE)
   (aH (bV (PW.pt (nN (tO (tS Y.u1 (pv 10) (pv 6))) (jG (cS (aI o1k Y rfl (aA (pv 11) (aA (aN aQ (aW Y.u1 (pv 6) (pv 10)) aF) aD))))))) (aH (iC Y.u1 (pv 6) (pv 10) (bH (aA (pv 11) (aA (pv 9) (aA (pv 8) aD)))) rfl)) bE)))))))))
   (aH (aS (pv 7))))))))),?_⟩
 try dsimp only [aR,bA]
 w_on;apply ⟨l,net,rfl,O.lq,O.len,fun dB X hB s1 bes=>?_⟩;apply UI (hts.sm s1) fun lt H2 s2 lq2=>?_;apply ⟨lt,ts,rfl,lq2,u8 hts.len (by decide),hts.sz,fun dT H3 hT s3 tq=>?_⟩;have s13:=(s1.trans s2).trans s3;have hlp:=hps.len;apply ⟨lp,ps,rfl,(hps.sm s13).lq,by lia,fun x D=>hR.sz (hps.bd x D) (by lia),fun dP H4 hP s4 pq=>?_⟩;obtain ⟨kP,hkP,qP⟩:=pq;apply ML dP (nU.dK hkP) ?_;refine ⟨rfl,kP,hkP,fun ob=>?_⟩;have hPl:kP.length<=100:=by
  have h1:=qP.len;have h2:=NH ps;lia
 refine UQ (by lia) (fun ac i ys G=>Kp ac (upd H4 dP (.frz ob (.dK kP))) G/\Paired (fun v (x:aM×nE aM)=>∃ a u,v=.ref a/\G a=some (.tup [kV x.1,u])/\kO G u x.2) ys (((lst ps).map fun x=>(x.1,(x.2,none))).take i)) ?_ ?_ ?_ ?_
 ·intro ac h0
  exact ⟨Kp.new h0,.nil⟩
 ·intro ac i ys G h0 _ ⟨k,_⟩
  exact k _ _ (fun z=>by subst z; rw [aC] at h0; cases h0) aC
 ·intro ac i ys G kk v h0 D hyl hG ⟨kp,pr⟩
  have hdP:G dP=some (.frz ob (.dK kP)):=kp _ _ (fun z=>by subst z; rw [aC] at h0; cases h0) aC;have hi:i < (lst ps).length:=by
   have h1:=(b9.mp D).1;have h2:=qP.len;lia
  obtain ⟨y,hy,e0,fv⟩:=Paired.at qP D;obtain ⟨kk',qq⟩:=y;cases (show kk=kk' from e0);have hag:aV (lst ps) kk=some qq:=cZ (CS ps) (i3 hy);obtain ⟨v1,e1,f1⟩:∃ v1,bJ kP kk=some v1/\cA G v1 qq:=by
   rcases qP.val (k:=kk) with ⟨_,e2⟩|⟨v1,r1,e1,e2,f1⟩
   ·rw [hag] at e2
    cases e2
   ·rw [hag] at e2
    cases e2;refine ⟨v1,e1,f1.tk (TK.trans (TK.dic hkP) fun p xs h=>kp _ _ (aB h h0) h)⟩
  w_on;apply nM (.inr ⟨_,hdP⟩) e1 ?_;apply bC fun t1 ht1=>?_;refine bC fun t2 ht2=>?_;have hG2:=aL (o:=.tup [kV kk,.ref t1]) ht2 (aL (o:=.tup [v1,.non,.non]) ht1 hG);refine iG (b9.mp D).1 hyl hG2 ⟨?_,?_⟩
  ·exact Kp.trans (Kp.trans (Kp.trans kp (Kp.new ht1)) (Kp.new ht2)) Kp.upd
  ·have tk:TK (upd (upd G t1 (.tup [v1,.non,.non])) t2 (.tup [kV kk,.ref t1])) (upd (upd (upd G t1 (.tup [v1,.non,.non])) t2 (.tup [kV kk,.ref t1])) ac (.lst (ys++[.ref t2]))):=TK.lst hG2
   have tk2:=((TK.new (o:=.tup [v1,.non,.non]) ht1).trans (TK.new (o:=.tup [kV kk,.ref t1]) ht2)).trans tk;have hi':i < ((lst ps).map fun x=>(x.1,((x.2,none):nE aM))).length:=by rw [g7]; exact hi
   rw [A5 hi'];have:((lst ps).map fun x=>(x.1,((x.2,none):nE aM)))[i]=(kk,(qq,none)):=by
    rw [ip];rw [c8 hi] at hy;rw [h8 hy]
   rw [this];refine Pd.snoc (Pd.imp pr fun v x ⟨a,u,e,h,f⟩=>⟨a,u,e,tk2 _ _ h,f.tk tk2⟩) ⟨t2,.ref t1,rfl,tk _ _ aC,t1,v1,rfl,tk _ _ (aL ht2 aC),f1.tk tk2⟩
 ·intro ac ys G h0 hG hyl ⟨kp,pr⟩
  have hdP:G dP=some (.frz ob (.dK kP)):=kp _ _ (fun z=>by subst z; rw [aC] at h0; cases h0) aC;have hap:ac≠dP:=fun z=>by subst z; rw [aC] at h0; cases h0
  have s5:aJ H4 (melt dP G):=fun b o h=>by
   rw [HM hdP];by_cases hb:b=dP
   ·subst hb
    rw [hkP] at h;rw [aC];exact h
   ·rw [aZ hb]
    refine kp _ _ (fun z=>?_) (by rw [aZ hb]; exact h);subst z;rw [aZ hb,h] at h0;cases h0
  have tk5:TK G (melt dP G):=TK.melt;have hacc:melt dP G ac=some (.lst ys):=by rw [sM hap]; exact hG
  have pr2:=Pd.imp (G:=fun v (x:aM×nE aM)=>∃ a u,v=.ref a/\melt dP G a=some (.tup [kV x.1,u])/\kO (melt dP G) u x.2) pr fun v x ⟨a,u,e,h,f⟩=>⟨a,u,e,tk5 _ _ h,f.tk tk5⟩
  have hlW:kP.length=((lst ps).map fun x=>(x.1,((x.2,none):nE aM))).length:=by rw [g7]; exact qP.len
  rw [hlW,A2] at pr2;obtain ⟨k0,pa,kq0⟩:=sJ pr2;show BN _ _ _;generalize melt dP G=H5 at *;w_on;refine ⟨ac,ys,k0,rfl,hacc,pa,by lia,fun B hW=>?_⟩;have nd0:(((lst ps).map fun x=>(x.1,((x.2,none):nE aM))).map (·.1)).Nodup:=by
   rw [L1];exact CS ps
  rw [lY (by rw [J5,kq0.keys]; exact nd0),J5];w_on;apply tN fun g hF=>?_;have hWF:B≠g:=fun z=>by subst z; rw [aC] at hF; cases hF
  have hW0:upd (upd H5 B (.dK k0)) g (.dK []) B=some (.dK k0):=aL hF aC;have hF0:upd (upd H5 B (.dK k0)) g (.dK []) g=some (.dK []):=aC;have s50:aJ H5 (upd (upd H5 B (.dK k0)) g (.dK [])):=(aJ.new hW).trans (aJ.new hF);have bes5:=bes.sm ((s2.trans s3).trans (s4.trans s5));have tq5:=tq.sm cA.tk (s4.trans s5);have sH5:=s13.trans (s4.trans s5);have hFn:H5 g=none:=by
   cases z:H5 g with
  |none=>rfl
  |some o=>rw [aZ (j3 hWF),z] at hF; cases hF
  have hBW:dB≠B/\dB≠g:=by
   obtain ⟨kvs,f,z1,_⟩:=bes5;exact ⟨aB z1 hW,aB z1 hFn⟩
  have hTW:dT≠B/\dT≠g:=by
   obtain ⟨kvs,z1,_⟩:=tq5;exact ⟨aB z1 hW,aB z1 hFn⟩
  have hWn:H B=none:=by
   cases z:H B with
  |none=>rfl
  |some o=>rw [sH5 _ _ z] at hW; cases hW
  have hFn':H g=none:=by
   cases z:H g with
  |none=>rfl
  |some o=>rw [sH5 _ _ z] at hFn; cases hFn
  have bes0:=bes5.sm s50;have tq0:=tq5.sm cA.tk s50;have net0:=O.sm (sH5.trans s50);have sH0:=sH5.trans s50;have kq00:=kq0.imp (H':=upd (upd H5 B (.dK k0)) g (.dK [])) fun v b f=>f.tk s50.tk;generalize upd (upd H5 B (.dK k0)) g (.dK [])=H0 at *;refine vW (fun σ X=>∃ W F kW kF o8 o9 J M,σ=[some (.ref l),some (.ref lp),some vt,some (.ref dB),some (.ref dT),some (.ref dP),some (.ref B),some (.ref g),o8,o9,J,M]/\pV B g H0 X/\X B=some (.dK kW)/\KQ kO X kW W/\X g=some (.dK kF)/\KQ kO X kF F/\mH net (aV (lst ps)) (bM ts) (fun _ _ _=>True) W F/\(∀ x∈W,Bd DD (MM * (F.length+1)) x.2.1)/\∀ x∈F,Bd DD (MM * F.length) x.2.1) (fun σ X=>1000 - (match X g with|some (.dK kvs)=>kvs.length|_=>0)) ?_ ?_ ?_
  ·refine ⟨_,_,k0,[],_,_,_,_,rfl,pV.refl _,hW0,kq00,hF0,.nil,mH.start nd0 (fun p e he=>?_) (fun p t he=>?_),fun x D=>?_,fun x D=>by simp at D⟩
   ·obtain ⟨y,hy,e2⟩:=j1.mp he
    cases e2;exact ⟨rfl,cZ (CS ps) hy⟩
   ·exact j1.mpr ⟨(p,t),bU he,rfl⟩
   ·obtain ⟨y,hy,rfl⟩:=j1.mp D
    exact (hps.bd y (jQ hy)).mono (by simp)
  ·rintro σ X ⟨W,F,kW,kF,o8,o9,J,M,rfl,kp1,hW1,qW,hF1,qF,I,bW,bF⟩
   have hl:=O.len;have hlens:=I.lens;w_on;refine YR hW1 (fun hne=>?_) (fun hnil=>?_)
   ·w_on
    have hWne:W≠[]:=fun z=>hne (K9.mp (by rw [qW.len,z]; rfl));have szW:∀{m:Nat}{t:Rat},m<=1000->Bd DD (MM * m) t->Sz 8000 t:=fun hm hb=>hR.sz hb (S0 _ hm);apply ⟨B,W,rfl,⟨kW,hW1,qW⟩,I.ndW,fun x D=>szW (by lia) (bW x D),hWne,fun p e hp hmin=>?_⟩;have hagW:aV W p=some e:=cZ I.ndW hp;obtain ⟨v1,e1,f1⟩:∃ v1,bJ kW p=some v1/\kO X v1 e:=by
     rcases qW.val (k:=p) with ⟨_,e2⟩|⟨v1,r1,e1,e2,f1⟩
     ·rw [hagW] at e2
      cases e2
     ·rw [hagW] at e2
      cases e2;exact ⟨v1,e1,f1⟩
    apply ⟨B,rfl,.inl ⟨kW,.inl hW1⟩,?_⟩;apply ⟨kW,p,v1,hW1,rfl,e1,?_⟩;have hF1':upd X B (.dK (eL kW p)) g=some (.dK kF):=aX (j3 hWF) hF1;have hkF:kF.length<=1000:=by
     have:=qF.len;lia
    refine lV hF1' hkF ?_;have hpF:p∉F.map (·.1):=I.dis p (j1.mpr ⟨_,hp,rfl⟩);have tkd:TK X (upd (upd X B (.dK (eL kW p))) g (.dK (eK kF p v1))):=(TK.dic hW1).trans (TK.dic hF1');have qW2:KQ kO (upd (upd X B (.dK (eL kW p))) g (.dK (eK kF p v1))) (eL kW p) (kD W p):=(qW.drop).imp fun v b f=>f.tk tkd;have qF2:KQ kO (upd (upd X B (.dK (eL kW p))) g (.dK (eK kF p v1))) (eK kF p v1) (F++[(p,e)]):=by
     rw [← RB hpF];exact (qF.put f1).imp fun v b f=>f.tk tkd
    have kp2:pV B g H0 (upd (upd X B (.dK (eL kW p))) g (.dK (eK kF p v1))):=(kp1.trans pV.l).trans pV.r;have hW2:upd (upd X B (.dK (eL kW p))) g (.dK (eK kF p v1)) B=some (.dK (eL kW p)):=aX hWF aC;have hF2:upd (upd X B (.dK (eL kW p))) g (.dK (eK kF p v1)) g=some (.dK (eK kF p v1)):=aC;have hFlen:(eK kF p v1).length=F.length+1:=by rw [qF2.len]; simp
    generalize eK kF p v1=S at *;generalize eL kW p=kW2 at *;generalize upd (upd X B (.dK kW2)) g (.dK S)=H2' at *;w_on;apply ⟨dB,rfl,.inl ⟨_,.inl (bes0.k2 kp2 hW0 hF0 hBW.1 hBW.2).choose_spec.choose_spec.1⟩,?_⟩;apply dA fun z0 hz0=>?_;have kp3:pV B g H0 (upd H2' z0 (.lst [])):=kp2.trans (aJ.new hz0).kp2;have hW3:upd H2' z0 (.lst []) B=some (.dK kW2):=aL hz0 hW2;have hF3:upd H2' z0 (.lst []) g=some (.dK S):=aL hz0 hF2;have qW3:KQ kO (upd H2' z0 (.lst [])) kW2 (kD W p):=qW2.imp fun v b f=>f.tk (TK.new hz0);have qF3:KQ kO (upd H2' z0 (.lst [])) S (F++[(p,e)]):=qF2.imp fun v b f=>f.tk (TK.new hz0);refine Gq (bes0.k2 kp3 hW0 hF0 hBW.1 hBW.2) aC fun lb L lqL hLl hL=>?_;generalize upd H2' z0 (.lst [])=H3' at *;obtain ⟨xs,hxs,pxs⟩:=lqL;refine cG (cP.of hxs) ?_;have hxl:=Paired.length pxs;have hle:∀ w∈F++[(p,e)],w.2.1<=e.1:=fun w hw=>by
     rcases m9.mp hw with hw|hw
     ·exact I.mono w hw _ hp
     ·rw [f9] at hw
      subst hw;exact K0
    have hpe:(p,e)∈F++[(p,e)]:=o0 _ (by simp);have be:Bd DD (MM * (F.length+1)) e.1:=bW _ hp;refine rS (xs:=xs) (fun i σ G=>∃ Z C o9 J M,σ=[some (.ref l),some (.ref lp),some vt,some (.ref dB),some (.ref dT),some (.ref dP),some (.ref B),some (.ref g),some (kV p),o9,J,M]/\pV B g H0 G/\pV B g H3' G/\G B=some (.dK C)/\KQ kO G C Z/\G g=some (.dK S)/\KQ kO G S (F++[(p,e)])/\mH net (aV (lst ps)) (bM ts) (fun q j y=>q≠p∨(j,y)∈L.take i) Z (F++[(p,e)])/\∀ x∈Z,Bd DD (MM * (F.length+2)) x.2.1) ?_ ?_ ?_ ?_
    ·refine ⟨_,_,_,_,_,rfl,kp3,pV.refl _,hW3,qW3,hF3,qF3,I.pop hp hmin fun q k x hc=>hc.elim id fun z=>by simp at z,fun x D=>(bW x (lZ.mp D).1).mono (S0 _ (by lia))⟩
    ·rintro i σ G _ ⟨Z,C,o9',o10',o11',rfl,k0',k3',_⟩
     exact cP.of (k3'.lst hW3 hF3 hxs)
    ·intro P' rt' bk' hP'
     rintro i x σ G D ⟨Z,C,o9',o10',o11',rfl,k0',k3',gW,qW',gF,qF',I',bW'⟩;have hi:i < L.length:=by
      have:=(b9.mp D).1;lia
     obtain ⟨y,hy,t0,rfl,ht0⟩:=Paired.at pxs D;obtain ⟨j,xk⟩:=y;have hy2:L[i]=(j,xk):=by
      rw [c8 hi] at hy;exact h8 hy
     have ht1:=k3'.tk hW3 hF3 _ _ ht0;obtain ⟨r,Y,hj⟩:=(hL j xk).mp (i3 hy);have hrm:r∈net:=i3 Y;have htake:∀ q jj yy,(q≠p∨(jj,yy)∈L.take (i+1))->(q≠p∨(jj,yy)∈L.take i)∨(q=p/\jj=j/\yy=xk):=fun q jj yy h=>by
      by_cases hq:q=p
      ·rcases h with h|h
       ·exact .inl (.inl h)
       ·rw [A5 hi,hy2] at h
        rcases m9.mp h with h|h
        ·exact .inl (.inr h)
        ·rw [f9] at h
         cases h;exact .inr ⟨hq,rfl,rfl⟩
      ·exact .inl (.inl hq)
     have hbm:Bd DD (MM * (F.length+2)) (e.1+r.2.2):=(be.add hR.ne (O.bd r hrm)).mono (by rw [Nat.mul_add,Nat.mul_add]; lia);have fin1:∀ U R,aJ G R->(∃ o9 J M,U=[some (.ref l),some (.ref lp),some vt,some (.ref dB),some (.ref dT),some (.ref dP),some (.ref B),some (.ref g),some (kV p),o9,J,M])->(xk∈(F++[(p,e)]).map (·.1)∨¬ cU (bM ts) j (e.1+r.2.2)∨∃ u,(xk,u)∈Z/\u.1<=e.1+r.2.2)->∃ Z C o9 J M,U=[some (.ref l),some (.ref lp),some vt,some (.ref dB),some (.ref dT),some (.ref dP),some (.ref B),some (.ref g),some (kV p),o9,J,M]/\pV B g H0 R/\pV B g H3' R/\R B=some (.dK C)/\KQ kO R C Z/\R g=some (.dK S)/\KQ kO R S (F++[(p,e)])/\mH net (aV (lst ps)) (bM ts) (fun q j y=>q≠p∨(j,y)∈L.take (i+1)) Z (F++[(p,e)])/\∀ x∈Z,Bd DD (MM * (F.length+2)) x.2.1:=by
      rintro U R sg ⟨o9,J,M,rfl⟩ hc;exact ⟨Z,C,_,_,_,rfl,k0'.trans sg.kp2,k3'.trans sg.kp2,sg _ _ gW,qW'.imp fun v b f=>f.tk sg.tk,sg _ _ gF,qF'.imp fun v b f=>f.tk sg.tk,I'.turn hpe Y hj hle (O.pos r hrm) htake (.inl ⟨rfl,hc⟩),bW'⟩
     have fin2:∀ U G1 t3 vm,aJ G G1->G1 t3=none->cA G1 vm (e.1+r.2.2)->(∃ o9 J M,U=[some (.ref l),some (.ref lp),some vt,some (.ref dB),some (.ref dT),some (.ref dP),some (.ref B),some (.ref g),some (kV p),o9,J,M])->(xk∉(F++[(p,e)]).map (·.1)/\cU (bM ts) j (e.1+r.2.2)/\∀ u,(xk,u)∈Z->e.1+r.2.2<=u.1)->(fun R=>∃ Z C o9 J M,U=[some (.ref l),some (.ref lp),some vt,some (.ref dB),some (.ref dT),some (.ref dP),some (.ref B),some (.ref g),some (kV p),o9,J,M]/\pV B g H0 R/\pV B g H3' R/\R B=some (.dK C)/\KQ kO R C Z/\R g=some (.dK S)/\KQ kO R S (F++[(p,e)])/\mH net (aV (lst ps)) (bM ts) (fun q j y=>q≠p∨(j,y)∈L.take (i+1)) Z (F++[(p,e)])/\∀ x∈Z,Bd DD (MM * (F.length+2)) x.2.1) (upd (upd G1 t3 (.tup [vm,.int j,kV p])) B (.dK (eK C xk (.ref t3)))):=by
      rintro U G1 t3 vm sg hn3 fm ⟨o9,J,M,rfl⟩ ⟨c1,c2,c3⟩;have sg2:=sg.trans (aJ.new (o:=.tup [vm,.int j,kV p]) hn3);have gW2:=sg2 _ _ gW;have tkw:TK (upd G1 t3 (.tup [vm,.int j,kV p])) (upd (upd G1 t3 (.tup [vm,.int j,kV p])) B (.dK (eK C xk (.ref t3)))):=TK.dic gW2;have BM:=sg2.tk.trans tkw;refine ⟨eO Z xk (e.1+r.2.2,some (j,p)),eK C xk (.ref t3),_,_,_,rfl,(k0'.trans sg2.kp2).trans pV.l,(k3'.trans sg2.kp2).trans pV.l,aC,?_,aX (j3 hWF) (sg2 _ _ gF),qF'.imp fun v b f=>f.tk BM,I'.turn hpe Y hj hle (O.pos r hrm) htake (.inr ⟨c1,c2,c3,rfl⟩),fun x D=>?_⟩
      ·exact (qW'.imp fun v b f=>f.tk BM).put ⟨t3,vm,rfl,tkw _ _ aC,(fm.tk (TK.new hn3)).tk tkw⟩
      ·obtain ⟨x1,x2⟩:=x
       rcases fL D with ⟨_,rfl⟩|⟨_,h⟩
       ·exact hbm
       ·exact bW' _ h
     replace fin1:=fun U R a b c=>hP' _ _ _ (fin1 U R a b c);replace fin2:=fun U G1 t3 vm a b c d e=>hP' _ _ _ (fin2 U G1 t3 vm a b c d e);have hagF:aV (F++[(p,e)]) p=some e:=cZ I'.ndF hpe;obtain ⟨ve,e3,pe,ue,rfl,hpe2,fe⟩:∃ v1,bJ S p=some v1/\kO G v1 e:=by
      rcases qF'.val (k:=p) with ⟨_,e2⟩|⟨v1,r1,e1,e2,f1⟩
      ·rw [hagF] at e2
       cases e2
      ·rw [hagF] at e2
       cases e2;exact ⟨v1,e1,f1⟩
     obtain ⟨vn,hvn,pvn⟩:=net0.lq;have hvnG:=k0'.lst hW0 hF0 hvn;obtain ⟨vr,hvr,pr0,ur,rfl,hpr0,fr0⟩:=Pd.get pvn Y;have tk0:=k0'.tk hW0 hF0;have hprG:=tk0 _ _ hpr0;have frG:=fr0.tk tk0;w_on;apply nM (.inl gF) e3 ?_;apply gI hvnG (fX hvr) ?_;apply ⟨ue,ur,e.1,r.2.2,rfl,fe,frG,szW (by lia) be,hR.sz (O.bd r hrm) (by lia),fun vm R fm sg=>?_⟩;have gF2:=sg _ _ gF;have gW2:=sg _ _ gW;refine Mm (.inl gF2) ?_;have szm:Sz 8000 (e.1+r.2.2):=szW (by lia) hbm;rcases qF'.val (k:=xk) with ⟨e4,e5⟩|⟨v4,r4,e4,e5,f4⟩
     ·rw [e4]
      w_on;have hnF:xk∉(F++[(p,e)]).map (·.1):=KF e5;obtain ⟨kT,gT,qT⟩:=tq0;have gT2:R dT=some (.dK kT):=sg _ _ (k0' _ _ hTW.1 hTW.2 gT);refine ⟨dT,lst ts,j,vm,e.1+r.2.2,rfl,⟨kT,gT2,qT.imp fun v b f=>(f.tk tk0).tk sg.tk⟩,fm,fun x D=>hts.sz x (jQ D),szm,?_⟩;have hout:VL (lst ts) j (e.1+r.2.2)=true/\¬ cU (bM ts) j (e.1+r.2.2)∨VL (lst ts) j (e.1+r.2.2)=false/\cU (bM ts) j (e.1+r.2.2):=by
       unfold VL cU bM;cases aV (lst ts) (c7 (j:Int)) with
      |none=>exact .inr ⟨rfl,fun u e=>nomatch e⟩
      |some u =>
        by_cases c:u < e.1+r.2.2
        ·exact .inl ⟨decide_eq_true c,fun h=>az.mpr c (h u rfl)⟩
        ·exact .inr ⟨decide_eq_false c,fun u' e=>by cases e; exact X5.mp c⟩
      rcases hout with ⟨ho,hno⟩|⟨ho,hno⟩
      ·rw [ho]
       w_on;exact fin1 _ R sg ⟨_,_,_,rfl⟩ (.inr (.inl hno))
      ·rw [ho]
       w_on;refine UN (.inl gW2) ?_;have hkW:C.length<=1000:=by
        have h1:=qW'.len;have h2:=I'.lens;lia
       rcases qW'.val (k:=xk) with ⟨e6,e7⟩|⟨v6,r6,e6,e7,p6,u6,rfl,h6,f6⟩
       ·rw [e6]
        w_on;apply bC fun t3 ht3=>?_;apply lV (aL ht3 gW2) hkW ?_;exact fin2 _ R t3 vm sg ht3 fm ⟨_,_,_,rfl⟩ ⟨hnF,hno,fun u hu=>absurd hu (jV e7 u)⟩
       ·rw [e6]
        have h62:=sg.tk _ _ h6;w_on;apply nM (.inl gW2) e6 ?_;have hm6:=bU e7;apply ⟨vm,u6,e.1+r.2.2,r6.1,rfl,fm,f6.tk sg.tk,szm,szW (by lia) (bW' _ hm6),?_⟩;refine rC (fun c=>?_) (fun c=>?_)
        ·w_on
         apply bC fun t3 ht3=>?_;apply lV (aL ht3 gW2) hkW ?_;refine fin2 _ R t3 vm sg ht3 fm ⟨_,_,_,rfl⟩ ⟨hnF,hno,fun u hu=>?_⟩;have:=h8 ((cZ I'.ndW hu).symm.trans e7);subst this;exact P6 c
        ·w_on
         exact fin1 _ R sg ⟨_,_,_,rfl⟩ (.inr (.inr ⟨r6,hm6,X5.mp c⟩))
     ·rw [e4]
      w_on;exact fin1 _ R sg ⟨_,_,_,rfl⟩ (.inl (j1.mpr ⟨_,bU e5,rfl⟩))
    ·rintro σ G ⟨Z,C,o9',o10',o11',rfl,k0',k3',gW,qW',gF,qF',I',bW'⟩
     rw [hxl,A2] at I';refine ⟨⟨Z,F++[(p,e)],C,S,_,_,_,_,rfl,k0',gW,qW',gF,qF',I'.imp fun q k x r h1 h2 _=>?_,fun x D=>?_,fun x D=>?_⟩,?_⟩
     ·by_cases hq:q=p
      ·subst hq
       exact .inr ((hL k x).mpr ⟨r,h1,h2⟩)
      ·exact .inl hq
     ·rw [i9]
      exact bW' x D
     ·rw [i9]
      rcases m9.mp D with D|D
      ·exact (bF x D).mono (S0 _ (by simp))
      ·rw [f9] at D
       subst D;exact be
     ·have hql:=qF.len
      simp only [gF,hF1];lia
   ·have hWnil:W=[]:=K9.mp (by rw [← qW.len,hnil]; rfl)
    subst hWnil;w_on;refine q g X F hFn' (kp1.same sH0 hWn hFn') ⟨kF,hF1,qF⟩ I.done hlens.2 fun x D=>(bF x D).mono (S0 _ (by lia))
  ·rintro σ H Q Q' h ⟨v,e,k,t,b⟩
   exact ⟨v,e,k,t,h _ _ b⟩
include d_fall_moments o1c o1f in
theorem uY:nW P w K mg base (k+1) "fall_moments" ["net","pushes","takings"] [.non] (La w):=by
 refine nW.of d_fall_moments nH (by walk_at "ln") fun f ui A outer s H vs Q E hr h=>?_;obtain ⟨l,n,lp,ps,vt,ts,DD,MM,U,rfl,C,hps,hts,hR,hU,ad,q⟩:=h;refine ⟨_,(aE (dU 3 nH.nd (aI o1f.f hr rfl (aA (pv 0) (aA (pv 1) (aA (pv 2) aD)))))
   (aH (aS (lX (rA rfl) rfl T.z_dict DX (aA (eJ (cO (sc:=aG dY) (N:=["net","pushes","takings","fallen"]) (tn:=["post"]) (names:=["fallen"]) (is:=[3]) rfl rfl (by k_is) (by k_is) rfl (by k_is) rfl (by k_is) (by k_is) (by k_is)) rfl (cH (aI o1c hr rfl (aA (pv 0) aD))) (fun _ _ _ _=>(bI (i:=0) (show (["post","fallen"]:List Str).Nodup by k_is) rfl (B6 rfl) (A9 rfl))) (fun _ _ _ _=>(bH (aA (pv 0) (aA (xG (tO (CF hr.u1 (pv 0) (pv 1))) (aN jJ (aW hr.u1 (pv 1) (pv 0)) aF) dZ) aD)))) (fun _ _ _ _=>eC)) aD))))),?_⟩
 try dsimp only [aR,bA]
 w_on;apply ⟨l,kn n,lp,ps,vt,ts,DD,MM,rfl,C,hps,hts,hR,fun dF H1 F hF s1 fq fo hFl bF=>?_⟩;refine ⟨l,n,U,rfl,(C.sm s1).lq,by have:=C.len; simpa [kn] using this,hU,ad,fun lq H2 m hlq s2 X nd af=>?_⟩;w_on;refine cG (cP.of X) ?_;obtain ⟨kF,hkF,qF⟩:=fq;have hyl:m.length<=63:=u8 (iS nd fun x W=>ad x ((af x).mp W)) hU;refine pJ (xs:=m.map V.str) (by rw [g7]; lia) (fun g i I G=>Kp g H2 G/\Paired (fun v (x:aM×Option Rat)=>∃ a u,v=.ref a/\G a=some (.tup [kV x.1,u])/\eI G u x.2) I ((m.map fun y=>(a9 y,bS F (a9 y))).take i)) (fun g J=>⟨Kp.new J,.nil⟩) ?_ ?_ ?_
 ·intro g i I G J _ ⟨kp,_⟩
  exact cP.of (kp _ _ (aB X J) X)
 ·intro g i I G x J W Y hG ⟨kp,pr⟩
  rw [i7] at W;cases hy:m[i]? with
 |none=>rw [hy] at W; cases W
 |some y =>
   rw [hy] at W;cases (h8 W:V.str y=x);have hi:i < m.length:=(b9.mp hy).1;have M:=s2 _ _ hkF;have O:G dF=some (.dK kF):=kp _ _ (aB M J) M;have ah:TK H1 G:=s2.tk.trans fun p xs h=>kp _ _ (aB h J) h;have Z:∀ R u B,aJ G R->R B=none->eI R u (bS F (a9 y))->BA (m.map V.str).length g (fun i I G=>Kp g H2 G/\Paired (fun v (x:aM×Option Rat)=>∃ a u,v=.ref a/\G a=some (.tup [kV x.1,u])/\eI G u x.2) I ((m.map fun y=>(a9 y,bS F (a9 y))).take i)) I i (.ref B) (upd R B (.tup [.str y,u])):=fun R u B sg ht ou=>by
    have ac:=aL (o:=.tup [.str y,u]) ht (sg _ _ hG);refine iG (by rw [g7]; exact hi) Y ac ⟨Kp.trans (Kp.trans kp (fun b o _ h=>aL ht (sg _ _ h))) Kp.upd,?_⟩;have tk:TK (upd R B (.tup [.str y,u])) (upd (upd R B (.tup [.str y,u])) g (.lst (I++[.ref B]))):=TK.lst ac;have ag:=(sg.tk.trans (TK.new (o:=.tup [.str y,u]) ht)).trans tk;have hi':i < (m.map fun y=>((a9 y:aM),bS F (a9 y))).length:=by rw [g7]; exact hi
    rw [A5 hi'];have:(m.map fun y=>((a9 y:aM),bS F (a9 y)))[i]=(a9 y,bS F (a9 y)):=by
     rw [ip];rw [c8 hi] at hy;rw [h8 hy]
    rw [this];exact Pd.snoc (Pd.imp pr fun v x ⟨a,u,e,h,f⟩=>⟨a,u,e,ag _ _ h,f.tk ag⟩) ⟨B,u,rfl,tk _ _ aC,(ou.tk (TK.new ht)).tk tk⟩
   w_on;refine Ml (.inl O) ?_;rcases qF.val (k:=a9 y) with ⟨e1,e2⟩|⟨v1,r1,e1,e2,p1,u1,rfl,h1,f1⟩
   ·rw [e1]
    w_on;refine bC fun B S=>?_;refine Z G .non B (aJ.refl _) S ?_;unfold bS;rw [e2];rfl
   ·rw [e1]
    w_on;refine cJ (.inl O) e1 ?_;have h1G:=ah _ _ h1;w_on;refine bC fun B S=>?_;refine Z G u1 B (aJ.refl _) S ?_;unfold bS;rw [e2];exact f1.tk ah
 ·intro g I G J hG Y ⟨kp,pr⟩
  have hlW:(m.map V.str).length=(m.map fun y=>((a9 y:aM),bS F (a9 y))).length:=by simp
  rw [hlW,A2] at pr;obtain ⟨k0,pa,ae⟩:=sJ pr;w_on;rw [g7] at Y;refine ⟨g,I,k0,rfl,hG,pa,by lia,fun dR D=>?_⟩;have nd0:((m.map fun y=>((a9 y:aM),bS F (a9 y))).map (·.1)).Nodup:=by
   rw [L1];exact L9.mpr (nd.imp fun h e=>h (Q6 e))
  rw [lY (by rw [J5,ae.keys]; exact nd0),J5];w_on;have sG:aJ H G:=fun b o hb=>by
   have h2:=s2 _ _ (s1 _ _ hb);exact kp _ _ (aB h2 J) h2
  refine q dR _ F m ?_ (sG.trans (aJ.new D)) ⟨k0,aC,ae.imp fun v b f=>f.tk (TK.new D)⟩ fo bF nd af;cases z:H dR with
 |none=>rfl
 |some o=>rw [sG _ _ z] at D; cases D
include o1h o1i o1k in
theorem uX:bZ P w K mg base (k+1) "share_passed" ["fell","time","moment"] Cj:=by
 refine bZ.of vE.d19 uW (by walk_at "ln") fun f N A g s H vs Q E b h=>?_;obtain ⟨I,X,J,o,T,m,rfl,of,O,C,U,Y,B,Z,q⟩:=h;refine ⟨_,(aE (bV (PW.pt (nN (aY mU (pv 0) dZ) (jG (cS (aI o1k b rfl (aA (pv 2) (aA (pv 0) aD))))))) (aH (aS (bH (aA aF (aA aF aD))))) bE)
   (aH (aS (aI o1i b rfl (aA (aI o1h b rfl (aA (pv 2) (aA (pv 0) aD))) (aA (pv 1) aD)))))),?_⟩
 try dsimp only [aR,bA]
 cases o with
|none =>
  cases (show I=.non from of);w_on;apply bC fun p hp=>?_;exact q _ _ ⟨p,rfl,aC⟩ (aJ.new hp)
|some f =>
  have i:=Z f rfl;obtain ⟨D,rfl,hf⟩:=id (show cA H I f from of);w_on;apply ⟨J,.ref D,m,f,rfl,C,of,B.mono (by decide),i.mono (by decide),?_⟩;refine rC (fun c=>?_) (fun c=>?_)
  ·w_on
   apply bC fun p hp=>?_;refine q _ _ ?_ (aJ.new hp);rw [show wQ (some f) T m=0 from if_pos c];exact ⟨p,rfl,aC⟩
  ·w_on
   apply ⟨J,.ref D,m,f,rfl,C,of,B.mono (by decide),i.mono (by decide),fun v H1 R G=>?_⟩;apply ⟨v,X,m - f,T,rfl,R,O.tk G.tk,(Sz.sub B i).mono (by decide),Y.mono (by decide),U,fun w M S W=>?_⟩;refine q w M ?_ (G.trans W);rw [show wQ (some f) T m=(m - f) / T from if_neg c];exact S
include o1h o1k o0j in
theorem xL:bZ P w K mg base (k+1) "standing_by" ["run","moments","taken","moment"] SO:=by
 refine bZ.of vE.d20 jX (by walk_at "ln") fun f ui A outer s H vs Q E B h=>?_;obtain ⟨pr,dd,vt,U,a,b,u,T,m,kd,D,I,tk,va,vb,rfl,O,fT,hd,ea,qa,eb,qb,ot,Z,S,W,R,za,zb,zt,q⟩:=h;refine ⟨_,(aE (bV (PW.pt (jH (aY jZ (pv 2) dZ) (fU (iB (cS (aI o1k B rfl (aA (pv 3) (aA (pv 2) aD)))))))) (aH (aS dZ)) bE)
   (aE (dU 4 jX.nd (aI o0j B rfl (aA (aW B.u1 (pv 1) (aN aQ (pv 0) aF)) (aA (aN aQ (pv 0) aF) (aA (pv 3) aD)))))
   (aE (dU 5 jX.nd (aI o1h B rfl (aA (bH (aA aF (aA aF aD))) (aA (aI o0j B rfl (aA (aW B.u1 (pv 1) (aN aQ (pv 0) aF)) (aA (aN aQ (pv 0) aF) (aA (pv 3) aD)))) aD))))
   (aH (aS (xG (cS (aI o1k B rfl (aA (pv 4) (aA (pv 5) aD)))) (bH (aA (pv 4) (aA (pv 5) aD))) dZ)))))),?_⟩
 try dsimp only [aR,bA]
 have sa:=TM S W R za;have sb:=TM S W R zb;have s1:Sz 10 1:=⟨by decide,by decide⟩
 refine kY ?_;refine uQ (fun σ G=>σ=[some (.ref pr),some (.ref dd),some vt,some U,none,none]/\G=H/\xW tk m=false) ?_ ?_
 ·rintro σ G ⟨rfl,rfl,hc⟩
  have Y:BO D I tk T m=if wQ D T m < 1 - wQ I T m then some (wQ D T m,1 - wQ I T m) else none:=by
   unfold BO;rw [hc,if_neg h7]
  rw [Y] at q;w_on;apply cJ (.inl hd) ea ?_;refine ⟨va,u,U,D,T,m,rfl,qa,fT,Z,S,W,R,za,fun v1 X f1 t1=>?_⟩;have hd1:=t1 _ _ hd;have hpr1:=t1 _ _ O;w_on;refine bC fun J N=>?_;have g:=t1.trans (aJ.new (o:=.tup [.int 1,.int 1]) N);have f2:cA (L2.upd X J (.tup [.int 1,.int 1])) v1 (wQ D T m):=f1.tk (TK.new N);have g1:cA (L2.upd X J (.tup [.int 1,.int 1])) (.ref J) 1:=⟨J,rfl,aC⟩
  generalize L2.upd X J (.tup [.int 1,.int 1])=H2 at g f2 g1 ⊢;have hd2:=g _ _ hd;have hpr2:=g _ _ O;w_on;apply cJ (.inl hd2) eb ?_;apply ⟨vb,u,U,I,T,m,rfl,qb.tk g.tk,fT.tk g.tk,Z.tk g.tk,S,W,R,zb,fun v3 H3 f3 t3=>?_⟩;refine ⟨.ref J,v3,1,wQ I T m,rfl,g1.tk t3.tk,f3,s1.mono (by decide),sb.mono (by decide),fun v4 H4 f4 t4=>?_⟩;have C:=t3.trans t4;have f5:=f2.tk C.tk;w_on;apply ⟨v1,v4,wQ D T m,1 - wQ I T m,rfl,f5,f4,sa.mono (by decide),(Sz.sub s1 sb).mono (by decide),?_⟩;refine rC (fun c=>?_) (fun c=>?_)
  ·rw [if_pos c] at q
   w_on;apply bC fun p5 i=>?_;exact q _ _ ⟨p5,v1,v4,rfl,aC,f5.tk (TK.new i),f4.tk (TK.new i)⟩ ((g.trans C).trans (aJ.new i))
  ·rw [if_neg c] at q
   w_on;exact q _ _ rfl (g.trans C)
 ·intro NX M
  cases tk with
 |none =>
   cases (show vt=.non from ot);w_on;exact M _ _ ⟨rfl,rfl,rfl⟩
 |some w =>
   obtain ⟨pw,rfl,hw⟩:=id (show cA H vt w from ot);w_on;apply ⟨U,.ref pw,m,w,rfl,Z,ot,R.mono (by decide),(zt w rfl).mono (by decide),?_⟩;refine rC (fun c=>?_) (fun c=>?_)
   ·w_on
    exact M _ _ ⟨rfl,rfl,by show (!decide (m < w))=false; rw [decide_eq_true c]; rfl⟩
   ·w_on
    refine q _ _ ?_ (aJ.refl _);unfold BO;rw [show xW (some w) m=true by show (!decide (m < w))=true; rw [decide_eq_false c]; rfl,if_pos rfl];exact rfl
include d_standing_in o0f o0i o0k in
theorem xK:uG P w K mg base (k+1) "standing_in" ["net","pushes","number","moment","takings"] [.non] 4 ["takings"] (SN w):=by
 refine uG.of d_standing_in oC (by walk_at "ln") fun f ui A aj s H vs Q E O h=>?_;obtain ⟨l,n,lp,ps,vt,R,DD,MM,U,D,r,vm,m,rfl,b,ae,o,hR,hU,Y,M,fm,zm,zB,zT,q⟩:=h;refine ⟨_,(aE (dU 5 oC.nd (aI o0i.f O rfl (aA (pv 0) (aA (pv 1) (aA (pv 4) aD)))))
   (aH (aS (aI o0k O rfl (aA (aN aQ (pv 0) (pv 2)) (aA (pv 5) (aA (rZ O.u1 (aI o0f O rfl (aA (JD (pv 4) (lI (cI aD))) aD)) (pv 2) ⟨rfl,rfl,rfl,rfl⟩) (aA (pv 3) aD)))))))),?_⟩
 try dsimp only [aR,bA]
 obtain ⟨vn,af,ak⟩:=id b.lq;have ac:(kn n)[D]?=some (a9 r.1,a9 r.2.1,r.2.2):=by
  unfold kn;rw [i7,M];rfl
 have i:=i3 M;obtain ⟨vr,ag,pr,u,rfl,ad,ft⟩:=tQ ak ac;have bT:=b.bd _ (j1.mpr ⟨r,i,rfl⟩);have pT:(0:Rat) < r.2.2:=b.pos _ (j1.mpr ⟨r,i,rfl⟩);have W:r.1∈names n:=z9 _ (j1.mpr ⟨r,i,rfl⟩);have X:r.2.1∈names n:=o0 _ (j1.mpr ⟨r,i,rfl⟩);w_on;refine ⟨l,n,lp,ps,vt,R,DD,MM,U,rfl,b,ae,o,hR,hU,Y,fun d H1 F ys _ s1 dq fo bF nd ai=>?_⟩;obtain ⟨kd,Z,qd⟩:=dq;have zF:∀ p f,bS F p=some f->Sz 400 f:=fun p f e=>by
  unfold bS at e;rw [j7] at e;obtain ⟨x,G,rfl⟩:=e;exact zB _ (bF _ (bU G))
 have I:∀ y∈names n,∃ v,bJ kd (a9 y)=some v/\eI H1 v (bS F (a9 y)):=fun y hy=>by
  have e0:aV (ys.map fun y=>((a9 y:aM),bS F (a9 y))) (a9 y)=some (bS F (a9 y)):=cZ (by
   rw [L1];exact L9.mpr (nd.imp fun h e=>h (Q6 e))) (j1.mpr ⟨y,(ai y).mpr hy,rfl⟩)
  rcases qd.val (k:=a9 y) with ⟨_,g⟩|⟨v1,r1,G,g,S⟩
  ·rw [e0] at g
   cases g
  ·rw [e0] at g
   cases g;exact ⟨v1,G,S⟩
 obtain ⟨va,ea,qa⟩:=I r.1 W;obtain ⟨vb,eb,qb⟩:=I r.2.1 X;w_on;apply gI (s1 _ _ af) (fX ag) ?_;apply UI (o.sm s1) fun lt H2 s2 ah=>?_;refine ⟨lt,R,rfl,ah,u8 o.len (by decide),o.sz,fun dT H3 _ s3 tq=>?_⟩;obtain ⟨N,J,qt⟩:=tq;apply ⟨dT,rfl,.inl ⟨N,.inl J⟩,?_⟩;refine ⟨bJ N (c7 (D:Int)),.inl ⟨N,c7 (D:Int),.inl J,rfl,rfl⟩,?_⟩;have ot:eI H3 ((bJ N (c7 (D:Int))).getD .non) (bM R D):=by
  unfold bM;rcases qt.val (k:=c7 (D:Int)) with ⟨G,g⟩|⟨v1,r1,G,g,S⟩
  ·rw [G,g]
   rfl
  ·rw [G,g]
   exact S
 have zt:∀ f,bM R D=some f->Sz 400 f:=fun f e=>zT _ (jQ (bU e));generalize (bJ N (c7 (D:Int))).getD .non=vk at ot ⊢;have C:=s2.trans s3;have B:=s1.trans C;w_on;apply ⟨pr,d,vk,vm,r.1,r.2.1,u,r.2.2,m,kd,_,_,_,va,vb,rfl,B _ _ ad,ft.tk B.tk,C _ _ Z,ea,qa.tk C.tk,eb,qb.tk C.tk,ot,fm.tk B.tk,S8 pT,zB _ (bT.mono (by lia)),zm,zF _,zF _,zt,fun v H4 lv s4=>?_⟩;exact q v H4 F (B.trans s4) fo zF lv
include o1t o1k in
theorem GY:bZ P w K mg base (k+1) "is_swept" ["fell","time","beyond"] Ci:=by
 refine bZ.of vE.d22 GD (by walk_at "ln") fun f M A i s H Z Q E m h=>?_;obtain ⟨G,S,D,o,T,p,rfl,of,N,b,I,J,U,q⟩:=h;refine ⟨_,(aH (aS (tP (jP jZ (pv 0) dZ) (lI (Nd (jP mU (pv 2) dZ) (lI (JE (aI o1k m rfl (aA (pv 2) (aA (aI o1t m rfl (aA (pv 0) (aA (pv 1) aD))) aD)))))))))),?_⟩
 try dsimp only [aR,bA]
 cases o with
|none =>
  cases (show G=.non from of);w_on;exact q _ (aJ.refl _)
|some f =>
  obtain ⟨R,rfl,X⟩:=id (show cA H G f from of);cases p with
 |none =>
   cases (show D=.non from b);w_on;exact q _ (aJ.refl _)
 |some g =>
   obtain ⟨B,rfl,Y⟩:=id (show cA H D g from b);w_on;apply ⟨.ref R,S,f,T,rfl,of,N,(J f rfl).mono (by decide),I.mono (by decide),fun v W O C=>?_⟩;apply ⟨.ref B,v,g,f+T,rfl,(show cA H (.ref B) g from b).tk C.tk,O,(U g rfl).mono (by decide),(Sz.add (J f rfl) I).mono (by decide),?_⟩;exact q _ C
include o1t o1h o1u o1i o1d in
theorem qO:bZ P w K mg base (k+1) "ending_by_falls" ["run","moments"] Cq:=by
 refine bZ.of vE.d23 eP (by walk_at "ln") fun f ui A outer s H vs Q E B h=>?_;obtain ⟨pr,dd,a,b,u,T,kd,D,C,W,X,rfl,hpr,fT,hd,ea,S,eb,U,hT,Y,za,zb,q⟩:=h;refine ⟨_,(aE (dU 2 eP.nd (aW B.u1 (pv 1) (aN aQ (pv 0) aF)))
   (aE (dU 3 eP.nd (aW B.u1 (pv 1) (aN aQ (pv 0) aF)))
   (aE (bV (PW.pt (jH (aY mU (pv 2) dZ) (fU (aY mU (pv 3) dZ)))) (aH (aS (bH (aA aP aD)))) bE)
   (aE (bV (cS (aI o1d B rfl (aA (pv 2) (aA (aN aQ (pv 0) aF) (aA (pv 3) aD))))) (aH (aS (bH (aA aP (aA (aN aQ (pv 0) aF) (aA (aI o1t B rfl (aA (pv 2) (aA (aN aQ (pv 0) aF) aD))) aD)))))) bE)
   (aE (bV (cS (aI o1d B rfl (aA (pv 3) (aA (aN aQ (pv 0) aF) (aA (pv 2) aD))))) (aH (aS (bH (aA aP (aA (aN aQ (pv 0) aF) (aA (aI o1t B rfl (aA (pv 3) (aA (aN aQ (pv 0) aF) aD))) aD)))))) bE)
   (aE (dU 4 eP.nd (aI o1u B rfl (aA (aI o1t B rfl (aA (aI o1t B rfl (aA (pv 2) (aA (pv 3) aD))) (aA (aN aQ (pv 0) aF) aD))) (aA (bH (aA aF (aA aF aD))) aD))))
   (aH (aS (bH (aA aP (aA (pv 4) (aA (aI o1i B rfl (aA (aI o1h B rfl (aA (pv 4) (aA (pv 2) aD))) (aA (aN aQ (pv 0) aF) aD))) aD)))))))))))),?_⟩
 try dsimp only [aR,bA]
 have hT0:T≠0:=S8 hT;refine kY ?_
 walk_at "gos"
 refine cJ (.inl hd) ea ?_
 walk_at "gos"
 refine xC ?_;refine kY ?_
 walk_at "gos"
 refine cJ (.inl hd) eb ?_
 walk_at "gos"
 refine xC ?_;refine kY ?_;refine uQ (fun σ G=>σ=[some (.ref pr),some (.ref dd),some W,some X,none]/\G=H/\¬ (D=none/\C=none)) ?_ ?_
 ·rintro σ G ⟨rfl,rfl,hc⟩
  unfold fF at q;rw [if_neg hc] at q;w_on;refine ⟨W,u,X,D,T,C,rfl,S,fT,U,Y,za,zb,fun H1 I=>?_⟩;have hpr1:=I _ _ hpr;by_cases N:RJ D T C=true
  ·rw [if_pos N] at q
   obtain ⟨f,rfl⟩:∃ f,D=some f:=by
    cases D with
   |none=>cases N
   |some f=>exact ⟨f,rfl⟩
   obtain ⟨R,rfl,hf⟩:=id (show cA H1 W f from S.tk I.tk);rw [N];w_on;apply ⟨.ref R,u,f,T,rfl,S.tk I.tk,fT.tk I.tk,(za f rfl).mono (by decide),Y.mono (by decide),fun v Z fv m=>?_⟩;apply bC fun p3 i=>?_;exact q _ _ ⟨p3,v,rfl,aC,fv.tk (TK.new i)⟩ ((I.trans m).trans (aJ.new i))
  ·rw [if_neg N] at q
   rw [Bool.not_eq_true] at N;rw [N];w_on;refine ⟨X,u,W,C,T,D,rfl,U.tk I.tk,fT.tk I.tk,S.tk I.tk,Y,zb,za,fun Z m=>?_⟩;replace m:=I.trans m;have M:=m _ _ hpr;by_cases O:RJ C T D=true
   ·rw [if_pos O] at q
    obtain ⟨g,rfl⟩:∃ f,C=some f:=by
     cases C with
    |none=>cases O
    |some f=>exact ⟨f,rfl⟩
    obtain ⟨pg,rfl,hg⟩:=id (show cA Z X g from U.tk m.tk);rw [O];w_on;apply ⟨.ref pg,u,g,T,rfl,U.tk m.tk,fT.tk m.tk,(zb g rfl).mono (by decide),Y.mono (by decide),fun v H3 fv s3=>?_⟩;apply bC fun p3 i=>?_;exact q _ _ ⟨p3,v,rfl,aC,fv.tk (TK.new i)⟩ ((m.trans s3).trans (aJ.new i))
   ·rw [if_neg O] at q
    rw [Bool.not_eq_true] at O;obtain ⟨f,g,rfl,rfl⟩:∃ f g,D=some f/\C=some g:=by
     cases D with
    |none =>
      cases C with
     |none=>exact absurd ⟨rfl,rfl⟩ hc
     |some g=>cases O
    |some f =>
      cases C with
     |none=>cases N
     |some g=>exact ⟨f,g,rfl,rfl⟩
    have zf:=za f rfl;have zg:=zb g rfl;obtain ⟨R,rfl,hf⟩:=id (show cA Z W f from S.tk m.tk);obtain ⟨pg,rfl,hg⟩:=id (show cA Z X g from U.tk m.tk);have ff:cA Z (.ref R) f:=⟨R,rfl,hf⟩
    have fg:cA Z (.ref pg) g:=⟨pg,rfl,hg⟩
    rw [O];w_on;refine ⟨.ref R,.ref pg,f,g,rfl,ff,fg,zf.mono (by decide),zg.mono (by decide),fun v H3 fv s3=>?_⟩;have z1:=Sz.add zf zg;have hpr3:=s3 _ _ M;w_on;refine ⟨v,u,f+g,T,rfl,fv,(fT.tk m.tk).tk s3.tk,z1.mono (by decide),Y.mono (by decide),fun v4 H4 f4 s4=>?_⟩;have z2:=Sz.add z1 Y;w_on;refine bC fun p5 hp5=>?_;have s5:=aJ.new (o:=.tup [.int 1,.int 2]) hp5;have f5:cA (L2.upd H4 p5 (.tup [.int 1,.int 2])) (.ref p5) (1 / 2):=⟨p5,rfl,by rw [show ((1 / 2:Rat)).num=1 by k_is,show ((1 / 2:Rat)).den=2 by k_is]; exact aC⟩
    have f4':=f4.tk s5.tk;generalize L2.upd H4 p5 (.tup [.int 1,.int 2])=H5 at s5 f5 f4' ⊢;have zh:Sz 10 (1 / 2:Rat):=⟨by k_is,by k_is⟩
    w_on;refine ⟨v4,.ref p5,_,_,rfl,f4',f5,z2.mono (by decide),zh.mono (by decide),fun v6 H6 f6 s6=>?_⟩;have z6:=Sz.mul z2 zh;have J:=(s3.trans (s4.trans s5)).trans s6;have hpr6:=J _ _ M;w_on;refine ⟨v6,.ref R,_,f,rfl,f6,ff.tk J.tk,z6.mono (by decide),zf.mono (by decide),fun v7 H7 f7 s7=>?_⟩;have hpr7:=s7 _ _ hpr6;have z7:=Sz.sub z6 zf;w_on;apply ⟨v7,u,_,T,rfl,f7,((fT.tk m.tk).tk J.tk).tk s7.tk,z7.mono (by decide),Y.mono (by decide),hT0,fun v8 H8 f8 s8=>?_⟩;apply bC fun p9 hp9=>?_;have t9:=TK.new (o:=.tup [.str "met",v6,v8]) hp9;exact q _ _ ⟨p9,v6,v8,rfl,aC,((f6.tk s7.tk).tk s8.tk).tk t9,f8.tk t9⟩ (((m.trans J).trans (s7.trans s8)).trans (aJ.new hp9))
 ·intro NX hNX
  cases D with
 |none =>
   cases (show W=.non from S);cases C with
  |none =>
    cases (show X=.non from U);w_on;apply bC fun p3 i=>?_;exact q _ _ ⟨p3,rfl,aC⟩ (aJ.new i)
  |some g =>
    obtain ⟨pg,rfl,hg⟩:=id (show cA H X g from U);w_on;exact hNX _ _ ⟨rfl,rfl,fun z=>nomatch z.2⟩
 |some f =>
   obtain ⟨R,rfl,hf⟩:=id (show cA H W f from S);w_on;exact hNX _ _ ⟨rfl,rfl,fun z=>nomatch z.1⟩
theorem CH:bZ P w K mg base (k+1) "moment_of" ["ending"] Cm:=by
 refine bZ.of vE.d24 BU (by walk_at "ln") fun f o A i s H C Q E m h=>?_;obtain ⟨v,e,rfl,g,q⟩:=h;refine ⟨_,(aE (bV (aY (eX m.units) (aN aQ (pv 0) aF) aP) (aH (aS dZ)) bE)
   (aH (aS (xG (aY (eX m.units) (aN aQ (pv 0) aF) aP) (aN aQ (pv 0) aF) (aN aQ (pv 0) aF))))),?_⟩
 try dsimp only [aR,bA]
 cases e with
|stands =>
  obtain ⟨p,rfl,hp⟩:=g;w_on;apply qS (beq_self_eq_true _) ?_;exact q _ rfl
|swept s t =>
  obtain ⟨p,u,rfl,hp,b⟩:=g;w_on;apply fO (by k_is) ?_;apply qS (beq_self_eq_true _) ?_;exact q _ b
|met t s =>
  obtain ⟨p,u,w,rfl,hp,b,B⟩:=g;w_on;apply fO (by k_is) ?_;apply fO (by k_is) ?_;exact q _ b
|taken t =>
  obtain ⟨p,u,rfl,hp,b⟩:=g;w_on;apply fO (by k_is) ?_;apply fO (by k_is) ?_;exact q _ b
include o1k o0d o0w in
theorem CK:bZ P w K mg base (k+1) "ending_by" ["run","moments","taken"] SW:=by
 refine bZ.of vE.d25 mN (by walk_at "ln") fun f ui A J s H vs Q E I h=>?_;obtain ⟨pr,dd,W,a,b,u,T,kd,O,R,tk,va,vb,rfl,G,fT,hd,ea,qa,eb,qb,S,hT,X,Y,Z,zt,q⟩:=h;refine ⟨_,(aE (dU 3 mN.nd (aI o0d I rfl (aA (pv 0) (aA (pv 1) aD))))
   (aE (dU 4 mN.nd (aI o0w I rfl (aA (pv 3) aD)))
   (aE (bV (PW.pt (jH (aY jZ (pv 2) dZ) (fU (PW.pt (nN (aY mU (pv 4) dZ) (jG (cS (aI o1k I rfl (aA (pv 2) (aA (pv 4) aD)))))))))) (aH (aS (bH (aA aP (aA (pv 2) aD))))) bE)
   (aH (aS (pv 3)))))),?_⟩
 try dsimp only [aR,bA]
 have ze:=WZ (a:=a) (b:=b) X Y Z;w_on;refine ⟨pr,dd,a,b,u,T,kd,O,R,va,vb,rfl,G,fT,hd,ea,qa,eb,qb,hT,X,Y,Z,fun ve B C o=>?_⟩;generalize fF a b O R T=e at ze C q;w_on;apply ⟨ve,e,rfl,C,fun U m=>?_⟩;cases tk with
|none =>
  cases (show W=.non from S);w_on;exact q _ _ C o
|some w =>
  have i:=S.tk o.tk;obtain ⟨N,rfl,hw⟩:=id (show cA B W w from i);cases ee:fP e with
 |none =>
   rw [ee] at m;cases (show U=.non from m);w_on;apply bC fun M g=>?_;refine q _ _ ?_ (o.trans (aJ.new g));show RH _ _ (if qE w (fP e)=true then _ else _);rw [ee,show qE w none=true from rfl,if_pos rfl];exact ⟨M,_,rfl,aC,(show cA B (.ref N) w from i).tk (TK.new g)⟩
 |some t =>
   rw [ee] at m;obtain ⟨pm,rfl,hm⟩:=id (show cA B U t from m);w_on;apply ⟨.ref N,.ref pm,w,t,rfl,i,m,(zt w rfl).mono (by decide),(ze t ee).mono (by decide),?_⟩;replace q:∀ v D,RH D v (if qE w (fP e)=true then .taken w else e)->aJ H D->Q v D:=q;rw [ee] at q;refine rC (fun c=>?_) (fun c=>?_)
   ·w_on
    apply bC fun M g=>?_;refine q _ _ ?_ (o.trans (aJ.new g));rw [show qE w (some t)=true from decide_eq_true c,if_pos rfl];exact ⟨M,_,rfl,aC,(show cA B (.ref N) w from i).tk (TK.new g)⟩
   ·w_on
    refine q _ _ ?_ o;rw [show qE w (some t)=false from decide_eq_false c,if_neg h7];exact C
include d_ending_of o0f o0i o0v in
theorem CJ:uG P w K mg base (k+1) "ending_of" ["net","pushes","number","takings"] [.non] 3 ["takings"] (SV w):=by
 refine uG.of d_ending_of rN (by walk_at "ln") fun f ui A ai s H vs Q E N h=>?_;obtain ⟨l,n,lp,ps,vt,O,DD,MM,U,B,r,rfl,b,ad,m,hR,hU,X,J,zB,zT,q⟩:=h;refine ⟨_,(aE (dU 4 rN.nd (aI o0i.f N rfl (aA (pv 0) (aA (pv 1) (aA (pv 3) aD)))))
   (aH (aS (aI o0v N rfl (aA (aN aQ (pv 0) (pv 2)) (aA (pv 4) (aA (rZ N.u1 (aI o0f N rfl (aA (JD (pv 3) (lI (cI aD))) aD)) (pv 2) ⟨rfl,rfl,rfl,rfl⟩) aD))))))),?_⟩
 try dsimp only [aR,bA]
 obtain ⟨vn,ae,aj⟩:=id b.lq;have Z:(kn n)[B]?=some (a9 r.1,a9 r.2.1,r.2.2):=by
  unfold kn;rw [i7,J];rfl
 have i:=i3 J;obtain ⟨vr,af,pr,u,rfl,ac,ft⟩:=tQ aj Z;have bT:=b.bd _ (j1.mpr ⟨r,i,rfl⟩);have pT:(0:Rat) < r.2.2:=b.pos _ (j1.mpr ⟨r,i,rfl⟩);have S:r.1∈names n:=z9 _ (j1.mpr ⟨r,i,rfl⟩);have W:r.2.1∈names n:=o0 _ (j1.mpr ⟨r,i,rfl⟩);w_on;refine ⟨l,n,lp,ps,vt,O,DD,MM,U,rfl,b,ad,m,hR,hU,X,fun d H1 F ys _ s1 dq fo bF nd ah=>?_⟩;obtain ⟨kd,Y,qd⟩:=dq;have zF:∀ p f,bS F p=some f->Sz 400 f:=fun p f e=>by
  unfold bS at e;rw [j7] at e;obtain ⟨x,C,rfl⟩:=e;exact zB _ (bF _ (bU C))
 have G:∀ y∈names n,∃ v,bJ kd (a9 y)=some v/\eI H1 v (bS F (a9 y)):=fun y hy=>by
  have e0:aV (ys.map fun y=>((a9 y:aM),bS F (a9 y))) (a9 y)=some (bS F (a9 y)):=cZ (by
   rw [L1];exact L9.mpr (nd.imp fun h e=>h (Q6 e))) (j1.mpr ⟨y,(ah y).mpr hy,rfl⟩)
  rcases qd.val (k:=a9 y) with ⟨_,g⟩|⟨v1,r1,C,g,R⟩
  ·rw [e0] at g
   cases g
  ·rw [e0] at g
   cases g;exact ⟨v1,C,R⟩
 obtain ⟨va,ea,qa⟩:=G r.1 S;obtain ⟨vb,eb,qb⟩:=G r.2.1 W;w_on;apply gI (s1 _ _ ae) (fX af) ?_;apply UI (m.sm s1) fun lt H2 s2 ag=>?_;refine ⟨lt,O,rfl,ag,u8 m.len (by decide),m.sz,fun dT H3 _ s3 tq=>?_⟩;obtain ⟨M,I,qt⟩:=tq;apply ⟨dT,rfl,.inl ⟨M,.inl I⟩,?_⟩;refine ⟨bJ M (c7 (B:Int)),.inl ⟨M,c7 (B:Int),.inl I,rfl,rfl⟩,?_⟩;have ot:eI H3 ((bJ M (c7 (B:Int))).getD .non) (bM O B):=by
  unfold bM;rcases qt.val (k:=c7 (B:Int)) with ⟨C,g⟩|⟨v1,r1,C,g,R⟩
  ·rw [C,g]
   rfl
  ·rw [C,g]
   exact R
 have zt:∀ f,bM O B=some f->Sz 400 f:=fun f e=>zT _ (jQ (bU e));generalize (bJ M (c7 (B:Int))).getD .non=vk at ot ⊢;have o:=s2.trans s3;have D:=s1.trans o;w_on;apply ⟨pr,d,vk,r.1,r.2.1,u,r.2.2,kd,_,_,_,va,vb,rfl,D _ _ ac,ft.tk D.tk,o _ _ Y,ea,qa.tk o.tk,eb,qb.tk o.tk,ot,pT,zB _ (bT.mono (by lia)),zF _,zF _,zt,fun v H4 lv s4=>?_⟩;exact q v H4 F (D.trans s4) fo zF lv
theorem JI:bZ P w K mg base (k+1) "_law_cell_at" ["_law_script","_law_k"] (TD K):=by
 refine bZ.of vE.d27 IZ (by walk_at "ln") fun f m A b s H G Q E C h=>?_;obtain ⟨a,i,D,rfl,g,o,q⟩:=h;refine ⟨_,(aE (bV (aY sK (pv 1) (bD iL rfl T.z_len eY (aA (pv 0) aD))) (aH (aS (aN aQ (pv 0) (pv 1)))) bE)
   (aH (aS aF))),?_⟩
 try dsimp only [aR,bA]
 w_on;apply CA g ?_;refine rC (fun c=>?_) (fun c=>?_)
 ·rw [g7] at c
  obtain ⟨z,_,B⟩:=Ql (ns:=i) o c;w_on;apply Mc g B ?_;exact q z
 ·w_on
  exact q 0
theorem VR:bZ P w K mg base (k+1) "_law_mixed" ["_law_cell","_law_k"] zU:=by
 refine bZ.of vE.d28 wR (by walk_at "ln") fun f D A m s H U Q E R h=>?_;obtain ⟨c,g,rfl,N,O,q⟩:=h;refine ⟨_,(aE (dU 2 wR.nd (aK bY (aK cX (aK bP (aK bP (aK bP (aK bY (pv 0) aF) (aK cX (aK cX aF (pv 1)) (pv 1))) (pv 1)) aF) aF) aF))
   (aE (dU 2 wR.nd (aK bY (aK bP (aK cX (pv 2) (pv 2)) (aK cX aF (pv 1))) aF))
   (aH (aS (aK bY (aK cX (aK cX (pv 2) (pv 2)) aF) (aK bP (aK qM aF aF) aF)))))),?_⟩
 try dsimp only [aR,bA]
 w_on;generalize (c % 1000000007+7919 * g * g+g+1) * 48271=o;have I:=m8 o (show (2147483629:Int)≠0 by decide);have J:=j9 o (show (0:Int) < 2147483629 by decide);generalize o % 2147483629=C at *;w_on;generalize C * C+69621 * g=B;have i:=m8 B (show (2147483587:Int)≠0 by decide);have M:=j9 B (show (0:Int) < 2147483587 by decide);generalize B % 2147483587=b at *;w_on;have S:b * b < 2 ^ 64:=by
  have:=mi (show b<=2147483587 by lia) (show b<=2147483587 by lia) i (by decide);lia
 have G:0<=b * b:=Int.mul_nonneg i i;generalize b * b=W at *;w_on;apply ZF ?_;exact q _
include o1j o1r in
theorem PR:bZ P w K mg base (k+1) "_law_number" ["_law_script","_law_k"] (LD K):=by
 refine bZ.of vE.d29 AC (by walk_at "ln") fun f I A m s H M Q E b h=>?_;obtain ⟨a,C,i,rfl,B,g,o,q⟩:=h;refine ⟨_,(aE (dU 2 AC.nd (aI o1j b rfl (aA (pv 0) (aA (pv 1) aD))))
   (aE (bV (PW.pt (jH (aY (eX b.units) (aK bY (aI o1j b rfl (aA (pv 0) (aA aF aD))) aF) aF) (fU (aY GU (bD XN rfl T.z_abs KB (aA (pv 2) aD)) (aK qM aF aF))))) (aH (aS (pv 2))) bE)
   (aH (aS (aI o1r b rfl (aA (pv 2) (aA (pv 1) aD))))))),?_⟩
 try dsimp only [aR,bA]
 w_on;apply ⟨a,C,i,rfl,B,g,fun D=>?_⟩;apply ⟨a,C,0,rfl,B,dh 0,fun J=>?_⟩;refine rC (fun c=>?_) (fun c=>?_)
 ·w_on
  refine rC (fun G=>?_) (fun G=>?_)
  ·w_on
   exact q _
  ·w_on
   apply ⟨D,i,rfl,g,o,fun r=>?_⟩;exact q _
 ·w_on
  apply ⟨D,i,rfl,g,o,fun r=>?_⟩;exact q _
theorem Hq:bZ P w K mg base (k+1) "_law_low" ["_law_top","_law_bottom"] FH:=by
 refine bZ.of vE.d30 BV (by walk_at "ln") fun f O A G s H vs Q E hr h=>?_;obtain ⟨t,b,rfl,hb,ac,D,q⟩:=h;refine ⟨_,(aE (dU 2 BV.nd (bD XN rfl T.z_abs KB (aA (pv 0) aD)))
   (aE (dU 3 BV.nd (pv 1))
   (aE (rV n9 (aY VM (pv 3) aF) (aH (Hb rfl BV.nd (i:=2) (j:=3) rfl rfl (by decide) rfl rfl (aA (pv 3) (aA (aK bY (pv 2) (pv 3)) aD)) rfl)))
   (aH (aS (bH (aA (aK bN (pv 0) (pv 2)) (aA (aK bN (pv 1) (pv 2)) aD)))))))),?_⟩
 try dsimp only [aR,bA]
 w_on;refine vW (fun o I=>∃ m g:Int,o=[some (.int t),some (.int b),some (.int m),some (.int g)]/\I=H/\0<=m/\0<=g/\i8 m g=i8 t b)
  (fun o _=>match o with|[_,_,_,some (.int z)]=>z.toNat|_=>0) ⟨_,_,rfl,rfl,by split <;> lia,by lia,?_⟩ ?_ ?_
 ·have e:(if t < 0 then -t else t)=(t.natAbs:Int):=by split <;> lia
  rw [e];simp [i8]
 ·rintro o I ⟨m,g,rfl,rfl,h1,X,M⟩
  w_on;refine rC (fun c=>?_) (fun c=>?_)
  ·w_on
   refine ⟨⟨_,_,rfl,rfl,X,m8 _ (by lia),by rw [WU c]; exact M⟩,?_⟩;have:=j9 m c;show (m % g).toNat < g.toNat;lia
  ·have e:g=0:=by lia
   subst e;have C:b≠0:=by lia
   have B:m=(i8 t b:Int):=by rw [← M,Int.gcd_zero_right]; lia
   have Z:(i8 t b:Int).natAbs<=b.natAbs:=by
    have:=ld (by lia) (mz t b);lia
   have W:(i8 t b:Int)=sg t b:=by unfold sg; rw [if_neg (by lia)]
   subst B;w_on;rw [W];have J:∀ z,pC z (sg t b):=fun _=>⟨FZ C,Sm.le (by rw [tI]; lia) D⟩
   apply iP (J _) ?_;apply iP (J _) ?_;apply bC fun p hp=>?_;exact q p hp
 ·intro o H Q Q' Y h
  obtain ⟨v,B,i,j,R,S,N,U,q'⟩:=h;exact ⟨v,B,i,j,R,S,N,U,Y _ _ q'⟩
theorem VQ:bZ P w K mg base (k+1) "_law_posts" ["_law_number_here"] zQ:=by
 refine bZ.of vE.d31 dX (by walk_at "ln") fun f ui A outer s H vs Q E hr h=>?_;obtain ⟨c,rfl,q⟩:=h;refine ⟨_,(aE (dU 1 dX.nd aP)
   (aE (dU 2 dX.nd (aK bP aF (aK bY (pv 0) aF)))
   (aE (dU 3 dX.nd (aK bY (aK bN (pv 0) aF) aF))
   (aE (dU 0 dX.nd (aK bN (pv 0) aF))
   (aE (dU 4 dX.nd aP)
   (aE (fD n9 rfl (jU rfl T.z_range (aA (pv 3) aD)) (nZ 5 dX.nd) (aE (dU 4 dX.nd (aK bP (pv 4) (aN aQ (pv 1) (aK bY (pv 0) aF))))
   (aH (dU 0 dX.nd (aK bN (pv 0) aF)))))
   (aE (dU 6 dX.nd (aK bY (pv 0) (aK bP (pv 3) aF)))
   (aE (dU 0 dX.nd (aK bN (pv 0) aF))
   (aE (dU 7 dX.nd (cI aD))
   (aE (fD n9 rfl (jU rfl T.z_range (aA (pv 2) aD)) (nZ 5 dX.nd) (aE (dU 8 dX.nd (aN aQ (cI (aA aP (aA aP (aA aP (aA aP (aA aP (aA aP aD))))))) (aK bY (aK bP (aK bN (pv 0) aF) (pv 5)) aF)))
   (aE (dU 9 dX.nd (aN aQ (pv 1) (aK bY (aK bP (pv 0) (aK cX aF (pv 5))) aF)))
   (aH (dJ (jD y9 l7 l0 cL (pv 7) (aA (aK bP (aK bP (aK bP (GQ TH (pv 4) MU (MT (pv 6))) (pv 9)) (GQ TH (pv 4) (MT (pv 6)) MU)) (pv 8)) aD)))))))
   (aH (aS (pv 7))))))))))))),?_⟩
 try dsimp only [aR,bA]
 have Y:On.length<=100000:=by rw [Bq]; decide
 w_on;have a0:=m8 c (show (7:Int)≠0 by decide);have a1:=j9 c (show (0:Int) < 7 by decide);have b0:=m8 (c.fdiv 7) (show (8:Int)≠0 by decide);have b1:=j9 (c.fdiv 7) (show (0:Int) < 8 by decide);generalize c % 7=J at *;generalize c.fdiv 7 % 8=B at *;generalize c.fdiv 56=num0;refine pH (by lia) (by lia) ?_;refine pI (n:=B.toNat) (fun i S G=>∃(C:Int)(z:Str)(R:Option V),S=[some (.int C),some (.str On),some (.int (2+J)),some (.int B),some (.str z),R,none,none,none,none]/\G=H/\z.length=i/\Ox (cl z)) ⟨num0,_,_,rfl,rfl,by k_is,fun c h=>by have h':c∈([]:List Nat):=h; cases h'⟩ ?_ ?_
 ·intro P' rt' bk' M
  rintro i S G hi ⟨C,z,R,rfl,rfl,hz,W⟩;obtain ⟨j,hj,ej⟩:∃ j:Nat,j < 26/\C % 26=(j:Int):=⟨(C % 26).toNat,by lia,by lia⟩
  w_on;rw [ej];refine Dh Y (XY j hj) ?_;have h1:(⟨#[97+j]⟩:Str).length=1:=rfl;refine CB (by rw [h1]; lia) ?_;w_on;refine M _ _ _ ⟨_,_,_,rfl,rfl,by rw [vL,h1]; lia,fun c D=>?_⟩;rw [DS] at D;rcases m9.mp D with h|h
  ·exact W c h
  ·have h':c∈[97+j]:=h
   rw [f9.mp h'];lia
 rintro S G ⟨C,z,R,rfl,rfl,hz,W⟩;w_on;apply dA fun ln O=>?_;have p0:=m8 C (show B+1≠0 by lia);have p1:=j9 C (show 0 < B+1 by lia);generalize C % (B+1)=g at *;generalize C.fdiv 8=m;have e1:=Lc (z:=z) (i:=g) p0 (by lia);have e2:=YV (z:=z) (i:=g) p0 (by lia);have hy1:=oy z none (some g);have hy2:=oy z (some g) none;refine pH (by lia) (by lia) ?_;refine pI (n:=(2+J).toNat) (fun i S X=>∃(U:List Str)(R o8 o9:Option V),S=[some (.int m),some (.str On),some (.int (2+J)),some (.int B),some (.str z),R,some (.int g),some (.ref ln),o8,o9]/\Kp ln G X/\X ln=some (.lst (U.map V.str))/\U.length=i/\Kg ((cl z).take g.toNat) m U/\∀ x∈U,Nq x/\Eo x) ⟨[],_,_,_,rfl,Kp.new O,aC,rfl,fun k x h=>(by simp at h),fun x h=>nomatch h⟩ ?_ ?_
 ·intro P' rt' bk' M
  rintro i S X hi ⟨U,R,o8,o9,rfl,kp,I,N,hD,hN⟩;w_on;apply xD fun l6 G2 hl6 s1 Z=>?_;obtain ⟨t,et,ht,ht2,ht3⟩:=at6 ((m.fdiv 26+(0+(i:Int))) % 6) (m8 _ (by decide)) (j9 _ (by decide));refine gI Z et ?_;obtain ⟨j,hj,ej⟩:∃ j:Nat,j < 26/\(m+3 * (0+(i:Int))) % 26=(j:Int):=⟨((m+3 * (0+(i:Int))) % 26).toNat,by lia,by lia⟩
  w_on;rw [ej];refine Dh Y (XY j hj) ?_;have h1:(⟨#[97+j]⟩:Str).length=1:=rfl;have hG2:=s1 _ _ I;w_on;apply UH (by lia) ?_;apply CB (by lia) ?_;apply UH (by lia) ?_;refine CB (by rw [vL]; lia) ?_;w_on;refine CB (by rw [vL,vL]; lia) ?_;have en:cl (W9 z none (some g)++(⟨#[97+j]⟩:Str)++W9 z (some g) none++t)=(cl z).take g.toNat++(97+j)::((cl z).drop g.toNat++cl t):=by
   rw [DS,DS,DS,e1,e2,K4,K4];rfl
  generalize W9 z none (some g)++(⟨#[97+j]⟩:Str)++W9 z (some g) none++t=nm at en ⊢;w_on;refine gJ (s1 _ _ I) (by rw [g7]; lia) ?_;w_on;refine M _ _ _ ⟨U++[nm],_,_,_,rfl,(kp.trans s1.kp).trans Kp.upd,by rw [u7]; exact aC,by rw [i9,N]; rfl,hD.snoc (by rw [en,N,show ((m+3 * (i:Int)) % 26).toNat=j by lia]),fun x hx=>?_⟩;rcases m9.mp hx with h|h
  ·exact hN x h
  ·rw [f9.mp h]
   have hzl:(cl z).length<=7:=by rw [yJ]; lia
   exact ⟨Nm en (fun c D=>W c (cq D)) (by lia) (fun c D=>W c (qh D)) ht2,Hu en (fun c D=>W c (cq D)) (by lia) (fun c D=>W c (qh D)) (by rw [av,sx]; lia) ht3 (by lia)⟩
 rintro S X ⟨U,R,o8,o9,rfl,kp,I,N,hD,hN⟩;w_on;exact q ln X U O (fun b o h=>kp _ _ (aB h O) h) I (by lia) (by lia) (hD.nodup (by lia)) (fun x hx=>(hN x hx).1) (fun x hx=>(hN x hx).2)
theorem Ai:bZ P w K mg base (k+1) "_law_time" ["_law_number_here"] EY:=by
 refine bZ.of vE.d32 YY (by walk_at "ln") fun f m A g s H N Q E G h=>?_;obtain ⟨c,rfl,q⟩:=h;refine ⟨_,(aH (aS (aK bP aF (aK bY (aK bN (pv 0) aF) (aN aQ (cI (aA aF (aA aF (aA aF (aA (aK qM aF aF) aD))))) (aK bY (pv 0) aF)))))),?_⟩
 try dsimp only [aR,bA]
 w_on;apply rR ?_;apply xD fun I D B C b=>?_;obtain ⟨t,o,i⟩:=Ph (x0:=9) (x1:=9) (x2:=1000) (x3:=1000000000000000000000000000000) (fun z=>0 < z/\z<=10 ^ 31) (by decide) (by decide) (by decide) (by decide) (c % 4) (m8 _ (by decide)) (j9 _ (by decide));refine gI b o ?_;refine oK i.1 ?_;have J:=m8 (c.fdiv 4) (show t≠0 by lia);have M:=j9 (c.fdiv 4) i.1;generalize c.fdiv 4 % t=z at *;w_on;exact q _ _ C (by lia) (by lia)
include o1p o1s o2b in
theorem Al:bZ P w K mg base (k+1) "_law_here" ["_law_script","_law_most"] (FN K):=by
  refine bZ.of vE.d33 fS (by walk_at "ln") fun f ui A outer s H vs Q E hr h=>?_;obtain ⟨a,ns,rfl,hS,h63,q⟩:=h;refine ⟨_,(aE (dU 2 fS.nd (aI o1s hr rfl (aA (aI o1p hr rfl (aA (pv 0) (aA aF aD))) aD)))
      (aE (dU 3 fS.nd (aI o1p hr rfl (aA (pv 0) (aA aF aD))))
      (aE (dU 3 fS.nd (aK bP aF (aK bY (aK bN (pv 3) aF) (aN aQ (cI (aA aF (aA aF (aA aF (aA (aK qM aF aF) aD))))) (aK bY (pv 3) aF)))))
      (aE (dU 4 fS.nd (Ac (oM aP (pv 2) (oM aP (pv 3) (oM aP (cI aD) (oM aP (cI aD) (oM aP (cI aD) ZZ))))) rfl rfl (List.cons_ne_nil _ _) (v9 rfl)))
      (aE (fD n9 rfl (AJ rfl T.z_range (aA aF (aA (bD (OE rfl) rfl T.z_max DV (aA aF (aA (bD (OD rfl) rfl T.z_min DU (aA (bD iL rfl T.z_len eY (aA (pv 0) aD)) (aA (pv 1) aD))) aD))) aD))) (nZ 5 fS.nd) (aE (dU 6 fS.nd (aI o1p hr rfl (aA (pv 0) (aA (pv 5) aD))))
      (aE (dU 7 fS.nd (aK bY (pv 6) aF))
      (aE (dU 8 fS.nd (aK bY (aK bN (pv 6) aF) (bD iL rfl T.z_len eY (aA (pv 2) aD))))
      (aE (dU 9 fS.nd (aK bY (aK bP (aK bP (pv 8) aF) (aK bY (aK bN (pv 6) aF) (aK xI (bD iL rfl T.z_len eY (aA (pv 2) aD)) aF))) (bD iL rfl T.z_len eY (aA (pv 2) aD))))
      (aH (bV (PW.pt (nN (aY sK (pv 7) aF) (jG (aY (eX hr.units) (aW hr.u1 (pv 4) aP) (cI aD))))) (aH (dJ (jD y9 l7 l0 cL (aW hr.u1 (pv 4) aP) (aA (bH (aA (pv 8) (aA (pv 9) (aA (aI o2b hr rfl (aA (aK bN (pv 6) aF) aD)) aD)))) aD)))) (aH (bV (aY sK (pv 7) aF) (aE (dU 10 fS.nd (aK bY (aK bN (pv 6) aF) (aN aQ (cI (aA aF (aA aF (aA aF (aA (aK qM aF aF) aD))))) (aK bY (aK bN (pv 6) aF) aF))))
      (aH (dJ (jD y9 l7 l0 cL (aW hr.u1 (pv 4) aP) (aA (bH (aA (pv 8) (aA (pv 10) aD))) aD))))) (aE (dU 10 fS.nd (aK bY (aK bN (pv 6) aF) (aN aQ (cI (aA aF (aA aF (aA aF (aA (aK qM aF aF) aD))))) (aK bY (pv 9) aF))))
      (aH (dJ (jD y9 l7 l0 cL (aW hr.u1 (pv 4) aP) (aA (bH (aA (aK bY (aK bN (pv 6) aF) (bD iL rfl T.z_len eY (aA (aW hr.u1 (pv 4) aP) aD))) (aA (pv 10) aD))) aD))))))))))))))
      (aH (aS (pv 4)))))))),?_⟩
  try dsimp only [aR,bA]
  w_on;apply ⟨a,ns,1,rfl,hS,by decide,by decide,fun r1=>?_⟩;apply ⟨r1,rfl,fun ln H1 U hln s1 hU hU2 hU8 hUd hUq hUs=>?_⟩;apply ⟨a,ns,2,rfl,s1.seq hS,by decide,by decide,fun r2=>?_⟩;apply ZG ?_;refine dA fun l4 hl4=>?_;have s2:=s1.trans (aJ.new (o:=.lst [V.int 1,V.int 12,V.int 60,V.int 1000000000000]) hl4);have W:=aL (o:=.lst [V.int 1,V.int 12,V.int 60,V.int 1000000000000]) hl4 hU;have O:=aC (H:=H1) (a:=l4) (o:=.lst [V.int 1,V.int 12,V.int 60,V.int 1000000000000]);generalize L2.upd H1 l4 (.lst [V.int 1,V.int 12,V.int 60,V.int 1000000000000])=H2 at s2 O W ⊢;w_on;obtain ⟨t,et,ht⟩:=Ph (x0:=1) (x1:=12) (x2:=60) (x3:=1000000000000) (fun z=>0 < z/\z<=10 ^ 12) (by decide) (by decide) (by decide) (by decide) (r2 % 4) (m8 _ (by decide)) (j9 _ (by decide));refine gI O et ?_;refine oK ht.1 ?_;have m0:=m8 (r2.fdiv 4) (show t≠0 by lia);have m1:=j9 (r2.fdiv 4) ht.1;generalize r2.fdiv 4 % t=z at *;w_on;generalize hu:1+z=u;have u0:0 < u:=by lia
  have u1:u<=10 ^ 12:=by lia
  clear O et hU m0 m1 ht hu;refine ZO fun Y hdd=>?_;have sd:=aJ.new (o:=.dK []) hdd;w_on;apply dA fun lr R=>?_;apply dA fun Z J=>?_;refine dA fun lt M=>?_;have hlr2:H2 lr=none:=sd.free R;have sr:=sd.trans (aJ.new (o:=.lst []) R);have hlp2:H2 Z=none:=sr.free J;have sp:=sr.trans (aJ.new (o:=.lst []) J);have hlt2:H2 lt=none:=sp.free M;have st:=sp.trans (aJ.new (o:=.lst []) M);have ndr:Y≠lr:=aB aC R;have ndp:Y≠Z:=aB (aL R aC) J;have ndt:Y≠lt:=aB (aL J (aL R aC)) M;have nrp:lr≠Z:=aB aC J;have nrt:lr≠lt:=aB (aL J aC) M;have npt:Z≠lt:=aB aC M;refine QS (aL M (aL J (aL R aC))) ?_;have G0:lG H2 (L2.upd (L2.upd (L2.upd (L2.upd (L2.upd H2 Y (.dK [])) lr (.lst [])) Z (.lst [])) lt (.lst [])) Y (.dK (cK ln u lr Z lt))) Y U u [] [] [] ln lr Z lt 0:=
    ⟨⟨u0,u1,hU2,hU8,(fun _ h=>nomatch h),(fun _ h=>nomatch h),(fun _ h=>nomatch h),i5 _⟩,
     ⟨⟨[],aC⟩,aX (aB W hdd) (st _ _ W),⟨[],aX (j3 ndr) (aL M (aL J aC)),.nil⟩,⟨[],aX (j3 ndp) (aL M aC),.nil⟩,⟨[],aX (j3 ndt) aC,.nil⟩⟩,
     Kp.upd.sm st hdd,hlr2,hlp2,hlt2,nrp,nrt,npt,(fun z=>nomatch z),aC⟩
  generalize L2.upd (L2.upd (L2.upd (L2.upd (L2.upd H2 Y (.dK [])) lr (.lst [])) Z (.lst [])) lt (.lst [])) Y (.dK (cK ln u lr Z lt))=H3 at G0 ⊢;have nlr:ln≠lr:=aB W hlr2;have nlp:ln≠Z:=aB W hlp2;have nlt:ln≠lt:=aB W hlt2;have hdH:H Y=none:=s2.free hdd;clear sd sr sp st R J M ndr ndp ndt hl4;w_on;apply CA (s2.trans G0.s |>.seq hS) ?_;rw [g7];generalize hmx:(if (if (23:Int) < (ns.length:Int) then 23 else (ns.length:Int)) > 4 then (if (23:Int) < (ns.length:Int) then 23 else (ns.length:Int)) else 4)=mx;have x0:4<=mx:=by
    rw [← hmx];split <;> split at * <;> lia
  have x1:mx<=23:=by
    rw [← hmx];split <;> split at * <;> lia
  refine MF (by decide) (by decide) (by lia) (by lia) ?_;refine pI (n:=(mx - 3).toNat) (fun i σ G=>∃(rs:List (Int×Int×Int)) (ps ts:List (Int×Int)) (o5 o6 o7 o8 o9 o10:Option V),σ=[some (.ref a),some (.int 23),some (.ref ln),some (.int u),some (.ref Y),o5,o6,o7,o8,o9,o10]/\lG H2 G Y U u rs ps ts ln lr Z lt i) ⟨[],[],[],_,_,_,_,_,_,rfl,G0⟩ ?_ ?_
  . intro P' rt' bk' hP'
    rintro i σ G hi ⟨rs,ps,ts,o5,o6,o7,o8,o9,o10,rfl,g⟩;have sG:=s2.trans g.s;w_on;apply ⟨a,ns,_,rfl,sG.seq hS,by lia,by lia,fun C=>?_⟩;apply BZ g.q.nm ?_;rw [g7];refine oK (by lia) ?_;have a0:=m8 (C.fdiv 8) (show (U.length:Int)≠0 by lia);have a1:=j9 (C.fdiv 8) (show (0:Int) < U.length by lia);generalize C.fdiv 8 % (U.length:Int)=X at *;w_on;apply BZ g.q.nm ?_;rw [g7];refine oK (by lia) ?_;generalize C.fdiv 64 % ((U.length:Int) - 1)=bb0;w_on;apply BZ g.q.nm ?_;rw [g7];refine oK (by lia) ?_;have b0:=m8 (X+1+bb0) (show (U.length:Int)≠0 by lia);have b1:=j9 (X+1+bb0) (show (0:Int) < U.length by lia);generalize (X+1+bb0) % (U.length:Int)=bb at *;w_on;refine rC (fun c1=>?_) (fun c1=>?_)
    . w_on
      refine cJ (.inl g.q.d) dS ?_;obtain ⟨vr,D,I⟩:=id g.q.rq;have hvl:=Paired.length I;have hil:=g.i.len;w_on;apply ⟨_,rfl,fun tm G1 S t0 t1=>?_⟩;refine bC fun p hp=>?_;have B:=S.trans (aJ.new (o:=.tup [.int X,.int bb,.int tm]) hp);have N:=aC (H:=G1) (a:=p) (o:=.tup [.int X,.int bb,.int tm]);generalize L2.upd G1 p (.tup [.int X,.int bb,.int tm])=G2 at B N ⊢;w_on;apply gJ (B _ _ D) (by lia) ?_;exact hP' _ _ _ ⟨_,_,_,_,_,_,_,_,_,rfl,(g.sm B).run (x:=(X,bb,tm)) (B _ _ D) (Pd.imp I fun v b f=>f.tk B.tk) ⟨p,rfl,N⟩ ⟨a0,a1,b0,b1,t0,t1⟩ nlr⟩
    . w_on
      refine cJ (.inl g.q.d) dS ?_;obtain ⟨vs0,hvs0,pvs0⟩:=id g.q.rq;w_on;refine xD fun le G0 hle se hle'=>?_;have g0:=g.sm se;refine Ja (se _ _ hvs0) (Pd.imp pvs0 fun v b f=>f.tk se.tk) hle' ?_;clear hle' hvs0 pvs0 vs0;w_on;refine rC (fun hrs=>?_) (fun hrs=>?_)
      . w_on
        refine cJ (.inl g0.q.d) dS ?_;obtain ⟨vr,D,I⟩:=id g0.q.rq;have hvl:=Paired.length I;have hil:=g0.i.len;w_on;apply ⟨_,rfl,fun tm G1 S t0 t1=>?_⟩;refine bC fun p hp=>?_;have B:=S.trans (aJ.new (o:=.tup [.int X,.int bb,.int tm]) hp);have N:=aC (H:=G1) (a:=p) (o:=.tup [.int X,.int bb,.int tm]);generalize L2.upd G1 p (.tup [.int X,.int bb,.int tm])=G2 at B N ⊢;w_on;apply gJ (B _ _ D) (by lia) ?_;exact hP' _ _ _ ⟨_,_,_,_,_,_,_,_,_,rfl,(g0.sm B).run (x:=(X,bb,tm)) (B _ _ D) (Pd.imp I fun v b f=>f.tk B.tk) ⟨p,rfl,N⟩ ⟨a0,a1,b0,b1,t0,t1⟩ nlr⟩
      . w_on
        refine rC (fun c2=>?_) (fun c2=>?_)
        . w_on
          apply rR ?_;apply xD fun l4 G1 hl4 S O=>?_;obtain ⟨t,et,ht⟩:=Ph (x0:=12) (x1:=12) (x2:=1000) (x3:=1000000000000000000000000000000) (fun z=>0 < z/\z<=10 ^ 105) (by decide) (by decide) (by decide) (by decide) (C.fdiv 8 % 4) (m8 _ (by decide)) (j9 _ (by decide));refine gI O et ?_;refine oK ht.1 ?_;have m0:=m8 (C.fdiv 64) (show t≠0 by lia);have m1:=j9 (C.fdiv 64) ht.1;generalize C.fdiv 64 % t=mom at *;have g1:=g0.sm S;w_on;refine cJ (.inl g1.q.d) oR ?_;obtain ⟨vr,D,I⟩:=id g1.q.pq;have hvl:=Paired.length I;have hil:=g1.i.len;w_on;apply JB fun p G2 hp B N=>?_;apply gJ (B _ _ D) (by lia) ?_;exact hP' _ _ _ ⟨_,_,_,_,_,_,_,_,_,rfl,(g1.sm B).pus (x:=(X,mom)) (B _ _ D) (Pd.imp I fun v b f=>f.tk B.tk) ⟨p,rfl,N⟩ ⟨a0,a1,m0,by lia⟩ nlp hrs⟩
        . w_on
          apply rR ?_;apply xD fun l4 G1 hl4 S O=>?_;obtain ⟨t,et,ht⟩:=Ph (x0:=12) (x1:=30) (x2:=1000) (x3:=1000000000000000000000000000000) (fun z=>0 < z/\z<=10 ^ 105) (by decide) (by decide) (by decide) (by decide) (bb % 4) (m8 _ (by decide)) (j9 _ (by decide));refine gI O et ?_;refine oK ht.1 ?_;have m0:=m8 (C.fdiv 512) (show t≠0 by lia);have m1:=j9 (C.fdiv 512) ht.1;generalize C.fdiv 512 % t=mom at *;have g1:=g0.sm S;w_on;refine cJ (.inl g1.q.d) jS ?_;obtain ⟨vr,D,I⟩:=id g1.q.tq;obtain ⟨vz,hvz,pvz⟩:=id g1.q.rq;have hvl:=Paired.length I;have hzl:=Paired.length pvz;have hil:=g1.i.len;have hr0:0 < rs.length:=U9.mpr hrs;w_on;apply cJ (.inl g1.q.d) dS ?_;have w0:=m8 (C.fdiv 8) (show (vz.length:Int)≠0 by lia);generalize C.fdiv 8 % (vz.length:Int)=wh at *;w_on;apply JB fun p G2 hp B N=>?_;apply gJ (B _ _ D) (by lia) ?_;exact hP' _ _ _ ⟨_,_,_,_,_,_,_,_,_,rfl,(g1.sm B).tak (x:=(wh,mom)) (B _ _ D) (Pd.imp I fun v b f=>f.tk B.tk) ⟨p,rfl,N⟩ ⟨w0,m0,by lia⟩ nlt hrs⟩
  rintro σ G ⟨rs,ps,ts,o5,o6,o7,o8,o9,o10,rfl,g⟩;w_on;have hi:=g.i;have hil:=hi.len;have hr0:0 < rs.length:=U9.mpr (g.m (by lia));exact q Y G U u rs ps ts ln lr Z lt hdH (s2.trans g.s) (by have:=hi.n8; lia) ⟨hi.u0,hi.u1,hUd,hi.n2,by lia,hi.rok,hi.pok,hi.tok,by lia,by lia,by lia,by lia,hUs⟩ g.q g.d0
include o2c in
theorem Ho:bZ P w K mg base (k+1) "_law_net" ["_law_here_here"] LF:=by
 refine bZ.of vE.d34 TV (by walk_at "ln") fun f ui A outer s H vs Q E J h=>?_;obtain ⟨dd,U,u,rs,ps,ts,ln,lr,lp,lt,rfl,hI,D,q⟩:=h;refine ⟨_,(aE (dU 1 TV.nd (aW J.u1 (pv 0) aP))
   (aH (aS (eJ (cO (sc:=aG TX) (N:=["_law_here_here","_law_names"]) (tn:=["_law_a","_law_b","_law_time_here"]) (names:=["_law_names","_law_here_here"]) (is:=[1,0]) rfl rfl (by k_is) (by k_is) rfl (by k_is) rfl (by k_is) (by k_is) (by k_is)) rfl (cH (aW J.u1 (pv 0) aP)) (fun _ _ _ _=>(jO (n:=3) rfl (aU (bI (i:=0) (show (["_law_a","_law_b","_law_time_here","_law_names","_law_here_here"]:List Str).Nodup by k_is) rfl (B6 rfl) (A9 rfl)) (aU (bI (i:=1) (show (["_law_a","_law_b","_law_time_here","_law_names","_law_here_here"]:List Str).Nodup by k_is) rfl (B6 rfl) (A9 rfl)) (aU (bI (i:=2) (show (["_law_a","_law_b","_law_time_here","_law_names","_law_here_here"]:List Str).Nodup by k_is) rfl (B6 rfl) (A9 rfl)) cV))))) (fun _ _ _ _=>(bH (aA (aN jJ (pv 3) (pv 0)) (aA (aN jJ (pv 3) (pv 1)) (aA (aI o2c J rfl (aA (pv 2) (aA (aW J.u1 (pv 4) aP) aD))) aD))))) (fun _ _ _ _=>eC))))),?_⟩
 try dsimp only [aR,bA]
 w_on;apply cJ (.inl D.d) mX ?_;refine cJ (.inl D.d) dS ?_;obtain ⟨vr,M,Y⟩:=id D.rq;have hvl:vr.length=rs.length:=Paired.length Y;have hlen:=hI.rl;w_on;refine cG (cP.of M) ?_;refine rT (xs:=vr) (by lia) (fun g i O G=>Kp g H G/\Paired (fA G) O (kn (eG U u (rs.take i)))) (fun g m=>⟨Kp.new m,.nil⟩) ?_ ?_ ?_
 ·rintro g i O G m _ ⟨kp,_⟩
  exact cP.of (kp _ _ (aB M m) M)
 ·rintro g i O G x m hx X hG ⟨kp,pn⟩
  obtain ⟨r,J,p,rfl,hp⟩:=Paired.at Y hx;obtain ⟨r0,r1,r2,r3,r4,r5⟩:=hI.rok r (i3 J);have hpG:G p=some (.tup [.int r.1,.int r.2.1,.int r.2.2]):=kp _ _ (aB hp m) hp;have B:=kp _ _ (aB D.nm m) D.nm;have hdG:=kp _ _ (aB D.d m) D.d;have R:=VE (U:=U) r0 r1;have S:=VE (U:=U) r2 r3;have I:=Ap (U:=U) (u:=u) J;generalize jM U r.1=s1 at R I;generalize jM U r.2.1=s2 at S I;have u0:=hI.u0;have u1:=hI.u1;apply ⟨p,_,_,_,rfl,hpG,?_⟩;apply gI B R ?_;apply gI B S ?_;apply cJ (.inl hdG) uE ?_;refine ⟨r.2.2,u,rfl,u0,OU (by lia) (by lia),OU (by lia) (by lia),fun C hq1=>?_⟩;have f1:cA (L2.upd G C (.tup [.int (eM r.2.2 u),.int (eQ r.2.2 u)])) (.ref C) (i0 r.2.2 u):=cA.low (by lia) aC;have t1:=aJ.new (o:=.tup [.int (eM r.2.2 u),.int (eQ r.2.2 u)]) hq1;generalize L2.upd G C (.tup [.int (eM r.2.2 u),.int (eQ r.2.2 u)])=G1 at f1 t1 ⊢;w_on;refine bC fun q2 W=>?_;have Z:=t1.trans (aJ.new (o:=.tup [.str s1,.str s2,.ref C]) W);have h2:=aC (H:=G1) (a:=q2) (o:=.tup [.str s1,.str s2,.ref C]);have f2:=f1.tk (aJ.new (o:=.tup [.str s1,.str s2,.ref C]) W).tk;generalize L2.upd G1 q2 (.tup [.str s1,.str s2,.ref C])=G2 at Z h2 f2 ⊢;have tk:=TK.lst (o:=.lst (O++[.ref q2])) (Z _ _ hG);refine iG (b9.mp hx).1 X (Z _ _ hG) ⟨(kp.trans Z.kp).trans Kp.upd,?_⟩;rw [I];exact Pd.snoc (Pd.imp pn fun v b f=>(fA.tk f Z.tk).tk tk) ⟨q2,.ref C,rfl,tk _ _ h2,f2.tk tk⟩
 rintro g O G m hG X ⟨kp,pn⟩;w_on;rw [hvl,A2] at pn;exact q g G m (fun b o h=>kp _ _ (aB h m) h) ⟨O,hG,pn⟩
theorem PQ:bZ P w K mg base (k+1) "_law_pushes" ["_law_here_here"] wD:=by
 refine bZ.of vE.d35 AB (by walk_at "ln") fun f ui A outer s H vs Q E J h=>?_;obtain ⟨dd,U,u,M,ps,ts,ln,lr,lp,lt,rfl,hI,hQ,q⟩:=h;refine ⟨_,(aE (dU 1 AB.nd (aK bP (eJ (cO (sc:=aG oI) (N:=["_law_here_here","_law_used"]) (tn:=["_law_a","_law_b","_law_time_here"]) (names:=[]) (is:=[]) rfl rfl (by k_is) (by k_is) rfl (by k_is) rfl (by k_is) (by k_is) (by k_is)) rfl (cH (aW J.u1 (pv 0) aP)) (fun _ _ _ _=>(jO (n:=3) rfl (aU (bI (i:=0) (show (["_law_a","_law_b","_law_time_here"]:List Str).Nodup by k_is) rfl (B6 rfl) (A9 rfl)) (aU (bI (i:=1) (show (["_law_a","_law_b","_law_time_here"]:List Str).Nodup by k_is) rfl (B6 rfl) (A9 rfl)) (aU (bI (i:=2) (show (["_law_a","_law_b","_law_time_here"]:List Str).Nodup by k_is) rfl (B6 rfl) (A9 rfl)) cV))))) (fun _ _ _ _=>(pv 0)) (fun _ _ _ _=>eC)) (eJ (cO (sc:=aG oI) (N:=["_law_here_here","_law_used"]) (tn:=["_law_a","_law_b","_law_time_here"]) (names:=[]) (is:=[]) rfl rfl (by k_is) (by k_is) rfl (by k_is) rfl (by k_is) (by k_is) (by k_is)) rfl (cH (aW J.u1 (pv 0) aP)) (fun _ _ _ _=>(jO (n:=3) rfl (aU (bI (i:=0) (show (["_law_a","_law_b","_law_time_here"]:List Str).Nodup by k_is) rfl (B6 rfl) (A9 rfl)) (aU (bI (i:=1) (show (["_law_a","_law_b","_law_time_here"]:List Str).Nodup by k_is) rfl (B6 rfl) (A9 rfl)) (aU (bI (i:=2) (show (["_law_a","_law_b","_law_time_here"]:List Str).Nodup by k_is) rfl (B6 rfl) (A9 rfl)) cV))))) (fun _ _ _ _=>(pv 1)) (fun _ _ _ _=>eC))))
   (aH (aS (eJ (cO (sc:=aG oI) (N:=["_law_here_here","_law_used"]) (tn:=["_law_a","_law_moment"]) (names:=["_law_used"]) (is:=[1]) rfl rfl (by k_is) (by k_is) rfl (by k_is) rfl (by k_is) (by k_is) (by k_is)) rfl (cH (aW J.u1 (pv 0) aP)) (fun _ _ _ _=>(jO (n:=2) rfl (aU (bI (i:=0) (show (["_law_a","_law_moment","_law_used"]:List Str).Nodup by k_is) rfl (B6 rfl) (A9 rfl)) (aU (bI (i:=1) (show (["_law_a","_law_moment","_law_used"]:List Str).Nodup by k_is) rfl (B6 rfl) (A9 rfl)) cV)))) (fun _ _ _ _=>(bH (aA (pv 0) (aA (pv 1) aD)))) (fun _ _ _ _=>(lB (aY xJ (pv 0) (pv 2) (by with_unfolding_all rfl)))))))),?_⟩
 try dsimp only [aR,bA]
 obtain ⟨vr,R,Y⟩:=id hQ.rq;have hvl:vr.length=M.length:=Paired.length Y;have hlen:=hI.rl;have hpl0:=hI.pl;w_on;apply cJ (.inl hQ.d) dS ?_;refine cG (cP.of R) ?_;refine rT (xs:=vr) (by lia) (fun g i C G=>Kp g H G/\C=((M.take i).map (·.1)).map V.int) (fun g m=>⟨Kp.new m,rfl⟩) ?_ ?_ ?_
 ·rintro g i C G m _ ⟨kp,_⟩
  exact cP.of (kp _ _ (aB R m) R)
 ·rintro g i C G x m S B O ⟨kp,rfl⟩
  obtain ⟨r,J,p,rfl,hp⟩:=Paired.at Y S;have D:G p=some (.tup [.int r.1,.int r.2.1,.int r.2.2]):=kp _ _ (aB hp m) hp;apply ⟨p,_,_,_,rfl,D,?_⟩;exact iG (b9.mp S).1 B O ⟨kp.trans Kp.upd,by rw [kR J,u7,u7]; rfl⟩
 rintro a1 ys1 G1 h1 Z ae ⟨kp1,rfl⟩;have s1:aJ H G1:=fun b o h=>kp1 _ _ (aB h h1) h;have hQ1:=hQ.sm s1;have I:=s1 _ _ R;have pvr1:=Pd.imp Y fun v b f=>f.tk s1.tk;w_on;apply cJ (.inl hQ1.d) dS ?_;refine cG (cP.of I) ?_;refine rT (xs:=vr) (by lia) (fun g i C G=>Kp g G1 G/\C=((M.take i).map (·.2.1)).map V.int) (fun g m=>⟨Kp.new m,rfl⟩) ?_ ?_ ?_
 ·rintro g i C G m _ ⟨kp,_⟩
  exact cP.of (kp _ _ (aB I m) I)
 ·rintro g i C G x m S B O ⟨kp,rfl⟩
  obtain ⟨r,J,p,rfl,hp⟩:=Paired.at pvr1 S;have D:G p=some (.tup [.int r.1,.int r.2.1,.int r.2.2]):=kp _ _ (aB hp m) hp;apply ⟨p,_,_,_,rfl,D,?_⟩;exact iG (b9.mp S).1 B O ⟨kp.trans Kp.upd,by rw [kR J,u7,u7]; rfl⟩
 rintro a2 ys2 G2 h2 ac af ⟨kp2,rfl⟩;have s2:aJ G1 G2:=fun b o h=>kp2 _ _ (aB h h2) h;rw [hvl,A2] at Z ac ae af;rw [g7,g7] at ae af;w_on;refine OG (s2 _ _ Z) ac (by simp; lia) fun a3 h3=>?_;rw [← u7,show (kj (fun x=>x.1) M++kj (fun x=>x.2.1) M:List Int)=nG M from rfl];have s3:=(s1.trans s2).trans (aJ.new (o:=.lst ((nG M).map V.int)) h3);have W:=aC (H:=G2) (a:=a3) (o:=.lst ((nG M).map V.int));generalize L2.upd G2 a3 (.lst ((nG M).map V.int))=G3 at s3 W ⊢;have ad:=hQ.sm s3;obtain ⟨vp,X,pvp⟩:=id ad.pq;have hpl:vp.length=ps.length:=Paired.length pvp;w_on;apply cJ (.inl ad.d) oR ?_;refine cG (cP.of X) ?_;refine UO (xs:=vp) (by lia) (fun g i C G=>Kp g G3 G/\Paired (iH G) C (iQ M (ps.take i))) (fun g m=>⟨Kp.new m,.nil⟩) ?_ ?_ ?_
 ·rintro g i C G m _ ⟨kp,_⟩
  exact cP.of (kp _ _ (aB X m) X)
 ·rintro g i C G x m S B O ⟨kp,pn⟩
  obtain ⟨r,J,p,rfl,hp⟩:=Paired.at pvp S;have hi:=(b9.mp S).1;have D:G p=some (.tup [.int r.1,.int r.2]):=kp _ _ (aB hp m) hp;have hzG:=kp _ _ (aB W m) W;apply ⟨p,_,_,rfl,D,?_⟩;apply Dj hzG ?_;refine rC (fun c=>?_) (fun c=>?_)
  ·w_on
   refine JB fun q2 G4 hq2 t2 h2=>?_;have tk:=TK.lst (o:=.lst (C++[.ref q2])) (t2 _ _ O);refine oV hi B (t2 _ _ O) ⟨(kp.trans t2.kp).trans Kp.upd,?_⟩;rw [ZY J c];exact Pd.snoc (Pd.imp pn fun v b f=>(f.tk t2.tk).tk tk) ⟨q2,rfl,tk _ _ h2⟩
  ·w_on
   refine mY hi B O ⟨kp,?_⟩;rw [Ha J c];exact pn
 rintro g C G m O B ⟨kp,pn⟩;w_on;rw [hpl,A2] at pn;exact q g G (s3.free m) (s3.trans fun b o h=>kp _ _ (aB h m) h) ⟨C,O,pn⟩
theorem VP:bZ P w K mg base (k+1) "_law_taken" ["_law_here_here"] KW:=by
 refine bZ.of vE.d36 rL (by walk_at "ln") fun f ui A outer s H vs Q E G h=>?_;obtain ⟨dd,U,u,rs,ps,ts,ln,lr,lp,lt,rfl,X,hQ,q⟩:=h;refine ⟨_,(aE (dU 1 rL.nd lW)
   (aE (fD n9 rfl (cH (aW G.u1 (pv 0) aP)) (iR (n:=2) rfl (aU (nZ 2 rL.nd) (aU (nZ 3 rL.nd) cV))) (aH (iC G.u1 (pv 1) (pv 2) (bD (OD rfl) rfl T.z_min DU (aA (pv 3) (aA (iD G.u1 (pv 1) (pv 2) (pv 3) ⟨rfl,rfl,rfl,rfl⟩) aD))) rfl)))
   (aH (aS (pv 1))))),?_⟩
 try dsimp only [aR,bA]
 have htl:=X.tl;w_on;refine tN fun d Z=>?_;obtain ⟨H0,zE,s0,J⟩:=nwO Z (.dK []);rw [zE];have I:=hQ.sm s0;obtain ⟨vt,B,N⟩:=id I.tq;have ac:vt.length=ts.length:=Paired.length N;w_on;apply cJ (.inl I.d) jS ?_;refine cG (cP.of B) ?_;have M:∀{p:b8}{o:HO},H0 p=some o->(∀ kv,o≠.dK kv)->p≠d:=fun {p o} h n e=>by rw [e,J] at h; cases h; exact n _ rfl
 refine rS (xs:=vt) (fun i S C=>∃(O R:Option V)(D:AL aM Int),S=[some (.ref dd),some (.ref d),O,R]/\Kp d H0 C/\DQ IQ C d D/\Jr u D (jK u (ts.take i))/\D.length<=i/\∀ x∈D,0<=x.2/\x.2<=10 ^ 105) ⟨_,_,[],rfl,Kp.refl _ _,⟨[],J,.nil⟩,fun k=>rfl,i5 _,fun _ h=>nomatch h⟩ ?_ ?_ ?_
 ·rintro i S C _ ⟨O,R,D,rfl,kp,_⟩
  exact cP.of (kp _ _ (M B (by intro kv z; cases z)) B)
 ·intro P' rt' bk' Y
  rintro i x S C hx ⟨O,R,D,rfl,kp,⟨kv,m,kq⟩,TT,W,g⟩;obtain ⟨r,G,p,rfl,hp⟩:=Paired.at N hx;have hi:=(b9.mp hx).1;obtain ⟨r1,r2,r3⟩:=X.tok r (i3 G);have hp1:=kp _ _ (M hp (by intro kv z; cases z)) hp;w_on;apply ⟨d,rfl,.inl ⟨kv,.inl m⟩,?_⟩;refine ⟨_,.inl ⟨kv,c7 r.1,.inl m,rfl,rfl⟩,?_⟩;rw [oS kq];w_on;rw [Ea];have hkl:=kq.len;apply lV (c:=c7 r.1) m (by lia) ?_;refine Y _ _ _ ⟨_,_,WC D r,rfl,kp.trans Kp.upd,⟨_,aC,(kq.put rfl).imp fun v b f=>f⟩,?_,u8 (yO _ _ _) (by lia),NI (P:=fun z=>0<=z/\z<=10 ^ 105) g ⟨r2,r3⟩⟩;rw [RW G];exact TT.step X.u0
 rintro S C ⟨O,R,D,rfl,kp,dq,TT,W,g⟩;w_on;rw [ac,A2] at TT;exact q d C D Z (fun b o h=>kp _ _ (aB h Z) (s0 _ _ h)) dq TT g
include o1q o1v in
theorem Hs:bZ P w K mg base (k+1) "_law_due" ["_law_here_here"] Cs:=by
 refine bZ.of vE.d37 fY (by walk_at "ln") fun f ui A outer s H vs Q E M h=>?_;obtain ⟨dd,U,u,g,ps,ts,ln,lr,lp,lt,rfl,X,hQ,q⟩:=h;refine ⟨_,(aE (dU 1 fY.nd (aI o1v M rfl (aA (pv 0) aD)))
   (aE (dU 2 fY.nd lW)
   (aE (fD n9 rfl (cH (aI o1q M rfl (aA (pv 0) aD))) (iR (n:=2) rfl (aU (nZ 3 fY.nd) (aU (nZ 4 fY.nd) cV))) (aH (iC M.u1 (pv 2) (pv 3) (bD (OD rfl) rfl T.z_min DU (aA (pv 4) (aA (iD M.u1 (pv 2) (pv 3) (pv 4) ⟨rfl,rfl,rfl,rfl⟩) aD))) rfl)))
   (aE (dU 5 fY.nd sI)
   (aE (rV n9 (cS (pv 5)) (aE (dU 5 fY.nd sI)
   (aH (fD n9 rfl (jU rfl T.z_range (aA (bD iL rfl T.z_len eY (aA (aW M.u1 (pv 0) aP) aD)) aD)) (nZ 6 fY.nd) (aE (CD (aN aQ (aW M.u1 (pv 0) aP) (pv 6)) (iR (n:=3) rfl (aU (nZ 7 fY.nd) (aU (nZ 8 fY.nd) (aU (nZ 9 fY.nd) cV)))))
   (aH (fD n9 rfl (cH (cI (aA (bH (aA (pv 7) (aA (pv 8) aD))) (aA (bH (aA (pv 8) (aA (pv 7) aD))) aD)))) (iR (n:=2) rfl (aU (nZ 10 fY.nd) (aU (nZ 11 fY.nd) cV))) (aH (bV (tO (CF M.u1 (pv 10) (pv 2))) (aE (dU 12 fY.nd (aK bP (aW M.u1 (pv 2) (pv 10)) (pv 9)))
   (aH (bV (PW.pt (jH (aY Dy (pv 12) (iD M.u1 (pv 1) (pv 6) (pv 12) ⟨rfl,rfl,rfl,rfl⟩)) (fU (aY sK (pv 12) (iD M.u1 (pv 2) (pv 11) (aK bP (pv 12) aF) ⟨rfl,rfl,rfl,rfl⟩))))) (aE (iC M.u1 (pv 2) (pv 11) (pv 12) rfl)
   (aH (dU 5 fY.nd sI))) bE))) bE)))))))))
   (aH (aS (pv 2)))))))),?_⟩
 try dsimp only [aR,bA]
 have hpl0:=X.pl;have hrl:=X.rl;have hsl:=MR g ps;w_on;apply ⟨dd,U,u,g,ps,ts,ln,lr,lp,lt,rfl,X,hQ,fun dT H1 TB hdT s1 tq TT hTb=>?_⟩;refine tN fun d hd=>?_;have hdH:H d=none:=s1.free hd;have s01:=aJ.new (o:=.dK []) hd;have hd0:=aC (H:=H1) (a:=d) (o:=.dK []);have tq0:=tq.sm IQ.tk s01;generalize L2.upd H1 d (.dK [])=H2 at s01 hd0 tq0 ⊢;have s2:=s1.trans s01;have hQ2:=hQ.sm s2;w_on;refine ⟨dd,U,u,g,ps,ts,ln,lr,lp,lt,rfl,X,hQ2,fun lq H3 hlq s3 lq3=>?_⟩;have hd3:=s3 _ _ hd0;have tq3:=tq0.sm IQ.tk s3;have hQ3:=hQ2.sm s3;have s03:=s2.trans s3;obtain ⟨vt,hvt,pvt⟩:=id lq3;have hvl:vt.length=(iQ g ps).length:=Paired.length pvt;have hdt:∀{p:b8}{o:HO},H3 p=some o->(∀ kv,o≠.dK kv)->p≠d:=fun {p o} h n e=>by rw [e,hd3] at h; cases h; exact n _ rfl
 have hdTd:dT≠d:=by
  obtain ⟨kt,hkt,_⟩:=tq;exact aB hkt hd
 w_on;refine cG (cP.of hvt) ?_;refine rS (xs:=vt) (fun i W H4=>∃(o2 O:Option V)(D:AL aM Int),W=[some (.ref dd),some (.ref dT),some (.ref d),o2,O,none,none,none,none,none,none,none,none]/\Kp d H3 H4/\DQ IQ H4 d D/\mT U u D=aV (lst (nY U u ((iQ g ps).take i)))/\D.length<=i/\(∀ x∈D,0<=x.2/\x.2<=10 ^ 105)/\(D.map (·.1)).Nodup/\∀ x∈D,∃ i:Nat,x.1=c7 (i:Int)/\i < U.length) ⟨_,_,[],rfl,Kp.refl _ _,⟨[],hd3,.nil⟩,by funext p; exact Ar,i5 _,(fun _ h=>nomatch h),nodup_nil,fun _ h=>nomatch h⟩ ?_ ?_ ?_
 ·rintro i W H4 _ ⟨o2,O,D,rfl,kp,_⟩
  exact cP.of (kp _ _ (hdt hvt (by intro kv z; cases z)) hvt)
 ·intro P' rt' bk' hP'
  rintro i x W H1 hx ⟨o2,O,D,rfl,kp,⟨kv,J,kq⟩,TT,hDl,hDb,hDn,hDk⟩;obtain ⟨r,M,p,rfl,hp⟩:=Paired.at pvt hx;have hi:=(b9.mp hx).1;obtain ⟨r1,r2,r3,r4⟩:=X.pok r (MQ (i3 M));have hp1:=kp _ _ (hdt hp (by intro kv z; cases z)) hp;w_on;apply ⟨d,rfl,.inl ⟨kv,.inl J⟩,?_⟩;refine ⟨_,.inl ⟨kv,c7 r.1,.inl J,rfl,rfl⟩,?_⟩;rw [oS kq];w_on;rw [Ea];have hkl:=kq.len;apply lV (c:=c7 r.1) J (by lia) ?_;refine hP' _ _ _ ⟨_,_,WC D r,rfl,kp.trans Kp.upd,⟨_,aC,(kq.put rfl).imp fun v b f=>f⟩,?_,u8 (yO _ _ _) (by lia),NI (P:=fun z=>0<=z/\z<=10 ^ 105) hDb ⟨r3,r4⟩,Ib hDn,Au (P:=fun k=>∃ i:Nat,k=c7 (i:Int)/\i < U.length) hDk ⟨r.1.toNat,by congr 1; lia,by lia⟩⟩;rw [VB M];exact Hy X.nd X.u0 r1 r2 TT
 rintro W H4 ⟨o2,O,D0,rfl,kp4,dq4,TT0,hDl,hDb,hDn,hDk⟩;rw [hvl,A2] at TT0;have du0:EK U u g (nY U u (iQ g ps)) (bM (jK u ts)) D0:=EK.start hDn hDk hDb TT0;clear TT0 hDl hDb hDn hDk;have kp4':=kp4;have ndd:dd≠d:=aB (s1 _ _ hQ.d) hd;obtain ⟨kT,hkT,kqT⟩:=id tq3;have fin:∀{G:Hp},Kp d H3 G->aJ H G:=fun {G} k b o h=>k _ _ (aB h hdH) (s03 _ _ h);have e2:∀{G G':Hp},Kp d H3 G->aJ G G'->Kp d H3 G':=fun {G G'} k s b o n h=>s _ _ (k b o n h);w_on;refine Lh (fun m W G=>∃(c:Bool)(D:AL aM Int)(O o4 o7 o8 o9 N B C I:Option V),W=[some (.ref dd),some (.ref dT),some (.ref d),O,o4,some (.bl c),o7,o8,o9,N,B,C,I]/\Kp d H3 G/\DQ IQ G d D/\EK U u g (nY U u (iQ g ps)) (bM (jK u ts)) D/\(c=false->∀ k,Ki (bM (jK u ts)) u g k D)/\m=2 * mu U.length D+(if c=true then 1 else 0)) ⟨true,D0,_,_,_,_,_,_,_,_,_,rfl,kp4',dq4,du0,(fun z=>nomatch z),rfl⟩ ?_;rintro m W G ⟨c,D1,O,o4,o7,o8,o9,N,B,C,I,rfl,kG,dG,duG,clG,rfl⟩;cases c with
|false =>
  w_on;exact q d G D1 hdH (fin kG) dG duG (duG.falls X.nd X.u0 X.rok (clG rfl))
|true =>
  w_on;refine ⟨fun W G=>∃(c:Bool)(D:AL aM Int)(O o4 o7 o8 o9 N B C I:Option V),W=[some (.ref dd),some (.ref dT),some (.ref d),O,o4,some (.bl c),o7,o8,o9,N,B,C,I]/\Kp d H3 G/\DQ IQ G d D/\Jt U u g (nY U u (iQ g ps)) (bM (jK u ts)) D1 D c (∀ k,Ki (bM (jK u ts)) u g k D1),?_,?_⟩
  ·rintro σ' G' ⟨c,D,O,o4,o7,o8,o9,N,B,C,I,rfl,k',d',R⟩
   refine ⟨_,?_,c,D,_,_,_,_,_,_,_,_,_,rfl,k',d',R.d,fun z=>?_,rfl⟩
   ·cases c with
   |true =>
     have:=R.ch rfl;simp only [if_true];lia
   |false =>
     have:=R.le;simp only [if_true,O0,if_false];lia
   ·obtain ⟨e,cl⟩:=R.st z
    rw [e];exact cl
  have hQG:=hQ3;obtain ⟨vr,hvr,pvr⟩:=id hQ3.rq;have hvrl:vr.length=g.length:=Paired.length pvr;have hdG:=kG _ _ ndd hQ3.d;have hvrG:G lr=some (.lst vr):=kG _ _ (hdt hvr (by intro kv z; cases z)) hvr;w_on;apply cJ (.inl hdG) dS ?_;obtain ⟨L,hL⟩:∃ L:List Nat,k9 g.length=L:=⟨_,rfl⟩
  have Lk:∀ k∈L,k < g.length:=fun k hk=>by
   rw [← hL] at hk;exact T6.mp hk
  have Lk2:∀ k,k < g.length->k∈L:=fun k hk=>by
   rw [← hL];exact T6.mpr hk
  have Ll:L.length=g.length:=by rw [← hL,Y1]
  have Li:∀ i,i < g.length->L[i]?=some i:=fun i hi=>by rw [← hL,rc hi]
  clear hL;have kG3:=kG;have dG3:=dG;rw [hvrl];refine pH (by lia) (by lia) ?_;refine pI (n:=g.length) (fun i W F=>∃(c:Bool)(D:AL aM Int)(O o4 o7 o8 o9 N B C I:Option V),W=[some (.ref dd),some (.ref dT),some (.ref d),O,o4,some (.bl c),o7,o8,o9,N,B,C,I]/\Kp d G F/\DQ IQ F d D/\Jt U u g (nY U u (iQ g ps)) (bM (jK u ts)) D1 D c (∀ k∈L.take i,Ki (bM (jK u ts)) u g k D1)) ⟨false,D1,_,_,_,_,_,_,_,_,_,rfl,Kp.refl _ _,dG3,⟨duG,i5 _,(fun z=>nomatch z),fun _=>⟨rfl,fun k hk=>(by simp at hk)⟩⟩⟩ ?_ ?_
  ·intro P' rt' bk' hP'
   rintro i W F hi ⟨c,D,O,o4,o7,o8,o9,N,B,C,I,rfl,Y,dF,R⟩;obtain ⟨k,rfl⟩:∃ k:Nat,k=i:=⟨_,rfl⟩
   have hk:=Li k hi;rw [ig]
   all_goals
    have hkn:=Lk k (i3 hk);obtain ⟨r,M⟩:∃ r,g[k]?=some r:=⟨_,c8 hkn⟩
    have rok:=X.rok r (i3 M);obtain ⟨vx,hvx,p,rfl,hp⟩:=tQ pvr M;have kF3:Kp d H3 F:=kG3.trans Y;have hdF:=kF3 _ _ ndd hQ3.d;have hvrF:F lr=some (.lst vr):=kF3 _ _ (hdt hvr (by intro kv z; cases z)) hvr;have hpF:=kF3 _ _ (hdt hp (by intro kv z; cases z)) hp;w_on;apply cJ (.inl hdF) dS ?_;apply gI hvrF (fX hvx) ?_;apply bC fun p1 hp1=>?_;apply bC fun p2 hp2=>?_;refine dA fun l4 hl4=>?_;have y1:=aJ.new (o:=.tup [.int r.1,.int r.2.1]) hp1;have y2:=aJ.new (o:=.tup [.int r.2.1,.int r.1]) hp2;have y3:=aJ.new (o:=.lst [.ref p1,.ref p2]) hl4;have z1:=y3 _ _ (y2 _ _ (aC (H:=F) (a:=p1) (o:=.tup [.int r.1,.int r.2.1])));have z2:=y3 _ _ (aC (H:=L2.upd F p1 (.tup [.int r.1,.int r.2.1])) (a:=p2) (o:=.tup [.int r.2.1,.int r.1]));have z3:=aC (H:=L2.upd (L2.upd F p1 (.tup [.int r.1,.int r.2.1])) p2 (.tup [.int r.2.1,.int r.1])) (a:=l4) (o:=.lst [.ref p1,.ref p2]);have y123:=(y1.trans y2).trans y3;generalize L2.upd (L2.upd (L2.upd F p1 (.tup [.int r.1,.int r.2.1])) p2 (.tup [.int r.2.1,.int r.1])) l4 (.lst [.ref p1,.ref p2])=F3 at z1 z2 z3 y123 ⊢;clear y1 y2 y3 hp1 hp2 hl4;have dF3:=dF.sm IQ.tk y123;have kF33:=e2 kF3 y123;have kGF:Kp d G F3:=fun b o n h=>y123 _ _ (Y b o n h);have nf:∀{p:b8}{o:HO},F3 p=some o->(∀ kv,o≠.dK kv)->p≠d:=fun {p o} h n e=>by
     obtain ⟨kv,z,_⟩:=id dF3;rw [e,z] at h;cases h;exact n _ rfl
    obtain ⟨S,hdr⟩:∃ S:Nat->Int×Int,S=fun j=>if j=0 then (r.1,r.2.1) else (r.2.1,r.1):=⟨_,rfl⟩
    have d0:S 0=(r.1,r.2.1):=by rw [hdr]; rfl
    have d1:S 1=(r.2.1,r.1):=by rw [hdr]; rfl
    have hdir:∀(j:Nat)(x:V),([V.ref p1,.ref p2]:List V)[j]?=some x->∃ t,x=.ref t/\F3 t=some (.tup [.int (S j).1,.int (S j).2])/\((r.1=(S j).1/\r.2.1=(S j).2)∨(r.2.1=(S j).1/\r.1=(S j).2)):=by
     intro j x hx
     match j,hx with
    |0,hx=>cases hx; exact ⟨p1,rfl,by rw [d0]; exact z1,.inl (by rw [d0]; exact ⟨rfl,rfl⟩)⟩
    |1,hx=>cases hx; exact ⟨p2,rfl,by rw [d1]; exact z2,.inr (by rw [d1]; exact ⟨rfl,rfl⟩)⟩
    |j+2,hx=>simp at hx
    clear hdr z1 z2 dF Y hpF hdF hvrF;w_on;refine cG (cP.of z3) ?_;refine rS (xs:=[V.ref p1,.ref p2]) (fun j W F=>∃(c:Bool)(D:AL aM Int)(O o4 B C I:Option V),W=[some (.ref dd),some (.ref dT),some (.ref d),O,o4,some (.bl c),some (.int (k:Int)),some (.int r.1),some (.int r.2.1),some (.int r.2.2),B,C,I]/\Kp d F3 F/\DQ IQ F d D/\Jt U u g (nY U u (iQ g ps)) (bM (jK u ts)) D1 D c ((∀ k'∈L.take k,Ki (bM (jK u ts)) u g k' D1)/\∀ j' < j,Bu (bM (jK u ts)) u k r.2.2 (S j').1 (S j').2 D1)) ⟨c,D,_,_,_,_,_,rfl,Kp.refl _ _,dF3,R.imp fun _ z=>⟨z,fun j' h=>absurd h (T5 _)⟩⟩ ?_ ?_ ?_
    ·rintro j W F _ ⟨c,D,O,o4,B,C,I,rfl,Y,_⟩
     exact cP.of (Y _ _ (nf z3 (by intro kv z; cases z)) z3)
    ·intro P2 rt2 bk2 hP2
     rintro j x W F hx ⟨c,D,O,o4,B,C,I,rfl,Y,⟨kv,J,kq⟩,R⟩;obtain ⟨t,rfl,ht,hj⟩:=hdir j x hx;have htF:=Y _ _ (nf ht (by intro kv z; cases z)) ht;have hkTF:F dT=some (.dK kT):=Y _ _ hdTd (kF33 _ _ hdTd hkT);have nx:∀{Z:Prop},Bu (bM (jK u ts)) u k r.2.2 (S j).1 (S j).2 D->(c=false->D=D1)->Jt U u g (nY U u (iQ g ps)) (bM (jK u ts)) D1 D c ((∀ k'∈L.take k,Ki (bM (jK u ts)) u g k' D1)/\∀ j' < j+1,Bu (bM (jK u ts)) u k r.2.2 (S j').1 (S j').2 D1):=fun {Z} h _=>R.imp fun e z=>⟨z.1,fun j' hj'=>by
      rcases bv j' j with h1|h1
      ·exact z.2 j' h1
      ·have:j'=j:=by lia
       subst this;rw [← e];exact h⟩
     generalize (S j).1=a at hj htF nx;generalize (S j).2=b at hj htF nx;have duD:=R.d;w_on;refine Dk (.inl J) ?_;rcases kq.val (k:=c7 a) with ⟨e1,e1'⟩|⟨va,v,e1,e1',f1⟩
     ·rw [e1]
      w_on;exact hP2 _ _ _ ⟨c,D,_,_,_,_,_,rfl,Y,⟨kv,J,kq⟩,nx (Z:=True) (Jh e1') fun z=>(R.st z).1⟩
     ·rw [e1]
      cases (show va=.int v from f1);w_on;apply MJ (.inl J) e1 ?_;apply ⟨dT,rfl,.inl ⟨kT,.inl hkTF⟩,?_⟩;refine ⟨_,.inl ⟨kT,c7 (k:Int),.inl hkTF,rfl,rfl⟩,?_⟩;rw [oS kqT];w_on;have hU98:=X.n98;have hkl:=kq.len;have hdl:=duD.len;refine rC (fun c1=>?_) (fun c1=>?_)
      ·w_on
       apply ⟨d,rfl,.inl ⟨kv,.inl J⟩,?_⟩;refine ⟨_,.inl ⟨kv,c7 b,.inl J,rfl,rfl⟩,?_⟩;rw [oS kq];w_on;refine rC (fun c2=>?_) (fun c2=>?_)
       ·w_on
        apply lV (c:=c7 b) J (by lia) ?_;obtain ⟨du2,lt2⟩:=duD.go X.nd X.u0 (by lia) M rok hj e1' ((ND X.u0 TT k _).mpr c1) fun w hw=>by rw [hw] at c2; exact c2
        exact hP2 _ _ _ ⟨true,eO D (c7 b) (v+r.2.2),_,_,_,_,_,rfl,Y.trans Kp.upd,⟨_,aC,(kq.put rfl).imp fun v b f=>f⟩,du2,Q2 (c9 lt2 R.le),fun _=>c9 lt2 R.le,fun z=>nomatch z⟩
       ·w_on
        exact hP2 _ _ _ ⟨c,D,_,_,_,_,_,rfl,Y,⟨kv,J,kq⟩,nx (Z:=True) (Oj e1' c2) fun z=>(R.st z).1⟩
      ·w_on
       exact hP2 _ _ _ ⟨c,D,_,_,_,_,_,rfl,Y,⟨kv,J,kq⟩,nx (Z:=True) (Ji e1' fun z=>c1 ((ND X.u0 TT k _).mp z)) fun z=>(R.st z).1⟩
    ·rintro W F ⟨c,D,O,o4,B,C,I,rfl,Y,dF,R⟩
     refine hP' _ _ _ ⟨c,D,_,_,_,_,_,_,_,_,_,rfl,kGF.trans Y,dF,R.imp fun _ z k' hk'=>?_⟩;rw [kR hk] at hk';rcases m9.mp hk' with h|h
     ·exact z.1 k' h
     ·rw [f9.mp h]
      intro r' hr';rw [M] at hr';cases hr';have c0:=z.2 0 (show 0 < 2 by decide);have c1:=z.2 1 (show 1 < 2 by decide);rw [d0] at c0;rw [d1] at c1;exact ⟨c0,c1⟩
  ·rintro W F ⟨c,D,O,o4,o7,o8,o9,N,B,C,I,rfl,Y,dF,R⟩
   rw [← Ll,A2] at R;exact ⟨c,D,_,_,_,_,_,_,_,_,_,rfl,kG3.trans Y,dF,R.imp fun _ z k=>if h:k < g.length then z k (Lk2 k h) else fun r M=>absurd (b9.mp M).1 h⟩
include o2c o1q in
theorem PV:bZ P w K mg base (k+1) "_law_handed" ["_law_here_here"] wK:=by
 refine bZ.of vE.d38 pD (by walk_at "ln") fun f ui A outer s H vs Q E C h=>?_;obtain ⟨dd,U,u,rs,ps,ts,ln,lr,lp,lt,rfl,W,hQ,q⟩:=h;refine ⟨_,(aE (dU 1 pD.nd (aW C.u1 (pv 0) aP))
   (aE (dU 2 pD.nd (aW C.u1 (pv 0) aP))
   (aE (rW (i:=3) pD.nd rfl (by w_left) (cO (sc:=aG rP) (N:=["_law_here_here","_law_names","_law_unit","_law_pushes_here"]) (tn:=["_law_a","_law_moment"]) (names:=["_law_unit","_law_names"]) (is:=[2,1]) rfl rfl (by k_is) (by k_is) rfl (by k_is) rfl (by k_is) (by k_is) (by k_is)) rfl (cH (aI o1q C rfl (aA (pv 0) aD))) (fun _ _ _ _=>(jO (n:=2) rfl (aU (bI (i:=0) (show (["_law_a","_law_moment","_law_unit","_law_names"]:List Str).Nodup by k_is) rfl (B6 rfl) (A9 rfl)) (aU (bI (i:=1) (show (["_law_a","_law_moment","_law_unit","_law_names"]:List Str).Nodup by k_is) rfl (B6 rfl) (A9 rfl)) cV)))) (fun _ _ _ _=>(bH (aA (aN jJ (pv 3) (pv 0)) (aA (aI o2c C rfl (aA (pv 1) (aA (pv 2) aD))) aD)))) (fun _ _ _ _=>eC))
   (aH (aS (bH (aA (pv 3) (aA (eJ (cO (sc:=aG rP) (N:=["_law_here_here","_law_names","_law_unit","_law_pushes_here"]) (tn:=["_law_number_here","_law_moment"]) (names:=["_law_unit"]) (is:=[2]) rfl rfl (by k_is) (by k_is) rfl (by k_is) rfl (by k_is) (by k_is) (by k_is)) rfl (cH (aW C.u1 (pv 0) aP)) (fun _ _ _ _=>(jO (n:=2) rfl (aU (bI (i:=0) (show (["_law_number_here","_law_moment","_law_unit"]:List Str).Nodup by k_is) rfl (B6 rfl) (A9 rfl)) (aU (bI (i:=1) (show (["_law_number_here","_law_moment","_law_unit"]:List Str).Nodup by k_is) rfl (B6 rfl) (A9 rfl)) cV)))) (fun _ _ _ _=>(bH (aA (pv 0) (aA (aI o2c C rfl (aA (pv 1) (aA (pv 2) aD))) aD)))) (fun _ _ _ _=>eC)) aD)))))))),?_⟩
 try dsimp only [aR,bA]
 have u0:=W.u0;have u1:=W.u1;have hpl0:=W.pl;have htl0:=W.tl;have hsl:=MR rs ps;w_on;apply cJ (.inl hQ.d) mX ?_;apply cJ (.inl hQ.d) uE ?_;refine ⟨dd,U,u,rs,ps,ts,ln,lr,lp,lt,rfl,W,hQ,fun lq H1 hlq s1 lq1=>?_⟩;have hQ1:=hQ.sm s1;obtain ⟨vp,Z,pvp⟩:=id lq1;have hvl:vp.length=(iQ rs ps).length:=Paired.length pvp;w_on;refine cG (cP.of Z) ?_;refine MK (xs:=vp) (by lia) (fun g i R G=>Kp g H1 G/\Paired (nX G) R (nY U u ((iQ rs ps).take i))) (fun g B=>⟨Kp.new B,.nil⟩) ?_ ?_ ?_
 ·rintro g i R G B _ ⟨kp,_⟩
  exact cP.of (kp _ _ (aB Z B) Z)
 ·rintro g i R G x B hx ad hG ⟨kp,pn⟩
  obtain ⟨r,C,p,rfl,hp⟩:=Paired.at pvp hx;obtain ⟨r0,r1,r2,r3⟩:=W.pok r (MQ (i3 C));have X:G p=some (.tup [.int r.1,.int r.2]):=kp _ _ (aB hp B) hp;have hnmG:=kp _ _ (aB hQ1.nm B) hQ1.nm;have es0:=VE (U:=U) r0 r1;have J:=VB (U:=U) (u:=u) C;generalize jM U r.1=s0 at es0 J;apply ⟨p,_,_,rfl,X,?_⟩;apply gI hnmG es0 ?_;refine ⟨r.2,u,rfl,u0,OU (by lia) (by lia),OU (by lia) (by lia),fun m Y=>?_⟩;have f1:cA (L2.upd G m (.tup [.int (eM r.2 u),.int (eQ r.2 u)])) (.ref m) (i0 r.2 u):=cA.low (by lia) aC;have t1:=aJ.new (o:=.tup [.int (eM r.2 u),.int (eQ r.2 u)]) Y;generalize L2.upd G m (.tup [.int (eM r.2 u),.int (eQ r.2 u)])=G4 at f1 t1 ⊢;w_on;refine bC fun M D=>?_;have I:=t1.trans (aJ.new (o:=.tup [.str s0,.ref m]) D);have S:=aC (H:=G4) (a:=M) (o:=.tup [.str s0,.ref m]);have f2:=f1.tk (aJ.new (o:=.tup [.str s0,.ref m]) D).tk;generalize L2.upd G4 M (.tup [.str s0,.ref m])=G5 at I S f2 ⊢;have tk:=TK.lst (o:=.lst (R++[.ref M])) (I _ _ hG);refine iG (b9.mp hx).1 ad (I _ _ hG) ⟨(kp.trans I.kp).trans Kp.upd,?_⟩;rw [J];exact Pd.snoc (Pd.imp pn fun v b f=>(f.tk I.tk).tk tk) ⟨M,.ref m,rfl,tk _ _ S,f2.tk tk⟩
 rintro l1 ys1 G1 h1 hG1 hy1 ⟨kp1,pn1⟩;have s2:aJ H1 G1:=fun b o h=>kp1 _ _ (aB h h1) h;have O:=s1.trans s2;have hQ2:=hQ.sm O;obtain ⟨vt,ac,pvt⟩:=id hQ2.tq;have hvtl:vt.length=ts.length:=Paired.length pvt;w_on;apply cJ (.inl hQ2.d) jS ?_;refine cG (cP.of ac) ?_;refine MK (xs:=vt) (by lia) (fun g i R G=>Kp g G1 G/\Paired (nX G) R (jK u (ts.take i))) (fun g B=>⟨Kp.new B,.nil⟩) ?_ ?_ ?_
 ·rintro g i R G B _ ⟨kp,_⟩
  exact cP.of (kp _ _ (aB ac B) ac)
 ·rintro g i R G x B hx ad hG ⟨kp,pn⟩
  obtain ⟨r,C,p,rfl,hp⟩:=Paired.at pvt hx;obtain ⟨r1,r2,r3⟩:=W.tok r (i3 C);have J:=RW (u:=u) C;have X:G p=some (.tup [.int r.1,.int r.2]):=kp _ _ (aB hp B) hp;apply ⟨p,_,_,rfl,X,?_⟩;refine ⟨r.2,u,rfl,u0,OU (by lia) (by lia),OU (by lia) (by lia),fun m Y=>?_⟩;have f1:cA (L2.upd G m (.tup [.int (eM r.2 u),.int (eQ r.2 u)])) (.ref m) (i0 r.2 u):=cA.low (by lia) aC;have t1:=aJ.new (o:=.tup [.int (eM r.2 u),.int (eQ r.2 u)]) Y;generalize L2.upd G m (.tup [.int (eM r.2 u),.int (eQ r.2 u)])=G4 at f1 t1 ⊢;w_on;refine bC fun M D=>?_;have I:=t1.trans (aJ.new (o:=.tup [.int r.1,.ref m]) D);have S:=aC (H:=G4) (a:=M) (o:=.tup [.int r.1,.ref m]);have f2:=f1.tk (aJ.new (o:=.tup [.int r.1,.ref m]) D).tk;generalize L2.upd G4 M (.tup [.int r.1,.ref m])=G5 at I S f2 ⊢;have tk:=TK.lst (o:=.lst (R++[.ref M])) (I _ _ hG);refine iG (b9.mp hx).1 ad (I _ _ hG) ⟨(kp.trans I.kp).trans Kp.upd,?_⟩;rw [J];exact Pd.snoc (Pd.imp pn fun v b f=>(f.tk I.tk).tk tk) ⟨M,.ref m,rfl,tk _ _ S,f2.tk tk⟩
 rintro l2 ys2 G2 S hG2 hy2 ⟨kp2,pn2⟩;have s3:aJ G1 G2:=fun b o h=>kp2 _ _ (aB h S) h;w_on;refine bC fun p hp=>?_;have s4:=aJ.new (o:=.tup [.ref l1,.ref l2]) hp;have ae:=s3.trans s4;w_on;rw [hvl,A2] at pn1;rw [hvtl,A2] at pn2;exact q p _ l1 l2 ((O.trans s3).free hp) (s1.free h1) (O.free S) (O.trans ae) aC ⟨ys1,ae _ _ hG1,Pd.imp pn1 fun v b f=>f.tk ae.tk⟩ ⟨ys2,s4 _ _ hG2,Pd.imp pn2 fun v b f=>f.tk s4.tk⟩
include o2c o1v in
theorem Ak:bZ P w K mg base (k+1) "_law_left" ["_law_here_here","_law_due_here","_law_k","_law_moment"] FK:=by
 refine bZ.of vE.d39 mM (by walk_at "ln") fun f ui A outer s H vs Q E J h=>?_;obtain ⟨dd,U,u,rs,ps,ts,ln,lr,lp,lt,d,D,kk,r,m,rfl,G,hQ,hdq,du,S,m0,m1,q⟩:=h;refine ⟨_,(aE (CD (aN aQ (aW J.u1 (pv 0) aP) (pv 2)) (iR (n:=3) rfl (aU (nZ 4 mM.nd) (aU (nZ 5 mM.nd) (aU (nZ 6 mM.nd) cV)))))
   (aE (dU 7 mM.nd (aI o1v J rfl (aA (pv 0) aD)))
   (aE (bV (aY GU (pv 3) (iD J.u1 (pv 7) (pv 2) (aK bP (pv 3) aF) ⟨rfl,rfl,rfl,rfl⟩)) (aH (aS dZ)) bE)
   (aE (dU 8 mM.nd (bD (OE rfl) rfl T.z_max DV (aA aF (aA (aK xI (pv 3) (iD J.u1 (pv 1) (pv 4) (pv 3) ⟨rfl,rfl,rfl,rfl⟩)) aD))))
   (aE (dU 9 mM.nd (bD (OE rfl) rfl T.z_max DV (aA aF (aA (aK xI (pv 3) (iD J.u1 (pv 1) (pv 5) (pv 3) ⟨rfl,rfl,rfl,rfl⟩)) aD))))
   (aE (bV (aY GU (aK bP (pv 8) (pv 9)) (pv 6)) (aH (aS dZ)) bE)
   (aH (aS (bH (aA (aI o2c J rfl (aA (pv 8) (aA (pv 6) aD))) (aA (aI o2c J rfl (aA (aK xI (pv 6) (pv 9)) (aA (pv 6) aD))) aD))))))))))),?_⟩
 try dsimp only [aR,bA]
 obtain ⟨vr,hvr,pvr⟩:=id hQ.rq;obtain ⟨vx,hvx,p,rfl,hp⟩:=tQ pvr S;obtain ⟨r0,r1,r2,r3,r4,r5⟩:=G.rok r (i3 S);obtain ⟨kv,hkv,kq⟩:=id hdq;have u0:=G.u0;have u1:=G.u1;have hdl:=du.len;have hU98:=G.n98;have bdD:∀ i v,aV D (c7 i)=some v->0<=v/\v<=10 ^ 108:=fun i v e=>by
  obtain ⟨a1,a2,_⟩:=du.val e;lia
 w_on;apply cJ (.inl hQ.d) dS ?_;apply gI hvr (fX hvx) ?_;refine ⟨dd,U,u,rs,ps,ts,ln,lr,lp,lt,rfl,G,hQ,fun dT Y TB hdT s1 tq TT hTb=>?_⟩;obtain ⟨kT,R,kqT⟩:=id tq;have g:=s1 _ _ hkv;rw [sO G.nd r0 r1,sO G.nd r2 r3,Ey TT,Ky u0 (by lia)] at q;w_on;apply ⟨dT,rfl,.inl ⟨kT,.inl R⟩,?_⟩;refine ⟨_,.inl ⟨kT,c7 (kk:Int),.inl R,rfl,rfl⟩,?_⟩;rw [oS kqT];w_on;refine rC (fun c=>?_) (fun c=>?_)
 ·rw [if_pos c] at q
  w_on;exact q _ _ s1 rfl
 ·rw [if_neg c] at q
  have W:KQ IQ Y kv D:=kq.imp fun v b f=>f;have g0:∀ i,0<=(aV D (c7 i)).getD m:=fun i=>by
   cases e:aV D (c7 i) with
  |none=>exact m0
  |some v=>exact (bdD i v e).1
  have b1:=VY (m - (aV D (c7 r.1)).getD m);have b2:=VZ (z:=m - (aV D (c7 r.1)).getD m) (b:=10 ^ 109) (by have:=g0 r.1; lia) (by decide);have b3:=VY (m - (aV D (c7 r.2.1)).getD m);have b4:=VZ (z:=m - (aV D (c7 r.2.1)).getD m) (b:=10 ^ 109) (by have:=g0 r.2.1; lia) (by decide);w_on;apply ⟨d,rfl,.inl ⟨kv,.inl g⟩,?_⟩;refine ⟨_,.inl ⟨kv,c7 r.1,.inl g,rfl,rfl⟩,?_⟩;rw [oS W];w_on;apply ⟨d,rfl,.inl ⟨kv,.inl g⟩,?_⟩;refine ⟨_,.inl ⟨kv,c7 r.2.1,.inl g,rfl,rfl⟩,?_⟩;rw [oS W];w_on;rw [show (if m - (aV D (c7 r.1)).getD m > 0 then m - (aV D (c7 r.1)).getD m else 0)=EJ (m - (aV D (c7 r.1)).getD m) from rfl,show (if m - (aV D (c7 r.2.1)).getD m > 0 then m - (aV D (c7 r.2.1)).getD m else 0)=EJ (m - (aV D (c7 r.2.1)).getD m) from rfl];generalize EJ (m - (aV D (c7 r.1)).getD m)=B at *;generalize EJ (m - (aV D (c7 r.2.1)).getD m)=C at *;w_on;refine rC (fun c2=>?_) (fun c2=>?_)
  ·rw [if_pos c2] at q
   w_on;exact q _ _ s1 rfl
  ·rw [if_neg c2] at q
   w_on;refine ⟨B,r.2.2,rfl,by lia,OV (by lia),OV (by lia),fun Z hq1=>?_⟩;have N:cA (L2.upd Y Z (.tup [.int (eM (B) (r.2.2)),.int (eQ (B) (r.2.2))])) (.ref Z) (ut (r.2.2) (B)):=cA.low (by lia) aC;have X:=aJ.new (H:=Y) (o:=.tup [.int (eM (B) (r.2.2)),.int (eQ (B) (r.2.2))]) hq1;generalize L2.upd Y Z (.tup [.int (eM (B) (r.2.2)),.int (eQ (B) (r.2.2))])=H2 at N X ⊢;w_on;refine ⟨(r.2.2 - C),r.2.2,rfl,by lia,OV (by lia),OV (by lia),fun q2 hq2=>?_⟩;have O:cA (L2.upd H2 q2 (.tup [.int (eM ((r.2.2 - C)) (r.2.2)),.int (eQ ((r.2.2 - C)) (r.2.2))])) (.ref q2) (ut (r.2.2) ((r.2.2 - C))):=cA.low (by lia) aC;have M:=aJ.new (H:=H2) (o:=.tup [.int (eM ((r.2.2 - C)) (r.2.2)),.int (eQ ((r.2.2 - C)) (r.2.2))]) hq2;generalize L2.upd H2 q2 (.tup [.int (eM ((r.2.2 - C)) (r.2.2)),.int (eQ ((r.2.2 - C)) (r.2.2))])=H3 at O M ⊢;w_on;apply bC fun p5 I=>?_;exact q _ _ (((s1.trans X).trans M).trans (aJ.new I)) ⟨p5,.ref Z,.ref q2,rfl,aC,(N.tk M.tk).tk (TK.new I),O.tk (TK.new I)⟩
include o1w in
theorem Am:bZ P w K mg base (k+1) "_law_hall" ["_law_script"] (FO K):=by
 refine bZ.of vE.d40 LX (by walk_at "ln") fun f ui A outer s H vs Q E hr h=>?_;obtain ⟨a,ns,rfl,hS,h63,q⟩:=h;refine ⟨_,(aE (dU 1 LX.nd (aI o1w hr rfl (aA (pv 0) (aA aF aD))))
   (aE (iC hr.u1 (pv 1) aP (cI aD) rfl)
   (aE (iC hr.u1 (pv 1) aP (cI aD) rfl)
   (aE (iC hr.u1 (pv 1) aP aF rfl)
   (aH (aS (pv 1))))))),?_⟩
 try dsimp only [aR,bA]
 w_on;apply ⟨a,ns,rfl,hS,h63,fun m J U u rs ps ts ln B lp0 D Y s1 h30 M hQ G=>?_⟩;apply dA fun g I=>?_;have s2:=aJ.new (o:=.lst []) I;refine lV (c:=a9 "pushes") (s2 _ _ G) (v9 rfl) ?_;rw [show eK (cK ln u B lp0 D) (a9 "pushes") (.ref g)=cK ln u B g D by with_unfolding_all rfl];have X:L2.upd (L2.upd J g (.lst [])) m (.dK (cK ln u B g D)) m=_:=aC;have xp:g≠m:=fun z=>by rw [z,G] at I; cases I
 have n2:L2.upd (L2.upd J g (.lst [])) m (.dK (cK ln u B g D)) g=some (.lst []):=aX xp aC;have k2:Kp m J (L2.upd (L2.upd J g (.lst [])) m (.dK (cK ln u B g D))):=s2.kp.trans Kp.upd;generalize L2.upd (L2.upd J g (.lst [])) m (.dK (cK ln u B g D))=W at *;w_on;apply dA fun i C=>?_;have s3:=aJ.new (o:=.lst []) C;refine lV (c:=a9 "takings") (s3 _ _ X) (v9 rfl) ?_;rw [show eK (cK ln u B g D) (a9 "takings") (.ref i)=cK ln u B g i by with_unfolding_all rfl];have e3:L2.upd (L2.upd W i (.lst [])) m (.dK (cK ln u B g i)) m=_:=aC;have xt:i≠m:=fun z=>by rw [z,X] at C; cases C
 have n3:L2.upd (L2.upd W i (.lst [])) m (.dK (cK ln u B g i)) i=some (.lst []):=aX xt aC;have k3:Kp m W (L2.upd (L2.upd W i (.lst [])) m (.dK (cK ln u B g i))):=s3.kp.trans Kp.upd;generalize L2.upd (L2.upd W i (.lst [])) m (.dK (cK ln u B g i))=R at *;w_on;refine lV (c:=a9 "now") e3 (v9 rfl) ?_;rw [show eK (cK ln u B g i) (a9 "now") (.int 0)=cK ln u B g i [(a9 "now",.int 0)] by with_unfolding_all rfl];have k4:Kp m J (L2.upd R m (.dK (cK ln u B g i [(a9 "now",.int 0)]))):=(k2.trans k3).trans Kp.upd;have p4:L2.upd R m (.dK (cK ln u B g i [(a9 "now",.int 0)])) g=some (.lst []):=aX xp (k3 _ _ xp n2);have t4:L2.upd R m (.dK (cK ln u B g i [(a9 "now",.int 0)])) i=some (.lst []):=aX xt n3;have e4:L2.upd R m (.dK (cK ln u B g i [(a9 "now",.int 0)])) m=_:=aC;have tk4:TK J (L2.upd R m (.dK (cK ln u B g i [(a9 "now",.int 0)]))):=fun p S e=>k4 _ _ (iE e G (by intro z; cases z)) e;generalize L2.upd R m (.dK (cK ln u B g i [(a9 "now",.int 0)]))=H4 at *;w_on;have N:∀{l:b8}{S:List V},J l=some (.lst S)->H4 l=some (.lst S):=fun e=>k4 _ _ (iE e G (by intro z; cases z)) e;have ltp:g≠i:=fun z=>by rw [← z,n2] at C; cases C
 have s4:aJ H H4:=fun b o e=>k4 _ _ (aB e Y) (s1 _ _ e);have Z:H g=none:=s1.free I;have ac:H i=none:=by
  cases z:H i with
 |none=>rfl
 |some o=>rw [k2 _ _ xt (s1 _ _ z)] at C; cases C
 obtain ⟨vr,O,pvr⟩:=hQ.rq;have nx:∀{l:b8}{S:List V},J l=some (.lst S)->l≠g/\l≠i:=fun {l S} e=>by
  refine ⟨aB e I,fun z=>?_⟩;have X:=k2 l _ (iE e G (by intro z; cases z)) e;rw [z,C] at X;cases X
 exact q m H4 U u rs ln B g i Y Z ac ltp (nx hQ.nm).1 (nx hQ.nm).2 (nx O).1 (nx O).2 s4 h30 ⟨M.u0,M.u1,M.nd,M.n2,M.n98,M.rok,(fun _ z=>nomatch z),(fun _ z=>nomatch z),M.r1,M.rl,y8 _,y8 _,M.ns⟩ ⟨e4,⟨⟨_,e4⟩,N hQ.nm,⟨vr,N O,Pd.imp pvr fun v b f=>nV.tk f tk4⟩,⟨[],p4,.nil⟩,⟨[],t4,.nil⟩⟩⟩
include o1y in
theorem An:bZ P w K mg base (k+1) "_law_deed" ["_law_here_here","_law_due_here","_law_number_here"] SZ:=by
 refine bZ.of vE.d41 kU (by walk_at "ln") fun f ui A outer s H vs Q E J h=>?_;obtain ⟨dd,d,num,U,u,rs,ps,ts,ln,lr,lp,lt,ae,D,rfl,hN,hI,hdq,xdd,du,n0,n1,h64,q⟩:=h;refine ⟨_,(aE (rW (i:=3) kU.nd rfl (by w_left) (cO (sc:=aG oJ) (N:=["_law_here_here","_law_due_here","_law_number_here","_law_standing_posts","_law_used","_law_whole_runs","_law_kind","_law_later"]) (tn:=["_law_a"]) (names:=["_law_here_here","_law_due_here"]) (is:=[0,1]) rfl rfl (by k_is) (by k_is) rfl (by k_is) rfl (by k_is) (by k_is) (by k_is)) rfl (jU rfl T.z_range (aA (bD iL rfl T.z_len eY (aA (aW J.u1 (pv 0) aP) aD)) aD)) (fun _ _ _ _=>(bI (i:=0) (show (["_law_a","_law_here_here","_law_due_here"]:List Str).Nodup by k_is) rfl (B6 rfl) (A9 rfl))) (fun _ _ _ _=>(pv 0)) (fun _ _ _ _=>(lB (aY VM (iD J.u1 (pv 2) (pv 0) (aK VN (aW J.u1 (pv 1) aP) aF) ⟨rfl,rfl,rfl,rfl⟩) (aW J.u1 (pv 1) aP)))))
   (aE (dU 4 kU.nd (aK bP (eJ (cO (sc:=aG oJ) (N:=["_law_here_here","_law_due_here","_law_number_here","_law_standing_posts","_law_used","_law_whole_runs","_law_kind","_law_later"]) (tn:=["_law_a","_law_b","_law_time_here"]) (names:=[]) (is:=[]) rfl rfl (by k_is) (by k_is) rfl (by k_is) rfl (by k_is) (by k_is) (by k_is)) rfl (cH (aW J.u1 (pv 0) aP)) (fun _ _ _ _=>(jO (n:=3) rfl (aU (bI (i:=0) (show (["_law_a","_law_b","_law_time_here"]:List Str).Nodup by k_is) rfl (B6 rfl) (A9 rfl)) (aU (bI (i:=1) (show (["_law_a","_law_b","_law_time_here"]:List Str).Nodup by k_is) rfl (B6 rfl) (A9 rfl)) (aU (bI (i:=2) (show (["_law_a","_law_b","_law_time_here"]:List Str).Nodup by k_is) rfl (B6 rfl) (A9 rfl)) cV))))) (fun _ _ _ _=>(pv 0)) (fun _ _ _ _=>eC)) (eJ (cO (sc:=aG oJ) (N:=["_law_here_here","_law_due_here","_law_number_here","_law_standing_posts","_law_used","_law_whole_runs","_law_kind","_law_later"]) (tn:=["_law_a","_law_b","_law_time_here"]) (names:=[]) (is:=[]) rfl rfl (by k_is) (by k_is) rfl (by k_is) rfl (by k_is) (by k_is) (by k_is)) rfl (cH (aW J.u1 (pv 0) aP)) (fun _ _ _ _=>(jO (n:=3) rfl (aU (bI (i:=0) (show (["_law_a","_law_b","_law_time_here"]:List Str).Nodup by k_is) rfl (B6 rfl) (A9 rfl)) (aU (bI (i:=1) (show (["_law_a","_law_b","_law_time_here"]:List Str).Nodup by k_is) rfl (B6 rfl) (A9 rfl)) (aU (bI (i:=2) (show (["_law_a","_law_b","_law_time_here"]:List Str).Nodup by k_is) rfl (B6 rfl) (A9 rfl)) cV))))) (fun _ _ _ _=>(pv 1)) (fun _ _ _ _=>eC))))
   (aE (rW (i:=3) kU.nd rfl (by w_left) (cO (sc:=aG oJ) (N:=["_law_here_here","_law_due_here","_law_number_here","_law_standing_posts","_law_used","_law_whole_runs","_law_kind","_law_later"]) (tn:=["_law_a"]) (names:=["_law_used"]) (is:=[4]) rfl rfl (by k_is) (by k_is) rfl (by k_is) rfl (by k_is) (by k_is) (by k_is)) rfl (cH (pv 3)) (fun _ _ _ _=>(bI (i:=0) (show (["_law_a","_law_used"]:List Str).Nodup by k_is) rfl (B6 rfl) (A9 rfl))) (fun _ _ _ _=>(pv 0)) (fun _ _ _ _=>(lB (aY xJ (pv 0) (pv 1) (by with_unfolding_all rfl)))))
   (aE (rW (i:=5) kU.nd rfl (by w_left) (cO (sc:=aG oJ) (N:=["_law_here_here","_law_due_here","_law_number_here","_law_standing_posts","_law_used","_law_whole_runs","_law_kind","_law_later"]) (tn:=["_law_k"]) (names:=["_law_here_here","_law_due_here"]) (is:=[0,1]) rfl rfl (by k_is) (by k_is) rfl (by k_is) rfl (by k_is) (by k_is) (by k_is)) rfl (jU rfl T.z_range (aA (bD iL rfl T.z_len eY (aA (aW J.u1 (pv 0) aP) aD)) aD)) (fun _ _ _ _=>(bI (i:=0) (show (["_law_k","_law_here_here","_law_due_here"]:List Str).Nodup by k_is) rfl (B6 rfl) (A9 rfl))) (fun _ _ _ _=>(pv 0)) (fun _ _ _ _=>(lB (aY jZ (aI o1y J rfl (aA (pv 1) (aA (pv 2) (aA (pv 0) (aA (aW J.u1 (pv 1) aP) aD))))) dZ))))
   (aE (dU 6 kU.nd (aK bY (pv 2) aF))
   (aE (dU 2 kU.nd (aK bN (pv 2) aF))
   (aE (bV (PW.pt (jH (aY sK (pv 6) aF) (fU (aY (tU J.units) (pv 3) (cI aD))))) (aH (aS (bH (aA aP (aA (aN aQ (pv 3) (aK bY (pv 2) (bD iL rfl T.z_len eY (aA (pv 3) aD)))) aD))))) bE)
   (aE (bV (PW.pt (jH (aY (eX J.units) (pv 6) aF) (fU (aY (tU J.units) (pv 5) (cI aD))))) (aH (aS (bH (aA aP (aA (aN aQ (pv 5) (aK bY (pv 2) (bD iL rfl T.z_len eY (aA (pv 5) aD)))) aD))))) bE)
   (aE (dU 7 kU.nd (bD KA rfl T.z_sorted mE (aA (GS (cO (sc:=aG oJ) (N:=["_law_here_here","_law_due_here","_law_number_here","_law_standing_posts","_law_used","_law_whole_runs","_law_kind","_law_later"]) (tn:=["_law_post"]) (names:=["_law_here_here","_law_due_here"]) (is:=[0,1]) rfl rfl (by k_is) (by k_is) rfl (by k_is) rfl (by k_is) (by k_is) (by k_is)) rfl (pv 1) (fun _ _ _ _=>(bI (i:=0) (show (["_law_post","_law_here_here","_law_due_here"]:List Str).Nodup by k_is) rfl (B6 rfl) (A9 rfl))) (fun _ _ _ _=>(aW J.u1 (pv 2) (pv 0))) (fun _ _ _ _=>(lB (aY VM (aW J.u1 (pv 2) (pv 0)) (aW J.u1 (pv 1) aP))))) aD)))
   (aE (bV (PW.pt (jH (aY (eX J.units) (pv 6) aF) (fU (aY (tU J.units) (pv 7) (cI aD))))) (aH (aS (bH (aA aP (aA (aK xI (aN aQ (pv 7) (aK bY (pv 2) (bD iL rfl T.z_len eY (aA (pv 7) aD)))) (aW J.u1 (pv 0) aP)) aD))))) bE)
   (aH (aS (bH (aA aP (aA (aK bY (aK bN (pv 2) aF) (aN aQ (cI (aA aF (aA aF (aA aF (aA (aK qM aF aF) aD))))) (aK bY (pv 2) aF))) aD))))))))))))))),?_⟩
 try dsimp only [aR,bA]
 obtain ⟨kd,hkd,qd⟩:=id hdq;have hkl:kd.length=D.length:=qd.len;w_on;refine cJ (.inl hN.d) mX ?_;have hnm:=hN.q.nm;have hU98:=hI.n98;have ndk:(kd.map (·.1)).Nodup:=by rw [qd.keys]; exact du.nd
 w_on;rw [g7];refine pH (by lia) (by lia) ?_;refine GK (n:=U.length) (by lia) (fun g i I G=>Kp g H G/\∃ Z:List Nat,I=Z.map (fun j:Nat=>V.int (j:Int))/\∀ j∈Z,j < U.length/\∀ z,aV D (c7 (j:Int))=some z->ae < z) (fun g m=>⟨Kp.new m,[],rfl,fun _ C=>nomatch C⟩) ?_ ?_
 ·rintro g i I G m hi Y M ⟨kp,Z,rfl,his⟩
  have dG:=kp _ _ (aB hkd m) hkd;have ddG:=kp _ _ (aB hN.d m) hN.d;w_on;apply ⟨d,rfl,.inl ⟨kd,.inl dG⟩,?_⟩;apply cJ (.inl ddG) jE ?_;rw [ig];refine ⟨_,.inl ⟨kd,c7 (i:Int),.inl dG,rfl,rfl⟩,?_⟩;rw [oS qd];w_on;apply cJ (.inl ddG) jE ?_;refine rC (fun c=>?_) (fun c=>?_)
  ·w_on
   refine oV hi Y M ⟨kp.trans Kp.upd,Z++[i],by rw [u7]; rfl,fun j hj=>?_⟩;rcases m9.mp hj with hj|hj
   ·exact his j hj
   ·rw [f9.mp hj]
    refine ⟨hi,fun z e=>?_⟩;rw [e] at c;exact c
  ·w_on
   exact mY hi Y M ⟨kp,Z,rfl,his⟩
 rintro a0 zs0 G0 m M Y ⟨kp,Z,rfl,his⟩;have s0:aJ H G0:=fun b o e=>kp _ _ (aB e m) e;have N0:=hN.sm s0;obtain ⟨vr,hvr,pvr⟩:=id N0.q.rq;have hvl:vr.length=rs.length:=Paired.length pvr;have hrl:=hI.rl;w_on;apply cJ (.inl N0.d) dS ?_;refine cG (cP.of hvr) ?_;refine rT (xs:=vr) (by lia) (fun g i R G=>Kp g G0 G/\∃ I:List Int,R=I.map V.int/\I.length=i/\∀ z∈I,∃ r∈rs,r.1=z∨r.2.1=z) (fun g m=>⟨Kp.new m,[],rfl,rfl,fun _ C=>nomatch C⟩) ?_ ?_ ?_
 ·rintro g i R G m _ ⟨kp,_⟩
  exact cP.of (kp _ _ (aB hvr m) hvr)
 ·rintro g i R G x m hx B M ⟨kp,I,rfl,Y,hzm⟩
  obtain ⟨r,J,p,rfl,hp⟩:=Paired.at pvr hx;have hpG:G p=some (.tup [.int r.1,.int r.2.1,.int r.2.2]):=kp _ _ (aB hp m) hp;apply ⟨p,_,_,_,rfl,hpG,?_⟩;refine iG (b9.mp hx).1 B M ⟨kp.trans Kp.upd,I++[r.1],by simp,by rw [i9,Y]; rfl,fun z C=>?_⟩;rcases m9.mp C with C|C
  ·exact hzm z C
  ·exact ⟨r,i3 J,.inl (f9.mp C).symm⟩
 rintro a1 ys1 G1 h1 hG1 hy1 ⟨kp1,z1,rfl,l1,m1⟩;have s1:aJ G0 G1:=fun b o h=>kp1 _ _ (aB h h1) h;have N1:=N0.sm s1;have hvr1:=s1 _ _ hvr;have pvr1:=Pd.imp pvr fun v b f=>nV.tk f s1.tk;w_on;apply cJ (.inl N1.d) dS ?_;refine cG (cP.of hvr1) ?_;refine rT (xs:=vr) (by lia) (fun g i R G=>Kp g G1 G/\∃ I:List Int,R=I.map V.int/\I.length=i/\∀ z∈I,∃ r∈rs,r.1=z∨r.2.1=z) (fun g m=>⟨Kp.new m,[],rfl,rfl,fun _ C=>nomatch C⟩) ?_ ?_ ?_
 ·rintro g i R G m _ ⟨kp,_⟩
  exact cP.of (kp _ _ (aB hvr1 m) hvr1)
 ·rintro g i R G x m hx B M ⟨kp,I,rfl,Y,hzm⟩
  obtain ⟨r,J,p,rfl,hp⟩:=Paired.at pvr1 hx;have hpG:G p=some (.tup [.int r.1,.int r.2.1,.int r.2.2]):=kp _ _ (aB hp m) hp;apply ⟨p,_,_,_,rfl,hpG,?_⟩;refine iG (b9.mp hx).1 B M ⟨kp.trans Kp.upd,I++[r.2.1],by simp,by rw [i9,Y]; rfl,fun z C=>?_⟩;rcases m9.mp C with C|C
  ·exact hzm z C
  ·exact ⟨r,i3 J,.inr (f9.mp C).symm⟩
 rintro a2 ys2 G2 h2 hG2 hy2 ⟨kp2,z2,rfl,l2,m2⟩;have s2:aJ G1 G2:=fun b o h=>kp2 _ _ (aB h h2) h;w_on;refine OG (s2 _ _ hG1) hG2 (by rw [g7,g7]; lia) fun a3 h3=>?_;rw [← u7];have s3:=((s0.trans s1).trans s2).trans (aJ.new (o:=.lst ((z1++z2).map V.int)) h3);have g03:=(aJ.new (o:=.lst ((z1++z2).map V.int)) h3) _ _ (s2 _ _ (s1 _ _ M));have hG3:=aC (H:=G2) (a:=a3) (o:=.lst ((z1++z2).map V.int));have hzm:∀ z∈z1++z2,∃ r∈rs,r.1=z∨r.2.1=z:=fun z C=>(m9.mp C).elim (m1 z) (m2 z);generalize L2.upd G2 a3 (.lst ((z1++z2).map V.int))=G3 at *;have l12:(z1++z2).length<=250:=by rw [i9]; lia
 generalize z1++z2=I at *;w_on;refine cG (cP.of g03) ?_;have hil:Z.length<=98:=by rw [g7] at Y; lia
 refine xE (xs:=Z.map (fun j:Nat=>V.int (j:Int))) (by rw [g7]; lia) (fun g i R G=>Kp g G3 G/\∃ js:List Nat,R=js.map (fun j:Nat=>V.int (j:Int))/\∀ j∈js,j∈Z/\(j:Int)∈I) (fun g m=>⟨Kp.new m,[],rfl,fun _ C=>nomatch C⟩) ?_ ?_ ?_
 ·rintro g i R G m _ ⟨kp,_⟩
  exact cP.of (kp _ _ (aB g03 m) g03)
 ·rintro g i R G x m hx B M ⟨kp,js,rfl,ac⟩
  rw [i7] at hx;obtain ⟨j,hj,rfl⟩:=j7.mp hx;have hi:i < (Z.map (fun j:Nat=>V.int (j:Int))).length:=by rw [g7]; exact (b9.mp hj).1
  have hzG:=kp _ _ (aB hG3 m) hG3;w_on;apply Dj hzG ?_;refine rC (fun c=>?_) (fun c=>?_)
  ·w_on
   refine oV hi B M ⟨kp.trans Kp.upd,js++[j],by rw [u7]; rfl,fun j' hj'=>?_⟩;rcases m9.mp hj' with hj'|hj'
   ·exact ac j' hj'
   ·rw [f9.mp hj']
    exact ⟨i3 hj,c⟩
  ·w_on
   exact mY hi B M ⟨kp,js,rfl,ac⟩
 rintro a4 ys4 G4 h4 hG4 hy4 ⟨kp4,js,rfl,ac⟩;rw [g7,g7] at hy4;have s4:aJ H G4:=s3.trans fun b o h=>kp4 _ _ (aB h h4) h;have N4:=hN.sm s4;obtain ⟨vr4,hvr4,pvr4⟩:=id N4.q.rq;have hvl4:vr4.length=rs.length:=Paired.length pvr4;w_on;apply cJ (.inl N4.d) dS ?_;rw [hvl4];refine pH (by lia) (by lia) ?_;refine GK (n:=rs.length) (by lia) (fun g i R G=>Kp g G4 G/\∃ ks:List Nat,R=ks.map (fun j:Nat=>V.int (j:Int))/\∀ k∈ks,∃ r,rs[k]?=some r/\BO (mT U u D (a9 (jM U r.1))) (mT U u D (a9 (jM U r.2.1))) (bM (jK u ts) k) (ut u r.2.2) (ut u ae)≠none) (fun g m=>⟨Kp.new m,[],rfl,fun _ C=>nomatch C⟩) ?_ ?_
 ·rintro g i R G m hi B M ⟨kp,ks,rfl,hks⟩
  have sG:aJ G4 G:=fun b o e=>kp _ _ (aB e m) e;have s5:=s4.trans sG;have N5:=hN.sm s5;w_on;apply cJ (.inl N5.d) jE ?_;rw [ig];apply ⟨dd,U,u,rs,ps,ts,ln,lr,lp,lt,d,D,i,rs[i],ae,rfl,hI,N5.q,hdq.sm IQ.tk s5,du,c8 hi,n0,by lia,fun v G' sg lv=>?_⟩;cases e:BO (mT U u D (a9 (jM U rs[i].1))) (mT U u D (a9 (jM U rs[i].2.1))) (bM (jK u ts) i) (ut u rs[i].2.2) (ut u ae) with
 |none =>
   rw [e] at lv;cases (show v=.non from lv);w_on;exact mY hi B (sg _ _ M) ⟨kp.trans sg.kp,ks,rfl,hks⟩
 |some x =>
   rw [e] at lv;obtain ⟨p,w1,w2,rfl,_⟩:=lv;w_on;refine oV hi B (sg _ _ M) ⟨(kp.trans sg.kp).trans Kp.upd,ks++[i],by rw [u7]; rfl,fun k hk=>?_⟩;rcases m9.mp hk with hk|hk
   ·exact hks k hk
   ·rw [f9.mp hk]
    exact ⟨rs[i],c8 hi,by rw [e]; exact fun z=>nomatch z⟩
 rintro a5 ys5 G5 h5 hG5 hy5 ⟨kp5,ks,rfl,hks⟩;have s5:aJ G4 G5:=fun b o h=>kp5 _ _ (aB h h5) h;have s05:=s4.trans s5;have hjok:∀ j∈js,j < U.length/\(∃ r∈rs,r.1=(j:Int)∨r.2.1=(j:Int))/\∀ z,aV D (c7 (j:Int))=some z->ae < z:=fun j hj=>⟨(his j (ac j hj).1).1,hzm _ (ac j hj).2,(his j (ac j hj).1).2⟩
 have g4:=s5 _ _ hG4;clear hvr4 pvr4 N4 M hG1 hG2 hG3 N0 N1 hvr1 pvr1 pvr hvr kp kp1 kp2 kp4 kp5 s0 s1 s2 s3 s4 s5 ac hzm his m h1 h2 h3 h4 hG4 g03
 walk_at "gos"
 refine xC ?_;refine kY ?_
 walk_at "gos"
 refine xC ?_;refine kY ?_
 walk_at "gos"
 generalize num % 8=kind;generalize num.fdiv 8=nm;refine xC ?_;refine kY ?_;refine uQ (fun σ F=>∃ o,σ=[some (.ref dd),some (.ref d),some (.int nm),some (.ref a4),some (.ref a3),some (.ref a5),some (.int kind),o]/\aJ G5 F) ?_ ?_
 ·rintro σ F ⟨o,rfl,sF⟩
  refine xC ?_;refine kY ?_;refine uQ (fun σ F=>∃ o,σ=[some (.ref dd),some (.ref d),some (.int nm),some (.ref a4),some (.ref a3),some (.ref a5),some (.int kind),o]/\aJ G5 F) ?_ ?_
  ·rintro σ F ⟨o,rfl,sF⟩
   have s6:=s05.trans sF;have hkd6:=s6 _ _ hkd;have N6:=hN.sm s6;w_on;apply ML d (nU.dK hkd6) ?_;refine ⟨rfl,kd,hkd6,fun o'=>?_⟩;have hfz:L2.upd F d (.frz o' (.dK kd)) d=some (.frz o' (.dK kd)):=aC;have ddF:L2.upd F d (.frz o' (.dK kd)) dd=_:=aX xdd N6.d;have back:∀ G',aJ (L2.upd F d (.frz o' (.dK kd))) G'->aJ F (melt d G'):=fun G s=>CP hkd6 s;generalize L2.upd F d (.frz o' (.dK kd))=HF at hfz ddF back ⊢;have hDl:=du.len;refine UR (by lia) (fun g i R G=>Kp g HF G/\∃ I:List Int,R=I.map V.int/\∀ z∈I,ae < z/\∃ y∈D,y.2=z) (fun g h=>⟨Kp.new h,[],rfl,fun _ C=>nomatch C⟩) ?_ ?_ ?_
   ·intro g i R G O _ ⟨kp,_⟩
    exact kp _ _ (aB hfz O) hfz
   ·rintro g i R G k0 v0 O hx B M ⟨kp,I,rfl,hzs⟩
    have hi:=(b9.mp hx).1;obtain ⟨⟨k',z⟩,hy,ek,ev⟩:=Paired.at qd hx;cases (show k0=k' from ek);cases (show v0=.int z from ev);obtain ⟨j,ej,hj⟩:=du.ky _ (i3 hy);cases (show k0=c7 (j:Int) from ej);have vz:bJ kd (c7 (j:Int))=some (.int z):=BJ ndk hx;have dG:=kp _ _ (aB hfz O) hfz;have ddG:=kp _ _ (aB ddF O) ddF;w_on;apply MJ (.inr ⟨o',dG⟩) vz ?_;apply cJ (.inl ddG) jE ?_;refine rC (fun c=>?_) (fun c=>?_)
    ·w_on
     apply MJ (.inr ⟨o',dG⟩) vz ?_;refine oV hi B M ⟨kp.trans Kp.upd,I++[z],by rw [u7]; rfl,fun y hy'=>?_⟩;rcases m9.mp hy' with hy'|hy'
     ·exact hzs y hy'
     ·rw [f9.mp hy']
      exact ⟨c,_,i3 hy,rfl⟩
    ·w_on
     exact mY hi B M ⟨kp,I,rfl,hzs⟩
   ·rintro g R G O M B ⟨kp,I,rfl,hzs⟩
    have sG:aJ F (melt d G):=back G fun b o e=>kp _ _ (aB e O) e;have hGm:melt d G g=some (.lst (I.map V.int)):=iF (fun _ _ z=>nomatch z) M;generalize melt d G=G6 at sG hGm ⊢;rw [g7] at B;w_on;refine ⟨g,I,rfl,hGm,by lia,fun l ws hl hpm _=>?_⟩;have s7:=(s6.trans sG).trans (aJ.new (o:=.lst (ws.map V.int)) hl);have hws:∀ z∈ws,ae < z/\∃ y∈D,y.2=z:=fun z C=>hzs z (hpm.mem_iff.mp C);have gl:L2.upd G6 l (.lst (ws.map V.int)) l=_:=aC;generalize L2.upd G6 l (.lst (ws.map V.int))=G7 at s7 gl ⊢;have N7:=hN.sm s7
    walk_at "gos"
    refine xC ?_;refine kY ?_;refine uQ (fun σ F=>∃ o,σ=[some (.ref dd),some (.ref d),some (.int nm),some (.ref a4),some (.ref a3),some (.ref a5),some (.int kind),o]/\aJ G7 F) ?_ ?_
    ·rintro σ F ⟨o,rfl,sF⟩
     w_on;apply rR ?_;refine dA fun l9 ad=>?_;have W:=aJ.new (o:=.lst (([4,12,1000,1000000000000000000000000000000]:List Int).map V.int)) ad;have g9:=aC (H:=F) (a:=l9) (o:=.lst (([4,12,1000,1000000000000000000000000000000]:List Int).map V.int));w_on;obtain ⟨e,he,ee⟩:=VC (S:=[4,12,1000,1000000000000000000000000000000]) (i:=nm % 4) (m8 _ (by decide)) (j9 _ (by decide));refine gI g9 ee ?_;have e2:4<=e/\e<=1000000000000000000000000000000:=by
      simp only [n6,Q0,or_false] at he;lia
     w_on;apply bC fun p hp=>?_;have b0:=m8 (nm.fdiv 4) (show e≠0 by lia);have b1:=j9 (nm.fdiv 4) (show 0 < e by lia);have sE:=(s7.trans sF).trans W;exact q p _ _ _ (sE.free hp) (sE.trans (aJ.new hp)) aC (.inr (.inr ⟨rfl,b0,.inr (by lia)⟩))
    ·intro NX X
     w_on;refine rC (fun c=>?_) (fun c=>?_)
     ·w_on
      refine dA fun l9 ad=>?_;have W:=aJ.new (o:=.lst []) ad;apply VX (W _ _ gl) aC ?_;by_cases hw:ws=[]
      ·subst hw
       w_on;exact X _ _ ⟨_,rfl,W⟩
      ·have hw0:0 < ws.length:=U9.mpr hw
       have gl9:=W _ _ gl;have dd9:=(hN.sm (s7.trans W)).d;rw [X8.mpr hw];generalize L2.upd G7 l9 (.lst [])=G9 at W gl9 dd9 ⊢;w_on;rw [g7];refine oK (by lia) ?_;obtain ⟨z,C,ez⟩:=VC (S:=ws) (i:=nm % (ws.length:Int)) (m8 _ (by lia)) (j9 _ (by lia));refine gI gl9 ez ?_;obtain ⟨z0,y,hy,ey⟩:=hws z C;w_on;apply cJ (.inl dd9) jE ?_;apply bC fun p hp=>?_;have sE:=s7.trans W;exact q p _ _ _ (sE.free hp) (sE.trans (aJ.new hp)) aC (.inr (.inr ⟨rfl,by lia,.inl ⟨y,hy,by lia⟩⟩))
     ·w_on
      exact X _ _ ⟨_,rfl,aJ.refl _⟩
  ·intro NX X
   w_on;refine rC (fun c=>?_) (fun c=>?_)
   ·w_on
    refine dA fun l9 ad=>?_;have W:=aJ.new (o:=.lst []) ad;have g9:=W _ _ (sF _ _ hG5);apply VW g9 aC ?_;by_cases hw:ks=[]
    ·subst hw
     w_on;exact X _ _ ⟨_,rfl,sF.trans W⟩
    ·have hw0:0 < ks.length:=U9.mpr hw
     rw [X8.mpr hw];generalize L2.upd F l9 (.lst [])=G9 at W g9 ⊢;w_on;rw [g7];refine oK (by lia) ?_;obtain ⟨k,hk,ek⟩:=VD (z:=nm) hw;apply gI g9 ek ?_;apply bC fun p hp=>?_;have sE:=(s05.trans sF).trans W;obtain ⟨r,J,hs⟩:=hks k hk;exact q p _ _ _ (sE.free hp) (sE.trans (aJ.new hp)) aC (.inr (.inl ⟨rfl,k,r,rfl,J,hs⟩))
   ·w_on
    exact X _ _ ⟨_,rfl,sF⟩
 ·intro NX X
  w_on;refine rC (fun c=>?_) (fun c=>?_)
  ·w_on
   refine dA fun l9 ad=>?_;have W:=aJ.new (o:=.lst []) ad;have g9:=W _ _ g4;apply VW g9 aC ?_;by_cases hw:js=[]
   ·subst hw
    w_on;exact X _ _ ⟨_,rfl,W⟩
   ·have hw0:0 < js.length:=U9.mpr hw
    rw [X8.mpr hw];generalize L2.upd G5 l9 (.lst [])=G9 at W g9 ⊢;w_on;rw [g7];refine oK (by lia) ?_;obtain ⟨k,hk,ek⟩:=VD (z:=nm) hw;apply gI g9 ek ?_;apply bC fun p hp=>?_;have sE:=s05.trans W;obtain ⟨k1,k2,k3⟩:=hjok k hk;exact q p _ _ _ (sE.free hp) (sE.trans (aJ.new hp)) aC (.inl ⟨rfl,k,rfl,k1,k2,k3⟩)
  ·w_on
   exact X _ _ ⟨_,rfl,aJ.refl _⟩
theorem Ht:bZ P w K mg base (k+1) "_law_did" ["_law_here_here","_law_deed_here"] Ct:=by
 refine bZ.of vE.d42 Fh (by walk_at "ln") fun f ui A outer s H vs Q E X h=>?_;obtain ⟨dd,U,u,rs,ps,ts,ln,lr,I,J,i,pd,w,x,rfl,hN,hp,n1,n2,n3,n4,n5,h⟩:=h;refine ⟨_,(aH (bV (aY (eX X.units) (aN aQ (pv 1) aF) aP) (aH (dJ (jD y9 l7 l0 cL (aW X.u1 (pv 0) aP) (aA (bH (aA (aN aQ (pv 1) aF) (aA (aW X.u1 (pv 0) aP) aD))) aD)))) (aH (bV (aY (eX X.units) (aN aQ (pv 1) aF) aP) (aH (dJ (jD y9 l7 l0 cL (aW X.u1 (pv 0) aP) (aA (bH (aA (aN aQ (pv 1) aF) (aA (aW X.u1 (pv 0) aP) aD))) aD)))) (aH (iC X.u1 (pv 0) aP (aK bP (aW X.u1 (pv 0) aP) (aN aQ (pv 1) aF)) rfl)))))),?_⟩
 try dsimp only [aR,bA]
 obtain ⟨B,W⟩:=hN;obtain ⟨Z,C,R⟩:=id W.pq;obtain ⟨vt,D,S⟩:=id W.tq;have hvpl:Z.length=ps.length:=Paired.length R;have hvtl:vt.length=ts.length:=Paired.length S;have dp:dd≠I:=JM B C;have dt:dd≠J:=JM B D;rcases h with ⟨rfl,hl,q⟩|⟨rfl,hl,q⟩|⟨rfl,q⟩
 ·w_on
  apply qS (beq_self_eq_true _) ?_;apply cJ (.inl B) oR ?_;apply cJ (.inl B) jE ?_;apply bC fun p m=>?_;have N:=aJ.new (o:=.tup [.int x,.int i]) m;apply gJ (N _ _ C) (by lia) ?_;have Y:p≠I:=fun z=>by rw [z,C] at m; cases m
  have O:TK H (L2.upd (L2.upd H p (.tup [.int x,.int i])) I (.lst (Z++[.ref p]))):=N.tk.trans (TK.lst (N _ _ C));have g:∀{b:b8}{o:HO},b≠I->H b=some o->L2.upd (L2.upd H p (.tup [.int x,.int i])) I (.lst (Z++[.ref p])) b=some o:=fun nb e=>aX nb (N _ _ e);have new:LQ iH (L2.upd (L2.upd H p (.tup [.int x,.int i])) I (.lst (Z++[.ref p]))) I (ps++[(x,i)]):=⟨_,aC,Pd.snoc (Pd.imp R fun v b f=>iH.tk f O) ⟨p,rfl,aX Y aC⟩⟩
  obtain ⟨vr,G,M⟩:=id W.rq;exact q _ ((aJ.kpL N).trans (.upd (.tail _ (.head _)))) ⟨g dp B,⟨⟨_,g dp B⟩,g n1 W.nm,⟨vr,g n3 G,Pd.imp M fun v b f=>nV.tk f O⟩,new,⟨vt,g (j3 n5) D,Pd.imp S fun v b f=>iH.tk f O⟩⟩⟩
 ·w_on
  apply fO (by k_is) ?_;apply qS (beq_self_eq_true _) ?_;apply cJ (.inl B) jS ?_;apply cJ (.inl B) jE ?_;apply bC fun p m=>?_;have N:=aJ.new (o:=.tup [.int x,.int i]) m;apply gJ (N _ _ D) (by lia) ?_;have Y:p≠J:=fun z=>by rw [z,D] at m; cases m
  have O:TK H (L2.upd (L2.upd H p (.tup [.int x,.int i])) J (.lst (vt++[.ref p]))):=N.tk.trans (TK.lst (N _ _ D));have g:∀{b:b8}{o:HO},b≠J->H b=some o->L2.upd (L2.upd H p (.tup [.int x,.int i])) J (.lst (vt++[.ref p])) b=some o:=fun nb e=>aX nb (N _ _ e);have new:LQ iH (L2.upd (L2.upd H p (.tup [.int x,.int i])) J (.lst (vt++[.ref p]))) J (ts++[(x,i)]):=⟨_,aC,Pd.snoc (Pd.imp S fun v b f=>iH.tk f O) ⟨p,rfl,aX Y aC⟩⟩
  obtain ⟨vr,G,M⟩:=id W.rq;exact q _ ((aJ.kpL N).trans (.upd (.tail _ (.tail _ (.head _))))) ⟨g dt B,⟨⟨_,g dt B⟩,g n2 W.nm,⟨vr,g n4 G,Pd.imp M fun v b f=>nV.tk f O⟩,⟨Z,g n5 C,Pd.imp R fun v b f=>iH.tk f O⟩,new⟩⟩
 ·w_on
  apply fO (by k_is) ?_;apply fO (by k_is) ?_;apply cJ (.inl B) jE ?_;refine lV (c:=a9 "now") B (v9 rfl) ?_;rw [show eK (cK ln u lr I J [(a9 "now",.int i)]) (a9 "now") (.int (i+x))=cK ln u lr I J [(a9 "now",.int (i+x))] by with_unfolding_all rfl];w_on;have O:TK H (L2.upd H dd (.dK (cK ln u lr I J [(a9 "now",.int (i+x))]))):=TK.dic B;have g:∀{b:b8}{xs:List V},H b=some (.lst xs)->L2.upd H dd (.dK (cK ln u lr I J [(a9 "now",.int (i+x))])) b=some (.lst xs):=fun e=>aX (j3 (JM B e)) e;obtain ⟨vr,G,M⟩:=id W.rq;exact q _ (.upd (.head _)) ⟨aC,⟨⟨_,aC⟩,g W.nm,⟨vr,g G,Pd.imp M fun v b f=>nV.tk f O⟩,⟨Z,g C,Pd.imp R fun v b f=>iH.tk f O⟩,⟨vt,g D,Pd.imp S fun v b f=>iH.tk f O⟩⟩⟩
include o1k in
theorem tW:kK mI P w K mg base (k+1) cC "has_come" ["self","moment"] (TC cC):=by
 refine kK.of vE.d43 tJ (by walk_at "ln") fun f i A g s H S Q E C h=>?_;obtain ⟨h,M,ln,O,R,D,J,v,m,o,rfl,N,B,b,G,I,q⟩:=h;refine ⟨_,(aH (aS (tP (jP jZ (pv 1) dZ) (lI (JE (aI o1k C rfl (aA (dL (pv 0) dC) (aA (pv 1) aD)))))))),?_⟩
 try dsimp only [aR,bA]
 cases o with
|none =>
  cases (show v=.non from b);w_on;exact q
|some r =>
  obtain ⟨p,rfl,hp⟩:=id b;w_on;apply ⟨D,.ref p,m,r,rfl,B,b,G,I r rfl,?_⟩;exact q
theorem qQ:kK mI P w K mg base (k+1) cC "falls_told" ["self"] (uJ cC):=by
 refine kK.of vE.d44 qJ (by walk_at "ln") fun f ui A outer s H vs Q E hr h=>?_;obtain ⟨h,dx,ln,lp,lt,vm,dm,n,ps,ts,D,M,U,mo,ys,rfl,ho,hI,Z,h64,q⟩:=h;refine ⟨_,(aH (aS (eJ (cO (sc:=aG hZ) (N:=["self"]) (tn:=["post"]) (names:=["self"]) (is:=[0]) rfl rfl (by k_is) (by k_is) rfl (by k_is) rfl (by k_is) (by k_is) (by k_is)) rfl (cH (bD (yL rfl) rfl T.z_sorted mE (aA (dL (pv 0) dC) aD))) (fun _ _ _ _=>(bI (i:=0) (show (["post","self"]:List Str).Nodup by k_is) rfl (B6 rfl) (A9 rfl))) (fun _ _ _ _=>(bH (aA aP (aA (aW hr.u1 (MY (pv 1) dC) (pv 0)) (aA (pv 0) aD))))) (fun _ _ _ _=>(lB (aY jZ (aW hr.u1 (MY (pv 1) dC) (pv 0)) dZ)))))),?_⟩
 try dsimp only [aR,bA]
 have dq:=Z.dq;obtain ⟨kd,hkd,qd⟩:=id dq;have hyl:ys.length<=63:=u8 (iS Z.nd fun x hx=>hI.nm x ((Z.mem x).mp hx)) hI.u2;have hkk:kd.map (·.1)=ys.map a9:=by
  rw [qd.keys,L1];rfl
 w_on;refine ⟨dm,ys,rfl,.inr (.inr ⟨kd,hkd,hkk⟩),h64,fun ls S hls W _=>?_⟩;have hzl:S.length<=200:=by rw [W.length_eq]; lia
 have s1:=aJ.new (o:=.lst (S.map V.str)) hls;have B:L2.upd H ls (.lst (S.map V.str)) ls=some (.lst (S.map V.str)):=aC;have m:=s1 _ _ hkd;have ho1:=s1 _ _ ho;have M1:=Z.mv (fun o e=>s1 _ _ e) s1.tk;generalize L2.upd H ls (.lst (S.map V.str))=H1 at *;refine cG (cP.of B) ?_;refine xE (xs:=S.map V.str) (by rw [g7]; lia) (fun g i Y G=>Kp g H1 G/\Paired (gC G) Y ((S.take i).filterMap (gP mo))) (fun g I=>⟨Kp.new I,.nil⟩) ?_ ?_ ?_
 ·intro g i Y G I _ ⟨kp,_⟩
  exact cP.of (kp _ _ (aB B I) B)
 ·intro g i Y G x I hx J hG ⟨kp,pr⟩
  rw [i7] at hx;obtain ⟨y,hy,rfl⟩:=j7.mp hx;have hi:i < (S.map V.str).length:=by rw [g7]; exact (b9.mp hy).1
  have hyn:y∈names n:=(Z.mem y).mp (W.mem_iff.mp (i3 hy));have O:G dm=some (.dK kd):=kp _ _ (aB m I) m;have hoG:G h=some (.ins cC dx (cB ln lp lt vm dm)):=kp _ _ (aB ho1 I) ho1;have tkG:TK H1 G:=fun p xs e=>kp _ _ (aB e I) e;rcases M1.get m y with ⟨_,v,ev,qv⟩|⟨z,_⟩
  ·have C:=eI.tk qv tkG
   w_on;refine nM (c:=a9 y) (.inl O) ev ?_;cases e:mo (a9 y) with
  |none =>
    rw [e] at C;cases (show v=.non from C);w_on;refine mY hi J hG ⟨kp,?_⟩;rw [sR hy,gP,e];exact (D6 _).symm ▸ pr
  |some r =>
    rw [e] at C;obtain ⟨pv,rfl,hpv⟩:=id (show cA G v r from C);w_on;apply nM (c:=a9 y) (.inl O) ev ?_;refine bC fun t1 X=>?_;have hG2:=aL (o:=.tup [.str "falls",.ref pv,.str y]) X hG;refine oV hi J hG2 ⟨Kp.trans (Kp.trans kp (fun b o _ e=>aL X e)) Kp.upd,?_⟩;have tk:TK (L2.upd G t1 (.tup [.str "falls",.ref pv,.str y])) (L2.upd (L2.upd G t1 (.tup [.str "falls",.ref pv,.str y])) g (.lst (Y++[.ref t1]))):=TK.lst hG2;have tk2:=(TK.new (o:=.tup [.str "falls",.ref pv,.str y]) X).trans tk;rw [sR hy,show gP mo y=some (.falls r y) by rw [gP,e]; rfl];exact Pd.snoc (Pd.imp pr fun z e h=>gC.tk h tk2) ⟨t1,_,rfl,tk _ _ aC,cA.tk C tk2⟩
  ·exact absurd hyn z
 ·intro g Y G I hG J ⟨kp,pr⟩
  w_on;have sG:aJ H1 G:=fun b o e=>kp _ _ (aB e I) e;rw [g7] at J;rw [g7,A2] at pr;refine q g G Y _ (s1.free I) (s1.trans sG) hG (by lia) (W.filterMap _) pr fun e he=>?_;obtain ⟨y,_,hy⟩:=R5.mp he;obtain ⟨r,hr,rfl⟩:=j7.mp hy;have b:=Z.bd _ _ hr;exact ⟨Oh b,(hI.R.sz b).mono (by decide)⟩
include o0f o0v in
theorem oN:kK mI P w K mg base (k+1) cC "endings_told" ["self"] (wP cC):=by
 refine kK.of vE.d45 cF (by walk_at "ln") fun f ui A outer s H vs Q E hr h=>?_;obtain ⟨h,dx,ln,lp,lt,vm,dm,n,ps,C,D,M,U,m,ys,rfl,ho,W,hM,q⟩:=h;refine ⟨_,(aE (dU 1 cF.nd (aI o0f hr rfl (aA (dL (pv 0) dC) aD)))
   (aE (dU 2 cF.nd (cI aD))
   (aE (fD n9 rfl (MW rfl T.z_enumerate (aA (dL (pv 0) dC) aD)) (iR (n:=2) rfl (aU (nZ 3 cF.nd) (aU (nZ 4 cF.nd) cV))) (aE (dU 5 cF.nd (aI o0v hr rfl (aA (pv 4) (aA (dL (pv 0) dC) (aA (rZ hr.u1 (pv 1) (pv 3) ⟨rfl,rfl,rfl,rfl⟩) aD)))))
   (aH (bV (aY (eX hr.units) (aN aQ (pv 5) aF) aP) (aH (dJ (jD y9 l7 l0 cL (pv 2) (aA (bH (aA aP (aA (aN aQ (pv 5) aF) (aA (pv 3) (aA (aN aQ (pv 5) aF) aD))))) aD)))) (aH (bV (aY (eX hr.units) (aN aQ (pv 5) aF) aP) (aH (dJ (jD y9 l7 l0 cL (pv 2) (aA (bH (aA aP (aA (aN aQ (pv 5) aF) (aA (pv 3) aD)))) aD)))) bE))))))
   (aH (aS (pv 2)))))),?_⟩
 try dsimp only [aR,bA]
 obtain ⟨vn,hvn,pvn⟩:=id W.nq.lq;have hvl:vn.length=n.length:=by rw [Paired.length pvn]; unfold kn; exact g7 ..
 have hnl:n.length<=120:=by have:=W.nq.len; unfold kn at this; rw [g7] at this; exact this
 have dq:=hM.dq;obtain ⟨kd,hkd,qd⟩:=id dq;have zF:∀ p f,m p=some f->Sz 400 f:=fun p f e=>W.R.sz (hM.bd p f e);w_on;refine ⟨lt,C,rfl,W.tq,u8 W.tl (by decide),fun x hx=>(W.tz x hx).mono (by decide),fun dT H3 hdT s3 tq=>?_⟩;obtain ⟨kt,hkt,qt⟩:=tq;have ho3:=s3 _ _ ho;w_on;refine dA fun l hl=>?_;have s4:=aJ.new (o:=.lst []) hl;have hl4:L2.upd H3 l (.lst []) l=some (.lst []):=aC;have J:=s3.trans s4;have ho4:=J _ _ ho;have hvn4:=J _ _ hvn;have Y:=J _ _ hkd;have Z:=s4 _ _ hkt;have qt4:=qt.imp fun v b f=>cA.tk f s4.tk;have pvn4:=Pd.imp pvn fun v b f=>fA.tk f J.tk;have M4:=hM.mv (fun o e=>J _ _ e) J.tk;have O:H l=none:=s3.free hl;generalize L2.upd H3 l (.lst [])=H4 at *;w_on;refine ⟨ln,rfl,⟨vn,cP.of hvn4⟩,?_⟩;refine UK (xs:=vn) (fun i σ G=>∃ o1 o2 o3 N,σ=[some (.ref h),some (.ref dT),some (.ref l),o1,o2,o3]/\Kp l H4 G/\G l=some (.lst N)/\N.length<=i/\Paired (gC G) N (((k9 n.length).take i).filterMap (eN n m C))/\∀ e∈((k9 n.length).take i).filterMap (eN n m C),YD (2 * D) e) ⟨_,_,_,[],rfl,Kp.refl _ _,hl4,i5 _,.nil,fun z hz=>nomatch hz⟩ ?_ ?_ ?_
 ·rintro i σ G _ ⟨o1,o2,o3,N,rfl,kp,_⟩
  exact cP.of (kp _ _ (fun z=>by rw [z] at hvn; rw [hvn] at O; cases O) hvn4)
 ·rintro i x T σ G hx hT ⟨o1,o2,o3,N,rfl,kp,hG,hel,pr,bs⟩
  have hi:i < n.length:=by rw [← hvl]; exact (b9.mp hx).1
  obtain ⟨r',hr',g,u,rfl,hpr,ft⟩:=Paired.at pvn4 hx;have hnk:n[i]?=some n[i]:=c8 hi;have hkr:(kn n)[i]?=some (a9 n[i].1,a9 n[i].2.1,n[i].2.2):=by
   unfold kn;rw [i7,hnk];rfl
  rw [hkr] at hr';cases hr';have ac:=C5 hi;generalize n[i]=r at hkr hpr ft ac hnk;have bT:=W.nq.bd _ (j1.mpr ⟨r,ac,rfl⟩);have pT:(0:Rat) < r.2.2:=W.nq.pos _ (j1.mpr ⟨r,ac,rfl⟩);have h1n:r.1∈names n:=z9 _ (j1.mpr ⟨r,ac,rfl⟩);have h2n:r.2.1∈names n:=o0 _ (j1.mpr ⟨r,ac,rfl⟩);obtain ⟨va,ea,qa⟩:∃ v,bJ kd (a9 r.1)=some v/\eI H4 v (m (a9 r.1)):=by
   rcases M4.get Y r.1 with ⟨_,x⟩|⟨x,_⟩
   ·exact x
   ·exact absurd h1n x
  obtain ⟨vb,eb,qb⟩:∃ v,bJ kd (a9 r.2.1)=some v/\eI H4 v (m (a9 r.2.1)):=by
   rcases M4.get Y r.2.1 with ⟨_,x⟩|⟨x,_⟩
   ·exact x
   ·exact absurd h2n x
  have old:∀{b:b8}{o:HO},H4 b=some o->b≠l->L2.upd G T (.tup [.int i,.ref g]) b=some o:=fun e ne=>aL hT (kp _ _ ne e);have tkG:TK H4 G:=fun p xs e=>kp _ _ (iE e hl4 (by intro z; cases z)) e;have af:TK H4 (L2.upd G T (.tup [.int i,.ref g])):=tkG.trans (TK.new hT);have xh:h≠l:=fun z=>by rw [z,O] at ho; cases ho
  have xd:dm≠l:=fun z=>by rw [z,O] at hkd; cases hkd
  have xt:dT≠l:=fun z=>by rw [z,hl4] at Z; cases Z
  have hoT:=old ho4 xh;have hkdT:=old Y xd;have hktT:=old Z xt;have hprT:=af _ _ hpr;have hlT:=aL (o:=.tup [.int i,.ref g]) hT hG;have kpT:Kp l H4 (L2.upd G T (.tup [.int i,.ref g])):=kp.trans (fun b o _ e=>aL hT e);have prT:Paired (gC (L2.upd G T (.tup [.int i,.ref g]))) N (((k9 n.length).take i).filterMap (eN n m C)):=Pd.imp pr fun z e h=>gC.tk h (TK.new hT);have hTT:L2.upd G T (.tup [.int i,.ref g]) T=_:=aC;have ftT:=cA.tk ft af;have qaT:=eI.tk qa af;have qbT:=eI.tk qb af;have qtT:=qt4.imp fun v b f=>cA.tk f af;generalize L2.upd G T (.tup [.int i,.ref g])=G1 at *;have ot:eI G1 ((bJ kt (c7 (i:Int))).getD .non) (bM C i):=by
   unfold bM;rcases qtT.val (k:=c7 (i:Int)) with ⟨e1,S⟩|⟨v1,r1,e1,S,f1⟩
   ·rw [e1,S]
    rfl
   ·rw [e1,S]
    exact f1
  have zt:∀ f,bM C i=some f->Sz 400 f:=fun f e=>W.tz _ (jQ (bU e));w_on;apply ⟨dT,rfl,.inl ⟨kt,.inl hktT⟩,?_⟩;refine ⟨bJ kt (c7 (i:Int)),.inl ⟨kt,c7 (i:Int),.inl hktT,rfl,rfl⟩,?_⟩;generalize (bJ kt (c7 (i:Int))).getD .non=vk at ot ⊢;w_on;refine ⟨g,dm,vk,r.1,r.2.1,u,r.2.2,kd,_,_,_,va,vb,rfl,hprT,ftT,hkdT,ea,qaT,eb,qbT,ot,pT,W.R.sz (bT.mono (by lia)),zF _,zF _,zt,fun v G2 X s2=>?_⟩;have dn:=Bg (a:=r.1) (b:=r.2.1) (T:=r.2.2) W.R.ne bT.1 (fun f e=>(hM.bd (a9 r.1) f e).1) (fun f e=>(hM.bd (a9 r.2.1) f e).1);have dz:=WZ (a:=r.1) (b:=r.2.1) (T:=r.2.2) (W.R.sz (bT.mono (by lia))) (zF (a9 r.1)) (zF (a9 r.2.1));have hl2:=s2 _ _ hlT;have kp2:Kp l H4 G2:=kpT.trans s2.kp;have pr2:=Pd.imp prT fun z e h=>gC.tk h s2.tk;have eE:eN n m C i=pR i (mD (fF r.1 r.2.1 (m (a9 r.1)) (m (a9 r.2.1)) r.2.2) (bM C i)):=by unfold eN; rw [hnk]; rfl
  have eS:=sR (f:=eN n m C) (UD hi);have ho2:=s2 _ _ hoT;have ae:eN n m C i=none->∀ oz,∃ o1 o2 o3 I,[some (V.ref h),some (V.ref dT),some (V.ref l),some (V.int i),some (V.ref g),oz]=[some (V.ref h),some (V.ref dT),some (V.ref l),o1,o2,o3]/\Kp l H4 G2/\G2 l=some (.lst I)/\I.length<=i+1/\Paired (gC G2) I (((k9 n.length).take (i+1)).filterMap (eN n m C))/\∀ e∈((k9 n.length).take (i+1)).filterMap (eN n m C),YD (2 * D) e:=fun z oz=>by
   rw [eS,z];exact ⟨_,_,_,N,rfl,kp2,hl2,Nat.le_succ_of_le hel,(D6 _).symm ▸ pr2,(D6 _).symm ▸ bs⟩
  have snoc:∀(B:b8)(xs:List V)(e:Ev),G2 B=none->eN n m C i=some e->(∀ {G3},TK G2 G3->G3 B=some (.tup xs)->gC G3 (.ref B) e)->YD (2 * D) e->∀ oz,∃ o1 o2 o3 I,[some (V.ref h),some (V.ref dT),some (V.ref l),some (V.int i),some (V.ref g),oz]=[some (V.ref h),some (V.ref dT),some (V.ref l),o1,o2,o3]/\Kp l H4 (L2.upd (L2.upd G2 B (.tup xs)) l (.lst (N++[.ref B])))/\L2.upd (L2.upd G2 B (.tup xs)) l (.lst (N++[.ref B])) l=some (.lst I)/\I.length<=i+1/\Paired (gC (L2.upd (L2.upd G2 B (.tup xs)) l (.lst (N++[.ref B])))) I (((k9 n.length).take (i+1)).filterMap (eN n m C))/\∀ e∈((k9 n.length).take (i+1)).filterMap (eN n m C),YD (2 * D) e:=fun B xs e ht he fe be oz=>by
   have hl3:=aL (o:=.tup xs) ht hl2;have BM:=(TK.new (o:=.tup xs) ht).trans (TK.lst (o:=.lst (N++[.ref B])) hl3);rw [eS,he];refine ⟨_,_,_,N++[.ref B],rfl,(kp2.trans (fun b o _ e=>aL ht e)).trans Kp.upd,aC,by rw [i9]; show _+1<=_; lia,Pd.snoc (Pd.imp pr2 fun z e h=>gC.tk h BM) (fe BM (TK.lst hl3 _ _ aC)),fun z hz=>?_⟩;rcases m9.mp hz with hz|hz
   ·exact bs z hz
   ·rw [f9.mp hz]
    exact be
  rcases DM (e:=fF r.1 r.2.1 (m (a9 r.1)) (m (a9 r.2.1)) r.2.2) (tk:=bM C i) with ⟨t,e⟩|e
  ·rw [e] at X
   obtain ⟨p,w,rfl,hp,fw⟩:=X;w_on;apply fO (by k_is) ?_;apply fO (by k_is) ?_;exact ae (by rw [eE,e]; rfl) _
  ·rw [e] at X
   cases S:fF r.1 r.2.1 (m (a9 r.1)) (m (a9 r.2.1)) r.2.2 with
  |stands =>
    rw [S] at X;obtain ⟨p,rfl,hp⟩:=X;w_on;apply fO (by k_is) ?_;apply fO (by k_is) ?_;exact ae (by rw [eE,e,S]; rfl) _
  |taken t =>
    rw [S] at X;obtain ⟨p,w,rfl,hp,fw⟩:=X;w_on;apply fO (by k_is) ?_;apply fO (by k_is) ?_;exact ae (by rw [eE,e,S]; rfl) _
  |swept s t =>
    rw [S] at X dn dz;obtain ⟨p,w,rfl,hp,fw⟩:=X;w_on;apply fO (by k_is) ?_;apply qS (beq_self_eq_true _) ?_;apply bC fun B ad=>?_;apply gJ (aL ad hl2) (by lia) ?_;exact snoc B _ (.swept t i) ad (by rw [eE,e,S]; rfl) (fun tk h=>⟨B,w,rfl,h,fw.tk tk⟩) ⟨dn t rfl,dz t rfl⟩ _
  |met t sh =>
    rw [S] at X dn dz;obtain ⟨p,w,w2,rfl,hp,fw,fw2⟩:=X;w_on;apply qS (beq_self_eq_true _) ?_;apply bC fun B ad=>?_;apply gJ (aL ad hl2) (by lia) ?_;exact snoc B _ (.met t i sh) ad (by rw [eE,e,S]; rfl) (fun tk h=>⟨B,w,w2,rfl,h,fw.tk tk,fw2.tk tk⟩) ⟨dn t rfl,dz t rfl⟩ _
 ·rintro σ G ⟨o1,o2,o3,N,rfl,kp,hG,hel,pr,bs⟩
  w_on;have eT:(k9 n.length).take vn.length=k9 n.length:=ar (by rw [Y1]; lia);rw [eT] at pr bs;exact q l G N O (fun b o e=>kp _ _ (aB e O) (J _ _ e)) hG (by lia) pr bs
include o1t o1k o0z o0u o0g o0c o0b in
theorem JJ:kK mI P w K mg base (k+1) cC "go" ["self","time"] (Kz K cC):=by
 refine kK.of vE.d46 mP (by walk_at "ln") fun f ui A outer s H vs Q E hr h=>?_;obtain ⟨h,dx,ln,Y,Z,vm,S,v,m,n,ps,ts,D,M,U,mo,ys,rfl,ho,hI,hM,hm,zm,hT,hyn,t,fv,t0,zt,zmt,q⟩:=h;refine ⟨_,(aE (bV (iB (cS (aI o0z hr rfl (aA (pv 1) aD)))) (aH jY) bE)
   (aE (dU 2 mP.nd (dL (pv 0) dC))
   (aE (qK (pv 0) (aI o1t hr rfl (aA (pv 2) (aA (pv 1) aD))) rfl)
   (aE (dU 3 mP.nd (aK bP (lJ o0c HC.cl hr fI (pv 0)) (lJ o0b HC.cl hr fI (pv 0))))
   (aE (rW (i:=4) mP.nd rfl (by w_left) (cO (sc:=aG pE) (N:=["self","time","before","told","fresh"]) (tn:=["each"]) (names:=["self","before"]) (is:=[0,2]) rfl rfl (by k_is) (by k_is) rfl (by k_is) rfl (by k_is) (by k_is) (by k_is)) rfl (cH (pv 3)) (fun _ _ _ _=>(bI (i:=0) (show (["each","self","before"]:List Str).Nodup by k_is) rfl (B6 rfl) (A9 rfl))) (fun _ _ _ _=>(pv 0)) (fun _ _ _ _=>(lB (PW.pt (jH (cS (aI o1k hr rfl (aA (pv 2) (aA (aN jJ (pv 0) aF) aD)))) (fU (cS (rY o0g HC.cl hr fI (pv 1) (aA (aN jJ (pv 0) aF) aD)))))))))
   (aH (aS (aI o0u hr rfl (aA (eJ (cO (sc:=aG pE) (N:=["self","time","before","told","fresh"]) (tn:=["each"]) (names:=[]) (is:=[]) rfl rfl (by k_is) (by k_is) rfl (by k_is) rfl (by k_is) (by k_is) (by k_is)) rfl (cH (pv 4)) (fun _ _ _ _=>(bI (i:=0) (show (["each"]:List Str).Nodup by k_is) rfl (B6 rfl) (A9 rfl))) (fun _ _ _ _=>(aN jJ (pv 0) aF)) (fun _ _ _ _=>eC)) (aA (pv 4) aD)))))))))),?_⟩
 try dsimp only [aR,bA]
 have z4:Sz 400 m:=hI.R.sz (zm.mono (by lia));w_on;apply ⟨v,t,rfl,fv,t0,zt.mono (by decide),?_⟩;refine ⟨vm,v,m,t,rfl,hm,fv,z4.mono (by decide),zt.mono (by decide),fun g H1 fm1 s1=>?_⟩;have ho1:=s1 _ _ ho;have T1:LT H1:=sX.same hT s1;w_on;rw [WR];have xd:S≠h:=fun z=>by
  obtain ⟨kd,hkd,_⟩:=hM.dq;rw [z,ho] at hkd;cases hkd
 have k1:jW [h] H (L2.upd H1 h (.ins cC dx (cB ln Y Z g S))):=(aJ.kpL s1).trans (.upd (.head _));have ho2:L2.upd H1 h (.ins cC dx (cB ln Y Z g S)) h=_:=aC;have t1:TK H (L2.upd H1 h (.ins cC dx (cB ln Y Z g S))):=s1.tk.trans (vY ho1);have I2:cM (L2.upd H1 h (.ins cC dx (cB ln Y Z g S))) ln Y Z n ps ts D M U:=hI.mv (fun l xs e=>k1.app1 (fun z=>by rw [z,ho] at e; cases e) e) t1;have M2:cQ (L2.upd H1 h (.ins cC dx (cB ln Y Z g S))) S n ps ts D M mo ys:=hM.mv (fun o e=>k1.app1 xd e) t1;have fm2:cA (L2.upd H1 h (.ins cC dx (cB ln Y Z g S))) g (m+t):=fm1.tk (vY ho1);have fb2:=hm.tk t1;have T2:LT (L2.upd H1 h (.ins cC dx (cB ln Y Z g S))):=T1.ins ho1;generalize L2.upd H1 h (.ins cC dx (cB ln Y Z g S))=H2 at *;refine ⟨h,dx,ln,Y,Z,g,S,n,ps,ts,D,M,U,mo,ys,rfl,ho2,I2,M2,by lia,fun p3 H3 zs e3 hp3 s3 g3 l3 pm3 ev3 b3=>?_⟩;have ho3:=s3 _ _ ho2;w_on;refine ⟨h,dx,ln,Y,Z,g,S,n,ps,ts,D,M,U,mo,ys,rfl,ho3,I2.sm s3,M2.mv (fun o e=>s3 _ _ e) s3.tk,fun p4 H4 O hp4 s4 g4 l4 ev4 b4=>?_⟩;have g34:=s4 _ _ g3;w_on;refine OG g34 g4 (by lia) fun p5 hp5=>?_;have s5:=aJ.new (o:=.lst (zs++O)) hp5;have g5:L2.upd H4 p5 (.lst (zs++O)) p5=_:=aC;have s25:=(s3.trans s4).trans s5;have ev5:Paired (gC (L2.upd H4 p5 (.lst (zs++O)))) (zs++O) (e3++(k9 n.length).filterMap (eN n mo ts)):=Pd.app (Pd.imp ev3 fun z e h=>gC.tk h (s4.trans s5).tk) (Pd.imp ev4 fun z e h=>gC.tk h s5.tk);have pm5:(e3++(k9 n.length).filterMap (eN n mo ts)).Perm (jF n mo ts ys):=pm3.append_right _;have b5:∀ e∈e3++(k9 n.length).filterMap (eN n mo ts),YD (2 * D) e:=fun e W=>by
  rcases m9.mp W with W|W
  ·exact b3 e W
  ·exact b4 e W
 have ll:(zs++O).length < 64:=by
  have x1:=Paired.length ev3;have x2:=Paired.length ev4;have x3:=pm3.length_eq;have x4:=N9 (gP mo) ys;have x5:=N9 (eN n mo ts) (k9 n.length);rw [Y1] at x5;rw [i9];lia
 generalize L2.upd H4 p5 (.lst (zs++O))=H5 at *;generalize zs++O=es at *;generalize e3++(k9 n.length).filterMap (eN n mo ts)=E5 at *;have l5:=Paired.length ev5;have ho5:=s25 _ _ ho2;w_on;refine cG (cP.of g5) ?_;refine xE (xs:=es) (by lia) (fun C i fs G=>Kp C H5 G/\Paired (gC H5) fs ((E5.take i).filter (fresh m (m+t)))) (fun C h0=>⟨Kp.new h0,.nil⟩) ?_ ?_ ?_
 ·intro C i fs G h0 _ ⟨kp,_⟩
  exact cP.of (kp _ _ (aB g5 h0) g5)
 ·intro C i fs G x h0 hx hfl hG ⟨kp,pr⟩
  have hi:i < es.length:=(b9.mp hx).1;have hxm:=i3 hx;obtain ⟨e,W,ex⟩:=Paired.at ev5 hx;have ⟨dr,zr⟩:=b5 e (i3 W);obtain ⟨p,sg,u,jC,rfl,hp,fr⟩:=gC.two ex;have eS:=Ba (f:=fresh m (m+t)) W;have eF:fresh m (m+t) e=(decide (m < e.t)&&vB (m+t) (some e.t)):=rfl;obtain ⟨r,er⟩:∃ r,e.t=r:=⟨_,rfl⟩
  rw [er] at fr dr zr eF;have J:TK H5 G:=fun p xs e=>kp _ _ (aB e h0) e;have hpG:=J _ _ hp;have hoG:G h=some (.ins cC dx (cB ln Y Z g S)):=kp _ _ (aB ho5 h0) ho5;have frG:=fr.tk J;have fbG:=fb2.tk (s25.tk.trans J);have fmG:=fm2.tk (s25.tk.trans J);have skip:fresh m (m+t) e=false->yF es.length C (fun i fs G=>Kp C H5 G/\Paired (gC H5) fs ((E5.take i).filter (fresh m (m+t)))) fs i G:=fun z=>mY hi hfl hG ⟨kp,by rw [eS,z]; exact (D6 _).symm ▸ pr⟩;have at1:yN (V.str sg::u::jC) 1=some u:=fX (j:=1) rfl;w_on;apply MG hpG at1 ?_;apply ⟨vm,u,m,r,rfl,fbG,frG,z4.mono (by decide),zr.mono (by decide),?_⟩;refine rC (fun c=>?_) (fun c=>?_)
  ·w_on
   apply MG hpG at1 ?_;refine ⟨h,dx,ln,Y,Z,g,S,u,m+t,some r,rfl,hoG,fmG,frG,(hI.R.sz (zmt.mono (by lia))).mono (by decide),fun r' e'=>by cases e'; exact zr.mono (by decide),?_⟩;w_on;cases ec:vB (m+t) (some r) with
  |true =>
    w_on;refine oV hi hfl hG ⟨kp.trans Kp.upd,?_⟩;rw [eS,eF,ec,decide_eq_true c];exact Pd.snoc pr ex
  |false =>
    w_on;exact skip (by rw [eF,ec,cr])
  ·w_on
   exact skip (by rw [eF,decide_eq_false c,ko])
 ·intro C fs G h0 hG hfl ⟨kp,pr⟩
  have s6:aJ H5 G:=fun b o e=>kp _ _ (aB e h0) e;rw [l5,A2] at pr;have pr6:=Pd.imp pr fun z e h=>gC.tk h s6.tk;have b6:∀ e∈E5.filter (fresh m (m+t)),YD (2 * D) e:=fun e W=>b5 e (cz.mp W).1;have pm6:(E5.filter (fresh m (m+t))).Perm ((jF n mo ts ys).filter (fresh m (m+t))):=pm5.filter _;have ev6:∀ z∈fs,Rz (2 * D) G z:=fun z hz=>by
   obtain ⟨j,hj⟩:=J1 hz;obtain ⟨e,W,ex⟩:=Paired.at pr6 hj;exact gC.d ex (b6 e (i3 W))
  have s26:=s25.trans s6;w_on;refine cG (cP.of hG) ?_;refine pJ (xs:=fs) (by lia) (fun B i ws G'=>Kp B G G'/\∀ x∈ws,Jx (2 * D) G' x) (fun B h0=>⟨Kp.new h0,fun z hz=>nomatch hz⟩) ?_ ?_ ?_
  ·rintro B i ws G' h0' _ ⟨X,_⟩
   exact cP.of (X _ _ (aB hG h0') hG)
  ·rintro B i ws G' x h0' hx hwl ha ⟨X,pw⟩
   obtain ⟨p,sg,u,jC,rfl,hp,fu⟩:=ev6 x (i3 hx);have J:TK G G':=fun p xs e=>X _ _ (aB e h0') e;have at1:yN (V.str sg::u::jC) 1=some u:=fX (j:=1) rfl;w_on;refine MG (J _ _ hp) at1 ?_;refine iG (b9.mp hx).1 hwl ha ⟨X.trans Kp.upd,fun z hz=>?_⟩;have tk:=TK.lst (o:=.lst (ws++[u])) ha;rcases m9.mp hz with hz|hz
   ·exact (pw z hz).tk tk
   ·rw [f9.mp hz]
    exact fu.tk (J.trans tk)
  ·rintro B ws G' h0' ha hwl ⟨X,pw⟩
   have s7:aJ G G':=fun b o e=>X _ _ (aB e h0') e;have I:=s26.trans s7;have T7:LT G':=sX.same T2 I;w_on;refine ⟨B,C,ws,fs,2 * D,rfl,ha,s7 _ _ hG,hwl,by lia,by have:=hI.R.ne; lia,by have:=hI.R.d3; exact c9 (show 2 * D < 2 ^ 301 by rw [pow_succ]; lia) (Q8 (by decide) (by decide)),pw,T7,fun p8 H8 zs8 hp8 k8 T8 pm8 g8=>?_⟩;w_on;have t8:=Pt k8 T7;have keep:∀{b:b8}{o:HO},H2 b=some o->(∀ ps,o≠.tbl ps)->H8 b=some o:=fun e ne=>kT k8 T7 (I _ _ e) ne;obtain ⟨e8,pe8,ev8⟩:=NB pm8 (Pd.imp pr6 fun z e h=>gC.tk h (s7.tk.trans t8));have hp0:H p8=none:=by
    have h2:=I.free hp8;cases e:H p8 with
   |none=>rfl
   |some o =>
     have nh:p8≠h:=fun z=>by rw [z,ho2] at h2; cases h2
     rw [k1.app1 nh e] at h2;cases h2
   refine q p8 g H8 zs8 e8 hp0 g8 (by rw [pm8.length_eq]; lia) ev8 (pe8.trans pm6) (fun e W=>b6 e (pe8.mem_iff.mp W)) (fun b o nb e=>?_) T8 (keep ho2 (fun _ z=>nomatch z)) (fm2.tk (I.tk.trans t8)) (I2.mv (fun l xs e=>keep e (fun _ z=>nomatch z)) (I.tk.trans t8)) (M2.mv (fun o e=>?_) (I.tk.trans t8))
   ·exact k8 _ _ (fun z=>nb (by rw [z]; exact .tail _ (.head _))) (I _ _ (k1 _ _ (fun z=>nb (by rw [f9.mp z]; exact .head _)) e))
   ·obtain ⟨kd,hkd,_⟩:=M2.dq
    rw [hkd] at e;cases e;exact keep hkd (fun _ z=>nomatch z)
include o0i in
theorem xP:kK mI P w K mg base (k+1) cC "reckon" ["self"] (FD cC):=by
 refine kK.of vE.d47 wT (by walk_at "ln") fun f S A G s H vs Q E B h=>?_;obtain ⟨h,dx,ln,Y,J,vm,dm,n,ps,ts,D,M,U,rfl,I,b,q⟩:=h;refine ⟨_,(aH (qK (pv 0) (aI o0i.f B rfl (aA (dL (pv 0) dC) (aA (dL (pv 0) dC) (aA (dL (pv 0) dC) aD)))) rfl)),?_⟩
 try dsimp only [aR,bA]
 w_on;refine ⟨ln,n,Y,ps,.ref J,ts,D,M,U,rfl,b.nq,b.pq,⟨.inr ⟨J,rfl,b.tq⟩,b.tl,fun r B=>(b.tz r B).mono (by decide)⟩,b.R.r8,b.u2,b.nm,fun d H1 F ys g N W X O Z C=>?_⟩;have m:=N _ _ I;w_on;rw [WQ];have i:d≠h:=fun z=>by rw [z,I] at g; cases g
 exact q d _ _ ys g (N.kpL.trans (.upd (.head _))) aC ((cQ.of W X O Z C).mv (fun o z=>aX i z) (vY m))
include o1b o0f o0k in
theorem yV:kK mI P w K mg base (k+1) cC "tiles" ["self","number"] (KU K cC):=by
 refine kK.of vE.d48 pY (by walk_at "ln") fun f ui A outer s H vs Q E O h=>?_;obtain ⟨h,dx,ln,lp,lt,vm,dm,i,r,m,n,ps,ts,D,M,U,mo,ys,rfl,ho,b,N,hm,zm,C,q⟩:=h;refine ⟨_,(aE (bV (PW.pt (nN (iB (cS (aI o1b O rfl (aA (pv 1) aD)))) (jG (iB (UY Dy sK aF (pv 1) (bD iL rfl T.z_len eY (aA (dL (pv 0) dC) aD))))))) (aH jY) bE)
   (aE (dU 2 pY.nd (rZ O.u1 (aI o0f O rfl (aA (dL (pv 0) dC) aD)) (pv 1) ⟨rfl,rfl,rfl,rfl⟩))
   (aH (aS (aI o0k O rfl (aA (aN aQ (dL (pv 0) dC) (pv 1)) (aA (dL (pv 0) dC) (aA (pv 2) (aA (dL (pv 0) dC) aD))))))))),?_⟩
 try dsimp only [aR,bA]
 obtain ⟨vn,ad,J⟩:=id b.nq.lq;have hvl:vn.length=n.length:=by rw [Paired.length J]; unfold kn; exact g7 ..
 have hnl:=b.nq.len;have hkl:i < n.length:=(b9.mp C).1;have Z:(kn n)[i]?=some (a9 r.1,a9 r.2.1,r.2.2):=by
  unfold kn;rw [i7,C];rfl
 have g:=i3 C;obtain ⟨vr,ae,pr,u,rfl,ac,ft⟩:=tQ J Z;have bT:=b.nq.bd _ (j1.mpr ⟨r,g,rfl⟩);have pT:(0:Rat) < r.2.2:=b.nq.pos _ (j1.mpr ⟨r,g,rfl⟩);have X:r.1∈names n:=z9 _ (j1.mpr ⟨r,g,rfl⟩);have Y:r.2.1∈names n:=o0 _ (j1.mpr ⟨r,g,rfl⟩);have dq:=N.dq;obtain ⟨kd,B,qd⟩:=id dq;obtain ⟨va,ea,qa⟩:∃ v,bJ kd (a9 r.1)=some v/\eI H v (mo (a9 r.1)):=by
  rcases N.get B r.1 with ⟨_,x⟩|⟨x,_⟩
  ·exact x
  ·exact absurd X x
 obtain ⟨vb,eb,qb⟩:∃ v,bJ kd (a9 r.2.1)=some v/\eI H v (mo (a9 r.2.1)):=by
  rcases N.get B r.2.1 with ⟨_,x⟩|⟨x,_⟩
  ·exact x
  ·exact absurd Y x
 have zF:∀ p f,mo p=some f->Sz 400 f:=fun p f e=>b.R.sz (N.bd p f e);w_on;refine ⟨_,_,_,_,rfl,.int _,lC,jR,?_⟩;rw [show (true&&!false)=true from rfl];w_on;apply US ?_;refine ⟨_,rfl,?_⟩;apply Iw (by lia) ?_;refine ⟨lt,ts,rfl,b.tq,u8 b.tl (by decide),fun x hx=>(b.tz x hx).mono (by decide),fun dT H3 _ o tq=>?_⟩;obtain ⟨I,G,qt⟩:=tq;apply ⟨dT,rfl,.inl ⟨I,.inl G⟩,?_⟩;refine ⟨bJ I (c7 (i:Int)),.inl ⟨I,c7 (i:Int),.inl G,rfl,rfl⟩,?_⟩;have ot:eI H3 ((bJ I (c7 (i:Int))).getD .non) (bM ts i):=by
  unfold bM;rcases qt.val (k:=c7 (i:Int)) with ⟨S,W⟩|⟨v1,r1,S,W,f1⟩
  ·rw [S,W]
   rfl
  ·rw [S,W]
   exact f1
 have zt:∀ f,bM ts i=some f->Sz 400 f:=fun f e=>b.tz _ (jQ (bU e));generalize (bJ I (c7 (i:Int))).getD .non=vk at ot ⊢;have ho3:=o _ _ ho;w_on;apply gI (o _ _ ad) (fX ae) ?_;apply ⟨pr,dm,vk,vm,r.1,r.2.1,u,r.2.2,m,kd,_,_,_,va,vb,rfl,o _ _ ac,ft.tk o.tk,o _ _ B,ea,qa.tk o.tk,eb,qb.tk o.tk,ot,hm.tk o.tk,S8 pT,b.R.sz (bT.mono (by lia)),b.R.sz (zm.mono (by lia)),zF _,zF _,zt,fun v H4 lv s4=>?_⟩;exact q v H4 (o.trans s4) lv
include o0p o0r in
theorem CL:kK mI P w K mg base (k+1) cC "take" ["self","number"] (SM K cC):=by
 refine kK.of vE.d49 BX (by walk_at "ln") fun f ui A outer s H vs Q E hr h=>?_;obtain ⟨h,dx,ln,lp,i,C,dm,B,r,m,n,ps,ts,D,M,U,mo,ys,rfl,O,g,hM,hm,zm,hl,hnk,e,q⟩:=h;refine ⟨_,(aE (bV (aY mU (rY o0r HC.cl hr fI (pv 0) (aA (pv 1) aD)) dZ) (aH jY) bE)
   (aE (dJ (jD y9 l7 l0 cL (dL (pv 0) dC) (aA (bH (aA (pv 1) (aA (dL (pv 0) dC) aD))) aD)))
   (aH (dJ (lJ o0p HC.cl hr fI (pv 0)))))),?_⟩
 try dsimp only [aR,bA]
 have z4:Sz 400 m:=g.R.sz (zm.mono (by lia));w_on;refine ⟨h,dx,ln,lp,i,C,dm,B,r,m,n,ps,ts,D,M,U,mo,ys,rfl,O,g,hM,hm,zm,hnk,fun w I s0 lv=>?_⟩;have g:=g.sm s0;have O:=s0 _ _ O;have hm:=hm.tk s0.tk;obtain ⟨p0,rfl⟩:∃ p,w=.ref p:=by
  cases z:BO (mo (a9 r.1)) (mo (a9 r.2.1)) (bM ts B) r.2.2 m with
 |none=>exact absurd z e
 |some x =>
   rw [z] at lv;obtain ⟨p,u,w1,rfl,_⟩:=lv;exact ⟨p,rfl⟩
 w_on;obtain ⟨J,G,Y⟩:=id g.tq;have hvl:J.length=ts.length:=Paired.length Y;apply UT G ?_;apply bC fun p hp=>?_;have S:=aJ.new (o:=.tup [.int (B:Int),C]) hp;refine gJ (S _ _ G) (by lia) ?_;have hpl:h≠i:=fun z=>by rw [z,G] at O; cases O
 have t1:TK I (L2.upd (L2.upd I p (.tup [.int (B:Int),C])) i (.lst (J++[.ref p]))):=S.tk.trans (TK.lst (S _ _ G));have W:L2.upd (L2.upd I p (.tup [.int (B:Int),C])) i (.lst (J++[.ref p])) h=some (.ins cC dx (cB ln lp i C dm)):=aX hpl (S _ _ O);have ppl:p≠i:=fun z=>by rw [z,G] at hp; cases hp
 have X:∀{b:b8}{o:HO},b≠i->I b=some o->L2.upd (L2.upd I p (.tup [.int (B:Int),C])) i (.lst (J++[.ref p])) b=some o:=fun nb e=>aX nb (S _ _ e);have kq:nX (L2.upd (L2.upd I p (.tup [.int (B:Int),C])) i (.lst (J++[.ref p]))) (.ref p) (c7 (B:Int),m):=⟨p,C,rfl,aX ppl aC,hm.tk t1⟩
 have Z:cM (L2.upd (L2.upd I p (.tup [.int (B:Int),C])) i (.lst (J++[.ref p]))) ln lp i n ps (ts++[(c7 (B:Int),m)]) D M U:=
  ⟨⟨LQ.mv g.nq.lq fA.tk (fun o e=>X g.n2 e) t1,g.nq.len,g.nq.bd,g.nq.pos⟩,⟨LQ.mv g.pq.lq nX.tk (fun o e=>X g.n3 e) t1,g.pq.len,g.pq.bd⟩,⟨_,aC,Paired.snoc (Pd.imp Y fun v b f=>nX.tk f t1) kq⟩,by rw [i9]; show _+1<=_; lia,fun r hr=>by
   rcases m9.mp hr with z|z
   ·exact g.tz r z
   ·rw [f9.mp z]; exact z4,g.R,g.u2,g.nm,g.n1,g.n2,g.n3⟩
 have k1:jW [h,i] H (L2.upd (L2.upd I p (.tup [.int (B:Int),C])) i (.lst (J++[.ref p]))):=(aJ.kpL (s0.trans S)).trans (.upd (.tail _ (.head _)));generalize L2.upd (L2.upd I p (.tup [.int (B:Int),C])) i (.lst (J++[.ref p]))=H1 at W Z k1 ⊢;w_on;apply ⟨h,dx,ln,lp,i,C,dm,n,ps,_,D,M,U,rfl,W,Z,fun d H2 mo' ys' N k2 o2 M2=>?_⟩;have t2:TK H1 H2:=k2.tk fun b hb xs e=>by rw [f9.mp hb,W] at e; cases e
 have hdf:H d=none:=k1.fr (fun z=>by
  rcases n6.mp z with e|z
  ·rw [e,W] at N; cases N
  ·rw [f9.mp z] at N
   obtain ⟨_,e,_⟩:=Z.tq;rw [e] at N; cases N) N
 exact q d H2 mo' ys' hdf (k1.trans (k2.mono fun x hx=>by rw [f9.mp hx]; exact .head _)) o2 (Z.mv (fun l xs e=>k2 _ _ (fun z=>by rw [f9.mp z,W] at e; cases e) e) t2) M2
theorem mV:kK mI P w K mg base (k+1) cC "refuse_no_post" ["self","post"] (FF cC):=by
 refine kK.of vE.d50 mO (by walk_at "ln") fun f g A b s H M Q E m h=>?_;obtain ⟨h,B,ln,G,I,J,o,y,u,D,rfl,C,i,e,q⟩:=h;refine ⟨_,(aH (bV (PW.pt (nN (iB (cS (bD (pO (T:="str")) rfl T.z_isinstance jA (aA (pv 1) (aA (vK (v:=.ty "str") rfl T.z_str XQ rfl) aD))))) (jG (tO (tS m.u1 (pv 1) (dL (pv 0) dC)))))) (aH jY) bE)),?_⟩
 try dsimp only [aR,bA]
 w_on;apply tM (.str y) HQ ?_;refine UN (c:=a9 y) (.inl i) ?_;rw [e];w_on;exact q
include o0g o0p o0a in
theorem CM:kK mI P w K mg base (k+1) cC "push" ["self","post"] (SQ cC):=by
 refine kK.of vE.d51 BY (by walk_at "ln") fun f ui A outer s H vs Q E N h=>?_;obtain ⟨h,dx,ln,i,W,B,dm,y,m,n,ps,ts,D,M,U,mo,ys,rfl,S,g,hM,hm,zm,hl,hy,hc,q⟩:=h;refine ⟨_,(aE (dJ (rY o0a HC.cl N fI (pv 0) (aA (pv 1) aD)))
   (aE (bV (cS (rY o0g HC.cl N fI (pv 0) (aA (aW N.u1 (dL (pv 0) dC) (pv 1)) aD))) (aH jY) bE)
   (aE (dJ (jD y9 l7 l0 cL (dL (pv 0) dC) (aA (bH (aA (pv 1) (aA (dL (pv 0) dC) aD))) aD)))
   (aH (dJ (lJ o0p HC.cl N fI (pv 0))))))),?_⟩
 try dsimp only [aR,bA]
 have dq:=hM.dq;obtain ⟨kd,I,qd⟩:=id dq;have z8:Sz 8000 m:=(g.R.sz (zm.mono (by lia))).mono (by decide);obtain ⟨u,eu,qu⟩:∃ u,bJ kd (a9 y)=some u/\eI H u (mo (a9 y)):=by
  rcases hM.get I y with ⟨_,x⟩|⟨x,_⟩
  ·exact x
  ·exact absurd hy x
 w_on;apply ⟨h,dx,ln,i,W,B,dm,y,u,kd,rfl,S,I,eu,?_⟩;apply nM (c:=a9 y) (.inl I) eu ?_;refine ⟨h,dx,ln,i,W,B,dm,u,m,_,rfl,S,hm,qu,z8,fun r e=>(g.R.sz (hM.bd _ r e)).mono (by decide),?_⟩;rw [hc];w_on;obtain ⟨G,C,Z⟩:=id g.pq.lq;have hvl:G.length=ps.length:=Paired.length Z;apply UT C ?_;apply bC fun p hp=>?_;have O:=aJ.new (o:=.tup [.str y,B]) hp;refine gJ (O _ _ C) (by lia) ?_;have hpl:h≠i:=fun z=>by rw [z,C] at S; cases S
 have t1:TK H (L2.upd (L2.upd H p (.tup [.str y,B])) i (.lst (G++[.ref p]))):=O.tk.trans (TK.lst (O _ _ C));have X:L2.upd (L2.upd H p (.tup [.str y,B])) i (.lst (G++[.ref p])) h=some (.ins cC dx (cB ln i W B dm)):=aX hpl (O _ _ S);have ppl:p≠i:=fun z=>by rw [z,C] at hp; cases hp
 have Y:∀{b:b8}{o:HO},b≠i->H b=some o->L2.upd (L2.upd H p (.tup [.str y,B])) i (.lst (G++[.ref p])) b=some o:=fun nb e=>aX nb (O _ _ e);have kq:nX (L2.upd (L2.upd H p (.tup [.str y,B])) i (.lst (G++[.ref p]))) (.ref p) (a9 y,m):=⟨p,B,rfl,aX ppl aC,hm.tk t1⟩
 have I1:cM (L2.upd (L2.upd H p (.tup [.str y,B])) i (.lst (G++[.ref p]))) ln i W n (ps++[(a9 y,m)]) ts D M U:=
  ⟨⟨LQ.mv g.nq.lq fA.tk (fun o e=>Y g.n1 e) t1,g.nq.len,g.nq.bd,g.nq.pos⟩,⟨⟨_,aC,Paired.snoc (Pd.imp Z fun v b f=>nX.tk f t1) kq⟩,by rw [i9]; show _+1<=_; lia,fun r N=>by
   rcases m9.mp N with z|z
   ·exact g.pq.bd r z
   ·rw [f9.mp z]; exact zm⟩,LQ.mv g.tq nX.tk (fun o e=>Y (j3 g.n3) e) t1,g.tl,g.tz,g.R,g.u2,g.nm,g.n1,g.n2,g.n3⟩
 have k1:jW [h,i] H (L2.upd (L2.upd H p (.tup [.str y,B])) i (.lst (G++[.ref p]))):=(aJ.kpL O).trans (.upd (.tail _ (.head _)));generalize L2.upd (L2.upd H p (.tup [.str y,B])) i (.lst (G++[.ref p]))=H1 at X I1 k1 ⊢;w_on;apply ⟨h,dx,ln,i,W,B,dm,n,_,ts,D,M,U,rfl,X,I1,fun d H2 mo' ys' J k2 o2 M2=>?_⟩;have t2:TK H1 H2:=k2.tk fun b hb xs e=>by rw [f9.mp hb,X] at e; cases e
 have hdf:H d=none:=k1.fr (fun z=>by
  rcases n6.mp z with e|z
  ·rw [e,X] at J; cases J
  ·rw [f9.mp z] at J
   obtain ⟨_,e,_⟩:=I1.pq.lq;rw [e] at J; cases J) J
 exact q d H2 mo' ys' hdf (k1.trans (k2.mono fun x hx=>by rw [f9.mp hx]; exact .head _)) o2 (I1.mv (fun l xs e=>k2 _ _ (fun z=>by rw [f9.mp z,X] at e; cases e) e) t2) M2
include o2c o1l o0x o0y in
theorem Nl:bZ P w K mg base (k+1) "_law_do" ["_law_hall_here","_law_here_here","_law_deed_here"] (Lb K cC):=by
 refine bZ.of vE.d52 Le (by walk_at "ln") fun f ui A outer s H vs Q E g h=>?_;obtain ⟨h,dd,pd,w,b,Y,C,G,I,vm,X,m,n,ps,ts,D,M,U,mo,ys,u,rs,ps',ts',ln,lr,lp,lt,now,rfl,hp,ho,hI,hM,hm,zm,hT,hN,u0,u1,hh⟩:=h;refine ⟨_,(aE (bV (aY (eX g.units) (aN aQ (pv 2) aF) aP) (aH (aS (rY o0y HC.cl g fI (pv 0) (aA (aN aQ (aW g.u1 (pv 1) aP) (aN aQ (pv 2) aF)) aD)))) bE)
   (aE (bV (aY (eX g.units) (aN aQ (pv 2) aF) aP) (aH (aS (rY o0x HC.cl g fI (pv 0) (aA (aN aQ (pv 2) aF) aD)))) bE)
   (aH (aS (rY o1l HC.cl g fI (pv 0) (aA (aI o2c g rfl (aA (aN aQ (pv 2) aF) (aA (aW g.u1 (pv 1) aP) aD))) aD)))))),?_⟩
 try dsimp only [aR,bA]
 rcases hh with ⟨rfl,hl,i,y,rfl,ey,hy,hc,q⟩|⟨rfl,hl,kk,r,rfl,g,hs,q⟩|⟨rfl,hyn,x0,x1,zmt,q⟩
 ·w_on
  apply qS (beq_self_eq_true _) ?_;apply cJ (.inl hN.d) mX ?_;refine gI hN.q.nm (fX (by rw [i7,ey]; rfl)) ?_;w_on;apply ⟨h,Y,C,G,I,vm,X,y,m,n,ps,ts,D,M,U,mo,ys,rfl,ho,hI,hM,hm,zm,hl,hy,hc,fun d O J N Z k o R S=>?_⟩;exact q d O J N Z k o R S
 ·w_on
  apply fO (by k_is) ?_;apply qS (beq_self_eq_true _) ?_;apply ⟨h,Y,C,G,I,vm,X,kk,r,m,n,ps,ts,D,M,U,mo,ys,rfl,ho,hI,hM,hm,zm,hl,g,hs,fun d O J N Z k o R S=>?_⟩;exact q d O J N Z k o R S
 ·w_on
  apply fO (by k_is) ?_;apply fO (by k_is) ?_;apply cJ (.inl hN.d) uE ?_;refine ⟨b,u,rfl,u0,OV (by lia),OV (by lia),fun q1 hq1=>?_⟩;have f1:cA (L2.upd H q1 (.tup [.int (eM b u),.int (eQ b u)])) (.ref q1) (ut u b):=cA.low (by lia) aC;have B:=aJ.new (H:=H) (o:=.tup [.int (eM b u),.int (eQ b u)]) hq1;generalize L2.upd H q1 (.tup [.int (eM b u),.int (eQ b u)])=H1 at f1 B ⊢;have z1:Sz 400 (ut u b):=Kx u0 (by lia) (by lia);have W:0<=(ut u b).num:=Ic x0 u0;w_on;apply ⟨h,Y,C,G,I,vm,X,_,m,n,ps,ts,D,M,U,mo,ys,rfl,B _ _ ho,hI.sm B,hM.mv (fun o e=>B _ _ e) B.tk,hm.tk B.tk,zm,sX.same hT B,hyn,ut u b,f1,W,z1.mono (by decide),zmt,fun v vm' O zs es hv gv lv ev pe be k T' o' f' R S=>?_⟩;exact q v vm' O zs es (B.free hv) gv lv ev pe be ((aJ.kpL B).trans k) T' o' f' R S
theorem Aj:bZ P w K mg base (k+1) "_law_less" ["_law_one","_law_other"] FI:=by
 refine bZ.of vE.d53 YZ (by walk_at "ln") fun f D A b s H R Q E G h=>?_;obtain ⟨x,y,N,O,rfl,⟨I,rfl,g⟩,⟨J,rfl,o⟩,B,C,q⟩:=h;refine ⟨_,(aH (aS (jP sK (aK cX (aN aQ (pv 0) aF) (aN aQ (pv 1) aF)) (aK cX (aN aQ (pv 1) aF) (aN aQ (pv 0) aF))))),?_⟩
 try dsimp only [aR,bA]
 have M:∀{i j:Int},i.natAbs < 2 ^ 8000->j.natAbs < 2 ^ 8000->eU i j:=fun g o=>eU.s (m:=8000) (n:=8000) g o (by decide) (by decide);w_on;apply kZ (M B.1 C.2) ?_;apply kZ (M C.1 B.2) ?_;rw [HN];exact q
theorem HE:kK mI P w K mg base (k+1) cC "now" ["self"] (Cl cC):=by
 refine kK.of vE.d54 GE (by walk_at "ln") fun f g A b s H I Q E B h=>?_;obtain ⟨h,m,ln,C,D,G,i,rfl,o,q⟩:=h;refine ⟨_,(aH (aS (dL (pv 0) dC))),?_⟩
 try dsimp only [aR,bA]
 w_on;exact q
include o0g in
theorem xQ:kK mI P w K mg base (k+1) cC "fallen" ["self"] (FP cC):=by
 refine kK.of vE.d55 wU (by walk_at "ln") fun f ui A outer s H vs Q E hr h=>?_;obtain ⟨h,dx,ln,lp,lt,vm,B,m,n,ps,ts,D,M,U,mo,ys,rfl,ho,hI,hM,hm,zm,q⟩:=h;refine ⟨_,(aH (aS (lX (rA rfl) rfl T.z_dict DX (aA (VH (cO (sc:=aG lH) (N:=["self"]) (tn:=["post","moment"]) (names:=["self"]) (is:=[0]) rfl rfl (by k_is) (by k_is) rfl (by k_is) rfl (by k_is) (by k_is) (by k_is)) rfl (dL (pv 0) dC) (fun _ _ _ _=>(jO (n:=2) rfl (aU (bI (i:=0) (show (["post","moment","self"]:List Str).Nodup by k_is) rfl (B6 rfl) (A9 rfl)) (aU (bI (i:=1) (show (["post","moment","self"]:List Str).Nodup by k_is) rfl (B6 rfl) (A9 rfl)) cV)))) (fun _ _ _ _=>(bH (aA (pv 0) (aA (pv 1) aD)))) (fun _ _ _ _=>(lB (cS (rY o0g HC.cl hr fI (pv 2) (aA (pv 1) aD)))))) aD)))),?_⟩
 try dsimp only [aR,bA]
 have dq:=hM.dq;obtain ⟨kd,C,qd⟩:=id dq;have z8:Sz 8000 m:=(hI.R.sz (zm.mono (by lia))).mono (by decide);have hyl:ys.length<=63:=u8 (iS hM.nd fun x hx=>hI.nm x ((hM.mem x).mp hx)) hI.u2;have hkl:kd.length=ys.length:=by rw [qd.len,g7]
 w_on;apply ZR B (.dK C) ?_;refine ⟨B,rfl,rfl,kd,C,fun o=>?_⟩;have xh:h≠B:=fun z=>by rw [z,C] at ho; cases ho
 have s0:TK H (L2.upd H B (.frz o (.dK kd))):=TK.dic C;have ho0:L2.upd H B (.frz o (.dK kd)) h=_:=aX xh ho;refine UP (by lia) (fun g i zs G=>Kp g (L2.upd H B (.frz o (.dK kd))) G/\Paired (nX G) zs (fallen m mo (ys.take i))) (fun g J=>⟨Kp.new J,.nil⟩) ?_ ?_ ?_
 ·intro g i zs G J _ ⟨kp,_⟩
  exact kp _ _ (aB aC J) aC
 ·intro g i zs G T k v J hx I hG hT ⟨kp,pr⟩
  obtain ⟨⟨k',o'⟩,hy,ek,ov⟩:=Paired.at qd hx;rw [i7] at hy;cases hy1:ys[i]? with
 |none=>rw [hy1] at hy; cases hy
 |some y =>
   rw [hy1] at hy;cases hy;cases (show k=a9 y from ek);have hi:i < ys.length:=(b9.mp hy1).1;have tkG:TK H G:=s0.trans fun p xs e=>kp _ _ (aB e J) e;have tkT:TK H (L2.upd G T (.tup [kV (a9 y),v])):=tkG.trans (TK.new hT);have hoG:L2.upd G T (.tup [kV (a9 y),v]) h=some (.ins cC dx (cB ln lp lt vm B)):=aL hT (kp _ _ (aB ho0 J) ho0);have ac:ys.take (i+1)=ys.take i++[y]:=by
    rw [A5 hi];rw [c8 hi] at hy1;rw [h8 hy1]
   have O:=aL (o:=.tup [kV (a9 y),v]) hT hG;have X:Kp g (L2.upd H B (.frz o (.dK kd))) (L2.upd G T (.tup [kV (a9 y),v])):=Kp.trans kp fun b o _ e=>aL hT e;have Z:=Pd.imp pr fun w x f=>nX.tk f (TK.new (o:=.tup [kV (a9 y),v]) hT);have Y:=eI.tk ov tkT;have hmT:=hm.tk tkT;generalize L2.upd G T (.tup [kV (a9 y),v])=G1 at *;w_on;apply ⟨h,dx,ln,lp,lt,vm,B,v,m,mo (a9 y),rfl,hoG,hmT,Y,z8,fun r e=>(hI.R.sz (hM.bd _ r e)).mono (by decide),?_⟩;cases e:mo (a9 y) with
  |none =>
    w_on;refine mY (by lia) I O ⟨X,?_⟩;rw [ac,dQ,gB,e];dsimp only;rw [D6];exact Z
  |some r =>
    show if (!decide (m < r))=true then _ else _
    by_cases hc:m < r
    ·rw [decide_eq_true hc]
     w_on;refine mY (by lia) I O ⟨X,?_⟩;rw [ac,dQ,gB,e];dsimp only;rw [if_pos hc,D6];exact Z
    ·rw [decide_eq_false hc]
     w_on;refine bC fun t1 W=>?_;have hG2:=aL (o:=.tup [kV (a9 y),v]) W O;refine oV (by lia) I hG2 ⟨Kp.trans (Kp.trans X (fun b o _ e=>aL W e)) Kp.upd,?_⟩;have tk:TK (L2.upd G1 t1 (.tup [kV (a9 y),v])) (L2.upd (L2.upd G1 t1 (.tup [kV (a9 y),v])) g (.lst (zs++[.ref t1]))):=TK.lst hG2;have tk2:=(TK.new (o:=.tup [kV (a9 y),v]) W).trans tk;rw [ac,dQ,gB,e];dsimp only;rw [if_neg hc];rw [e] at Y;exact Pd.snoc (Pd.imp Z fun v x f=>nX.tk f tk2) ⟨t1,v,rfl,tk _ _ aC,cA.tk Y tk2⟩
 ·intro g zs G J hG I ⟨kp,pr⟩
  rw [hkl,A2] at pr;have sG:aJ H (melt B G):=CP C (fun b o e=>kp _ _ (aB e J) e);have hGm:melt B G g=some (.lst zs):=iF (fun _ _ z=>nomatch z) hG;have prm:=Pd.imp pr fun v x f=>nX.tk f (TK.melt (a:=B));generalize melt B G=G1 at *;obtain ⟨k0,pa,kq0⟩:=sJ (R:=cA) (Pd.imp prm fun v x ⟨p,u,e,hp,f⟩=>⟨p,u,e,hp,f⟩);w_on;refine ⟨g,zs,k0,rfl,hGm,pa,by lia,fun dR S=>?_⟩;rw [lY (by rw [J5,kq0.keys]; exact gO hM.nd),J5];w_on;exact q dR _ (sG.free S) (sG.trans (aJ.new S)) ⟨k0,aC,kq0.imp fun v b f=>f.tk (TK.new S)⟩
include o0i o0q o0r o1z o1e o0m in
theorem PX:bZ P w K mg base (k+1) "_law_by_now" ["_law_hall_here","_law_net_here","_law_pushes_here","_law_takings","_law_number_here"] (LS cC):=by
 refine bZ.of vE.d56 lS (by walk_at "ln") fun f ui A outer s H vs Q E I h=>?_;obtain ⟨h,dx,Z,ac,ad,vm,dm,m,n,ps,ts,D,M,U,mo,ys,l,lp,lt,ae,rfl,ho,g,hM,hm,zm,ql,qp,qt,n1,q⟩:=h;refine ⟨_,(aE (dU 5 lS.nd (aI o0i.f I rfl (aA (pv 1) (aA (pv 2) (aA (pv 3) aD)))))
   (aE (dU 6 lS.nd lW)
   (aE (MS n9 rfl (pv 5) (nZ 7 lS.nd) (aH (bV (PW.pt (jH (aY jZ (aW I.u1 (pv 5) (pv 7)) dZ) (fU (iB (cS (aI o1z I rfl (aA (lJ o1e HC.cl I fI (pv 0)) (aA (aW I.u1 (pv 5) (pv 7)) aD)))))))) (aH (iC I.u1 (pv 6) (pv 7) (aW I.u1 (pv 5) (pv 7)) rfl)) bE)))
   (aE (bV (aY (Hh I.units) (lJ o0m HC.cl I fI (pv 0)) (pv 6)) (aH (aS sI)) bE)
   (aE (fD n9 rfl (cH (cI (aA (aK bY (pv 4) (bD iL rfl T.z_len eY (aA (pv 1) aD))) (aA (aK bY (aK bN (pv 4) aF) (bD iL rfl T.z_len eY (aA (pv 1) aD))) aD)))) (nZ 8 lS.nd) (aH (bV (aY (Hj I.units) (rY o0r HC.cl I fI (pv 0) (aA (pv 8) aD)) (aI o0q.d.f I rfl (aA (pv 1) (aA (pv 2) (aA (pv 8) (aA (lJ o1e HC.cl I fI (pv 0)) (aA (pv 3) aD))))))) (aH (aS sI)) bE)))
   (aH (aS sI))))))),?_⟩
 try dsimp only [aR,bA]
 have TI:zA H (.ref lt) ts:=⟨.inr ⟨lt,rfl,qt⟩,g.tl,fun r I=>(g.tz r I).mono (by decide)⟩
 have z8:Sz 8000 m:=(g.R.sz (zm.mono (by lia))).mono (by decide);w_on;refine ⟨l,n,lp,ps,.ref lt,ts,D,M,U,rfl,⟨ql,g.nq.len,g.nq.bd,g.nq.pos⟩,⟨qp,g.pq.len,g.pq.bd⟩,TI,g.R.r8,g.u2,g.nm,fun d S F B hd s1 dq fo bF nd mem=>?_⟩;cases hM.fal.uniq fo.falls;obtain ⟨W,C,qd⟩:=id dq;have nk:((B.map fun y=>((a9 y:aM),bS F (a9 y))).map (·.1)).Nodup:=by
  rw [L1];exact L9.mpr (nd.imp fun h e=>h (Q6 e))
 have hkl:W.length=B.length:=by rw [qd.len,g7]
 have ndk:(W.map (·.1)).Nodup:=by rw [qd.keys]; exact nk
 have hyl:B.length<=63:=u8 (iS nd fun x hx=>g.nm x ((mem x).mp hx)) g.u2;have Y:=s1 _ _ ho;have hm1:=hm.tk s1.tk;w_on;refine tN fun p hp=>?_;have s0:=aJ.new (o:=.dK []) hp;have p0:L2.upd S p (.dK []) p=_:=aC;have O:p≠d:=j3 (aB C hp);have xhd:h≠d:=fun z=>by rw [z,C] at Y; cases Y
 w_on;apply UL d (nU.dK (s0 _ _ C)) ?_;refine ⟨rfl,W,s0 _ _ C,fun o=>?_⟩;have pF:L2.upd (L2.upd S p (.dK [])) d (.frz o (.dK W)) p=some (.dK []):=aX O p0;have dF:L2.upd (L2.upd S p (.dK [])) d (.frz o (.dK W)) d=_:=aC;have hF:L2.upd (L2.upd S p (.dK [])) d (.frz o (.dK W)) h=_:=aX xhd (s0 _ _ Y);have tF:TK S (L2.upd (L2.upd S p (.dK [])) d (.frz o (.dK W))):=s0.tk.trans (TK.dic (s0 _ _ C));have bk:∀ G,Kp p (L2.upd (L2.upd S p (.dK [])) d (.frz o (.dK W))) G->aJ S (melt d G):=fun G k=>CP C (o:=o) fun c oc ec=>by
  have cp:c≠p:=fun z=>by rw [z,aZ O,hp] at ec; cases ec
  refine k c oc cp ?_;by_cases cd:c=d
  ·rw [cd,aC] at ec ⊢
   exact ec
  ·rw [aZ cd] at ec ⊢
   rw [aZ cp];exact ec
 generalize L2.upd (L2.upd S p (.dK [])) d (.frz o (.dK W))=F0 at *;refine MI (fun i σ G=>∃ o7 X,σ=[some (.ref h),some (.ref l),some (.ref lp),some (.ref lt),some (.int ae),some (.ref d),some (.ref p),o7,none]/\Kp p F0 G/\G p=some (.dK X)/\KQ cA G X (fallen m (bS F) (B.take i))) ⟨_,[],rfl,Kp.refl _ _,pF,.nil⟩ ?_ ?_ ?_
 ·rintro i σ G _ ⟨o7,X,rfl,kp,_⟩
  exact kp _ _ (j3 O) dF
 ·rintro i k v σ G hx ⟨o7,X,rfl,kp,gp,kq⟩
  obtain ⟨⟨k',o'⟩,hy,ek,ov⟩:=Paired.at qd hx;rw [i7] at hy;obtain ⟨y,hy1,hy2⟩:=j7.mp hy;cases hy2;cases (show k=a9 y from ek);have hi:i < B.length:=(b9.mp hy1).1;have tks:B.take (i+1)=B.take i++[y]:=by
   rw [Y0,hy1];rfl
  have vz:bJ W (a9 y)=some v:=BJ ndk hx;have dG:=kp _ _ (j3 O) dF;have tkG:TK S G:=tF.trans fun a xs e=>kp _ _ (fun z=>by rw [z,pF] at e; cases e) e;have hoG:=kp _ _ (fun z=>by rw [z,pF] at hF; cases hF) hF;have N:=eI.tk ov tkG;have hmG:=hm1.tk tkG;have ndt:=gO (m:=m) (mo:=bS F) (nd.sublist (jg (i+1) _));w_on;refine nM (c:=a9 y) (.inr ⟨o,dG⟩) vz ?_;cases e:bS F (a9 y) with
 |none =>
   rw [e] at N;cases (show v=.non from N);w_on;refine ⟨_,X,rfl,kp,gp,?_⟩;rw [tks,dQ,gB,e];exact (D6 _).symm ▸ kq
 |some r =>
   rw [e] at N;obtain ⟨pv,rfl,hpv⟩:=id N;w_on;apply ⟨h,dx,Z,ac,ad,vm,dm,rfl,hoG,?_⟩;apply nM (c:=a9 y) (.inr ⟨o,dG⟩) vz ?_;apply ⟨vm,.ref pv,m,r,rfl,hmG,N,z8,(g.R.sz (hM.bd _ r e)).mono (by decide),?_⟩;by_cases c:m < r
   ·rw [decide_eq_true c]
    w_on;refine ⟨_,X,rfl,kp,gp,?_⟩;rw [tks,dQ,gB,e];dsimp only;rw [if_pos c];exact (D6 _).symm ▸ kq
   ·rw [decide_eq_false c]
    w_on;apply nM (c:=a9 y) (.inr ⟨o,dG⟩) vz ?_;have hfl:X.length<=1000:=by
     have e1:=kq.len;have e2:=yD (m:=m) (mo:=bS F) (nd.sublist (jg i _));rw [av] at e2;lia
    apply lV (c:=a9 y) gp hfl ?_;have ef:fallen m (bS F) (B.take (i+1))=fallen m (bS F) (B.take i)++[(a9 y,r)]:=by
     rw [tks,dQ,gB,e];dsimp only;rw [if_neg c]
    have no:aV (fallen m (bS F) (B.take i)) (a9 y)=none:=by
     cases e:aV (fallen m (bS F) (B.take i)) (a9 y) with
    |none=>rfl
    |some w =>
      rw [ef,u7,U8] at ndt;exact absurd rfl (ndt.2.2 (a9 y) (j1.mpr ⟨_,bU e,rfl⟩) (a9 y) (by simp))
    refine ⟨_,_,rfl,kp.trans Kp.upd,aC,?_⟩;rw [ef,← XU no];exact (KQ.put (k:=a9 y) kq N).imp fun v b f=>cA.tk f (TK.dic gp)
 ·rintro σ G ⟨o7,X,rfl,kp,gp,kq⟩
  refine UM ?_;have s2:=bk G kp;rw [hkl,A2] at kq;have gm:melt d G p=some (.dK X):=iF (fun _ _ z=>nomatch z) gp;have dq2:DQ cA (melt d G) p (fallen m (bS F) B):=⟨X,gm,kq.imp fun v b f=>cA.tk f TK.melt⟩
  have J:=s1.trans s2;generalize melt d G=G2 at *;have o2:=J _ _ ho;w_on;apply ⟨h,dx,Z,ac,ad,vm,dm,m,n,ps,ts,D,M,U,bS F,ys,rfl,o2,g.sm J,hM.mv (fun o e=>J _ _ e) J.tk,hm.tk J.tk,zm,fun d3 H3 hd3 s3 q3=>?_⟩;refine Nu q3 (dq2.sm cA.tk s3) (gO hM.nd) (gO nd) (fun x=>?_) ?_
  ·rw [iV,iV]
   constructor
   ·rintro ⟨y,hy,r⟩
    exact ⟨y,(mem y).mpr ((hM.mem y).mp hy),r⟩
   ·rintro ⟨y,hy,r⟩
    exact ⟨y,(hM.mem y).mpr ((mem y).mp hy),r⟩
  have s13:=J.trans s3;obtain ⟨vn,hvn,pvn⟩:=ql.sm fA.tk s13;have hvl:vn.length=n.length:=by rw [Paired.length pvn]; unfold kn; exact g7 ..
  w_on;have ap:∀ z:Int,∃ kk:Nat,z % (vn.length:Int)=(kk:Int)/\kk < n.length:=fun z=>by
   have a0:=m8 z (show (vn.length:Int)≠0 by lia);have a1:=j9 z (show (0:Int) < vn.length by lia);exact ⟨(z % (vn.length:Int)).toNat,by lia,by lia⟩
  obtain ⟨k1,e1,l1⟩:=ap ae;obtain ⟨k2,e2,l2⟩:=ap (ae.fdiv 7);rw [e1,e2];refine dA fun lk hlk=>?_;have s4:=s13.trans (aJ.new (o:=.lst [V.int (k1:Int),.int (k2:Int)]) hlk);have gk:L2.upd H3 lk (.lst [V.int (k1:Int),.int (k2:Int)]) lk=_:=aC;generalize L2.upd H3 lk (.lst [V.int (k1:Int),.int (k2:Int)])=H4 at s4 gk ⊢;clear s13 s3 q3 hd3 J s2 dq2 gm kq gp kp bk tF hF dF pF s0 p0 hp hm1 Y xhd O qd dq C s1 hd e1 e2 pvn hvn ap;w_on;refine cG (cP.of gk) ?_;refine rS (xs:=[V.int (k1:Int),.int (k2:Int)]) (fun i σ G=>∃ o7 o8,σ=[some (.ref h),some (.ref l),some (.ref lp),some (.ref lt),some (.int ae),some (.ref d),some (.ref p),o7,o8]/\aJ H4 G) ⟨_,_,rfl,aJ.refl _⟩ ?_ ?_ ?_
  ·rintro i σ G _ ⟨o7,o8,rfl,sG⟩
   exact cP.of (sG _ _ gk)
  ·intro P' rt' bk' hP'
   rintro i x σ G hx ⟨o7,o8,rfl,sG⟩;obtain ⟨kk,rfl,hk⟩:∃ kk:Nat,x=.int (kk:Int)/\kk < n.length:=by
    rcases n6.mp (i3 hx) with e|e
    ·exact ⟨_,e,l1⟩
    ·exact ⟨_,f9.mp e,l2⟩
   have hnk:=c8 hk;have t1:=s4.trans sG;have o1:=t1 _ _ ho;w_on;refine ⟨h,dx,Z,ac,ad,vm,dm,kk,_,m,n,ps,ts,D,M,U,bS F,ys,rfl,o1,g.sm t1,hM.mv (fun o e=>t1 _ _ e) t1.tk,hm.tk t1.tk,zm,hnk,fun w H5 s5 lq=>?_⟩;have t5:=t1.trans s5;have o5:=t5 _ _ ho;w_on;apply ⟨h,dx,Z,ac,ad,vm,dm,rfl,o5,?_⟩;refine ⟨l,n,lp,ps,.ref lt,ts,D,M,U,kk,_,vm,m,rfl,⟨ql.sm fA.tk t5,g.nq.len,g.nq.bd,g.nq.pos⟩,⟨qp.sm nX.tk t5,g.pq.len,g.pq.bd⟩,TI.sm t5,g.R.r8,g.u2,g.nm,hnk,hm.tk t5.tk,g.R.sz (zm.mono (by lia)),fun _=>g.R.sz,g.tz,fun v H6 F' s6 fo' _ lq'=>?_⟩;rw [← hM.fal.uniq fo'.falls] at lq';w_on;apply Hw (lq.tk s6.tk) lq' ?_;exact hP' _ _ _ ⟨_,_,rfl,(sG.trans s5).trans s6⟩
  ·rintro σ G ⟨o7,o8,rfl,sG⟩
   w_on;exact q _ (s4.trans sG)
include o0t o1z o1e o0m in
theorem HD:bZ P w K mg base (k+1) "_law_all_told" ["_law_hall_here","_law_net_here","_law_pushes_here","_law_takings","_law_told"] (zY cC):=by
 refine bZ.of vE.d57 gG (by walk_at "ln") fun f ui A outer s H vs Q E Y h=>?_;obtain ⟨h,dx,um,ul,uk,vm,dm,m,n,I,N,D,M,U,g,ys,l,lp,lt,lo,zs,es,rfl,ho,W,hM,hm,zm,ql,qp,qt,hlo,pz,pm,hyn,hnm,q⟩:=h;refine ⟨_,(aE (dU 5 gG.nd (cI aD))
   (aE (fD n9 rfl (jU rfl T.z_range (aA (bD iL rfl T.z_len eY (aA (pv 1) aD)) aD)) (nZ 6 gG.nd) (aE (dU 7 gG.nd (aI o0t.d.f Y rfl (aA (pv 1) (aA (pv 2) (aA (pv 6) (aA (pv 3) aD))))))
   (aE (bV (PW.pt (jH (aY (eX Y.units) (aN aQ (pv 7) aF) aP) (fU (iB (cS (aI o1z Y rfl (aA (lJ o1e HC.cl Y fI (pv 0)) (aA (aN aQ (pv 7) aF) aD)))))))) (aH (dJ (jD y9 l7 l0 cL (pv 5) (aA (bH (aA aP (aA (aN aQ (pv 7) aF) (aA (pv 6) (aA (aN aQ (pv 7) aF) aD))))) aD)))) bE)
   (aH (bV (PW.pt (jH (aY (eX Y.units) (aN aQ (pv 7) aF) aP) (fU (iB (cS (aI o1z Y rfl (aA (lJ o1e HC.cl Y fI (pv 0)) (aA (aN aQ (pv 7) aF) aD)))))))) (aH (dJ (jD y9 l7 l0 cL (pv 5) (aA (bH (aA aP (aA (aN aQ (pv 7) aF) (aA (pv 6) aD)))) aD)))) bE)))))
   (aE (fD n9 rfl (GO (fun _=>True) (lJ o0m HC.cl Y fI (pv 0))) (iR (n:=2) rfl (aU (nZ 8 gG.nd) (aU (nZ 9 gG.nd) cV))) (aH (bV (aY (PN Y.units) (bH (aA (pv 8) (aA (pv 9) aD))) (pv 2) (by with_unfolding_all rfl)) (aH (dJ (jD y9 l7 l0 cL (pv 5) (aA (bH (aA aP (aA (pv 9) (aA (pv 8) aD)))) aD)))) bE)))
   (aH (aS (jP (eX Y.units) (GP Y rfl T.z_sorted rfl T.z_str (aA (pv 4) aD)) (GP Y rfl T.z_sorted rfl T.z_str (aA (pv 5) aD)))))))),?_⟩
 try dsimp only [aR,bA]
 have TI:zA H (.ref lt) N:=⟨.inr ⟨lt,rfl,qt⟩,W.tl,fun r Y=>(W.tz r Y).mono (by decide)⟩
 have z8:Sz 8000 m:=(W.R.sz (zm.mono (by lia))).mono (by decide);have gA:=Om W hM (by lia) hnm;w_on;refine dA fun S hld=>?_;have s0:=aJ.new (o:=.lst []) hld;have d0:L2.upd H S (.lst []) S=some (.lst []):=aC;generalize L2.upd H S (.lst [])=H1 at s0 d0 ⊢;obtain ⟨vn,hvn,pvn⟩:=ql.sm fA.tk s0;have hvl:vn.length=n.length:=by rw [Paired.length pvn]; unfold kn; exact g7 ..
 w_on;rw [hvl];refine pH (by lia) (by lia) ?_;refine pI (n:=n.length) (fun i σ G=>∃ o6 o7 B,σ=[some (.ref h),some (.ref l),some (.ref lp),some (.ref lt),some (.ref lo),some (.ref S),o6,o7,none,none]/\Kp S H1 G/\G S=some (.lst B)/\B.length<=i/\Paired (gC G) B ((((k9 n.length).take i).filterMap (eN n g N)).filter (dD I m))) ⟨_,_,[],rfl,Kp.refl _ _,d0,i5 _,.nil⟩ ?_ ?_
 ·intro P' rt' bk' hP'
  rintro i σ G hi ⟨o6,o7,B,rfl,kp,hG,hel,pr⟩;have hnk:=c8 hi;have sG:aJ H G:=fun b o e=>kp _ _ (aB e hld) (s0 _ _ e);rw [ig];w_on;refine ⟨l,n,lp,I,.ref lt,N,D,M,U,i,_,rfl,⟨ql.sm fA.tk sG,W.nq.len,W.nq.bd,W.nq.pos⟩,⟨qp.sm nX.tk sG,W.pq.len,W.pq.bd⟩,TI.sm sG,W.R.r8,W.u2,W.nm,hnk,fun _=>W.R.sz,W.tz,fun v H6 F s6 fo _ ev=>?_⟩;rw [← hM.fal.uniq fo.falls] at ev;have eE:eN n g N i=pR i (mD (fF n[i].1 n[i].2.1 (g (a9 n[i].1)) (g (a9 n[i].2.1)) n[i].2.2) (bM N i)):=by unfold eN; rw [hnk]; rfl
  have gE:∀ e,eN n g N i=some e->Sz 8000 e.t:=fun e he=>by
   have:=gA e (o0 _ (R5.mpr ⟨i,T6.mpr hi,he⟩));cases e <;> exact this.1.mono (by decide)
  generalize mD (fF n[i].1 n[i].2.1 (g (a9 n[i].1)) (g (a9 n[i].2.1)) n[i].2.2) (bM N i)=E at eE ev;have eS:=sR (f:=eN n g N) (UD hi);have pr6:=Pd.imp pr fun z e h=>gC.tk h s6.tk;have hG6:=s6 _ _ hG;have kp6:=kp.trans s6.kp;have o6':=(sG.trans s6) _ _ ho;have hm6:=hm.tk (sG.trans s6).tk;have X:(eN n g N i).toList.filter (dD I m)=[]->P' (i+1) [some (.ref h),some (.ref l),some (.ref lp),some (.ref lt),some (.ref lo),some (.ref S),some (.int (i:Int)),some v,none,none] H6:=fun z=>hP' _ _ _ ⟨_,_,B,rfl,kp6,hG6,Nat.le_succ_of_le hel,by rw [eS,D7,z,D6]; exact pr6⟩;have fin1:∀(C:b8)(xs:List V)(e:Ev),H6 C=none->(eN n g N i).toList.filter (dD I m)=[e]->(∀{G3:Hp},TK H6 G3->G3 C=some (.tup xs)->gC G3 (.ref C) e)->P' (i+1) [some (.ref h),some (.ref l),some (.ref lp),some (.ref lt),some (.ref lo),some (.ref S),some (.int (i:Int)),some v,none,none] (L2.upd (L2.upd H6 C (.tup xs)) S (.lst (B++[.ref C])))/\TK H6 (L2.upd (L2.upd H6 C (.tup xs)) S (.lst (B++[.ref C]))):=fun C xs e ht he fe=>by
   have hl3:=aL (o:=.tup xs) ht hG6;have BM:=(TK.new (o:=.tup xs) ht).trans (TK.lst (o:=.lst (B++[.ref C])) hl3);refine ⟨hP' _ _ _ ⟨_,_,B++[.ref C],rfl,(kp6.trans (fun b o _ e=>aL ht e)).trans Kp.upd,aC,by rw [i9]; show _+1<=_; lia,?_⟩,BM⟩;rw [eS,D7,he];exact Pd.snoc (Pd.imp pr6 fun z e h=>gC.tk h BM) (fe BM (TK.lst hl3 _ _ aC))
  have due:∀ t:Rat,vB m (some t)=!decide (m < t):=fun _=>rfl;cases E with
 |stands =>
   obtain ⟨p,rfl,hp⟩:=ev;w_on;apply fO (by k_is) ?_;apply fO (by k_is) ?_;exact X (by rw [eE]; rfl)
 |taken t =>
   obtain ⟨p,w,rfl,hp,fw⟩:=ev;w_on;apply fO (by k_is) ?_;apply fO (by k_is) ?_;exact X (by rw [eE]; rfl)
 |swept s t =>
   obtain ⟨p,w,rfl,hp,fw⟩:=ev;have eD:(eN n g N i).toList.filter (dD I m)=if (!decide (m < t))=true then [.swept t i] else []:=by
    rw [eE];show [_].filter _=_;rw [HV,show dD I m _=(!decide (m < t)&&true) from rfl,O2]
   w_on;apply fO (by k_is) ?_;apply qS (beq_self_eq_true _) ?_;apply ⟨h,dx,um,ul,uk,vm,dm,rfl,o6',?_⟩;apply ⟨vm,w,m,t,rfl,hm6,fw,z8,gE _ eE,?_⟩;by_cases c:m < t
   ·rw [decide_eq_true c] at eD ⊢
    w_on;exact X eD
   ·rw [decide_eq_false c] at eD ⊢
    w_on;apply bC fun C J=>?_;apply gJ (aL J hG6) (by lia) ?_;exact (fin1 C _ (.swept t i) J eD fun tk h=>⟨C,w,rfl,h,fw.tk tk⟩).1
 |met t s =>
   obtain ⟨p,w,w2,rfl,hp,fw,fw2⟩:=ev;have eD:(eN n g N i).toList.filter (dD I m)=if (!decide (m < t))=true then [.met t i s] else []:=by
    rw [eE];show [_].filter _=_;rw [HV,show dD I m _=(!decide (m < t)&&true) from rfl,O2]
   w_on;apply qS (beq_self_eq_true _) ?_;apply ⟨h,dx,um,ul,uk,vm,dm,rfl,o6',?_⟩;apply ⟨vm,w,m,t,rfl,hm6,fw,z8,gE _ eE,?_⟩;by_cases c:m < t
   ·rw [decide_eq_true c] at eD ⊢
    w_on;apply fO (by k_is) ?_;exact X eD
   ·rw [decide_eq_false c] at eD ⊢
    w_on;apply bC fun C J=>?_;refine gJ (aL J hG6) (by lia) ?_;obtain ⟨f1,BM⟩:=fin1 C _ (.met t i s) J eD fun tk h=>⟨C,w,w2,rfl,h,fw.tk tk,fw2.tk tk⟩
    have hp3:=BM _ _ hp;generalize L2.upd (L2.upd H6 C _) S _=G3 at f1 hp3 ⊢;w_on;apply fO (by k_is) ?_;exact f1
 rintro σ G ⟨o6,o7,B,rfl,kp,hG,hel,pr⟩;rw [ar (jm Y1)] at pr;have sG:aJ H G:=fun b o e=>kp _ _ (aB e hld) (s0 _ _ e);have oG:=sG _ _ ho;w_on;apply Me ?_;refine ⟨h,dx,um,ul,uk,vm,dm,m,n,I,N,D,M,U,g,ys,rfl,oG,W.sm sG,hM.mv (fun o e=>sG _ _ e) sG.tk,hm.tk sG.tk,zm,fun d H3 hd s3 q3=>?_⟩;obtain ⟨kd,hkd,qd⟩:=q3;refine ⟨d,trivial,rfl,kd,hkd,fun o=>?_⟩;have xd:S≠d:=aB hG hd;have sF:aJ H (L2.upd H3 d (.frz o (.dK kd))):=fun b u e=>aX (aB e (sG.free hd)) (s3 _ _ (sG _ _ e));have gF:L2.upd H3 d (.frz o (.dK kd)) S=_:=aX xd (s3 _ _ hG);have dF:L2.upd H3 d (.frz o (.dK kd)) d=_:=aC;have tF:TK H3 (L2.upd H3 d (.frz o (.dK kd))):=TK.dic hkd;have pF:=Pd.imp pr fun z e h=>gC.tk h (s3.tk.trans tF);generalize L2.upd H3 d (.frz o (.dK kd))=F at *;obtain ⟨E1,eE1⟩:∃ E1,((k9 n.length).filterMap (eN n g N)).filter (dD I m)=E1:=⟨_,rfl⟩
 rw [eE1] at pF;have hkl:kd.length=(fallen m g ys).length:=qd.len;have hfl:=yD (m:=m) (mo:=g) hM.nd;refine ZM (fun i σ Z=>∃ o6 o7 o8 o9 O,σ=[some (.ref h),some (.ref l),some (.ref lp),some (.ref lt),some (.ref lo),some (.ref S),o6,o7,o8,o9]/\Kp S F Z/\Z S=some (.lst O)/\O.length<=B.length+i/\Paired (gC Z) O (E1++((fallen m g ys).take i).filterMap (fE I))) ⟨_,_,_,_,B,rfl,Kp.refl _ _,gF,i5 _,(D6 E1).symm ▸ pF⟩ ?_ ?_ ?_
 ·rintro i σ Z _ ⟨o6,o7,o8,o9,O,rfl,ac,_⟩
  exact ac _ _ (j3 xd) dF
 ·rintro i k v T σ Z hx hT ⟨o6,o7,o8,o9,O,rfl,ac,g2,l2,p2⟩
  obtain ⟨⟨k',t⟩,hy,ek,fv⟩:=Paired.at qd hx;cases (show k=k' from ek);obtain ⟨y,_,ey,_⟩:=iV.mp (i3 hy);cases (show k=a9 y from congrArg qf ey);have hi:i < (fallen m g ys).length:=(b9.mp hy).1;have eS:=sR (f:=fE I) hy;have tk2:TK H3 Z:=tF.trans fun p xs e=>ac _ _ (fun z=>by rw [z,gF] at e; cases e) e;have tkT:TK Z (L2.upd Z T (.tup [kV (a9 y),v])):=TK.new hT;have gT:=aL (o:=.tup [kV (a9 y),v]) hT g2;have kpT:Kp S F (L2.upd Z T (.tup [kV (a9 y),v])):=ac.trans fun b o _ e=>aL hT e;have fvT:=cA.tk fv (tk2.trans tkT);have pT:=Pd.imp p2 fun z e h=>gC.tk h tkT;have hTT:L2.upd Z T (.tup [kV (a9 y),v]) T=_:=aC;generalize L2.upd Z T (.tup [kV (a9 y),v])=G3 at *;have sH:aJ H G3:=fun b u e=>kpT _ _ (aB e hld) (sF _ _ e);w_on;refine bC fun t2 ht2=>?_;have sN:=aJ.new (o:=.tup [kV (a9 y),v]) ht2;have h2:L2.upd G3 t2 (.tup [kV (a9 y),v]) t2=_:=aC;have gN:=sN _ _ gT;have fN:=fvT.tk sN.tk;have pN:=Pd.imp pT fun z e h=>gC.tk h sN.tk;have qN:=qp.sm nX.tk (sH.trans sN);have kN:=kpT.trans sN.kp;generalize L2.upd G3 t2 (.tup [kV (a9 y),v])=G4 at *;w_on;apply ZE h2 fN qN ?_;have e2:fE I (a9 y,t)=if kL I (.falls t y)=true then some (.falls t y) else none:=rfl
  cases z:kL I (.falls t y) with
 |false =>
   rw [z] at e2;w_on;exact ⟨_,_,_,_,O,rfl,kN,gN,by lia,by rw [eS,e2]; exact (D6 (List.filterMap (fE I) (List.take i (fallen m g ys)))).symm ▸ pN⟩
 |true =>
   rw [z] at e2;w_on;apply bC fun C J=>?_;have gl:=aL (o:=.tup [.str "falls",v,kV (a9 y)]) J gN;apply gJ gl (by lia) ?_;have BM:=(TK.new (o:=.tup [.str "falls",v,kV (a9 y)]) J).trans (TK.lst (o:=.lst (O++[.ref C])) gl);refine ⟨_,_,_,_,O++[.ref C],rfl,(kN.trans (fun b o _ e=>aL J e)).trans Kp.upd,aC,by rw [i9]; show _+1<=_; lia,?_⟩;rw [eS,e2,← K4];exact Pd.snoc (Pd.imp pN fun z e h=>gC.tk h BM) ⟨C,v,rfl,TK.lst gl _ _ aC,fN.tk BM⟩
 ·rintro σ Z ⟨o6,o7,o8,o9,O,rfl,ac,g2,l2,p2⟩
  rw [hkl,A2,yE] at p2;have sH:aJ H Z:=fun b u e=>ac _ _ (aB e hld) (sF _ _ e);have lA:(jF n g N ys).length<=ys.length+n.length:=by
   unfold jF;rw [i9];have x4:=N9 (gP g) ys;have x5:=N9 (eN n g N) (k9 n.length);rw [Y1] at x5;lia
  have lF:=bx (dD I m) (jF n g N ys);have pm2:(E1++(ys.filterMap (gP g)).filter (dD I m)).Perm ((jF n g N ys).filter (dD I m)):=by
   unfold jF;rw [D7,eE1];exact List.perm_append_comm
  have gD:∀ e∈(jF n g N ys).filter (dD I m),YK e:=fun e he=>gA e (cz.mp he).1;have l1:=Paired.length pz;have l1':=pm.length_eq;have l3:=Paired.length p2;have l3':=pm2.length_eq;w_on;apply WW (sH _ _ hlo) (Pd.imp pz fun z e h=>gC.tk h sH.tk) (fun e he=>gD e (pm.mem_iff.mp he)) (by lia) fun a1 G5 z5 e5 h5 s5 g5 p5 m5 so5=>?_;refine WW (s5 _ _ g2) (Pd.imp p2 fun z e h=>gC.tk h s5.tk) (fun e he=>gD e (pm2.mem_iff.mp he)) (by lia) fun a2 G6 z6 e6 h6 s6 g6 p6 m6 so6=>?_;cases Be (m5.trans pm) (m6.trans pm2) gD so5 so6;have d5:=DI (Pd.imp p5 fun z e h=>gC.tk h s6.tk);w_on;refine El ⟨a1,_,rfl,s6 _ _ g5,d5⟩ ⟨a2,_,rfl,g6,DI p6⟩ (u8 (WX _) (by decide)) ?_;rw [iJ.same_eq _ _ d5 d5];w_on;exact q _
include o0i in
theorem tX:kK mI P w K mg base (k+1) cC "__init__" ["self","net"] (wL cC):=by
 refine kK.of vE.d58 tK (by walk_at "ln") fun f ui A outer s H vs Q E hr h=>?_;obtain ⟨h,dx,l,n,D,M,U,rfl,ho,g,hR,hU,O,q⟩:=h;refine ⟨_,(aE (qK (pv 0) (lX Jj rfl T.z_list Bm (aA (pv 1) aD)) rfl)
   (aE (qK (pv 0) (cI aD) rfl)
   (aE (qK (pv 0) (cI aD) rfl)
   (aE (qK (pv 0) (bH (aA aF (aA aF aD))) rfl)
   (aH (qK (pv 0) (VI o0i hr rfl (aA (dL (pv 0) dC) (aA (cI aD) aD))) rfl)))))),?_⟩
 try dsimp only [aR,bA]
 obtain ⟨vn,hvn,S⟩:=id g.lq;w_on;apply Nv hvn fun ln R=>?_;obtain ⟨G1,e1,k1,n1,o1,Z⟩:=BP (o:=.lst vn) (fs':=iA "net" (.ref ln) []) R ho;rw [e1];apply dA fun C m=>?_;obtain ⟨G2,e2,k2,n2,o2,x2⟩:=BP (o:=.lst []) (fs':=iA "pushes" (.ref C) (iA "net" (.ref ln) [])) m o1;rw [e2];apply dA fun J i=>?_;obtain ⟨G3,e3,k3,n3,o3,x3⟩:=BP (o:=.lst []) (fs':=iA "takings" (.ref J) (iA "pushes" (.ref C) (iA "net" (.ref ln) []))) i o2;rw [e3];apply bC fun p hp=>?_;obtain ⟨N,e4,X,n4,o4,x4⟩:=BP (o:=.tup [.int 0,.int 1]) (fs':=iA "moment" (.ref p) (iA "takings" (.ref J) (iA "pushes" (.ref C) (iA "net" (.ref ln) [])))) hp o3;rw [e4];have lpl:C≠ln:=fun z=>by rw [z,n1] at m; cases m
 have m2:=k2.app1 Z n1;have ltl:J≠ln:=fun z=>by rw [z,m2] at i; cases i
 have ltp:J≠C:=fun z=>by rw [z,n2] at i; cases i
 have m4:=X.app1 Z (k3.app1 Z m2);have p4:=X.app1 x2 (k3.app1 x2 n2);have t4:=X.app1 x3 n3;have Y:=k1.trans (k2.trans (k3.trans X));clear e1 e2 e3 e4;apply dA fun l2 hl2=>?_;have s5:=aJ.new (o:=.lst []) hl2;have hnh:∀{b:b8}{o:HO},b≠h->H b=some o->N b=some o:=fun n e=>Y.app1 n e;have t0:TK H N:=Y.tk fun b hb xs e=>by rw [f9.mp hb,ho] at e; cases e
 have nq4:pA N ln (kn n) D M:=⟨⟨vn,m4,Pd.imp S fun v b f=>fA.tk f t0⟩,g.len,g.bd,g.pos⟩
 refine ⟨ln,n,l2,[],.non,[],D,M,U,rfl,nq4.sm s5,⟨⟨[],aC,.nil⟩,y8 _,(fun _ z=>nomatch z)⟩,⟨.inl ⟨rfl,rfl⟩,y8 _,(fun _ z=>nomatch z)⟩,hR.r8,hU,O,fun W H1 F ys hd s1 dq fo bF nd mem=>?_⟩;have I:=s5.trans s1;have o5:=I _ _ o4;have B:N W=none:=s5.free hd;have xd:W≠h:=fun z=>by rw [z,o4] at B; cases B
 have t6:TK N (L2.upd H1 h (.ins cC dx (cB ln C J (.ref p) W))):=I.tk.trans (vY o5);w_on;have fr:∀{b:b8}{G:Hp},b≠h->jW [h] H G->G b=none->H b=none:=fun n k e=>k.fr (fun z=>n (f9.mp z)) e;refine q _ ln C J (.ref p) W _ ys (Y.trans ((aJ.kpL I).trans (.upd (.head _)))) R (fr x2 k1 m) (fr x3 (k1.trans k2) i) (fr xd Y B) aC ⟨p,rfl,aX x4 (I _ _ n4)⟩ ⟨⟨⟨vn,aX Z (I _ _ m4),Pd.imp S fun v b f=>fA.tk f (t0.trans t6)⟩,g.len,g.bd,g.pos⟩,⟨⟨[],aX x2 (I _ _ p4),.nil⟩,y8 _,(fun _ z=>nomatch z)⟩,⟨[],aX x3 (I _ _ t4),.nil⟩,y8 _,(fun _ z=>nomatch z),hR,hU,O,j3 lpl,j3 ltl,j3 ltp⟩ ((cQ.of dq fo bF nd mem).mv (fun o z=>aX xd z) (vY o5))
include o1p o2d o2f o1m o1x o2a o2e o2g o1o o1a o0h in
theorem Hr{f:b8}{fd:D4}(F:Pp K "law" "law" rO f fd):mG P w K mg base mI (k+1) f fd ["_law_script"] (LK K):=by
 refine F.ok gZ (by walk_at "ln") fun ui A outer s H vs Q E hr h=>?_;obtain ⟨a,ns,rfl,hS,h63,hT,q⟩:=h;refine ⟨_,(aE (dU 1 gZ.nd (aI o1x hr rfl (aA (pv 0) aD)))
   (aE (dU 2 gZ.nd (aI o2d hr rfl (aA (pv 1) aD)))
   (aE (dU 3 gZ.nd (Hd o0h HC.mks HC.kp hr fI rfl HC.m (aA (pv 2) aD)))
   (aE (dU 4 gZ.nd (cI aD))
   (aE (fD n9 rfl (AJ rfl T.z_range (aA aF (aA (bD (OE rfl) rfl T.z_max DV (aA aF (aA (bD (OD rfl) rfl T.z_min DU (aA (bD iL rfl T.z_len eY (aA (pv 0) aD)) (aA aF aD))) aD))) aD))) (nZ 5 gZ.nd) (aE (dU 6 gZ.nd (aI o1p hr rfl (aA (pv 0) (aA (pv 5) aD))))
   (aE (dU 7 gZ.nd (aI o2a hr rfl (aA (pv 1) (aA (aI o2f hr rfl (aA (pv 1) aD)) (aA (pv 6) aD)))))
   (aE (dU 8 gZ.nd (aI o2g hr rfl (aA (pv 3) (aA (pv 1) (aA (pv 7) aD)))))
   (aE (bV (aY (eX hr.units) (aN aQ (pv 7) aF) aP) (aH (dU 4 gZ.nd (aK bP (pv 4) (pv 8)))) bE)
   (aE (dJ (aI o2e hr rfl (aA (pv 1) (aA (pv 7) aD))))
   (aE (CD (aI o1m hr rfl (aA (pv 1) aD)) (iR (n:=2) rfl (aU (nZ 9 gZ.nd) (aU (nZ 10 gZ.nd) cV))))
   (aH (bV (iB (cS (aI o1o hr rfl (aA (pv 3) (aA (pv 2) (aA (pv 9) (aA (pv 10) (aA (pv 6) aD)))))))) (aH (aS sI)) bE)))))))))
   (aE (CD (aI o1m hr rfl (aA (pv 1) aD)) (iR (n:=2) rfl (aU (nZ 9 gZ.nd) (aU (nZ 10 gZ.nd) cV))))
   (aH (aS (aI o1a hr rfl (aA (pv 3) (aA (pv 2) (aA (pv 9) (aA (pv 10) (aA (pv 4) aD)))))))))))))),?_⟩
 try dsimp only [aR,bA]
 w_on;apply ⟨a,ns,rfl,hS,h63,fun dd H1 U u X ln lr lp lt hdd hlp hlt n5 n1 n2 n3 n4 s1 h30 hJ hN=>?_⟩;apply ⟨dd,U,u,X,[],[],ln,lr,lp,lt,rfl,hJ,hN.q,fun l H2 hl s2 nq=>?_⟩;intro h dx hh hdx hne;have u0:=hJ.u0;have u1:=hJ.u1;have hrl:=hJ.rl;have sA:aJ H2 (L2.upd (L2.upd H2 dx (.own h)) h (.ins cC dx [])):=(aJ.new hdx).trans (aJ.new (by rw [aZ (j3 hne)]; exact hh));have oA:=aC (H:=L2.upd H2 dx (.own h)) (a:=h) (o:=.ins cC dx []);generalize L2.upd (L2.upd H2 dx (.own h)) h (.ins cC dx [])=HA at sA oA ⊢;refine ⟨h,dx,l,eG U u X,u.toNat,Mk 0,U,rfl,oA,Hv (nq.sm fA.tk sA) (by rw [JN]; lia) (fun r hr=>?_) (Hx hJ),MD u0 u1 (by decide),by lia,HJ hJ,fun H3 um O R vm dm mo ys k3 f1 f2 f3 f4 o3 m3 I3 M3=>⟨rfl,?_⟩⟩
 ·obtain ⟨x,W,rfl⟩:=j1.mp hr
  have:=hJ.rok x W;exact XR u0 (by lia) (show x.2.2<=((10 ^ 31:Nat):Int) by lia)
 have sHA:aJ H HA:=(s1.trans s2).trans sA;have NA:=hN.sm (s2.trans sA);have hh0:H h=none:=(s1.trans s2).free hh;have tA:TK HA H3:=k3.tk fun p hp xs e=>by rw [f9.mp hp,oA] at e; cases e
 have nA:∀{b:b8}{o:HO},H1 b=some o->b∉[h]:=fun e z=>by rw [f9.mp z] at e; rw [s2.free hh] at e; cases e
 obtain ⟨_,er,_⟩:=id hN.q.rq;obtain ⟨_,ep,_⟩:=id hN.q.pq;obtain ⟨_,et,_⟩:=id hN.q.tq;have N3:=NA.kl k3 tA (nA hN.d) (nA hN.q.nm) (nA er) (nA ep) (nA et);have ad:∀{b c:b8}{o:HO},H1 b=some o->HA c=none->b≠c:=fun e z=>aB ((s2.trans sA) _ _ e) z;have ES:Pl ln lr lp lt um O R:=⟨n1,n2,n3,n4,n5,ad hN.q.nm f2,ad er f2,ad ep f2,ad et f2,ad hN.q.nm f3,ad er f3,ad ep f3,ad et f3,j3 (ad ep f1),j3 (ad et f1)⟩
 have T3:LT H3:=LT.kl (sX.same hT sHA) k3 fun p z=>by rw [f9.mp z]; exact .inr (.inl ⟨_,_,_,oA⟩)
 have s3:aJ H H3:=fun b o e=>k3 _ _ (fun z=>by rw [f9.mp z,hh0] at e; cases e) (sHA _ _ e);have DC:∀ x∈[h,O,R,dd,lp,lt],H x=none:=fun x z=>by
  simp only [n6,Q0,or_false] at z;rcases z with rfl|rfl|rfl|rfl|rfl|rfl
  ·exact hh0
  ·exact sHA.free f2
  ·exact sHA.free f3
  ·exact hdd
  ·exact hlp
  ·exact hlt
 have S3:vD cC H3 dd h dx ln lr lp lt um O R U u X [] [] 0 [] [] 0 vm dm mo ys (Mk 0):=⟨N3,o3,I3,M3,by rw [BK]; exact m3,XR u0 (dh _) (Int.natCast_nonneg _),T3,j3 (ad hN.d f4)⟩
 have hS3:=s3.seq hS;obtain ⟨vl,el,_⟩:=id nq;have L3:LQ fA H3 l (kn (eG U u X)):=LQ.mv (nq.sm fA.tk sA) fA.tk (fun o e=>k3 _ _ (fun z=>by rw [f9.mp z] at el; rw [hh] at el; cases el) e) tA;have NL:Ri l lp lt O R:=⟨j3 (aB ep hl),j3 (aB et hl),aB (sA _ _ el) f2,aB (sA _ _ el) f3⟩
 clear N3 T3 I3 M3 m3 o3 nA ad f1 f2 f3 f4 k3 tA er ep et NA sA oA nq s2 s1 hh hdx hne hl hN;w_on;refine dA fun lo hlo=>?_;have s4:=aJ.new (o:=.lst []) hlo;have g4:L2.upd H3 lo (.lst []) lo=some (.lst []):=aC;have S4:=S3.sm s4;have L4:=L3.sm fA.tk s4;have hS4:=(s3.trans s4).seq hS;obtain ⟨_,ep,_⟩:=id S3.N.q.pq;obtain ⟨_,et,_⟩:=id S3.N.q.tq;obtain ⟨_,ehp,_⟩:=id S3.I.pq.lq;obtain ⟨_,eht,_⟩:=id S3.I.tq;have NO:Ri lo lp lt O R:=⟨j3 (aB ep hlo),j3 (aB et hlo),j3 (aB ehp hlo),j3 (aB eht hlo)⟩
 have kS4:Kp tT H (L2.upd H3 lo (.lst [])):=(s3.trans s4).kp;generalize L2.upd H3 lo (.lst [])=H4 at *;w_on;apply CA hS4 ?_;rw [g7];refine MF (by decide) (by decide) (by (repeat' split) <;> lia) (by (repeat' split) <;> lia) ?_;generalize hNN:Int.toNat _=NN;have hN20:NN<=20:=by rw [← hNN]; (repeat' split) <;> lia
 clear hNN;have hU:=HJ hJ;have hns:=hJ.ns;have ysl:∀{G:Hp}{dm:b8}{ps ts:List (aM×Rat)} {M:Nat} {mo:aM->Option Rat} {ys:List Str},cQ G dm (eG U u X) ps ts u.toNat M mo ys->ys.length+(eG U u X).length < 64:=fun hM=>by
  have:=iS hM.nd fun x W=>hU x ((hM.mem x).mp W);rw [JN];lia
 refine pI (LwI cC a dd l h dx ln lr lp lt um O R U u X H) ⟨_,_,_,_,_,_,lo,[],[],0,vm,dm,mo,ys,rfl,S4,kS4,hJ,(fun _ z=>nomatch z),i5 _,i5 _,dh _,L4,NO,⟨[],[],g4,.nil,?_⟩,fun _ z=>nomatch z⟩ ?_ ?_
 ·show df [] (List.filter _ (jF (eG U u X) mo [] ys))
  rw [XV S4.Mo.fal];exact .refl _
 ·intro P' rt' bk' hP'
  clear S4 kS4 s3 hS4 vm dm mo ys NO g4 L4 S3 L3 hS3 s4 ep et ehp eht hlo lo;rintro i σ G hi ⟨o5,o6,o7,o8,o9,o10,lo,ps,ts,C,vm,dm,mo,ys,rfl,S,kG,J,us,pl,tl,n0,TL⟩;have hSG:=cP.kt hS hT kG;have hpl:(nY U u ps).length<=20:=by unfold nY; rw [g7]; lia
  have htl:(jK u ts).length<=20:=by unfold jK; rw [g7]; lia
  have nb:C<=10 ^ 105:=by
   have e1:=RO u0 S.z;have e2:((Mk i:Nat):Int)<=10 ^ 92:=by have:=XZ (i:=i) (by lia); lia
   have e3:((Mk i:Nat):Int) * u<=10 ^ 92 * 10 ^ 12:=mi e2 u1 (by lia) (by decide);exact bf e1 (bf e3 (by decide))
  w_on;apply ⟨a,ns,_,rfl,hSG,by lia,by lia,fun num=>?_⟩;refine ⟨dd,U,u,X,ps,ts,ln,lr,lp,lt,rfl,J,S.N.q,fun d G1 D hd t1 dq du fal=>?_⟩;have S1:=S.sm t1;have emo:mo=mT U u D:=by
   rw [CC us] at fal;exact S.Mo.fal.uniq fal
  subst emo;w_on;refine ⟨dd,d,num,U,u,X,ps,ts,ln,lr,lp,lt,C,D,rfl,S1.N,J,dq,aB S.N.d hd,du,n0,by lia,by lia,fun p2 wd x2 G7 hp2 t7 gp2 hd2=>?_⟩;have S7:=S1.sm t7;have TL7:=TL.sm (t1.trans t7);have k7:Kp tT H G7:=kG.trans ((t1.trans t7).kp);clear S1 t1 t7 hp2 dq hSG hd S TL kG
  walk_at "gos"
  refine xC ?_;refine kY ?_;have M1:Mk i<=Mk (i+1):=by rw [EF]; lia
  have R1:nR u.toNat (Mk (i+1)):=MD u0 u1 (by lia);have Y:=S7.up M1 R1;have bdS:∀ t:Int,0<=t->Bd u.toNat (Mk (i+1)) (ut u t)->t<=10 ^ 105:=fun t t0 hb=>by
   have e1:=RO u0 hb;have e2:((Mk (i+1):Nat):Int)<=10 ^ 92:=by have:=XZ (i:=i+1) (by lia); lia
   have e3:((Mk (i+1):Nat):Int) * u<=10 ^ 92 * 10 ^ 12:=mi e2 u1 (by lia) (by decide);exact bf e1 (bf e3 (by decide))
  have po:=Y.I.nq.pos;have TLo:=TL7.o;obtain ⟨zs,es,gz,pz,pm⟩:=TL7.e;have zl:zs.length < 64:=by
   have x1:=Paired.length pz;have x2:=pm.length_eq;have x3:=bx (dD (nY U u ps) (ut u C)) (jF (eG U u X) (mT U u D) (jK u ts) ys);have x4:=N9 (gP (mT U u D)) ys;have x5:=N9 (eN (eG U u X) (mT U u D) (jK u ts)) (k9 (eG U u X).length);have x6:=ysl Y.Mo;unfold jF at x2 x3;rw [i9] at x3;rw [Y1] at x5;lia
  refine uQ (LwD cC a dd l h dx ln lr lp lt um O R U u X H i lo p2 (23+(i:Int)) num x2 wd o9 o10 ps ts C zs es) ?_ ?_
  ·clear S7 Y k7 gp2 hd2 gz pz pm TL7 hpl htl nb
   rintro σ F ⟨fv,vm',dm',ae,af,ps',ts',ac,rfl,gF,SF,kF,st,J',us',n0',lF,pF,gz,pz,tw⟩;refine xC ?_;refine kY ?_;refine uQ (fun σ F=>∃(lo':b8),σ=[some (.ref a),some (.ref dd),some (.ref l),some (.ref h),some (.ref lo'),some (.int (23+(i:Int))),some (.int num),some (.ref p2),some fv,o9,o10]/\F p2=some (.tup [.str wd,.int x2])/\vD cC F dd h dx ln lr lp lt um O R U u X ps ts C ps' ts' ac vm' dm' ae af (Mk (i+1))/\Kp tT H F/\Jq F l lo' lp lt O R U u X ps' ts' ac ae af) ?_ ?_
   ·clear SF kF gF lF gz pz tw TLo lo
    rintro σ F ⟨lo,rfl,gF,SF,kF,TL⟩;refine xC ?_;refine kY ?_;refine uQ (fun σ F=>σ=[some (.ref a),some (.ref dd),some (.ref l),some (.ref h),some (.ref lo),some (.int (23+(i:Int))),some (.int num),some (.ref p2),some fv,o9,o10]/\vD cC F dd h dx ln lr lp lt um O R U u X ps' ts' ac ps' ts' ac vm' dm' ae af (Mk (i+1))/\Kp tT H F/\Jq F l lo lp lt O R U u X ps' ts' ac ae af/\ps'.length<=i+1/\ts'.length<=i+1) ?_ ?_
    ·clear SF kF TL gF
     rintro σ F ⟨rfl,SF,kF,TL,pl',tl'⟩;w_on;refine ⟨dd,U,u,X,ps',ts',ln,lr,lp,lt,rfl,J',SF.N.q,fun tp F1 l1 l2 htp hl1 hl2 s1 gtp q1 q2=>?_⟩;rw [CC us'] at q1;have S1:=SF.sm s1;have TL1:=TL.sm s1;w_on;refine ⟨h,dx,um,O,R,vm',dm',ut u ac,eG U u X,nY U u ps',jK u ts',u.toNat,Mk (i+1),U,ae,af,l,l1,l2,num,rfl,S1.o,S1.I,S1.Mo,S1.m,S1.z,TL1.l,q1,q2,by rw [JN]; exact J'.r1,fun F2 s2=>?_⟩;w_on;exact hP' _ _ _ ⟨_,_,_,_,_,_,lo,ps',ts',ac,vm',dm',ae,af,rfl,S1.sm s2,kF.trans (s1.trans s2).kp,J',us',pl',tl',n0',TL1.sm s2⟩
    ·intro NX hNX
     have kf3:∀{Z:Hp},jW [dd,lp,lt] F Z->Kp tT H Z:=fun k=>NM kF k fun x z=>.inr (DC x (by
      simp only [n6,Q0,or_false] at z ⊢;rcases z with rfl | rfl | rfl <;> simp))
     obtain ⟨vl,el,_⟩:=id TL.l;obtain ⟨zs,es,gz,pz,pm⟩:=TL.e;obtain ⟨_,ep,_⟩:=id SF.N.q.pq;obtain ⟨_,et,_⟩:=id SF.N.q.tq;have mvT:∀{Z:Hp},jW [dd,lp,lt] F Z->Jq Z l lo lp lt O R U u X ps' ts' ac ae af:=fun k=>by
      have tk:=Jz k fun p z=>by
       rcases n6.mp z with e|z
       ·rw [e]; exact ⟨_,SF.N.d,fun _ z=>nomatch z⟩
       ·rcases n6.mp z with e|z
        ·rw [e]; exact ⟨_,ep,fun _ z=>nomatch z⟩
        ·rw [f9.mp z]; exact ⟨_,et,fun _ z=>nomatch z⟩
      obtain ⟨a1,a2⟩:=Ej k tk (JK (tY gz SF.N.d (fun _ z=>nomatch z)) TL.o.a TL.o.b) gz pz;exact ⟨LQ.mv TL.l fA.tk (fun o e=>k _ _ (JK (tY el SF.N.d (fun _ z=>nomatch z)) NL.a NL.b) e) tk,TL.o,⟨zs,es,a1,a2,pm⟩,TL.p⟩
     w_on;refine ⟨dd,U,u,X,ps,ts,ln,lr,lp,lt,C,p2,wd,x2,rfl,SF.N,gF,ES.n1,ES.n2,ES.n3,ES.n4,ES.n5,?_⟩;rcases st with ⟨rfl,rfl,rfl,rfl⟩|⟨rfl,rfl,rfl,rfl⟩|⟨rfl,rfl,rfl,rfl⟩
     ·refine .inl ⟨rfl,by lia,fun Z k N'=>?_⟩
      w_on;exact hNX _ _ ⟨rfl,SF.did ES k N',kf3 k,mvT k,by rw [i9]; show _+1<=_; lia,by lia⟩
     ·refine .inr (.inl ⟨rfl,by lia,fun Z k N'=>?_⟩)
      w_on;exact hNX _ _ ⟨rfl,SF.did ES k N',kf3 k,mvT k,by lia,by rw [i9]; show _+1<=_; lia⟩
     ·refine .inr (.inr ⟨rfl,fun Z k N'=>?_⟩)
      w_on;exact hNX _ _ ⟨rfl,SF.did ES k N',kf3 k,mvT k,by lia,by lia⟩
   ·intro NX hNX
    rcases tw with ⟨wn,pm⟩|⟨rfl,v,zs',fs,rfl,gv,lv,pv,pm⟩
    ·w_on
     apply fO wn ?_;exact hNX _ _ ⟨lo,rfl,gF,SF,kF,lF,TLo,⟨zs,es,gz,pz,pm⟩,pF⟩
    ·w_on
     apply qS (beq_self_eq_true _) ?_;refine OG gz gv (by lia) fun lo' hlo'=>?_;have sN:=aJ.new (o:=.lst (zs++zs')) hlo';w_on;obtain ⟨_,ep,_⟩:=id SF.N.q.pq;obtain ⟨_,et,_⟩:=id SF.N.q.tq;obtain ⟨_,ehp,_⟩:=id SF.I.pq.lq;obtain ⟨_,eht,_⟩:=id SF.I.tq;exact hNX _ _ ⟨lo',rfl,sN _ _ gF,SF.sm sN,kF.trans sN.kp,lF.sm fA.tk sN,⟨j3 (aB ep hlo'),j3 (aB et hlo'),j3 (aB ehp hlo'),j3 (aB eht hlo')⟩,⟨_,_,aC,Pd.imp (Pd.app pz pv) fun z e h=>gC.tk h sN.tk,pm⟩,pF⟩
  ·intro NX hNX
   have kf1:∀{Z:Hp},jW [h,O] G7 Z->Kp tT H Z:=fun k=>NM k7 k fun x z=>.inr (DC x (by
    simp only [n6,Q0,or_false] at z ⊢;rcases z with rfl | rfl <;> simp))
   have kf2:∀{Z:Hp},jW [h,R] G7 Z->Kp tT H Z:=fun k=>NM k7 k fun x z=>.inr (DC x (by
    simp only [n6,Q0,or_false] at z ⊢;rcases z with rfl | rfl <;> simp))
   have kf4:∀{Z:Hp},jW [h,tT] G7 Z->Kp tT H Z:=fun k=>NM k7 k fun x z=>by
    rcases n6.mp z with rfl|z
    ·exact .inr (DC _ (by simp))
    ·exact .inl (f9.mp z)
   obtain ⟨_,ehp,_⟩:=id Y.I.pq.lq;obtain ⟨_,eht,_⟩:=id Y.I.tq;obtain ⟨_,eT⟩:=Y.T.ex;obtain ⟨vl,el,_⟩:=id TL7.l;have l1L:∀ x∈[h,O],∃ o,G7 x=some o/\∀ xs,o≠.tup xs:=fun x z=>by
    rcases n6.mp z with rfl|z
    ·exact ⟨_,Y.o,fun _ z=>nomatch z⟩
    ·rw [f9.mp z]; exact ⟨_,ehp,fun _ z=>nomatch z⟩
   have l2L:∀ x∈[h,R],∃ o,G7 x=some o/\∀ xs,o≠.tup xs:=fun x z=>by
    rcases n6.mp z with rfl|z
    ·exact ⟨_,Y.o,fun _ z=>nomatch z⟩
    ·rw [f9.mp z]; exact ⟨_,eht,fun _ z=>nomatch z⟩
   have l3L:∀ x∈[h,tT],∃ o,G7 x=some o/\∀ xs,o≠.tup xs:=fun x z=>by
    rcases n6.mp z with rfl|z
    ·exact ⟨_,Y.o,fun _ z=>nomatch z⟩
    ·rw [f9.mp z]; exact ⟨_,eT,fun _ z=>nomatch z⟩
   have lh:=tY el Y.o fun _ z=>nomatch z
   have oh:=tY gz Y.o fun _ z=>nomatch z
   have mvE:∀{L:List b8}{Z:Hp},jW L G7 Z->(∀ x∈L,∃ o,G7 x=some o/\∀ xs,o≠.tup xs)->l∉L->lo∉L->Z p2=some (.tup [.str wd,.int x2])/\LQ fA Z l (kn (eG U u X))/\Z lo=some (.lst zs)/\Paired (gC Z) zs es:=fun k hL xl xo=>by
    have tk:=Jz k hL;exact ⟨tk _ _ gp2,LQ.mv TL7.l fA.tk (fun o e=>k _ _ xl e) tk,Ej k tk xo gz pz⟩
   w_on;refine ⟨h,dd,p2,wd,x2,dx,um,O,R,vm,dm,ut u C,eG U u X,nY U u ps,jK u ts,u.toNat,Mk (i+1),U,mT U u D,ys,u,X,ps,ts,ln,lr,lp,lt,C,rfl,gp2,Y.o,Y.I,Y.Mo,Y.m,Y.z,Y.T,Y.N,u0,u1,?_⟩;rcases hd2 with ⟨rfl,j,rfl,hj,⟨r,hr,hrj⟩,hz⟩|⟨rfl,k,r,rfl,hr,hs⟩|⟨rfl,x0,W⟩
   ·have hju:(j:Int)∈nG X:=by
     rcases hrj with e|e
     ·exact z9 _ (j1.mpr ⟨r,hr,e⟩)
     ·exact o0 _ (j1.mpr ⟨r,hr,e⟩)
    obtain ⟨hj2,enm⟩:=xS (U:=U) (i:=(j:Int)) (by lia) (by lia);have hc:vB (ut u C) (mT U u D (a9 (jM U (j:Int))))=false:=by
     rw [sO J.nd (by lia) (by lia)];cases e:aV D (c7 (j:Int)) with
    |none=>rfl
    |some z =>
      show (!decide (ut u C < ut u z))=false;rw [decide_eq_true ((kQ u0).mpr (hz z e))];rfl
    refine .inl ⟨rfl,by lia,j,jM U (j:Int),rfl,by rw [enm]; exact c8 _,YN hju,hc,fun d' Z ae af fd k o' I' m'=>?_⟩;w_on;have dp:=pm.trans (XC po Y.Mo.fal m'.fal hc (KN m'.nd Y.Mo.nd m'.mem Y.Mo.mem)).symm;have ep:=(VA U u ps ((j:Int),C)).symm;rw [ep] at I' m' dp;obtain ⟨b1,b2,b3,b4⟩:=mvE k l1L (kM lh NL.c) (kM oh TLo.c);refine hNX _ _ ⟨_,vm,d',ae,af,ps++[((j:Int),C)],ts,C,rfl,b1,Y.pushed ES fd k o' I' m',kf1 k,.inl ⟨rfl,rfl,rfl,rfl⟩,⟨J.u0,J.u1,J.nd,J.n2,J.n98,J.rok,fun x W=>?_,J.tok,J.r1,J.rl,by rw [i9]; show _+1<=_; lia,J.tl,J.ns⟩,fun x W=>?_,n0,b2,fun x W=>?_,b3,b4,.inl ⟨by k_is,dp⟩⟩
    ·rcases m9.mp W with W|W
     ·exact J.pok x W
     ·rw [f9.mp W]
      exact ⟨by lia,by lia,n0,nb⟩
    ·rcases m9.mp W with W|W
     ·exact us x W
     ·rw [f9.mp W]
      exact hju
    ·rcases m9.mp W with W|W
     ·exact TL7.p x W
     ·rw [f9.mp W]
      exact dh _
   ·have hrN:(eG U u X)[k]?=some (jM U r.1,jM U r.2.1,ut u r.2.2):=by unfold eG; rw [i7,hr]; rfl
    apply .inr (.inl ⟨rfl,by lia,k,(jM U r.1,jM U r.2.1,ut u r.2.2),rfl,hrN,hs,fun d' Z ae af fd kk o' I' m'=>?_⟩);have dp:=pm.trans (XB po Y.Mo.fal m'.fal hrN hs (KN m'.nd Y.Mo.nd m'.mem Y.Mo.mem)).symm;have ep:=(RV u ts ((k:Int),C)).symm;rw [ep] at I' m' dp;obtain ⟨b1,b2,b3,b4⟩:=mvE kk l2L (kM lh NL.d) (kM oh TLo.d);refine hNX _ _ ⟨_,vm,d',ae,af,ps,ts++[((k:Int),C)],C,rfl,b1,Y.took ES fd kk o' I' m',kf2 kk,.inr (.inl ⟨rfl,rfl,rfl,rfl⟩),⟨J.u0,J.u1,J.nd,J.n2,J.n98,J.rok,J.pok,fun x W=>?_,J.r1,J.rl,J.pl,by rw [i9]; show _+1<=_; lia,J.ns⟩,us,n0,b2,TL7.p,b3,b4,.inl ⟨by k_is,dp⟩⟩;rcases m9.mp W with W|W
    ·exact J.tok x W
    ·rw [f9.mp W]
     exact ⟨by lia,n0,nb⟩
   ·have hD98:D.length<=98:=by have:=du.len; have:=J.n98; lia
    have zb:Bd u.toNat (Mk (i+1)) (ut u (C+x2))/\x2<=10 ^ 109:=by
     rcases W with ⟨y,hy,ey⟩|W
     ·obtain ⟨j,ej,hj⟩:=du.ky y hy
      obtain ⟨yk,yz⟩:=y;cases (show yk=c7 (j:Int) from ej);have ea:aV D (c7 (j:Int))=some yz:=cZ du.nd hy;have em:mT U u D (a9 (jM U (j:Int)))=some (ut u yz):=by
       rw [sO J.nd (by lia) (by lia),ea];rfl
      have b:=S7.Mo.bd _ _ em;have b2:=(du.bd _ hy).2;dsimp only at ey b2;rw [ey];exact ⟨b.mono (by rw [EF]; lia),by lia⟩
     ·have b:=S7.z.add (by have:=u0; lia) (XR (u:=u) (z:=x2) (B:=10 ^ 30) u0 x0 (by lia))
      rw [tE] at b;have g:=Ow i;exact ⟨b.mono (by rw [EF]; lia),by lia⟩
    refine .inr (.inr ⟨rfl,ysl Y.Mo,x0,zb.2,by rw [tE]; exact zb.1,fun v' vm' Z zs' fs hv gv lv ev pe _ kk T' o' f' I' m'=>?_⟩);rw [tE] at f' pe;w_on;obtain ⟨b1,b2,b3,b4⟩:=mvE kk l3L (kM lh (tY el eT fun _ z=>nomatch z)) (kM oh (tY gz eT fun _ z=>nomatch z));have dp:=Jb ((vX u0).mpr (show C<=C+x2 by lia)) (fun x W=>by
     obtain ⟨y,hy,rfl⟩:=j1.mp W;exact (vX u0).mpr (TL7.p y hy)) pm pe
    exact hNX _ _ ⟨_,vm',dm,_,ys,ps,ts,C+x2,rfl,b1,Y.went kk T' o' f' zb.1 I' m',kf4 kk,.inr (.inr ⟨rfl,rfl,rfl,rfl⟩),J,us,by lia,b2,fun x W=>bf (TL7.p x W) (by lia),b3,b4,.inr ⟨rfl,v',zs',fs,rfl,gv,lv,ev,dp⟩⟩
 ·rintro σ G ⟨o5,o6,o7,o8,o9,o10,lo,ps,ts,C,vm,dm,mo,ys,rfl,S,kG,J,us,pl,tl,n0,TL⟩
  w_on;refine ⟨dd,U,u,X,ps,ts,ln,lr,lp,lt,rfl,J,S.N.q,fun tp G1 l1 l2 htp hl1 hl2 s1 gtp q1 q2=>?_⟩;rw [CC us] at q1;have S1:=S.sm s1;have TL1:=TL.sm s1;w_on;obtain ⟨zs,es,gz,pz,pm⟩:=TL1.e;apply ⟨h,dx,um,O,R,vm,dm,ut u C,eG U u X,nY U u ps,jK u ts,u.toNat,Mk NN,U,mo,ys,l,l1,l2,lo,zs,es,rfl,S1.o,S1.I,S1.Mo,S1.m,S1.z,TL1.l,q1,q2,gz,pz,pm,ysl S1.Mo,fun y hy=>hns y (hU y ((S1.Mo.mem y).mp hy)),fun H'=>?_⟩;exact q _
end
local macro_rules | `(↑$x) => `(($x).mono (by decide))
theorem all_mk{l:gx}{w:k6}{K:m7}{h:u9}{mg:Str->Option a8}{fa:b8}(X:K.In h)(G:h.Ns r9 mg)(hfa:mg "law"=some (.ref fa)){f3:b8}{oc3:a8}{od3 an3:Option b8}{sl3:Array (Option a8)}{kV3 dc3 pm3 cd3 ct3:a8}{dT3:b8}{dO3:Obj}{dN3:Nat}{dK3:Tok}{f11:b8}{oc11:a8}{od11 an11:Option b8}{sl11:Array (Option a8)}{kV11 dc11 pm11 cd11 ct11:a8}{f17:b8}{oc17:a8}{od17 an17:Option b8}{sl17:Array (Option a8)}{kV17 dc17 pm17 cd17 ct17:a8}{dT17:b8}{dO17:Obj}{dN17:Nat}{f18:b8}{oc18:a8}{od18 an18:Option b8}{sl18:Array (Option a8)}{kV18 dc18 pm18 cd18 ct18:a8}{dT18:b8}{dO18:Obj}{dN18:Nat}{f21:b8}{oc21:a8}{od21 an21:Option b8}{sl21:Array (Option a8)}{kV21 dc21 pm21 cd21 ct21:a8}{dT21:b8}{dO21:Obj}{dN21:Nat}{f26:b8}{oc26:a8}{od26 an26:Option b8}{sl26:Array (Option a8)}{kV26 dc26 pm26 cd26 ct26:a8}{dT26:b8}{dO26:Obj}{dN26:Nat}{f59:b8}{oc59:a8}{od59 an59:Option b8}{sl59:Array (Option a8)}{kV59 dc59 pm59 cd59 ct59:a8}{cC:b8}(T:Bl mg)(HC:Pb K mg cC)(vE:EV K mg cC)(a3:rn K r9 "fraction"=some (some (.ref f3)))(l3:K.lookup f3=some ⟨oc3,od3,.func (V1 "fraction" "fraction" (bQ iO) (bL iO) (aG iO) (.ref dT3) kV3 dc3 pm3 an3 cd3 ct3),sl3⟩)(c3:w8 K cd3 "fraction"=true)(k3:n7 K (.ref f3)=true)(t3:K.lookup dT3=some dO3)(u3:dO3.data=.seq #[.int 1 dK3] dN3)(a11:rn K r9 "sorted_by"=some (some (.ref f11)))(l11:K.lookup f11=some ⟨oc11,od11,.func (V1 "sorted_by" "sorted_by" (bQ fB) (bL fB) (aG fB) .none kV11 dc11 pm11 an11 cd11 ct11),sl11⟩)(c11:w8 K cd11 "sorted_by"=true)(k11:n7 K (.ref f11)=true)(tb11:cc K 167 165=true)(tc11:cd11=.ref 167)(a17:rn K r9 "falls_of"=some (some (.ref f17)))(l17:K.lookup f17=some ⟨oc17,od17,.func (V1 "falls_of" "falls_of" (bQ fZ) (bL fZ) (aG fZ) (.ref dT17) kV17 dc17 pm17 an17 cd17 ct17),sl17⟩)(c17:w8 K cd17 "falls_of"=true)(k17:n7 K (.ref f17)=true)(t17:K.lookup dT17=some dO17)(u17:dO17.data=.seq #[.none] dN17)(a18:rn K r9 "fall_moments"=some (some (.ref f18)))(l18:K.lookup f18=some ⟨oc18,od18,.func (V1 "fall_moments" "fall_moments" (bQ dY) (bL dY) (aG dY) (.ref dT18) kV18 dc18 pm18 an18 cd18 ct18),sl18⟩)(c18:w8 K cd18 "fall_moments"=true)(k18:n7 K (.ref f18)=true)(t18:K.lookup dT18=some dO18)(u18:dO18.data=.seq #[.none] dN18)(a21:rn K r9 "standing_in"=some (some (.ref f21)))(l21:K.lookup f21=some ⟨oc21,od21,.func (V1 "standing_in" "standing_in" (bQ eV) (bL eV) (aG eV) (.ref dT21) kV21 dc21 pm21 an21 cd21 ct21),sl21⟩)(c21:w8 K cd21 "standing_in"=true)(k21:n7 K (.ref f21)=true)(t21:K.lookup dT21=some dO21)(u21:dO21.data=.seq #[.none] dN21)(a26:rn K r9 "ending_of"=some (some (.ref f26)))(l26:K.lookup f26=some ⟨oc26,od26,.func (V1 "ending_of" "ending_of" (bQ gH) (bL gH) (aG gH) (.ref dT26) kV26 dc26 pm26 an26 cd26 ct26),sl26⟩)(c26:w8 K cd26 "ending_of"=true)(k26:n7 K (.ref f26)=true)(t26:K.lookup dT26=some dO26)(u26:dO26.data=.seq #[.none] dN26)(a59:rn K r9 "law"=some (some (.ref f59)))(l59:K.lookup f59=some ⟨oc59,od59,.func (V1 "law" "law" (bQ rO) (bL rO) (aG rO) .none kV59 dc59 pm59 an59 cd59 ct59),sl59⟩)(c59:w8 K cd59 "law"=true)(k59:n7 K (.ref f59)=true):
  ∃ fd:D4,(∀(s:c5)(v:a8),E4 s fd ⟨[v],[]⟩ [("_law_script",v)])/\∀ base:u9,K.In base->base.Ns r9 mg->zD mg base->mG l.prog w K mg base mI 9 fa fd ["_law_script"] (LK K):=by
 have e:=hfa.symm.trans (mg_of X G a59);cases e;have d_fraction:Ep K mg "fraction" iO ["top","bottom"] [.int 1]:=JZ (ds:=[.int 1 dK3]) X G a3 l3 c3 k3 t3 u3 (fun sh us hg hl=>by refine el_2 (P:=fun us=>E4 sh _ ⟨us,[]⟩ (J0 ["top","bottom"] us)) ?_ us hl; exact fun _ _=>.of_defaults rfl hg u3 rfl rfl) (.cons ⟨_,rfl⟩ .nil) (fun sh us hg hl=>by refine el_1 (P:=fun us=>E4 sh _ ⟨us,[]⟩ (J0 ["top","bottom"] (us++[.int 1 dK3]))) ?_ us (show us.length=1 by simpa using hl); exact fun _=>.of_defaults rfl hg u3 rfl rfl);subst tc11;have d_sorted_by:Pq K mg "sorted_by" fB ["fractions","things"] 167 165:=Jc X G a11 l11 c11 k11 tb11 (el_2 fun _ _=>rfl);have d_falls_of:Ep K mg "falls_of" fZ ["net","pushes","takings"] [.non]:=JZ (ds:=[.none]) X G a17 l17 c17 k17 t17 u17 (fun sh us hg hl=>by refine el_3 (P:=fun us=>E4 sh _ ⟨us,[]⟩ (J0 ["net","pushes","takings"] us)) ?_ us hl; exact fun _ _ _=>.of_defaults rfl hg u17 rfl rfl) (.cons rfl .nil) (fun sh us hg hl=>by refine el_2 (P:=fun us=>E4 sh _ ⟨us,[]⟩ (J0 ["net","pushes","takings"] (us++[.none]))) ?_ us (show us.length=2 by simpa using hl); exact fun _ _=>.of_defaults rfl hg u17 rfl rfl);have d_fall_moments:Ep K mg "fall_moments" dY ["net","pushes","takings"] [.non]:=JZ (ds:=[.none]) X G a18 l18 c18 k18 t18 u18 (fun sh us hg hl=>by refine el_3 (P:=fun us=>E4 sh _ ⟨us,[]⟩ (J0 ["net","pushes","takings"] us)) ?_ us hl; exact fun _ _ _=>.of_defaults rfl hg u18 rfl rfl) (.cons rfl .nil) (fun sh us hg hl=>by refine el_2 (P:=fun us=>E4 sh _ ⟨us,[]⟩ (J0 ["net","pushes","takings"] (us++[.none]))) ?_ us (show us.length=2 by simpa using hl); exact fun _ _=>.of_defaults rfl hg u18 rfl rfl);have d_standing_in:Kh K mg "standing_in" eV ["net","pushes","number","moment","takings"] [.non] 4 ["takings"]:=XG (ds:=[.none]) X G a21 l21 c21 k21 t21 u21 (fun sh us hg hl=>by refine el_5 (P:=fun us=>E4 sh _ ⟨us,[]⟩ (J0 ["net","pushes","number","moment","takings"] us)) ?_ us hl; exact fun _ _ _ _ _=>.of_defaults rfl hg u21 rfl rfl) (.cons rfl .nil) (fun sh us hg hl=>by refine el_4 (P:=fun us=>E4 sh _ ⟨us,[]⟩ (J0 ["net","pushes","number","moment","takings"] (us++[.none]))) ?_ us (show us.length=4 by simpa using hl); exact fun _ _ _ _=>.of_defaults rfl hg u21 rfl rfl) (by decide) (fun sh us ws hg hu hw=>by refine el_4 (P:=fun us=>E4 sh _ ⟨us,J0 ["takings"] ws⟩ (J0 ["net","pushes","number","moment","takings"] (us++ws))) ?_ us hu; exact fun _ _ _ _=>by refine el_1 (P:=fun ws=>E4 sh _ ⟨_,J0 ["takings"] ws⟩ (J0 ["net","pushes","number","moment","takings"] (_++ws))) ?_ ws hw; exact fun _=>.of_defaults rfl hg u21 rfl rfl);have d_ending_of:Kh K mg "ending_of" gH ["net","pushes","number","takings"] [.non] 3 ["takings"]:=XG (ds:=[.none]) X G a26 l26 c26 k26 t26 u26 (fun sh us hg hl=>by refine el_4 (P:=fun us=>E4 sh _ ⟨us,[]⟩ (J0 ["net","pushes","number","takings"] us)) ?_ us hl; exact fun _ _ _ _=>.of_defaults rfl hg u26 rfl rfl) (.cons rfl .nil) (fun sh us hg hl=>by refine el_3 (P:=fun us=>E4 sh _ ⟨us,[]⟩ (J0 ["net","pushes","number","takings"] (us++[.none]))) ?_ us (show us.length=3 by simpa using hl); exact fun _ _ _=>.of_defaults rfl hg u26 rfl rfl) (by decide) (fun sh us ws hg hu hw=>by refine el_3 (P:=fun us=>E4 sh _ ⟨us,J0 ["takings"] ws⟩ (J0 ["net","pushes","number","takings"] (us++ws))) ?_ us hu; exact fun _ _ _=>by refine el_1 (P:=fun ws=>E4 sh _ ⟨_,J0 ["takings"] ws⟩ (J0 ["net","pushes","number","takings"] (_++ws))) ?_ ws hw; exact fun _=>.of_defaults rfl hg u26 rfl rfl)
 have FL:=Iy (st:=rO) l59 c59 k59;refine ⟨V1 "law" "law" (bQ rO) (bL rO) (aG rO) .none kV59 dc59 pm59 an59 cd59 ct59,fun s v=>.of_eq rfl,fun base _ _ BB=>?_⟩;have o1b:=GX l.prog w base 0 T HC vE ;have o0e:=sL l.prog w base 0 T HC vE ;have o0n:=xN l.prog w base 1 T HC vE  ↑o1b ↑o0e;have o1g:=GZ l.prog w base 1 T HC vE d_fraction ↑o1b ↑o0e;have o1t:=VS l.prog w base 1 T HC vE  ↑o0e;have o1h:=GW l.prog w base 2 T HC vE  ↑o1t;have o1u:=VO l.prog w base 2 T HC vE  ↑o1g;have o1i:=JH l.prog w base 2 T HC vE  ↑o1g;have o1k:=JG l.prog w base 0 T HC vE ;have o0z:=CI l.prog w base 2 T HC vE  ↑o0n;have o0s:=yU l.prog w base 1 T HC vE  ↑o0e;have o0u:=CG l.prog w base 2 T HC vE d_sorted_by ↑o0s BB;have o1c:=GV l.prog w base 0 T HC vE ;have o0o:=xM l.prog w base 0 T HC vE ;have o0f:=tV l.prog w base 1 T HC vE  ↑o1k;have o1n:=PU l.prog w base 1 T HC vE  ↑o1k;have o0l:=xO l.prog w base 1 T HC vE  ↑o1k;have o1f:=HB l.prog w base 2 T HC vE d_falls_of ↑o1t ↑o1k ↑o0o ↑o0f ↑o1n ↑o0l;have o0i:=uY l.prog w base 3 T HC vE d_fall_moments ↑o1c ↑o1f;have o0j:=uX l.prog w base 3 T HC vE  ↑o1h ↑o1i ↑o1k;have o0k:=xL l.prog w base 4 T HC vE  ↑o1h ↑o1k ↑o0j;have o0q:=xK l.prog w base 5 T HC vE d_standing_in ↑o0f ↑o0i ↑o0k;have o1d:=GY l.prog w base 2 T HC vE  ↑o1t ↑o1k;have o0d:=qO l.prog w base 3 T HC vE  ↑o1t ↑o1h ↑o1u ↑o1i ↑o1d;have o0w:=CH l.prog w base 0 T HC vE ;have o0v:=CK l.prog w base 4 T HC vE  ↑o1k ↑o0d ↑o0w;have o0t:=CJ l.prog w base 5 T HC vE d_ending_of ↑o0f ↑o0i ↑o0v;have o1j:=JI l.prog w base 0 T HC vE ;have o1r:=VR l.prog w base 0 T HC vE ;have o1p:=PR l.prog w base 1 T HC vE  ↑o1j ↑o1r;have o2c:=Hq l.prog w base 0 T HC vE ;have o1s:=VQ l.prog w base 0 T HC vE ;have o2b:=Ai l.prog w base 0 T HC vE ;have o1w:=Al l.prog w base 2 T HC vE  ↑o1p ↑o1s ↑o2b;have o2d:=Ho l.prog w base 1 T HC vE  ↑o2c;have o1q:=PQ l.prog w base 0 T HC vE ;have o1v:=VP l.prog w base 0 T HC vE ;have o2f:=Hs l.prog w base 1 T HC vE  ↑o1q ↑o1v;have o1m:=PV l.prog w base 1 T HC vE  ↑o2c ↑o1q;have o1y:=Ak l.prog w base 1 T HC vE  ↑o2c ↑o1v;have o1x:=Am l.prog w base 3 T HC vE  ↑o1w;have o2a:=An l.prog w base 2 T HC vE  ↑o1y;have o2e:=Ht l.prog w base 0 T HC vE ;have o0g:=tW l.prog w base 1 T HC vE  ↑o1k;have o0c:=qQ l.prog w base 0 T HC vE ;have o0b:=oN l.prog w base 5 T HC vE  ↑o0f ↑o0v;have o1l:=JJ l.prog w base 6 T HC vE  ↑o1t ↑o1k ↑o0z ↑o0u ↑o0g ↑o0c ↑o0b;have o0p:=xP l.prog w base 4 T HC vE  ↑o0i;have o0r:=yV l.prog w base 5 T HC vE  ↑o1b ↑o0f ↑o0k;have o0x:=CL l.prog w base 6 T HC vE  ↑o0p ↑o0r;have o0a:=mV l.prog w base 0 T HC vE ;have o0y:=CM l.prog w base 5 T HC vE  ↑o0g ↑o0p ↑o0a;have o2g:=Nl l.prog w base 7 T HC vE  ↑o2c ↑o1l ↑o0x ↑o0y;have o1z:=Aj l.prog w base 0 T HC vE ;have o1e:=HE l.prog w base 0 T HC vE ;have o0m:=xQ l.prog w base 2 T HC vE  ↑o0g;have o1o:=PX l.prog w base 6 T HC vE  ↑o0i ↑o0q ↑o0r ↑o1z ↑o1e ↑o0m;have o1a:=HD l.prog w base 6 T HC vE  ↑o0t ↑o1z ↑o1e ↑o0m;have o0h:=(tX l.prog w base 4 T HC vE  ↑o0i).toMk;exact Hr l.prog w base 8 T HC vE ↑o1p ↑o2d ↑o2f ↑o1m ↑o1x ↑o2a ↑o2e ↑o2g ↑o1o ↑o1a ↑o0h FL
theorem walk{l:gx}{q:j2}{loose:List Str}{XP:(Str->Option a8)->u9->Prop}{YP:k6->u9->Prop}{d:DefRec}{K:Params->m7}(hn:l.most=some 63)(hdf:d.params.defaults=[])(hY:∀(w:k6)(h:u9),YP w h->(K w.params).In h/\h.get? 165=some (oe #[]))(hC:∀ P,cc (K P) 167 165=true)(hKT:∀ P,(K P).lookup 165=none)
  (F:∀(w:k6)(mg:Str->Option a8)(fa:b8)(h:u9),(K w.params).In h->h.Ns r9 mg->mg d.name=some (.ref fa) ->
   ∃ fd:D4,(∀(s:c5)(u:a8),E4 s fd ⟨[u],[]⟩ [("_law_script",u)])/\∀ base:u9,(K w.params).In base->base.Ns r9 mg->zD mg base->mG l.prog w (K w.params) mg base mI 9 fa fd ["_law_script"] (LK (K w.params))) :
  PySem.W.WalkO q loose XP YP l.row.toRowW d [] (fun f vs=>PySem.call f vs):=
 L2.walk_ofT (n:=63) (k:=9) (x:="_law_script") (CX:=fun _=>mI) (sp:=fun w=>LK (K w.params)) hn (by decide) hdf ⟨rfl,by decide,by decide,rfl⟩ hY hC hKT F (fun _ _ a ns hl hT hS=>⟨a,ns,rfl,hS,hl,.inl hT,fun _=>rfl⟩) fun _ _ _ _ _ z=>z
end Lw
end
open PySem PySem.W PyProof.Rows
set_option maxRecDepth 100000 in
set_option maxHeartbeats 0 in
theorem PySem.Challenge.cw_tilefall_k83_whole_told_ahead_holds : PySem.Challenge.rw_tilefall_k83_whole_told_ahead.Holds := by
  w_on; o_law; km_head; (case hw => w_witness2)
  k_fill
  refine Lw.walk (l := PySem.Challenge.rw_tilefall_k83_whole_told_ahead) rfl rfl (fun w h Y => ⟨PySem.W.km_in_of Y, PySem.W.km_tabs_of Y 165 (by simp)⟩) (fun _ => by kernel_rfl) (fun _ => by kernel_rfl) ?F
  case F =>
    intro w mg fa h KX G hmg
    refine' Lw.all_mk KX G hmg ?T ?HC ?vE ?a3 ?l3 ?c3 ?k3 ?t3 ?u3 ?a11 ?l11 ?c11 ?k11 ?tb11 ?tc11 ?a17 ?l17 ?c17 ?k17 ?t17 ?u17 ?a18 ?l18 ?c18 ?k18 ?t18 ?u18 ?a21 ?l21 ?c21 ?k21 ?t21 ?u21 ?a26 ?l26 ?c26 ?k26 ?t26 ?u26 ?a59 ?l59 ?c59 ?k59   
    (case T => constructor <;> exact PySem.W.mg_none_of KX G (by k_is))
    (case HC => refine' ⟨PySem.W.mg_of KX G ?_, ⟨?_, ?_, ?_, ?_⟩, ?_, ?_, ?_, ?_, ?_, ?_, ?_⟩ <;> first | k_is | kernel_rfl | (show PySem.W.findIn _ _ _ = _; first | k_is | kernel_rfl))
    (case vE => constructor <;> first | (refine' L2.df_mk KX G ?a ?l ?c ?k ?b; (case a => k_is); (case l|c|k => k_is); (case b => first | exact Lw.el_1 fun _ => rfl | exact Lw.el_2 fun _ _ => rfl | exact Lw.el_3 fun _ _ _ => rfl | exact Lw.el_4 fun _ _ _ _ => rfl | exact Lw.el_5 fun _ _ _ _ _ => rfl)) | (refine' L2.dfc2_mk ?a ?l ?c ?i ?k ?b; (case a => k_is); (case l|c => k_is); (case i => first | k_is | kernel_rfl); (case k => k_is); (case b => first | exact Lw.el_1 fun _ => rfl | exact Lw.el_2 fun _ _ => rfl | exact Lw.el_3 fun _ _ _ => rfl | exact Lw.el_4 fun _ _ _ _ => rfl | exact Lw.el_5 fun _ _ _ _ _ => rfl)))
    (case a3|l3|c3|k3|t3|a11|l11|c11|k11|a17|l17|c17|k17|t17|a18|l18|c18|k18|t18|a21|l21|c21|k21|t21|a26|l26|c26|k26|t26|a59|l59|c59|k59 => k_is)
    (case u3 => exact rfl)
    (case tb11 => first | k_is | kernel_rfl); (case tc11 => exact rfl)
    (case u17 => exact rfl)
    (case u18 => exact rfl)
    (case u21 => exact rfl)
    (case u26 => exact rfl)
